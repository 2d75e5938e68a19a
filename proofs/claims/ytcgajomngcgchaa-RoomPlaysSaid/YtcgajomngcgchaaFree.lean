/-
  room.Free: the free extents, or why there are none.
-/
import Derived.Test.YtcgajomngcgchaaGap
import Derived.Test.YtcgajomngcgchaaSweep
namespace Go.Proofs.Ytcgajomngcgchaa
open Go.RowKit Go.Shelf Go.Proofs

/-- a number of a word -/
def I64 (z : Int) : Prop := -9223372036854775808 ≤ z ∧ z ≤ 9223372036854775807
def W64 (l : List X) : Prop := ∀ e ∈ l, I64 e.1 ∧ I64 e.2
/-- the free extents -/
structure Frees (m : Int) (l fs : List X) : Prop where
  rise : Rise m 0 fs
  mem : ∀ k : Int, 0 ≤ k → k < m → (InE fs k ↔ ¬ InE l k)
  sum : sumS fs + sumS l = m
  few : fs.length ≤ l.length + 1
theorem Frees.perm {m : Int} {l l' fs : List X} (h : Frees m l fs) (p : l.Perm l') : Frees m l' fs :=
  ⟨h.rise, fun k h0 h1 => (h.mem k h0 h1).trans (by rw [inE_perm p]), by rw [← sumS_perm p]; exact h.sum, by rw [← p.length_eq]; exact h.few⟩
/-- what Free answers -/
def FreeBad (m : Int) (l : List X) (w : World) (r : Ending) (w' : World) : Prop := newE m l ≠ 0 ∧ r = .returned (.tuple #[.slice none 0 0, .int .i64 (newE m l)]) ∧ Below w.heap.size w w'
def FreeGood (m : Int) (l : List X) (w : World) (r : Ending) (w' : World) : Prop := newE m l = 0 ∧ ∃ fs v, r = .returned (.tuple #[v, .int .i64 0]) ∧ w'.ownsRow w.heap.size 42 2 v fs.length (cellsX fs) ∧ Frees m l fs ∧ Below w.heap.size w w'
def FreeY (m : Int) (l : List X) (w : World) (r : Ending) (w' : World) : Prop := FreeBad m l w r w' ∨ FreeGood m l w r w'

theorem newE_1 {m : Int} {l : List X} (h : ¬ (1 ≤ m ∧ m ≤ 4096)) : newE m l = 1 := by unfold newE; rw [if_pos h]
theorem newE_11 {m : Int} {l : List X} (h : 1 ≤ m ∧ m ≤ 4096) (h2 : ¬ ∀ e ∈ l, Ok m e) : newE m l = 11 := by unfold newE; rw [if_neg (not_not_intro h), if_pos h2]
theorem newE_13 {m : Int} {l : List X} (h : 1 ≤ m ∧ m ≤ 4096) (h2 : ∀ e ∈ l, Ok m e) (h3 : ¬ Dis l) : newE m l = 13 := by unfold newE; rw [if_neg (not_not_intro h), if_neg (not_not_intro h2), if_pos h3]
theorem newE_0 {m : Int} {l : List X} (h : 1 ≤ m ∧ m ≤ 4096) (h2 : ∀ e ∈ l, Ok m e) (h3 : Dis l) : newE m l = 0 := by unfold newE; rw [if_neg (not_not_intro h), if_neg (not_not_intro h2), if_neg (not_not_intro h3)]
theorem newE_iff {m : Int} {l : List X} : newE m l = 0 ↔ (1 ≤ m ∧ m ≤ 4096) ∧ (∀ e ∈ l, Ok m e) ∧ Dis l := by
  constructor
  · intro h
    by_cases h1 : 1 ≤ m ∧ m ≤ 4096
    · by_cases h2 : ∀ e ∈ l, Ok m e
      · by_cases h3 : Dis l
        · exact ⟨h1, h2, h3⟩
        · rw [newE_13 h1 h2 h3] at h; omega
      · rw [newE_11 h1 h2] at h; omega
    · rw [newE_1 h1] at h; omega
  · rintro ⟨h1, h2, h3⟩; exact newE_0 h1 h2 h3
theorem getD_mem {l : List X} {k : Nat} (h : k < l.length) : l.getD k (0, 0) ∈ l := by
  rw [List.getD_eq_getElem?_getD, List.getElem?_eq_getElem h]
  exact List.getElem_mem _
theorem take_moreX (l : List X) (k : Nat) (h : k < l.length) : l.take (k + 1) = l.take k ++ [l.getD k (0, 0)] := by
  rw [List.take_succ_eq_append_getElem h, List.getD_eq_getElem?_getD, List.getElem?_eq_getElem h]
  rfl
theorem split_at {l : List X} {k : Nat} (h : k < l.length) : l = l.take k ++ l.getD k (0, 0) :: l.drop (k + 1) := by
  conv => lhs; rw [← List.take_append_drop k l, List.drop_eq_getElem_cons h]
  rw [List.getD_eq_getElem?_getD, List.getElem?_eq_getElem h]
  rfl

theorem free_bad1 (w : World) (m : Int) (A : Option Addr) (n c : Nat) (l : List X) (h : ¬ (1 ≤ m ∧ m ≤ 4096)) : Calls Try.prog 12 #[.int .i64 m, .slice A n c] w (FreeY m l w) := by
  have HN := Lib.hid (newE_1 (l := l) h)
  by_cases h1 : m < 1
  · clear h
    go_enter Try.func12, Try.ntmps12
    go_wp2
    go_ret2
    exact .inl ⟨by rw [HN.out]; omega, by rw [HN.out]; rfl, Below.refl _ _⟩
  · have h2 : 4096 < m := by omega
    clear h
    go_enter Try.func12, Try.ntmps12
    go_wp2
    go_ret2
    exact .inl ⟨by rw [HN.out]; omega, by rw [HN.out]; rfl, Below.refl _ _⟩
theorem eg30 (args : Array Value) (w : World) : (callFunc 30 args).run Try.prog w = .ok (.enter 30 args) w := enters_of Try.func30 (by kernel_rfl) rfl args w
/-- how things stand when k of the sorted extents have been gone through -/
structure Fs (wa wr : World) (lo b1 b2 : Nat) (m : Int) (l' : List X) (k : Nat) (v : Value) (fr : List X) : Prop where
  sw : Sw m (l'.take k) fr
  fl : Fl lo b1 b2 wr (endOf (l'.take k)) v fr
  kept : Kept (fun i => i = b1 ∨ i = b2 ∨ lo ≤ i) wa wr
set_option maxHeartbeats 3200000 in
set_option maxRecDepth 20000 in
theorem free_any (w : World) (m : Int) (K : Nat → Prop) (ad : Addr) (n c : Nat) (l : List X) (hm : 1 ≤ m ∧ m ≤ 4096) (hx : Xl K w (some ad) n c l) (hw : W64 l) (hn : n ≤ 5000) : Calls Try.prog 12 #[.int .i64 m, .slice (some ad) n c] w (FreeY m l w) := by
  have hl := hx.lenX
  have hmax := hx.max
  have hcap := hx.cap
  unfold maxLen at hmax
  have eg := eg30
  have HX := Lib.hid (And.intro hl (And.intro hx (And.intro hw hm)))
  obtain ⟨m0, m1⟩ := hm
  clear hl hx hw
  go_enter Try.func12, Try.ntmps12
  go_wp2_with fail
  go_loopw [7, 21] (fun _ i wr => ∃ k : Nat, k ≤ n ∧ i = .int .i64 (k : Int) ∧ (∀ j, j < k → Ok m (l.getD j (0, 0))) ∧ Below w.heap.size w wr) (fun _ i _ => n - (intOf i).toNat)
  case atStart => exact ⟨0, by omega, rfl, fun j hj => by omega, Below.refl _ _⟩
  case round =>
    obtain ⟨k, hk, rfl, hno, hb⟩ := hrel
    have HB := Lib.hid (And.intro hno hb)
    clear hno hb
    by_cases hkn : k < n
    · obtain ⟨b, off, had, hbs, hK, c1, c2⟩ := (HX.out.2.1.on HB.out.2).getX hkn
      injection had with had
      subst had
      have hmem : l.getD k (0, 0) ∈ l := getD_mem (by rw [HX.out.1]; exact hkn)
      have h64 := HX.out.2.2.1 _ hmem
      obtain ⟨x, y, hxy⟩ : ∃ x y : Int, l.getD k (0, 0) = (x, y) := ⟨_, _, rfl⟩
      rw [hxy] at c1 c2 h64
      by_cases hok : Ok m (x, y)
      · have hd : decide (Ok m (x, y)) = true := decide_eq_true hok
        have hno : ∀ j, j < k + 1 → Ok m (l.getD j (0, 0)) := fun j hj => by
          rcases Nat.lt_or_ge j k with h | h
          · exact HB.out.1 j h
          · obtain rfl : j = k := by omega
            rw [hxy]; exact hok
        have HT := Lib.hid (And.intro hno h64)
        clear hno hok hxy hmem h64
        obtain ⟨w1, hw1⟩ : ∃ w1, wr.alloc (.cells #[.int .i64 x, .int .i64 y] 42) = w1 := ⟨_, rfl⟩
        have k1 : Below wr.heap.size wr w1 := by rw [← hw1]; exact on_alloc _ _
        have q0 : w1.cell? ⟨wr.heap.size, 0, none⟩ = some (.int .i64 x) := by rw [← hw1]; exact (Box.made _ _ _).cell 0
        have q1 : w1.cell? ⟨wr.heap.size, 1, none⟩ = some (.int .i64 y) := by rw [← hw1]; exact (Box.made _ _ _).cell 1
        have HW := Lib.hid k1
        clear k1
        go_wp2_with (go_at_call 29; refine (valid_any x y m _ ⟨by omega, by omega⟩ HT.out.2.2.2).mono ?_; rintro e w6 ⟨rfl, b6⟩; have H6 := Lib.hid b6; clear b6)
        go_roundw
        case rel => exact ⟨k + 1, by omega, by go_num, HT.out.1, on_trans (on_trans HB.out.2 HW.out) H6.out⟩
        case measure => simp [intOf]; omega
      · have hd : decide (Ok m (x, y)) = false := decide_eq_false hok
        have hne : newE m l = 11 := newE_11 HX.out.2.2.2 (fun h => hok (by have := h _ hmem; rwa [hxy] at this))
        have HT := Lib.hid (And.intro hne h64)
        clear hne hok hxy hmem h64
        obtain ⟨w1, hw1⟩ : ∃ w1, wr.alloc (.cells #[.int .i64 x, .int .i64 y] 42) = w1 := ⟨_, rfl⟩
        have k1 : Below wr.heap.size wr w1 := by rw [← hw1]; exact on_alloc _ _
        have q0 : w1.cell? ⟨wr.heap.size, 0, none⟩ = some (.int .i64 x) := by rw [← hw1]; exact (Box.made _ _ _).cell 0
        have q1 : w1.cell? ⟨wr.heap.size, 1, none⟩ = some (.int .i64 y) := by rw [← hw1]; exact (Box.made _ _ _).cell 1
        have HW := Lib.hid k1
        clear k1
        go_wp2_with (go_at_call 29; refine (valid_any x y m _ ⟨by omega, by omega⟩ HT.out.2.2.2).mono ?_; rintro e w6 ⟨rfl, b6⟩; have H6 := Lib.hid b6; clear b6)
        go_ret2
        exact .inl ⟨by rw [HT.out.1]; omega, by rw [HT.out.1]; rfl, on_trans (on_trans HB.out.2 HW.out) H6.out⟩
    · obtain rfl : k = n := by omega
      have hok : ∀ e ∈ l, Ok m e := fun e he => by
        obtain ⟨j, hj, rfl⟩ := List.getElem_of_mem he
        have := HB.out.1 j (by rw [← HX.out.1]; exact hj)
        rwa [List.getD_eq_getElem?_getD, List.getElem?_eq_getElem hj] at this
      obtain ⟨wo, rfl⟩ : ∃ wo, wo = wr := ⟨_, rfl⟩
      obtain ⟨wa1, hwa1⟩ : ∃ wa1, wo.alloc (.cells #[.slice none 0 0] 22) = wa1 := ⟨_, rfl⟩
      obtain ⟨wz, hwz⟩ : ∃ wz, wa1.alloc (.cells #[.int .i64 0] 3) = wz := ⟨_, rfl⟩
      obtain ⟨wa, hwa⟩ : ∃ wa, wz.setCell ⟨wa1.heap.size, 0, none⟩ (.int .i64 0) = wa := ⟨_, rfl⟩
      have ka1 : Below wo.heap.size wo wa1 := by rw [← hwa1]; exact on_alloc _ _
      have ka2 : Below wa1.heap.size wa1 wz := by rw [← hwz]; exact on_alloc _ _
      have bz : Box wz wa1.heap.size 3 #[.int .i64 0] := by rw [← hwz]; exact Box.made _ _ _
      have bz2 : Box wz wo.heap.size 22 #[.slice none 0 0] := by have h : Box wa1 wo.heap.size 22 #[.slice none 0 0] := (by rw [← hwa1]; exact Box.made _ _ _); exact h.on ka2
      have hz1 : wo.heap.size + 1 = wa1.heap.size := by rw [← hwa1]; simp
      have y1 : wz.cell? ⟨wa1.heap.size, 0, none⟩ = some (.int .i64 0) := bz.cell 0
      have y2 : wz.frozen? ⟨wa1.heap.size, 0, none⟩ = false := bz.free 0
      have bx1 : Box wa wa1.heap.size 3 #[.int .i64 0] := by have := bz.put 0 (.int .i64 0); rw [hwa] at this; simpa using this
      have bx2 : Box wa wo.heap.size 22 #[.slice none 0 0] := by have := bz2.beside (p := ⟨wa1.heap.size, 0, none⟩) (by simp only; omega) (.int .i64 0); rwa [hwa] at this
      have ka : Below wo.heap.size wo wa := by
        have := Below.setCell (on_trans ka1 ka2) (p := ⟨wa1.heap.size, 0, none⟩) (by simp only; omega) (.int .i64 0)
        rwa [hwa] at this
      have HS := Lib.hid (sortedN_any wa K ad k c l (HX.out.2.1.on (on_trans HB.out.2 ka)) (by omega))
      have HA := Lib.hid (And.intro hok (And.intro bx1 (And.intro bx2 (And.intro ka hz1))))
      clear hok ka1 ka2 bx1 bx2 hz1 ka bz bz2
      go_wp2_with (go_at_call 31; refine Calls.mono HS.out ?_; rintro e w6 ⟨A6, c6, l', rfl, hp, hs, hx6, b6⟩; have H6 := Lib.hid (And.intro hp (And.intro hs (And.intro hx6 b6))); have hc6 := hx6.max; have hc7 := hx6.cap; unfold maxLen at hc6; clear hp hs hx6 b6)
      have HF := Lib.hid (show Fs w6 w6 w6.heap.size wa1.heap.size wo.heap.size m l' 0 (.slice none 0 0) [] from
        ⟨Sw.nil_ (by omega), ⟨HA.out.2.1.on H6.out.2.2.2, HA.out.2.2.1.on H6.out.2.2.2, World.ownsRow_nil _ _ _ _, by have := HA.out.2.1.lt; have := H6.out.2.2.2.size; omega, by have := HA.out.2.2.1.lt; have := H6.out.2.2.2.size; omega, Nat.le_refl _⟩, Kept.refl _ _⟩)
      clear y1 y2
      go_loopw [12, 34] (fun _ i w2 => ∃ j v fr, j ≤ k ∧ i = .int .i64 ((j : Nat) : Int) ∧ Fs w6 w2 w6.heap.size wa1.heap.size wo.heap.size m l' j v fr) (fun _ i _ => k - (intOf i).toNat)
      case atStart => exact ⟨0, _, _, by omega, rfl, HF.out⟩
      case round =>
        obtain ⟨j, v, fr, hj, rfl, hR⟩ := hrel
        have HR := Lib.hid hR
        clear hR
        by_cases hjk : j < k
        · obtain ⟨b, off, rfl, hbs, hK, c1, c2⟩ := (((H6.out.2.2.1.mono (K' := fun b => wa.heap.size ≤ b ∧ b < w6.heap.size) (fun b hb hk => ⟨hk, hb⟩))).kept HR.out.kept (fun b hb hn => by
            have := HA.out.2.1.lt; have := HA.out.2.2.1.lt; omega)).getX hjk
          have hjl : j < l'.length := by have := H6.out.1.length_eq; have := HX.out.1; omega
          have hmem : l'.getD j (0, 0) ∈ l' := getD_mem hjl
          have hok := HA.out.1 _ (H6.out.1.mem_iff.1 hmem)
          have htk := take_moreX l' j hjl
          have hsp := split_at hjl
          have hsw := HR.out.sw
          have hfl := HR.out.fl
          obtain ⟨x, y, hxy⟩ : ∃ x y : Int, l'.getD j (0, 0) = (x, y) := ⟨_, _, rfl⟩
          rw [hxy] at c1 c2 hok htk hsp
          obtain ⟨f, hf⟩ : ∃ f, endOf (l'.take j) = f := ⟨_, rfl⟩
          have hf0 := hsw.lo
          rw [hf] at hfl hf0
          have d1 : wr.cell? ⟨wa1.heap.size, 0, none⟩ = some (.int .i64 f) := hfl.fr1.cell 0
          have d2 := hfl.fr1.lt
          obtain ⟨w1, hw1⟩ : ∃ w1, wr.alloc (.cells #[.int .i64 x, .int .i64 y] 42) = w1 := ⟨_, rfl⟩
          have k1 : Below wr.heap.size wr w1 := by rw [← hw1]; exact on_alloc _ _
          have bq : Box w1 wr.heap.size 42 #[.int .i64 x, .int .i64 y] := by rw [← hw1]; exact Box.made _ _ _
          have q0 : w1.cell? ⟨wr.heap.size, 0, none⟩ = some (.int .i64 x) := bq.cell 0
          have q1 : w1.cell? ⟨wr.heap.size, 1, none⟩ = some (.int .i64 y) := bq.cell 1
          have d3 : w1.cell? ⟨wa1.heap.size, 0, none⟩ = some (.int .i64 f) := (hfl.fr1.on k1).cell 0
          by_cases hlt : x < f
          · have hnd : newE m l = 13 := newE_13 HX.out.2.2.2 HA.out.1 (fun hd => by
              have hp2 := H6.out.2.1
              have hd2 := Dis.perm H6.out.1.symm hd
              rw [hsp] at hp2 hd2
              exact sw_not hok (by rw [hf]; exact hlt) hp2 hd2)
            have HT := Lib.hid (And.intro hnd k1)
            clear hnd k1 hxy hmem hok htk hsp hsw hfl hf bq
            go_wp2_with fail
            go_ret2
            have hkk := HR.out.kept.below (B := wo.heap.size) (by have := HA.out.2.2.2.1.size; have := H6.out.2.2.2.size; omega) (fun i hi h => by have := HA.out.2.2.2.2; have := HA.out.2.1.lt; have := H6.out.2.2.2.size; omega)
            exact .inl ⟨by rw [HT.out.1]; omega, by rw [HT.out.1]; rfl, HB.out.2.trans (((HA.out.2.2.2.1.trans (H6.out.2.2.2.mono HA.out.2.2.2.1.size)).trans hkk |>.trans (HT.out.2.mono (by have := HA.out.2.2.2.1.size; have := H6.out.2.2.2.size; have := HR.out.kept.size; omega))).mono HB.out.2.size)⟩
          · have HT := Lib.hid (And.intro hok (And.intro htk (And.intro hsw (And.intro hfl (And.intro hf (And.intro k1 bq))))))
            have HG := Lib.hid (gap_any w6.heap.size wa1.heap.size wo.heap.size w1 f x v fr (hfl.on k1) (by omega) (by have := hok.1; have := hok.2.1; have := hok.2.2; simp only at *; omega) (by have := hsw.few; rw [List.length_take] at this; omega))
            have hb9 : -4611686018427387904 ≤ x + y ∧ x + y ≤ 4611686018427387904 := by have := hok.1; have := hok.2.1; have := hok.2.2; simp only at *; omega
            have HY := Lib.hid hb9
            clear k1 hxy hmem hok htk hsp hsw hfl hf bq hb9
            go_wp2_with (first
              | (go_at_call 30
                 refine Calls.mono HG.out ?_
                 rintro e w7 ⟨rfl, v7, f7, k7⟩
                 have b7 := k7.box HT.out.2.2.2.2.2.2 (fun h => by
                   rcases h with h | h
                   · have := HT.out.2.2.2.1.fr2.lt; omega
                   · have := own_lt HT.out.2.2.2.1.own h; omega)
                 have q70 : w7.cell? ⟨wr.heap.size, 0, none⟩ = some (.int .i64 x) := b7.cell 0
                 have q71 : w7.cell? ⟨wr.heap.size, 1, none⟩ = some (.int .i64 y) := b7.cell 1
                 have H7 := Lib.hid (And.intro f7 k7)
                 clear f7 k7 b7)
              | (go_at_call 32
                 refine (end_any x y w7 HY.out.1 HY.out.2).mono ?_
                 rintro e w8 ⟨rfl, b8⟩
                 have f8 := H7.out.1.on b8
                 have z8 : w8.cell? ⟨wa1.heap.size, 0, none⟩ = some (.int .i64 f) := f8.fr1.cell 0
                 have z9 : w8.frozen? ⟨wa1.heap.size, 0, none⟩ = false := f8.fr1.free 0
                 have H8 := Lib.hid (And.intro f8 b8)
                 clear f8 b8))
            have hend : endOf (l'.take (j + 1)) = x + y := by rw [HT.out.2.1, endOf_snoc]
            have f9 : Fl w6.heap.size wa1.heap.size wo.heap.size (w8.setCell ⟨wa1.heap.size, 0, none⟩ (.int .i64 (x + y))) (endOf (l'.take (j + 1))) v7 (gapX fr f x) := by
              obtain ⟨a1, a2, a3, a4⟩ := H8.out.1
              rw [hend]
              refine ⟨by have := a1.put 0 (.int .i64 (x + y)); simpa using this, a2.beside (p := ⟨wa1.heap.size, 0, none⟩) (by have := HA.out.2.2.2.2; simp only; omega) _, ownsRow_setCell_below a3 a4.1 _, a4.1, a4.2.1, ?_⟩
              have := a4.2.2
              simp [World.setCell]; omega
            have s9 : Sw m (l'.take (j + 1)) (gapX fr f x) := by
              have h0 := HT.out.2.2.1.step HT.out.1 (by rw [HT.out.2.2.2.2.1]; exact hlt)
              rw [HT.out.2.1]
              rw [HT.out.2.2.2.2.1] at h0
              exact h0
            have k9 : Kept (fun i => i = wa1.heap.size ∨ i = wo.heap.size ∨ w6.heap.size ≤ i) w6 (w8.setCell ⟨wa1.heap.size, 0, none⟩ (.int .i64 (x + y))) := by
              have h1 := HR.out.kept.trans (Kept.of_below HT.out.2.2.2.2.2.1 (fun _ => False)) (fun i _ h => h.elim)
              have h2 := h1.trans H7.out.2 (fun i _ h => by
                rcases h with h | h
                · exact .inr (.inl h)
                · exact .inr (.inr (own_lo HT.out.2.2.2.1.own h)))
              have h3 := h2.trans (Kept.of_below H8.out.2 (fun _ => False)) (fun i _ h => h.elim)
              exact Kept.setCell (S := fun i => i = wa1.heap.size ∨ i = wo.heap.size ∨ w6.heap.size ≤ i) (p := ⟨wa1.heap.size, 0, none⟩) h3 (fun _ => .inl rfl) _
            have H9 := Lib.hid (show Fs w6 (w8.setCell ⟨wa1.heap.size, 0, none⟩ (.int .i64 (x + y))) w6.heap.size wa1.heap.size wo.heap.size m l' (j + 1) v7 (gapX fr f x) from ⟨s9, f9, k9⟩)
            clear hend f9 s9 k9
            go_roundw
            case rel => exact ⟨j + 1, v7, _, by omega, by go_num, H9.out⟩
            case measure => simp [intOf]; omega
        · obtain rfl : j = k := by omega
          have hall : l'.take j = l' := List.take_of_length_le (by have := H6.out.1.length_eq; have := HX.out.1; omega)
          have hsw := HR.out.sw
          have hfl := HR.out.fl
          rw [hall] at hsw hfl
          obtain ⟨f, hf⟩ : ∃ f, endOf l' = f := ⟨_, rfl⟩
          have hf0 := hsw.lo
          have hfin := hsw.fin
          rw [hf] at hfl hf0 hfin
          have HG := Lib.hid (gap_any w6.heap.size wa1.heap.size wo.heap.size wr f m v fr hfl (by omega) (by omega) (by have := hsw.few; have := H6.out.1.length_eq; have := HX.out.1; omega))
          have HT := Lib.hid (And.intro hfl (And.intro hsw hfin))
          clear hall hsw hfl hf hfin
          go_wp2_with (go_at_call 30; refine Calls.mono HG.out ?_; rintro e w7 ⟨rfl, v7, f7, k7⟩; obtain ⟨A7, c7, hv7⟩ := own_slice f7.own; subst hv7; have e7 : w7.cell? ⟨wo.heap.size, 0, none⟩ = some (.slice A7 _ c7) := f7.fr2.cell 0; have H7 := Lib.hid (And.intro f7 k7); clear f7 k7)
          go_ret2
          have hne : newE m l = 0 := newE_0 HX.out.2.2.2 HA.out.1 (Dis.perm H6.out.1 HT.out.2.1.dis)
          have hlo : w.heap.size ≤ w6.heap.size := by have := HB.out.2.size; have := HA.out.2.2.2.1.size; have := H6.out.2.2.2.size; omega
          obtain ⟨g1, g2, g3, g4⟩ := HT.out.2.2
          have hfr : Frees m l' (gapX fr f m) := ⟨g1, g2, g3, g4⟩
          have hkk := (HR.out.kept.trans H7.out.2 (fun i _ h => by
            rcases h with h | h
            · exact .inr (.inl h)
            · exact .inr (.inr (own_lo HT.out.1.own h)))).below (B := wo.heap.size) (by have := HA.out.2.2.2.1.size; have := H6.out.2.2.2.size; omega) (fun i hi h => by have := HA.out.2.2.2.2; have := HA.out.2.1.lt; have := H6.out.2.2.2.size; omega)
          refine .inr ⟨hne, gapX fr f m, _, rfl, ?_, hfr.perm H6.out.1, HB.out.2.trans (((HA.out.2.2.2.1.trans (H6.out.2.2.2.mono HA.out.2.2.2.1.size)).trans hkk).mono HB.out.2.size)⟩
          have h7 := H7.out.1.own
          refine ⟨h7.1, h7.2.imp id ?_⟩
          rintro ⟨g, cap, cur, e1, e2, e3⟩
          exact ⟨g, cap, cur, e1, by omega, e3⟩
end Go.Proofs.Ytcgajomngcgchaa
