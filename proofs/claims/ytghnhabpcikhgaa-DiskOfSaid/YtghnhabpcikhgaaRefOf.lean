/-
  The contract of the reference's Of.
-/
import Derived.Test.YtghnhabpcikhgaaRefBytes
import Derived.Deep.AppendLies
namespace Go.Proofs.Ytghnhabpcikhgaa
open Go.RowKit Go.Maps

set_option maxRecDepth 10000 in
set_option maxHeartbeats 800000 in
theorem refOf_none (w : World) (A : Option Addr) (n c : Nat) (h : n = 0 ∨ 524288 < n) :
    Calls Try.prog 10 #[.slice A n c] w fun e w' => e = .returned (.tuple #[.agg #[.slice none 0 0, .slice none 0 0, .int .i64 0, .int .u64 0, .bool false, .bool false], .bool false]) ∧ Below w.heap.size w w' := by
  have hc : (n = 0) ∨ (((n : Int) == 0) = false ∧ (524288 : Int) < (n : Int)) := by
    rcases h with h | h
    · exact .inl h
    · exact .inr ⟨by rw [beq_eq_false_iff_ne]; omega, by omega⟩
  rcases hc with rfl | ⟨a1, a2⟩
  all_goals
    go_enter Try.func10, Try.ntmps10
    go_wp2
    exact bodyPost_ret (v := .tuple #[.agg #[.slice none 0 0, .slice none 0 0, .int .i64 0, .int .u64 0, .bool false, .bool false], .bool false]) (by simp [results, Try.results10, go_sem]) rfl ⟨rfl, on_trans (on_alloc _ _) (on_alloc _ _)⟩

/-- how long a slice is -/
def lenOf : Value → Nat
  | .slice _ n _ => n
  | _ => 0
/-- some bytes from o on -/
theorem Sl.part {w : World} {K : Nat → Prop} {b off n c o m : Nat} {l : List Int} (h : Sl w K (some ⟨b, off, none⟩) n c l) (hm : o + m ≤ n) : Sl w K (some ⟨b, off + o, none⟩) m (c - o) ((l.drop o).take m) := by
  have hl := h.len
  have hlen : ((l.drop o).take m).length = m := by rw [List.length_take, List.length_drop]; omega
  refine ⟨⟨(h.bts.fit.drop o).take m, fun h0 => ?_⟩, hlen, by have := h.cap; omega, by have := h.max; omega, fun e => by cases e⟩
  rw [hlen] at h0
  obtain ⟨b', off', e, hb, hK, hc⟩ := h.bts.at_ (by omega)
  simp at e
  obtain ⟨rfl, rfl⟩ := e
  refine ⟨b, off + o, rfl, hb, hK, fun i hi => ?_⟩
  rw [hlen] at hi
  rw [Nat.add_assoc, hc (o + i) (by omega)]
  simp only [List.getD_eq_getElem?_getD]
  rw [List.getElem?_take_of_lt hi, List.getElem?_drop]

/-- what the reference's Of stands on behind k sectors -/
structure RefAt (w wr : World) (b2 b4 : Nat) (f : Nat → List Int) (k : Nat) (v : Value) (xs : List Value) : Prop where
  bel : Below w.heap.size w wr
  new2 : w.heap.size ≤ b2
  new4 : w.heap.size ≤ b4
  box2 : Box wr b2 30 #[.slice none 0 0, .slice none 0 0, .int .i64 0, .int .u64 0, .bool false, .bool false]
  box4 : Box wr b4 30 #[v, .slice none 0 0, .int .i64 0, .int .u64 0, .bool false, .bool false]
  row : wr.ownsRow w.heap.size 22 1 v k xs
  sec : ∀ i, i < k → ∃ u, xs[i]? = some u ∧ wr.ownsRow w.heap.size 5 1 u 128 (cellsOf (f i))
theorem own_slice {w : World} {lo e size n : Nat} {v : Value} {xs : List Value} (h : w.ownsRow lo e size v n xs) : ∃ A c, v = .slice A n c := by
  rcases h.2 with ⟨rfl, h0⟩ | ⟨g, cap, cur, rfl, _⟩
  · exact ⟨none, 0, by rw [h0]⟩
  · exact ⟨_, _, rfl⟩
theorem info22 : (Try.prog.info? 22).map (fun i => (i.zero, i.size, i.bytes)) = some (some (.slice none 0 0), 1, 24) := by kernel_rfl
/-- a row's block is no block of another type -/
theorem row_apart {w : World} {lo d e size t n : Nat} {v : Value} {xs : List Value} {cs : Array Value} (ho : w.ownsRow lo e size v n xs) (hd : Box w d t cs) (ht : t ≠ e) : v.ownBlock ≠ some d := by
  intro h
  rcases ho.2 with ⟨rfl, _⟩ | ⟨g2, cap, cur, rfl, _, hh, _⟩
  · cases h
  · simp [Value.ownBlock] at h
    subst h
    exact absurd rfl ((show Box w g2 e cur from hh).apart hd (fun x => ht x.symm))
theorem RefAt.on {w wr w' : World} {b2 b4 k : Nat} {f : Nat → List Int} {v : Value} {xs : List Value} (h : RefAt w wr b2 b4 f k v xs) (b : Below wr.heap.size wr w') : RefAt w w' b2 b4 f k v xs :=
  ⟨on_trans h.bel b, h.new2, h.new4, h.box2.on b, h.box4.on b, ownsRow_block h.row fun g _ _ hb => b.block g (Array.getElem?_eq_some_iff.1 hb).1, fun i hi => by
    obtain ⟨u, e, ho⟩ := h.sec i hi
    exact ⟨u, e, ownsRow_block ho fun g _ _ hb => b.block g (Array.getElem?_eq_some_iff.1 hb).1⟩⟩
/-- a sector more -/
theorem RefAt.more {w wr w' : World} {b2 b4 k : Nat} {f : Nat → List Int} {v v' u : Value} {xs : List Value} (h : RefAt w wr b2 b4 f k v xs) (hu : wr.ownsRow w.heap.size 5 1 u 128 (cellsOf (f k))) (hr : w'.ownsRow w.heap.size 22 1 v' (k + 1) (xs ++ [u])) (hg : wr.grownBy w' v.ownBlock) (hne : b2 ≠ b4) :
    RefAt w (w'.setCell ⟨b4, 0, none⟩ v') b2 b4 f (k + 1) v' (xs ++ [u]) := by
  have n4 := row_apart h.row h.box4 (by decide)
  have n2 := row_apart h.row h.box2 (by decide)
  have hlx : xs.length = k := by have := h.row.1; omega
  have keep5 : ∀ g cs, wr.heap[g]? = some (Obj.cells cs 5 (0, 0)) → (w'.setCell ⟨b4, 0, none⟩ v').heap[g]? = wr.heap[g]? := fun g cs hb => by
    have a1 : g ≠ b4 := (show Box wr g 5 cs from hb).apart h.box4 (by decide)
    have a2 := row_apart h.row (show Box wr g 5 cs from hb) (by decide)
    exact (Below.heap_setCell w' ⟨b4, 0, none⟩ v' g a1).trans (hg.block g (Array.getElem?_eq_some_iff.1 hb).1 (Ne.symm a2))
  have x4 : Box w' b4 30 #[v, .slice none 0 0, .int .i64 0, .int .u64 0, .bool false, .bool false] := (hg.block b4 h.box4.lt (Ne.symm n4)).trans h.box4
  have x2 : Box w' b2 30 #[.slice none 0 0, .slice none 0 0, .int .i64 0, .int .u64 0, .bool false, .bool false] := (hg.block b2 h.box2.lt (Ne.symm n2)).trans h.box2
  have hrow : ∀ g, v.ownBlock = some g → w.heap.size ≤ g := fun g hg => (h.row.lt g hg).1
  refine ⟨?_, h.new2, h.new4, x2.beside (p := ⟨b4, 0, none⟩) hne v', x4.put 0 v', ownsRow_block hr fun g cs _ hb => ?_, fun i hi => ?_⟩
  · exact (h.bel.trans ⟨hg.os, hg.tape, hg.output, hg.size, fun i hi => hg.block i (Nat.lt_of_lt_of_le hi h.bel.size) fun e => by have := hrow i e.symm; omega⟩).setCell (p := ⟨b4, 0, none⟩) h.new4 v'
  · exact Below.heap_setCell w' ⟨b4, 0, none⟩ v' g ((show Box w' g 22 cs from hb).apart x4 (by decide))
  · by_cases e : i = k
    · subst e
      exact ⟨u, by rw [← hlx]; simp, ownsRow_block hu fun g cs _ hb => keep5 g cs hb⟩
    · obtain ⟨u2, e2, ho⟩ := h.sec i (by omega)
      exact ⟨u2, by rw [List.getElem?_append_left (by omega)]; exact e2, ownsRow_block ho fun g cs _ hb => keep5 g cs hb⟩

/-- a slice of cnt slices of bytes, each a sector of f, all of it in memory of lo and beyond -/
def DoneN (w : World) (lo : Nat) (A : Option Addr) (cnt : Nat) (f : Nat → List Int) : Prop := ∀ i, i < cnt → ∃ b Ai ci, A = some ⟨b, 0, none⟩ ∧ lo ≤ b ∧ w.cell? ⟨b, i, none⟩ = some (.slice Ai 128 ci) ∧ Sl w (fun k => lo ≤ k) Ai 128 ci (f i)
theorem DoneN.done {w : World} {lo : Nat} {A : Option Addr} {cnt : Nat} {f : Nat → List Int} (h : DoneN w lo A cnt f) : Done w A cnt f := fun i hi => by
  obtain ⟨b, Ai, ci, e, _, hc, hs⟩ := h i hi
  exact ⟨b, Ai, ci, e, hc, hs.mono fun _ _ _ => trivial⟩
theorem DoneN.on {w w' : World} {lo : Nat} {A : Option Addr} {cnt : Nat} {f : Nat → List Int} (h : DoneN w lo A cnt f) (k : Below w.heap.size w w') : DoneN w' lo A cnt f := fun i hi => by
  obtain ⟨b, Ai, ci, e, hl, hc, hs⟩ := h i hi
  exact ⟨b, Ai, ci, e, hl, (k.cell (p := ⟨b, i, none⟩) (World.block_lt_of_cell? w _ hc)).trans hc, hs.below k fun _ hb _ => hb⟩
/-- it stays as it is when a block below turns -/
theorem DoneN.spared {w w' : World} {lo g : Nat} {A : Option Addr} {cnt : Nat} {f : Nat → List Int} (h : DoneN w lo A cnt f) (k : Kept (fun i => i = g) w w') (hg : g < lo) : DoneN w' lo A cnt f := fun i hi => by
  obtain ⟨b, Ai, ci, e, hl, hc, hs⟩ := h i hi
  exact ⟨b, Ai, ci, e, hl, (k.cell (p := ⟨b, i, none⟩) (World.block_lt_of_cell? w _ hc) (by show ¬ b = g; omega)).trans hc, hs.kept k fun j hj e => by omega⟩

set_option maxRecDepth 10000 in
set_option maxHeartbeats 1600000 in
theorem refOf_some (w : World) (K : Nat → Prop) (A : Option Addr) (n c : Nat) (l : List Int) (h : Sl w K A n c l) (h1 : 1 ≤ n) (h2 : n ≤ 4000) :
    Calls Try.prog 10 #[.slice A n c] w fun e w' => ∃ B b, e = .returned (.tuple #[.agg #[.slice B ((n + 127) / 128) b, .slice none 0 0, .int .i64 0, .int .u64 0, .bool false, .bool false], .bool true]) ∧ DoneN w' w.heap.size B ((n + 127) / 128) (secOf l) ∧ Below w.heap.size w w' := by
  obtain ⟨i22, hi22, hy0, hy1, hy2⟩ := info_parts info22
  obtain ⟨cnt, hcnt⟩ : ∃ cnt, cnt = (n + 127) / 128 := ⟨_, rfl⟩
  obtain ⟨b, off, e0, hy⟩ := h.bts.at_ (by have := h.len; omega)
  subst e0
  clear hy
  have hcap := h.cap
  have hmax := h.max
  unfold maxLen at hmax
  have hn0 : ((n : Int) == 0) = false := by rw [beq_eq_false_iff_ne]; omega
  have hn1 : ¬ (524288 : Int) < (n : Int) := by omega
  rw [← hcnt]
  have HH := Lib.hid (And.intro h hcnt)
  clear h hcnt
  go_enter Try.func10, Try.ntmps10
  go_wp2
  obtain ⟨b2, hb2⟩ : ∃ b, b = w.heap.size := ⟨_, rfl⟩
  obtain ⟨b4, hb4⟩ : ∃ b, b = w.heap.size + 1 := ⟨_, rfl⟩
  rw [← hb4, ← hb2]
  have HA := Lib.hid (show RefAt w ((w.alloc (.cells #[.slice none 0 0, .slice none 0 0, .int .i64 0, .int .u64 0, .bool false, .bool false] 30)).alloc (.cells #[.slice none 0 0, .slice none 0 0, .int .i64 0, .int .u64 0, .bool false, .bool false] 30)) b2 b4 (secOf l) 0 (.slice none 0 0) [] from by
    have x2 := (Box.made w 30 #[.slice none 0 0, .slice none 0 0, .int .i64 0, .int .u64 0, .bool false, .bool false]).alloc (.cells #[.slice none 0 0, .slice none 0 0, .int .i64 0, .int .u64 0, .bool false, .bool false] 30)
    have x4 := Box.made (w.alloc (.cells #[.slice none 0 0, .slice none 0 0, .int .i64 0, .int .u64 0, .bool false, .bool false] 30)) 30 #[.slice none 0 0, .slice none 0 0, .int .i64 0, .int .u64 0, .bool false, .bool false]
    have hs : (w.alloc (.cells #[.slice none 0 0, .slice none 0 0, .int .i64 0, .int .u64 0, .bool false, .bool false] 30)).heap.size = w.heap.size + 1 := by simp
    rw [hs, ← hb4] at x4
    rw [← hb2] at x2
    exact ⟨on_trans (on_alloc _ _) (on_alloc _ _), by omega, by omega, x2, x4, ⟨rfl, .inl ⟨rfl, rfl⟩⟩, fun i hi => by omega⟩)
  have hbb : b2 ≠ b4 := by omega
  clear hb2 hb4
  go_loopw [5] (fun i wr => ∃ (k o : Nat) (v : Value) (xs : List Value), k ≤ cnt ∧ o = k * 128 ∧ i = .int .i64 o ∧ RefAt w wr b2 b4 (secOf l) k v xs) (fun i _ => 8000 - (intOf i).toNat)
  case atStart => exact ⟨0, 0, _, _, Nat.zero_le _, rfl, rfl, HA.out⟩
  case round =>
    rename World => wo
    obtain ⟨k, o, v, xs, hk, ho, rfl, hR⟩ := hrel
    by_cases hlt : o < n
    · have ho3 : (0 : Int) ≤ (o : Int) := by omega
      have ho4 : (o : Int) ≤ (n : Int) := by omega
      have ho6 : ¬ c = o := by omega
      obtain ⟨pl, hpl⟩ : ∃ pl, pl = min 128 (n - o) := ⟨_, rfl⟩
      have hp1 : 1 ≤ pl := by omega
      have hp2 : pl ≤ 128 := by omega
      have hsl : Sl wo (fun _ => True) (some ⟨b, off + o, none⟩) pl (c - o) ((l.drop o).take pl) := (HH.out.1.on hR.bel).part (by omega)
      have HR := Lib.hid (And.intro hR (And.intro ho (And.intro hpl hsl)))
      have hcase : (((o : Int) + 128 ≤ (n : Int) ∧ ((o : Int) + 128).toNat - o = pl)) ∨ ((n : Int) < (o : Int) + 128 ∧ n - o = pl) := by omega
      clear hR ho HA hsl hpl
      rcases hcase with ⟨m1, m2⟩ | ⟨m1, m2⟩
      all_goals
        (go_wp2_with (first | fail | (at_builtin; refine wpList_append_sl rfl (.tmp 23) (.tmp 31) rfl wo.heap.size (.slice (some ⟨wo.heap.size, 0, none⟩) 0 0) 0 [] rfl (World.ownsRow_made (base := wo.heap.size) (e := 5) (size := 1) wo #[] 0 (Nat.le_refl _) (Nat.zero_le _) rfl) _ (some ⟨b, off + o, none⟩) pl (c - o) ((l.drop o).take pl) (by first | rfl | (simp [*]; done)) (HR.out.2.2.2.alloc _) (by omega) (by simp) ?_; intro v1 w1 hown1 b1; have H1 := Lib.hid (And.intro hown1 ((on_alloc wo (.cells #[] 5)).trans b1)); clear hown1 b1))
         have hpt : ((l.drop o).take pl).length = pl := HR.out.2.2.2.len
         obtain ⟨PT, hPT⟩ : ∃ PT, PT = (l.drop o).take pl := ⟨_, rfl⟩
         rw [← hPT] at hpt H1
         have HP := Lib.hid (And.intro hPT hpt)
         clear hPT hpt
         go_loopw [6] (fun v wr' => ∃ j : Nat, pl ≤ j ∧ j ≤ 128 ∧ wr'.ownsRow wo.heap.size 5 1 v j (cellsOf (PT ++ List.replicate (j - pl) 0)) ∧ Below wo.heap.size wo wr') (fun v _ => 128 - lenOf v)
         case atStart => exact ⟨pl, Nat.le_refl _, hp2, by have := H1.out.1; simpa using this, H1.out.2⟩
         case round =>
           obtain ⟨j, hj1, hj2, hown, hbel⟩ := hrel
           have hfit : Fit (PT ++ List.replicate (j - pl) 0) := (by
             refine Fit.app ?_ fun z hz => by have := List.eq_of_mem_replicate hz; omega
             rw [HP.out.1]
             exact HR.out.2.2.2.bts.fit)
           obtain ⟨A6, c6, e6, hs6⟩ := sl_of_own hown hfit
           subst e6
           have HW := Lib.hid (And.intro hown (And.intro hbel hs6))
           clear hown hbel hfit hs6
           by_cases hjl : j < 128
           · go_wp2_with (first | fail | (at_builtin; refine wpList_append_sl rfl (.tmp 36) (.tmp 37) rfl wo.heap.size (.slice A6 j c6) j (PT ++ List.replicate (j - pl) 0) rfl (HW.out.1.alloc _) (fun _ => True) (some ⟨wr.heap.size, 0, none⟩) 1 1 [0] rfl (sl_of_box (Box.made wr 5 #[.int .u8 0]) (fun z hz => by simp at hz; omega) rfl (by unfold maxLen; omega) trivial) (by omega) (by have := HW.out.2.1.size; simp; omega) ?_; intro v2 w2 hown2 b2; have H2 := Lib.hid (And.intro hown2 b2); clear hown2 b2))
             all_goals
               (go_roundw
                case rel =>
                  refine ⟨j + 1, by omega, by omega, ?_, (HW.out.2.1.trans ((on_alloc wr (.cells #[.int .u8 0] 5)).mono HW.out.2.1.size)).trans H2.out.2⟩
                  have := H2.out.1
                  rw [List.append_assoc, ← List.replicate_succ', show j - pl + 1 = j + 1 - pl by omega] at this
                  exact this
                case measure =>
                  obtain ⟨A7, c7, e7, _⟩ := sl_of_own H2.out.1 (by
                    refine Fit.app ?_ fun z hz => by simp at hz; omega
                    exact HW.out.2.2.bts.fit)
                  rw [e7]
                  simp [lenOf]
                  omega)
           · have hj : j = 128 := by omega
             have HJ := Lib.hid hj
             have q4 : wr.cell? ⟨b4, 0, none⟩ = some v := ((HR.out.1.box4.on HW.out.2.1).cell 0)
             have hRr := (HR.out.1.on HW.out.2.1).on (on_alloc wr (.cells #[.slice A6 j c6] 22))
             have n4 := row_apart hRr.row hRr.box4 (by decide)
             have hup : (wr.alloc (.cells #[.slice A6 j c6] 22)).ownsRow w.heap.size 5 1 (.slice A6 j c6) 128 (cellsOf (secOf l k)) := by
               have hu := (HW.out.1.alloc (.cells #[.slice A6 j c6] 22))
               have e1 : PT ++ List.replicate (j - pl) 0 = secOf l k := by
                 have := HP.out.1
                 have := HR.out.2.2.1
                 have hl := HH.out.1.len
                 unfold secOf sec
                 rw [← HR.out.2.1, HP.out.1, hj, List.length_drop, hl]
                 congr 1
                 · rw [this]
                   by_cases h128 : 128 ≤ n - o
                   · rw [Nat.min_eq_left h128]
                   · rw [Nat.min_eq_right (by omega), List.take_of_length_le (by rw [List.length_drop]; omega), List.take_of_length_le (by rw [List.length_drop]; omega)]
                 · congr 1
                   omega
               rw [e1] at hu
               rw [hj] at hu ⊢
               exact ⟨hu.1, hu.2.imp id fun ⟨g, cap, cur, h1, h2, h3⟩ => ⟨g, cap, cur, h1, Nat.le_trans HR.out.1.bel.size h2, h3⟩⟩
             have HX := Lib.hid (And.intro hRr (And.intro hup n4))
             have hk4 : k ≤ 40 := by have := HR.out.2.1; omega
             clear hj hRr hup n4
             go_wp2_with (first | fail | (at_builtin; refine wpList_append_own _ rfl (.tmp 40) (.tmp 42) 26 rfl w.heap.size 22 i22 _ 1 24 Try.underlying26 hi22 hy0 hy1 hy2 rfl (by omega) v k xs rfl HX.out.1.row ⟨wr.heap.size, 0, none⟩ 1 1 [.slice A6 j c6] rfl rfl (World.news_of_block (cs := #[.slice A6 j c6]) (t := 22) (fr := (0, 0)) (heap_alloc_new wr _)) (by simp [Value.oneCell']) (by unfold maxLen; omega) (by omega) HX.out.1.bel.size ?_; intro v5 w5 hown5 hgrow5 _; obtain ⟨A5, c5, e5⟩ := own_slice hown5; subst e5; have r0 := (hgrow5.cell_far ⟨b4, 0, none⟩ HX.out.1.box4.lt (Ne.symm HX.out.2.2)).trans (HX.out.1.box4.cell 0); have r1 := (hgrow5.frozen_far ⟨b4, 0, none⟩ HX.out.1.box4.lt (Ne.symm HX.out.2.2)).trans (HX.out.1.box4.free 0); have H5 := Lib.hid (And.intro hown5 hgrow5); clear hown5 hgrow5))
             all_goals
               (go_roundw
                case rel => exact ⟨k + 1, o + 128, _, _, by have := HR.out.2.1; have := HH.out.2; omega, by have := HR.out.2.1; omega, by go_num, HX.out.1.more HX.out.2.1 H5.out.1 H5.out.2 hbb⟩
                case measure => simp [intOf]; omega))
    · have ek : k = cnt := by have := HH.out.2; omega
      have q0 : wo.cell? ⟨b4, 0, none⟩ = some v := hR.box4.cell 0
      have q1 : wo.cell? ⟨b4, 1, none⟩ = some (.slice none 0 0) := hR.box4.cell 1
      have q2 : wo.cell? ⟨b4, 2, none⟩ = some (.int .i64 0) := hR.box4.cell 2
      have q3 : wo.cell? ⟨b4, 3, none⟩ = some (.int .u64 0) := hR.box4.cell 3
      have q4 : wo.cell? ⟨b4, 4, none⟩ = some (.bool false) := hR.box4.cell 4
      have q5 : wo.cell? ⟨b4, 5, none⟩ = some (.bool false) := hR.box4.cell 5
      have f0 := hR.box2.free 0
      have f1 := hR.box2.free 1
      have f2 := hR.box2.free 2
      have f3 := hR.box2.free 3
      have f4 := hR.box2.free 4
      have f5 := hR.box2.free 5
      have p0 : wo.cell? ⟨b2, 0, none⟩ = some (.slice none 0 0) := hR.box2.cell 0
      have p1 : wo.cell? ⟨b2, 1, none⟩ = some (.slice none 0 0) := hR.box2.cell 1
      have p2 : wo.cell? ⟨b2, 2, none⟩ = some (.int .i64 0) := hR.box2.cell 2
      have p3 : wo.cell? ⟨b2, 3, none⟩ = some (.int .u64 0) := hR.box2.cell 3
      have p4 : wo.cell? ⟨b2, 4, none⟩ = some (.bool false) := hR.box2.cell 4
      have p5 : wo.cell? ⟨b2, 5, none⟩ = some (.bool false) := hR.box2.cell 5
      obtain ⟨A5, c5, e5⟩ := own_slice hR.row
      subst e5
      have HE := Lib.hid (And.intro hR ek)
      clear hR ek ho HA
      go_wp2
      obtain ⟨w9, hw9⟩ : ∃ w9, w9 = (((((wo.setCell ⟨b2, 0, none⟩ (.slice A5 k c5)).setCell ⟨b2, 1, none⟩ (.slice none 0 0)).setCell ⟨b2, 2, none⟩ (.int .i64 0)).setCell ⟨b2, 3, none⟩ (.int .u64 0)).setCell ⟨b2, 4, none⟩ (.bool false)).setCell ⟨b2, 5, none⟩ (.bool false) := ⟨_, rfl⟩
      rw [← hw9]
      obtain ⟨hR, ek⟩ := HE.out
      have x9 : Box w9 b2 30 #[.slice A5 k c5, .slice none 0 0, .int .i64 0, .int .u64 0, .bool false, .bool false] := by
        rw [hw9]
        exact (((((hR.box2.put 0 _).put 1 _).put 2 _).put 3 _).put 4 _).put 5 _
      have k9 : Only b2 wo w9 := by
        rw [hw9]
        exact (((((Only.put _).trans (Only.put _)).trans (Only.put _)).trans (Only.put _)).trans (Only.put _)).trans (Only.put _)
      have s0 : w9.cell? ⟨b2, 0, none⟩ = some (.slice A5 k c5) := x9.cell 0
      have s1 : w9.cell? ⟨b2, 1, none⟩ = some (.slice none 0 0) := x9.cell 1
      have s2 : w9.cell? ⟨b2, 2, none⟩ = some (.int .i64 0) := x9.cell 2
      have s3 : w9.cell? ⟨b2, 3, none⟩ = some (.int .u64 0) := x9.cell 3
      have s4 : w9.cell? ⟨b2, 4, none⟩ = some (.bool false) := x9.cell 4
      have s5 : w9.cell? ⟨b2, 5, none⟩ = some (.bool false) := x9.cell 5
      refine bodyPost_ret (v := .tuple #[.agg #[.slice A5 k c5, .slice none 0 0, .int .i64 0, .int .u64 0, .bool false, .bool false], .bool true]) (by simp [results, Try.results10, go_sem, s0, s1, s2, s3, s4, s5]) rfl ⟨A5, c5, by rw [ek], ?_, hR.bel.trans (k9.below hR.bel.size fun i hi e => by have := hR.new2; omega)⟩
      intro i hi
      obtain ⟨u, hu, ho⟩ := hR.sec i (by omega)
      have ho9 : w9.ownsRow w.heap.size 5 1 u 128 (cellsOf (secOf l i)) := ownsRow_block ho fun g cs _ hb => k9.block g (Array.getElem?_eq_some_iff.1 hb).1 ((show Box wo g 5 cs from hb).apart hR.box2 (by decide))
      obtain ⟨Ai, ci, e1, hsl⟩ := sl_of_own ho9 (good_secOf HH.out.1.bts.fit cnt i hi).2
      subst e1
      rcases hR.row.2 with ⟨e2, h0⟩ | ⟨g, cap, cur, e2, hg0, hh, _, _, _, ht⟩
      · omega
      · simp at e2
        obtain ⟨rfl, _⟩ := e2
        refine ⟨g, Ai, ci, rfl, hg0, ?_, hsl⟩
        have hb9 : Box w9 g 22 cur := Kept.box k9 (show Box wo g 22 cur from hh) ((show Box wo g 22 cur from hh).apart hR.box2 (by decide))
        rw [hb9.cell, ← hu, ← ht, List.getElem?_take_of_lt (by omega), Array.getElem?_toList]

end Go.Proofs.Ytghnhabpcikhgaa
