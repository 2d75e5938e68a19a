/-
  The reference's readFrame: what is asked of a header's bytes; what is written. The contract of the reference's readFrame: the walk.
-/
import Derived.Test.YtgipngedmblnmaaDoorSegSpecs
import Derived.Test.YtgipngedmblnmaaDoorSegHead
namespace Go.Proofs.YtgipngedmblnmaaDoor
open Go.RowKit

theorem frameB_len (W H k : Int) : (frameB W H k).length = if k = 0 then 9 else 15 := by
  unfold frameB
  split <;> rfl
/-- a header's bytes: six, the frame, the rest -/
def headT (k : Int) : List Int := segB 218 (scanB k)
theorem headB_parts (W H k : Int) : headB W H k 0 = [255, 216, 255, 192, ((frameB W H k).length + 2 : Int) / 256 % 256, ((frameB W H k).length + 2 : Int) % 256] ++ frameB W H k ++ headT k := by
  unfold headB headT segB be2
  rw [if_neg (by omega)]
  simp
theorem head_len (W H k : Int) : (headB W H k 0).length = 6 + (frameB W H k).length + (headT k).length := by
  rw [headB_parts]
  simp
  omega
theorem head_five (W H k : Int) : (headB W H k 0).getD 5 0 = ((frameB W H k).length + 2 : Int) := by
  rw [headB_parts]
  show ((frameB W H k).length + 2 : Int) % 256 = _
  rw [frameB_len]
  split <;> rfl
theorem head_mid (W H k : Int) : ((headB W H k 0).drop 6).take (frameB W H k).length = frameB W H k := by
  rw [headB_parts]
  rw [List.append_assoc, List.drop_append_of_le_length (by simp)]
  simp
/-- when the bytes are that frame -/
theorem frame_iff (W H k : Int) (b : List Int) : frameB W H k = b ↔ (6 + b.length ≤ (headB W H k 0).length ∧ ((headB W H k 0).drop 6).take b.length = b ∧ (headB W H k 0).getD 5 0 = (b.length : Int) + 2) := by
  constructor
  · rintro rfl
    exact ⟨by rw [head_len]; omega, head_mid W H k, head_five W H k⟩
  · rintro ⟨h1, h2, h3⟩
    rw [head_five] at h3
    have hl : (frameB W H k).length = b.length := by omega
    rw [← hl, head_mid] at h2
    exact h2
/-- four numbers are written into what is known -/
theorem Box.putN4 {w : World} {g : Nat} {K : Kv} {X : Nat → Value} (h : Box w g 46 (kvC K X).toArray) (a b c d : Int) : Box (w.setCells g 205 (cellsI [a, b, c, d])) g 46 (kvC ((((K.setN 0 a).setN 1 b).setN 2 c).setN 3 d) X).toArray := by
  have h0 := (((h.putN (i := 0) a).putN (i := 1) b).putN (i := 2) c).putN (i := 3) d
  exact h0
theorem setN3_same (K : Kv) (a b c : Int) : (((K.setN 0 a).setN 1 b).setN 2 c).setN 3 (K.N 3) = ((K.setN 0 a).setN 1 b).setN 2 c := by
  unfold Kv.setN
  congr 1
  funext i
  by_cases e : i = 3
  · subst e; rfl
  · simp [e]
theorem wpList_store_N {ops : Array Oper} {rest : List Oper} {o : Oper} {a : Act} {w : World} {Q : Exit → Act → World → Prop} (hgd : o.guard = none) (x y : Operand) (ho : o.op = .store 33 x y) (hd : o.dst = none) {g : Nat} {K : Kv} {X : Nat → Value}
    (h : Box w g 46 (kvC K X).toArray) (p q r s : Int) (hx : a.eval x = .pointer (some ⟨g, 205, none⟩)) (hy : a.eval y = .agg #[.int .i64 p, .int .i64 q, .int .i64 r, .int .i64 s])
    (hK : ∀ w', Box w' g 46 (kvC ((((K.setN 0 p).setN 1 q).setN 2 r).setN 3 s) X).toArray → Kept (fun i => i = g) w w' → wpList Tryd.prog ops Q rest a w') : wpList Tryd.prog ops Q (o :: rest) a w := by
  refine wpList_store_mid hgd 33 x y ho g 205 (cellsI [p, q, r, s]).toArray hx hy (box_there h (by rw [kvC_size]; simp [cellsI])) (by kernel_rfl) (all_oneCell_toArray (cellsI_one _)) ?_
  rw [hd]
  exact hK _ (h.putN4 p q r s) (kept_setCells _ _ _ _)
/-- no kind up to k fits -/
def NoFr (b : List Int) (k : Nat) : Prop := ∀ j, j < k → ¬ FrOk b (j : Int)
theorem NoFr.more {b : List Int} {k : Nat} (h : NoFr b k) (h0 : ¬ FrOk b (k : Int)) : NoFr b (k + 1) := fun j hj => by
  by_cases e : j = k
  · rw [e]; exact h0
  · exact h j (by omega)
theorem frame_none {b : List Int} {K : Kv} (h : NoFr b 4) : rdFrame b K = none := by
  unfold rdFrame
  split
  · rfl
  · rw [if_neg (show ¬ FrOk b 0 from h 0 (by omega)), if_neg (show ¬ FrOk b 1 from h 1 (by omega)), if_neg (show ¬ FrOk b 2 from h 2 (by omega)), if_neg (show ¬ FrOk b 3 from h 3 (by omega))]
theorem frame_full {b : List Int} {K : Kv} (h : K.F 6 = true) : rdFrame b K = none := by unfold rdFrame; rw [if_pos h]
theorem frame_some {b : List Int} {K : Kv} (hf : K.F 6 = false) {k : Nat} (hk : k < 4) (h : NoFr b k) (h0 : FrOk b (k : Int)) : rdFrame b K = some (K.frame b (k : Int)) := by
  unfold rdFrame
  rw [if_neg (by rw [hf]; decide)]
  rcases (show k = 0 ∨ k = 1 ∨ k = 2 ∨ k = 3 by omega) with rfl | rfl | rfl | rfl
  · rw [if_pos (show FrOk b 0 from h0)]; rfl
  · rw [if_neg (show ¬ FrOk b 0 from h 0 (by omega)), if_pos (show FrOk b 1 from h0)]; rfl
  · rw [if_neg (show ¬ FrOk b 0 from h 0 (by omega)), if_neg (show ¬ FrOk b 1 from h 1 (by omega)), if_pos (show FrOk b 2 from h0)]; rfl
  · rw [if_neg (show ¬ FrOk b 0 from h 0 (by omega)), if_neg (show ¬ FrOk b 1 from h 1 (by omega)), if_neg (show ¬ FrOk b 2 from h 2 (by omega)), if_pos (show FrOk b 3 from h0)]; rfl
/-- how things stand while a header is read: the header at gs, the bytes 1 to 4 -/
structure Frq (w wi : World) (K : Kv) (X : Nat → Value) (Z : Array Value) (l : List Int) (A : Option Addr) (n c : Nat) (gs b off : Nat) (S : Array Value) (z1 z2 z3 z4 : Int) : Prop where
  st : Rsp w wi K X Z l A n c
  box : Box wi gs 33 S
  q1 : wi.cell? ⟨b, off + 1, none⟩ = some (.int .u8 z1)
  q2 : wi.cell? ⟨b, off + 2, none⟩ = some (.int .u8 z2)
  q3 : wi.cell? ⟨b, off + 3, none⟩ = some (.int .u8 z3)
  q4 : wi.cell? ⟨b, off + 4, none⟩ = some (.int .u8 z4)
  far : ∀ j, j < 4 → ∃ A n c, X j = .slice A n c ∧ (0 < n → ∀ b off, A = some ⟨b, off, none⟩ → b ≠ gs)
  bs : b < wi.heap.size
theorem Frq.put {w wi w' : World} {K : Kv} {X : Nat → Value} {Z : Array Value} {l : List Int} {A : Option Addr} {n c gs b off : Nat} {S S' : Array Value} {z1 z2 z3 z4 : Int} (h : Frq w wi K X Z l A n c gs b off S z1 z2 z3 z4) (k : Kept (fun i => i = gs) wi w') (hb : Box w' gs 33 S') (h1 : w.heap.size + 1 < gs) (h2 : b < w.heap.size) : Frq w w' K X Z l A n c gs b off S' z1 z2 z3 z4 :=
  have cell : ∀ i v, wi.cell? ⟨b, i, none⟩ = some v → w'.cell? ⟨b, i, none⟩ = some v := fun i v hv => (k.cell (p := ⟨b, i, none⟩) h.bs (fun e : b = gs => by omega)).trans hv
  ⟨⟨k.box h.st.kv (by omega), k.box h.st.res (by omega), h.st.bel.trans (k.below h.st.bel.size (fun i hi e => by omega)), h.st.sl.kept k (fun b (hb : b < w.heap.size) e => by omega),
    ⟨h.st.kn.wt, h.st.kn.one, fun j hj => by
      obtain ⟨A1, n1, c1, e1, hi, ha⟩ := h.st.kn.sl j hj
      obtain ⟨A2, n2, c2, e2, hg⟩ := h.far j hj
      rw [e1] at e2
      cases e2
      exact ⟨A1, n1, c1, e1, hi.kept k (fun h0 b off eb => hg h0 b off eb), ha⟩⟩⟩, hb, cell _ _ h.q1, cell _ _ h.q2, cell _ _ h.q3, cell _ _ h.q4, h.far, Nat.lt_of_lt_of_le h.bs k.size⟩
theorem frq_made {w wr w5 : World} {K : Kv} {X : Nat → Value} {Z : Array Value} {l : List Int} {n c gs b off : Nat} {S : Array Value} {z1 z2 z3 z4 : Int} (h : Rsp w wr K X Z l (some ⟨b, off, none⟩) n c) (hg : gs = wr.heap.size) (h5 : wr.alloc (.cells S 33) = w5) (hn : 5 ≤ n)
    (e1 : z1 = l.getD 1 0) (e2 : z2 = l.getD 2 0) (e3 : z3 = l.getD 3 0) (e4 : z4 = l.getD 4 0) : Frq w w5 K X Z l (some ⟨b, off, none⟩) n c gs b off S z1 z2 z3 z4 := by
  have k : Below wr.heap.size wr w5 := by rw [← h5]; exact on_alloc _ _
  have hr := h.on k
  have q := fun i (hi : i < n) => hr.sl.get hi
  have q' : ∀ i, i < n → w5.cell? ⟨b, off + i, none⟩ = some (.int .u8 (l.getD i 0)) := fun i hi => by
    obtain ⟨b', o', e, hc⟩ := q i hi
    cases e
    exact hc
  refine ⟨hr, by rw [hg, ← h5]; exact Box.made _ _ _, by rw [e1]; exact q' 1 (by omega), by rw [e2]; exact q' 2 (by omega), by rw [e3]; exact q' 3 (by omega), by rw [e4]; exact q' 4 (by omega), fun j hj => ?_, ?_⟩
  · obtain ⟨A1, n1, c1, ea, hi, _⟩ := h.kn.sl j hj
    refine ⟨A1, n1, c1, ea, fun h0 b off eb => ?_⟩
    obtain ⟨b', off', eb', hb', _⟩ := hi.at_ h0
    rw [eb'] at eb
    cases eb
    omega
  · obtain ⟨b', off', e', h1, _, _⟩ := hr.sl.bts.at_ (by have := hr.sl.len; omega)
    cases e'
    exact h1
theorem sl_take {w : World} {Ks : Nat → Prop} {b off n c m : Nat} {l : List Int} (h : Sl w Ks (some ⟨b, off, none⟩) n c l) (hm : m ≤ n) : Sl w Ks (some ⟨b, off, none⟩) m c (l.take m) := by
  have hl := h.len
  refine ⟨⟨h.bts.fit.take m, fun h0 => ?_⟩, by rw [List.length_take]; omega, by have := h.cap; omega, h.max, fun e => by cases e⟩
  rw [List.length_take] at h0
  obtain ⟨b', off', e, h1, h2, h3⟩ := h.bts.at_ (by omega)
  cases e
  refine ⟨b, off, rfl, h1, h2, fun i hi => ?_⟩
  rw [List.length_take] at hi
  rw [h3 i (by omega), List.getD_eq_getElem?_getD, List.getD_eq_getElem?_getD, List.getElem?_take_of_lt (by omega)]
theorem rsp_far {w wi w' : World} {K : Kv} {X : Nat → Value} {Z : Array Value} {l : List Int} {A : Option Addr} {n c gs : Nat} (h : Rsp w wi K X Z l A n c) (hf : ∀ j, j < 4 → ∃ A n c, X j = .slice A n c ∧ (0 < n → ∀ b off, A = some ⟨b, off, none⟩ → b ≠ gs)) (k : Kept (fun i => i = gs) wi w') (h1 : w.heap.size + 1 < gs) : Rsp w w' K X Z l A n c :=
  ⟨k.box h.kv (by omega), k.box h.res (by omega), h.bel.trans (k.below h.bel.size (fun i hi e => by omega)), h.sl.kept k (fun b (hb : b < w.heap.size) e => by omega),
    ⟨h.kn.wt, h.kn.one, fun j hj => by
      obtain ⟨A1, n1, c1, e1, hi, ha⟩ := h.kn.sl j hj
      obtain ⟨A2, n2, c2, e2, hg⟩ := hf j hj
      rw [e1] at e2
      cases e2
      exact ⟨A1, n1, c1, e1, hi.kept k (fun h0 b off eb => hg h0 b off eb), ha⟩⟩⟩
theorem frame_eq (K : Kv) (l : List Int) (k : Int) : ((((K.setN 0 (frW l)).setN 1 (frH l)).setN 2 k).setN 3 (K.N 3)).setF 6 true = K.frame l k := by rw [setN3_same]; rfl
structure Frz (w wi : World) (K : Kv) (X : Nat → Value) (Z : Array Value) (l : List Int) (A : Option Addr) (n c : Nat) (gs : Nat) (S : Array Value) : Prop where
  st : Rsp w wi K X Z l A n c
  box : Box wi gs 33 S
  far : ∀ j, j < 4 → ∃ A n c, X j = .slice A n c ∧ (0 < n → ∀ b off, A = some ⟨b, off, none⟩ → b ≠ gs)
theorem frz_made {w wr w5 : World} {K : Kv} {X : Nat → Value} {Z : Array Value} {l : List Int} {A : Option Addr} {n c gs : Nat} {S : Array Value} (h : Rsp w wr K X Z l A n c) (hg : gs = wr.heap.size) (h5 : wr.alloc (.cells S 33) = w5) : Frz w w5 K X Z l A n c gs S := by
  have k : Below wr.heap.size wr w5 := by rw [← h5]; exact on_alloc _ _
  refine ⟨h.on k, by rw [hg, ← h5]; exact Box.made _ _ _, fun j hj => ?_⟩
  obtain ⟨A1, n1, c1, ea, hi, _⟩ := h.kn.sl j hj
  refine ⟨A1, n1, c1, ea, fun h0 b off eb => ?_⟩
  obtain ⟨b', off', eb', hb', _⟩ := hi.at_ h0
  rw [eb'] at eb
  cases eb
  omega
end Go.Proofs.YtgipngedmblnmaaDoor

namespace Go.Proofs.YtgipngedmblnmaaDoor
open Go.RowKit

set_option maxRecDepth 10000 in
set_option maxHeartbeats 6400000 in
theorem refFrame_any (w : World) (Ks : Nat → Prop) (K : Kv) (X : Nat → Value) (A : Option Addr) (n c : Nat) (l : List Int) (h : Sl w Ks A n c l) (hn : n ≤ 100000) (hK : KnR w K X) : Calls Tryd.prog 67 #[.slice A n c, kvV K X] w (BodyY w X (rdFrame l K)) := by
  obtain ⟨C, hC⟩ : ∃ C, C = (kvC K X).toArray := ⟨_, rfl⟩
  have eC : kvV K X = .agg C := by rw [hC]; rfl
  rw [eC]
  obtain ⟨Z, hZ⟩ : ∃ Z, Z = (kvC kz X0).toArray := ⟨_, rfl⟩
  have hz' : ∀ w, (zeroValue 46).run Tryd.prog w = .ok (.agg Z) w := fun w => by rw [hZ]; exact zero46 w
  have HZs := Lib.hid (show Z.size = 210 by rw [hZ, kvC_size])
  obtain ⟨w2, hw2, b0, b1, k2, hs2⟩ := kv_made w C Z
  rw [hC] at b0
  have HW := Lib.hid (And.intro hw2 (And.intro k2 (And.intro b0 (And.intro b1 hs2))))
  have H2 := Lib.hid (show Rsp w w2 K X Z l A n c from ⟨b0, b1, k2, h.low.kept (Kept.of_below k2 (fun _ => False)) (fun _ _ h => h), hK.kna.on k2⟩)
  have hlen := h.len
  have hfit := h.bts.fit
  have HL := Lib.hid (And.intro hlen hfit)
  have hs2' : w.heap.size + 1 < w2.heap.size := by omega
  clear hw2 b0 b1 k2 hs2 hC hZ eC h hK hfit
  go_enter Tryd.func67, Tryd.ntmps67
  go_wp2_with fail
  rw [HW.out.1]
  go_loopw [6] (fun i wr => ∃ k : Nat, k ≤ 4 ∧ i = .int .i64 ((k : Nat) : Int) ∧ (K.F 6 = true ∨ NoFr l k) ∧ Below w2.heap.size w2 wr) (fun i _ => 4 - (intOf i).toNat)
  case atStart => exact ⟨0, by omega, rfl, .inr (fun j hj => absurd hj (by omega)), Below.refl _ _⟩
  case round =>
    obtain ⟨k, hk, rfl, hno, hbw⟩ := hrel
    have HB := Lib.hid (And.intro hno hbw)
    have HS := Lib.hid (H2.out.on hbw)
    have hsz : w2.heap.size ≤ wr.heap.size := hbw.size
    clear hno hbw
    by_cases hk4 : k < 4
    · obtain ⟨gs, hgs⟩ : ∃ g, g = wr.heap.size := ⟨_, rfl⟩
      have hgs1 : w.heap.size + 1 < gs := by omega
      by_cases h5 : 5 ≤ n
      · obtain ⟨b, off, hA, q1⟩ := HS.out.sl.get (show 1 < n by omega)
        subst hA
        have hbw' : b < w.heap.size := by
          obtain ⟨b', off', e', h1, h2, h3⟩ := HS.out.sl.bts.at_ (by omega)
          cases e'
          exact h2
        have hge : ∀ i, i < n → 0 ≤ l.getD i 0 ∧ l.getD i 0 ≤ 255 := fun i hi => HL.out.2 _ (by rw [List.getD_eq_getElem?_getD, List.getElem?_eq_getElem (by omega)]; exact List.getElem_mem _)
        obtain ⟨z1, hz1⟩ : ∃ z, z = l.getD 1 0 := ⟨_, rfl⟩
        obtain ⟨z2, hz2⟩ : ∃ z, z = l.getD 2 0 := ⟨_, rfl⟩
        obtain ⟨z3, hz3⟩ : ∃ z, z = l.getD 3 0 := ⟨_, rfl⟩
        obtain ⟨z4, hz4⟩ : ∃ z, z = l.getD 4 0 := ⟨_, rfl⟩
        obtain ⟨g10, g11⟩ := hge 1 (by omega)
        obtain ⟨g20, g21⟩ := hge 2 (by omega)
        obtain ⟨g30, g31⟩ := hge 3 (by omega)
        obtain ⟨g40, g41⟩ := hge 4 (by omega)
        rw [← hz1] at g10 g11
        rw [← hz2] at g20 g21
        rw [← hz3] at g30 g31
        rw [← hz4] at g40 g41
        obtain ⟨Hq, hHq⟩ : ∃ q, q = frH l := ⟨_, rfl⟩
        obtain ⟨Wq, hWq⟩ : ∃ q, q = frW l := ⟨_, rfl⟩
        have eH : 256 * z1 + z2 = Hq := by rw [hHq, hz1, hz2]; exact (if_pos (by omega)).symm
        have eW : 256 * z3 + z4 = Wq := by rw [hWq, hz3, hz4]; exact (if_pos (by omega)).symm
        have HHW := Lib.hid (And.intro eH eW)
        have HFR := Lib.hid (And.intro hHq hWq)
        have bH : 0 ≤ Hq ∧ Hq ≤ 65535 := by omega
        have bW : 0 ≤ Wq ∧ Wq ≤ 65535 := by omega
        obtain ⟨bH0, bH1⟩ := bH
        obtain ⟨bW0, bW1⟩ := bW
        have h5' : (5 : Int) ≤ (n : Int) := by omega
        have x1 : (1 : Int) < (n : Int) := by omega
        have x2 : (2 : Int) < (n : Int) := by omega
        have x3 : (3 : Int) < (n : Int) := by omega
        have x4 : (4 : Int) < (n : Int) := by omega
        have hbg : b < w.heap.size := hbw'
        obtain ⟨w5, hw5⟩ : ∃ w5, wr.alloc (.cells #[.int .i64 1, .int .i64 1, .int .i64 (k : Int), .int .i64 0] 33) = w5 := ⟨_, rfl⟩
        have HQw5 := Lib.hid (show Frq w w5 K X Z l (some ⟨b, off, none⟩) n c gs b off #[.int .i64 1, .int .i64 1, .int .i64 (k : Int), .int .i64 0] z1 z2 z3 z4 from frq_made HS.out hgs hw5 (by omega) hz1 hz2 hz3 hz4)
        have hs5 : gs < w5.heap.size := HQw5.out.box.lt
        have hw0 : w.heap.size ≤ w5.heap.size := by omega
        have HW5 := Lib.hid (And.intro hw5 hgs)
        have hk5 : Kept (fun i => i = gs) wr w5 := by rw [← hw5]; exact Kept.of_below (on_alloc _ _) _
        clear hge hz1 hz2 hz3 hz4 eH eW hHq hWq q1 hw5 hgs
        have HKw5 := Lib.hid hk5
        clear hk5
        go_upto_region 6 with fail
        rw [HW5.out.1, ← HW5.out.2]
        refine wp_region_held_drew (S := fun w' => Hid (Kept (fun i => i = gs) w5 w')) (by kernel_rfl) (Lib.hid ((Kept.refl _ w5).drew)) fun s0 => ?_
        refine take_to (i := 0) (v := (.slice (some ⟨b, off, none⟩) n c)) rfl (by kernel_rfl) (by kernel_rfl) (by kernel_rfl) (fun _ _ _ h => h) (Or.inl ⟨by rfl, fun w' hS => by go_simp⟩) s0 (some 19) rfl ?_
        simp only [Act.put, List.setIfInBounds_toArray, List.set_cons_zero, List.set_cons_succ]
        refine take_to (i := 1) (v := .pointer (some ⟨b, off + 1, none⟩)) rfl (by kernel_rfl) (by kernel_rfl) (by kernel_rfl) (fun _ _ _ h => h) (Or.inl ⟨by rfl, fun w' hS => by go_simp⟩) s0 (some 20) rfl ?_
        simp only [Act.put, List.setIfInBounds_toArray, List.set_cons_zero, List.set_cons_succ]
        refine take_to (i := 2) (v := .int .u8 z1) rfl (by kernel_rfl) (by kernel_rfl) (by kernel_rfl) (fun _ _ _ h => h) (Or.inl ⟨by rfl, fun w' hS => by have c := (hS.out.cell (p := ⟨b, off + 1, none⟩) (show b < w5.heap.size by omega) (fun e : b = gs => by omega)).trans HQw5.out.q1; go_simp⟩) s0 (some 21) rfl ?_
        simp only [Act.put, List.setIfInBounds_toArray, List.set_cons_zero, List.set_cons_succ]
        refine take_to (i := 3) (v := .int .i64 z1) rfl (by kernel_rfl) (by kernel_rfl) (by kernel_rfl) (fun _ _ _ h => h) (Or.inl ⟨by rfl, fun w' hS => by go_simp; exact wrapI (by omega) (by omega)⟩) s0 (some 22) rfl ?_
        simp only [Act.put, List.setIfInBounds_toArray, List.set_cons_zero, List.set_cons_succ]
        refine take_to (i := 4) (v := .int .i64 (256 * z1)) rfl (by kernel_rfl) (by kernel_rfl) (by kernel_rfl) (fun _ _ _ h => h) (Or.inl ⟨by rfl, fun w' hS => by go_simp; exact wrapI (by omega) (by omega)⟩) s0 (some 23) rfl ?_
        simp only [Act.put, List.setIfInBounds_toArray, List.set_cons_zero, List.set_cons_succ]
        refine take_to (i := 5) (v := (.slice (some ⟨b, off, none⟩) n c)) rfl (by kernel_rfl) (by kernel_rfl) (by kernel_rfl) (fun _ _ _ h => h) (Or.inl ⟨by rfl, fun w' hS => by go_simp⟩) s0 (some 24) rfl ?_
        simp only [Act.put, List.setIfInBounds_toArray, List.set_cons_zero, List.set_cons_succ]
        refine take_to (i := 6) (v := .pointer (some ⟨b, off + 2, none⟩)) rfl (by kernel_rfl) (by kernel_rfl) (by kernel_rfl) (fun _ _ _ h => h) (Or.inl ⟨by rfl, fun w' hS => by go_simp⟩) s0 (some 25) rfl ?_
        simp only [Act.put, List.setIfInBounds_toArray, List.set_cons_zero, List.set_cons_succ]
        refine take_to (i := 7) (v := .int .u8 z2) rfl (by kernel_rfl) (by kernel_rfl) (by kernel_rfl) (fun _ _ _ h => h) (Or.inl ⟨by rfl, fun w' hS => by have c := (hS.out.cell (p := ⟨b, off + 2, none⟩) (show b < w5.heap.size by omega) (fun e : b = gs => by omega)).trans HQw5.out.q2; go_simp⟩) s0 (some 26) rfl ?_
        simp only [Act.put, List.setIfInBounds_toArray, List.set_cons_zero, List.set_cons_succ]
        refine take_to (i := 8) (v := .int .i64 z2) rfl (by kernel_rfl) (by kernel_rfl) (by kernel_rfl) (fun _ _ _ h => h) (Or.inl ⟨by rfl, fun w' hS => by go_simp; exact wrapI (by omega) (by omega)⟩) s0 (some 27) rfl ?_
        simp only [Act.put, List.setIfInBounds_toArray, List.set_cons_zero, List.set_cons_succ]
        refine take_to (i := 9) (v := .int .i64 Hq) rfl (by kernel_rfl) (by kernel_rfl) (by kernel_rfl) (fun _ _ _ h => h) (Or.inl ⟨by rfl, fun w' hS => by have e := HHW.out.1; go_simp; exact wrapI (by omega) (by omega)⟩) s0 (some 28) rfl ?_
        simp only [Act.put, List.setIfInBounds_toArray, List.set_cons_zero, List.set_cons_succ]
        refine take_to (i := 10) (v := .pointer (some ⟨gs, 1, none⟩)) rfl (by kernel_rfl) (by kernel_rfl) (by kernel_rfl) (fun _ _ _ h => h) (Or.inl ⟨by rfl, fun w' hS => by go_simp⟩) s0 (some 29) rfl ?_
        simp only [Act.put, List.setIfInBounds_toArray, List.set_cons_zero, List.set_cons_succ]
        refine wpAnyH_ready (rs := [11]) (by kernel_rfl) (by simp) ?_
        refine AllReadyH.cons rfl (fun Kq hKq => ?_) AllReadyH.nil
        have cd : w5.drew.cell? ⟨gs, 1, none⟩ = some (.int .i64 1) := HQw5.out.box.cell 1
        have fd : w5.drew.frozen? ⟨gs, 1, none⟩ = false := HQw5.out.box.free 1
        go_simp
        have s2 := Lib.hid (s0.out.setCell (p := ⟨gs, 1, none⟩) (fun _ => rfl) (.int .i64 Hq))
        refine hKq.out _ _ s2 fun _ => ?_
        clear hKq Kq cd fd
        refine wpAnyH_done (by kernel_rfl) ?_ _
        have HQw6 := Lib.hid (HQw5.out.put (((Kept.refl (fun i => i = gs) w5).setCell (p := ⟨gs, 1, none⟩) (fun _ => rfl) (.int .i64 Hq)).drew) ((HQw5.out.box.put 1 (.int .i64 Hq)).on (on_drew _)) hgs1 hbg)
        have HKw6 := Lib.hid (HKw5.out.trans (((Kept.refl (fun i => i = gs) w5).setCell (p := ⟨gs, 1, none⟩) (fun _ => rfl) (.int .i64 Hq)).drew) (fun _ _ h => h))
        obtain ⟨w6, hww6⟩ : ∃ wn, wn = (w5.setCell ⟨gs, 1, none⟩ (.int .i64 Hq)).drew := ⟨_, rfl⟩
        rw [← hww6] at HQw6 HKw6 ⊢
        have hbw6 : b < w6.heap.size := HQw6.out.bs
        clear s2 hww6 s0
        go_wp2_with fail
        go_upto_region 7 with fail
        refine wp_region_held_drew (S := fun w' => Hid (Kept (fun i => i = gs) w6 w')) (by kernel_rfl) (Lib.hid ((Kept.refl _ w6).drew)) fun s0 => ?_
        refine take_to (i := 0) (v := (.slice (some ⟨b, off, none⟩) n c)) rfl (by kernel_rfl) (by kernel_rfl) (by kernel_rfl) (fun _ _ _ h => h) (Or.inl ⟨by rfl, fun w' hS => by go_simp⟩) s0 (some 30) rfl ?_
        simp only [Act.put, List.setIfInBounds_toArray, List.set_cons_zero, List.set_cons_succ]
        refine take_to (i := 1) (v := .pointer (some ⟨b, off + 3, none⟩)) rfl (by kernel_rfl) (by kernel_rfl) (by kernel_rfl) (fun _ _ _ h => h) (Or.inl ⟨by rfl, fun w' hS => by go_simp⟩) s0 (some 31) rfl ?_
        simp only [Act.put, List.setIfInBounds_toArray, List.set_cons_zero, List.set_cons_succ]
        refine take_to (i := 2) (v := .int .u8 z3) rfl (by kernel_rfl) (by kernel_rfl) (by kernel_rfl) (fun _ _ _ h => h) (Or.inl ⟨by rfl, fun w' hS => by have c := (hS.out.cell (p := ⟨b, off + 3, none⟩) (show b < w6.heap.size by omega) (fun e : b = gs => by omega)).trans HQw6.out.q3; go_simp⟩) s0 (some 32) rfl ?_
        simp only [Act.put, List.setIfInBounds_toArray, List.set_cons_zero, List.set_cons_succ]
        refine take_to (i := 3) (v := .int .i64 z3) rfl (by kernel_rfl) (by kernel_rfl) (by kernel_rfl) (fun _ _ _ h => h) (Or.inl ⟨by rfl, fun w' hS => by go_simp; exact wrapI (by omega) (by omega)⟩) s0 (some 33) rfl ?_
        simp only [Act.put, List.setIfInBounds_toArray, List.set_cons_zero, List.set_cons_succ]
        refine take_to (i := 4) (v := .int .i64 (256 * z3)) rfl (by kernel_rfl) (by kernel_rfl) (by kernel_rfl) (fun _ _ _ h => h) (Or.inl ⟨by rfl, fun w' hS => by go_simp; exact wrapI (by omega) (by omega)⟩) s0 (some 34) rfl ?_
        simp only [Act.put, List.setIfInBounds_toArray, List.set_cons_zero, List.set_cons_succ]
        refine take_to (i := 5) (v := (.slice (some ⟨b, off, none⟩) n c)) rfl (by kernel_rfl) (by kernel_rfl) (by kernel_rfl) (fun _ _ _ h => h) (Or.inl ⟨by rfl, fun w' hS => by go_simp⟩) s0 (some 35) rfl ?_
        simp only [Act.put, List.setIfInBounds_toArray, List.set_cons_zero, List.set_cons_succ]
        refine take_to (i := 6) (v := .pointer (some ⟨b, off + 4, none⟩)) rfl (by kernel_rfl) (by kernel_rfl) (by kernel_rfl) (fun _ _ _ h => h) (Or.inl ⟨by rfl, fun w' hS => by go_simp⟩) s0 (some 36) rfl ?_
        simp only [Act.put, List.setIfInBounds_toArray, List.set_cons_zero, List.set_cons_succ]
        refine take_to (i := 7) (v := .int .u8 z4) rfl (by kernel_rfl) (by kernel_rfl) (by kernel_rfl) (fun _ _ _ h => h) (Or.inl ⟨by rfl, fun w' hS => by have c := (hS.out.cell (p := ⟨b, off + 4, none⟩) (show b < w6.heap.size by omega) (fun e : b = gs => by omega)).trans HQw6.out.q4; go_simp⟩) s0 (some 37) rfl ?_
        simp only [Act.put, List.setIfInBounds_toArray, List.set_cons_zero, List.set_cons_succ]
        refine take_to (i := 8) (v := .int .i64 z4) rfl (by kernel_rfl) (by kernel_rfl) (by kernel_rfl) (fun _ _ _ h => h) (Or.inl ⟨by rfl, fun w' hS => by go_simp; exact wrapI (by omega) (by omega)⟩) s0 (some 38) rfl ?_
        simp only [Act.put, List.setIfInBounds_toArray, List.set_cons_zero, List.set_cons_succ]
        refine take_to (i := 9) (v := .int .i64 Wq) rfl (by kernel_rfl) (by kernel_rfl) (by kernel_rfl) (fun _ _ _ h => h) (Or.inl ⟨by rfl, fun w' hS => by have e := HHW.out.2; go_simp; exact wrapI (by omega) (by omega)⟩) s0 (some 39) rfl ?_
        simp only [Act.put, List.setIfInBounds_toArray, List.set_cons_zero, List.set_cons_succ]
        refine take_to (i := 10) (v := .pointer (some ⟨gs, 0, none⟩)) rfl (by kernel_rfl) (by kernel_rfl) (by kernel_rfl) (fun _ _ _ h => h) (Or.inl ⟨by rfl, fun w' hS => by go_simp⟩) s0 (some 40) rfl ?_
        simp only [Act.put, List.setIfInBounds_toArray, List.set_cons_zero, List.set_cons_succ]
        refine wpAnyH_ready (rs := [11]) (by kernel_rfl) (by simp) ?_
        refine AllReadyH.cons rfl (fun Kq hKq => ?_) AllReadyH.nil
        have cd : w6.drew.cell? ⟨gs, 0, none⟩ = some (.int .i64 1) := HQw6.out.box.cell 0
        have fd : w6.drew.frozen? ⟨gs, 0, none⟩ = false := HQw6.out.box.free 0
        go_simp
        have s2 := Lib.hid (s0.out.setCell (p := ⟨gs, 0, none⟩) (fun _ => rfl) (.int .i64 Wq))
        refine hKq.out _ _ s2 fun _ => ?_
        clear hKq Kq cd fd
        refine wpAnyH_done (by kernel_rfl) ?_ _
        have HQw7 := Lib.hid (HQw6.out.put (((Kept.refl (fun i => i = gs) w6).setCell (p := ⟨gs, 0, none⟩) (fun _ => rfl) (.int .i64 Wq)).drew) ((HQw6.out.box.put 0 (.int .i64 Wq)).on (on_drew _)) hgs1 hbg)
        have HKw7 := Lib.hid (HKw6.out.trans (((Kept.refl (fun i => i = gs) w6).setCell (p := ⟨gs, 0, none⟩) (fun _ => rfl) (.int .i64 Wq)).drew) (fun _ _ h => h))
        obtain ⟨w7, hww7⟩ : ∃ wn, wn = (w6.setCell ⟨gs, 0, none⟩ (.int .i64 Wq)).drew := ⟨_, rfl⟩
        rw [← hww7] at HQw7 HKw7 ⊢
        have hbw7 : b < w7.heap.size := HQw7.out.bs
        clear s2 hww7 s0
        have d0 : w7.cell? ⟨gs, 0, none⟩ = some (.int .i64 Wq) := HQw7.out.box.cell 0
        have d1 : w7.cell? ⟨gs, 1, none⟩ = some (.int .i64 Hq) := HQw7.out.box.cell 1
        have d2 : w7.cell? ⟨gs, 2, none⟩ = some (.int .i64 (k : Int)) := HQw7.out.box.cell 2
        have d3 : w7.cell? ⟨gs, 3, none⟩ = some (.int .i64 0) := HQw7.out.box.cell 3
        go_wp2_with fail
        have HWB := Lib.hid (show Below w2.heap.size w2 w7 from HB.out.2.trans (HKw7.out.below hsz (fun i hi e => by have := HW5.out.2; omega)))
        have HHD := Lib.hid (refHead_any w7 Wq Hq (k : Int) 0)
        refine Calls.mono HHD.out ?_
        rintro e w8 ⟨A8, c8, rfl, s8, b8⟩
        have S8 := Lib.hid s8
        have HK8 := Lib.hid b8
        have R8 := Lib.hid (HQw7.out.st.on b8)
        have G8 := Lib.hid (HQw7.out.box.on b8)
        have KF8 := Lib.hid (HQw7.out.far)
        clear s8 b8
        have HNO := Lib.hid (fun (hno : K.F 6 = true ∨ ¬ FrOk l (k : Int)) => (show K.F 6 = true ∨ NoFr l (k + 1) from HB.out.1.elim .inl (fun h1 => hno.elim .inl (fun h2 => .inr (h1.more h2)))))
        have HBW := Lib.hid (fun (w9 : World) (q : Below w8.heap.size w8 w9) => on_trans HWB.out (on_trans HK8.out q))
        by_cases hrt : RightS Wq Hq (k : Int) 0
        case neg =>
          have eh : headF Wq Hq (k : Int) 0 = ([], 1) := if_neg hrt
          have HNF := Lib.hid (HNO.out (.inr (fun e => hrt (by have h := e.1; rw [← HFR.out.1, ← HFR.out.2] at h; exact h))))
          rw [eh] at S8 ⊢
          clear eh hrt
          go_upto_region 9 with fail
          go_quiet (fail)
          go_wp2_with fail
          go_roundw
          case rel => exact ⟨k + 1, by omega, by go_num, HNF.out, HBW.out _ (below_drewN_refl _ _)⟩
          case measure => simp [intOf]; omega
        have eh : headF Wq Hq (k : Int) 0 = (headB Wq Hq (k : Int) 0, 0) := if_pos hrt
        have hif := frame_iff Wq Hq (k : Int) l
        have hl15 : 15 ≤ (headB Wq Hq (k : Int) 0).length := by
          rw [head_len, frameB_len]
          split <;> omega
        rw [eh] at S8 ⊢
        obtain ⟨hb, hhb⟩ : ∃ hb, hb = headB Wq Hq (k : Int) 0 := ⟨_, rfl⟩
        rw [← hhb] at hif hl15
        have S9 := Lib.hid (show Sl w8 (fun b => w7.heap.size ≤ b) A8 hb.length c8 hb by rw [hhb]; exact S8.out)
        rw [HL.out.1] at hif
        have HOK := Lib.hid (show FrOk l (k : Int) ↔ (6 + n ≤ hb.length ∧ (hb.drop 6).take n = l ∧ hb.getD 5 0 = (n : Int) + 2) from ⟨fun e => hif.1 (by have h := e.2; rw [← HFR.out.1, ← HFR.out.2] at h; exact h), fun e => ⟨by rw [← HFR.out.1, ← HFR.out.2]; exact hrt, by rw [← HFR.out.1, ← HFR.out.2]; exact hif.2 e⟩⟩)
        obtain ⟨L, hL⟩ : ∃ L, L = hb.length := ⟨_, rfl⟩
        have hdim : (headB Wq Hq (k : Int) 0, (0 : Int)).1.length = L := by rw [hL, hhb]
        dsimp only at hdim
        rw [hdim]
        rw [← hL] at S9 HOK hl15
        have cF : w8.cell? ⟨w.heap.size, 202, none⟩ = some (.bool (K.F 6)) := R8.out.kv.kvF (k := 6) (by omega)
        clear eh hif hhb hrt S8 hL hdim
        cases hf6 : K.F 6
        case true =>
          rw [hf6] at cF
          have HNF := Lib.hid (HNO.out (.inl hf6))
          go_upto_region 9 with fail
          go_quiet (fail)
          go_wp2_with fail
          go_roundw
          case rel => exact ⟨k + 1, by omega, by go_num, HNF.out, HBW.out _ (below_drewN_refl _ _)⟩
          case measure => simp [intOf]; omega
        rw [hf6] at cF
        by_cases h6 : 6 + n ≤ L
        case neg =>
          have h6' : decide (6 + (n : Int) ≤ (L : Int)) = false := decide_eq_false (by omega)
          have ew6 : IntKind.i64.wrap (6 + (n : Int)) = 6 + (n : Int) := wrapI (by omega) (by omega)
          have HNF := Lib.hid (HNO.out (.inr (fun e => h6 (HOK.out.1 e).1)))
          go_upto_region 9 with fail
          go_quiet (fail)
          go_wp2_with fail
          go_roundw
          case rel => exact ⟨k + 1, by omega, by go_num, HNF.out, HBW.out _ (below_drewN_refl _ _)⟩
          case measure => simp [intOf]; omega
        have h6' : 6 + (n : Int) ≤ (L : Int) := by omega
        have hd6 : decide (6 + (n : Int) ≤ (L : Int)) = true := decide_eq_true h6'
        have ew6 : IntKind.i64.wrap (6 + (n : Int)) = 6 + (n : Int) := wrapI (by omega) (by omega)
        have ew2 : IntKind.i64.wrap ((n : Int) + 2) = (n : Int) + 2 := wrapI (by omega) (by omega)
        have et6 : (6 + (n : Int)).toNat = 6 + n := by omega
        have e06 : (0 : Int) ≤ 6 + (n : Int) := by omega
        have hcc := S9.out.cap
        have hcm := S9.out.max
        unfold maxLen at hcm
        obtain ⟨bh, oh, eA, ch5⟩ := S9.out.get (show 5 < L by omega)
        subst eA
        have hv5 := S9.out.bts.fit (hb.getD 5 0) (by rw [List.getD_eq_getElem?_getD, List.getElem?_eq_getElem (by have := S9.out.len; omega)]; exact List.getElem_mem _)
        have hsl := sl_drop (k := 6) S9.out (by omega)
        have hst : Sl w8 (fun b => w7.heap.size ≤ b) (some ⟨bh, oh + 6, none⟩) n (c8 - 6) ((hb.drop 6).take n) := sl_take hsl (by omega)
        have hq1 : ∀ q, (convert 37 9 (.slice (some ⟨bh, oh + 6, none⟩) n (c8 - 6))).run Tryd.prog (w8.drewN q) = .ok (.string (strOfNums ((hb.drop 6).take n))) (w8.drewN q) := fun q => sl_str (hst.drewN q)
        have hq2 : ∀ q, (convert 37 9 (.slice (some ⟨b, off, none⟩) n c)).run Tryd.prog (w8.drewN q) = .ok (.string (strOfNums l)) (w8.drewN q) := fun q => sl_str (R8.out.sl.drewN q)
        have hcmp := str_dec hst.bts.fit HL.out.2
        have c6 : ¬ c8 = 6 := by omega
        obtain ⟨v5, hv⟩ : ∃ v, v = hb.getD 5 0 := ⟨_, rfl⟩
        rw [← hv] at ch5 hv5 HOK
        obtain ⟨v50, v51⟩ := hv5
        have ewv : IntKind.i64.wrap v5 = v5 := wrapI (by omega) (by omega)
        have x5 : (5 : Int) < (L : Int) := by omega
        obtain ⟨str1, hstr1⟩ : ∃ s, s = strOfNums ((hb.drop 6).take n) := ⟨_, rfl⟩
        obtain ⟨str2, hstr2⟩ : ∃ s, s = strOfNums l := ⟨_, rfl⟩
        rw [← hstr1] at hq1 hcmp
        rw [← hstr2] at hq2 hcmp
        clear hv hsl hst hstr1 hstr2
        by_cases hs : (hb.drop 6).take n = l
        case neg =>
          rw [decide_eq_false hs] at hcmp
          have HNF := Lib.hid (HNO.out (.inr (fun e => hs (HOK.out.1 e).2.1)))
          go_upto_region 9 with fail
          go_quiet (fail)
          go_wp2_with fail
          go_roundw
          case rel => exact ⟨k + 1, by omega, by go_num, HNF.out, HBW.out _ (below_drewN_refl _ _)⟩
          case measure => simp [intOf]; omega
        rw [decide_eq_true hs] at hcmp
        by_cases h5v : v5 = (n : Int) + 2
        case neg =>
          have h5b : (v5 == (n : Int) + 2) = false := by simpa using h5v
          have HNF := Lib.hid (HNO.out (.inr (fun e => h5v (HOK.out.1 e).2.2)))
          go_upto_region 9 with fail
          go_quiet (fail)
          go_wp2_with fail
          go_roundw
          case rel => exact ⟨k + 1, by omega, by go_num, HNF.out, HBW.out _ (below_drewN_refl _ _)⟩
          case measure => simp [intOf]; omega
        have HFK := Lib.hid (HOK.out.2 ⟨h6, hs, h5v⟩)
        go_upto_region 9 with fail
        go_quiet (fail)
        obtain ⟨w9, hw9⟩ : ∃ w9, w9 = w8.drewN nq := ⟨_, rfl⟩
        have R9 := Lib.hid (show Rsp w w9 K X Z l _ n c by rw [hw9]; exact R8.out.on (below_drewN_refl _ _))
        have G9 := Lib.hid (show Box w9 gs 33 #[.int .i64 Wq, .int .i64 Hq, .int .i64 (k : Int), .int .i64 0] by rw [hw9]; exact G8.out.on (below_drewN_refl _ _))
        rw [← hw9]
        obtain ⟨r, hr3⟩ : ∃ r, r = K.N 3 := ⟨_, rfl⟩
        have c208 : w9.cell? ⟨w.heap.size, 208, none⟩ = some (.int .i64 r) := by rw [hr3]; exact R9.out.kv.kvN (k := 3) (by omega)
        have g3 : w9.cell? ⟨gs, 3, none⟩ = some (.int .i64 0) := G9.out.cell 3
        have fg3 := G9.out.free 3
        have HR3 := Lib.hid hr3
        obtain ⟨w10, hw10⟩ : ∃ w10, w9.setCell ⟨gs, 3, none⟩ (.int .i64 r) = w10 := ⟨_, rfl⟩
        have R10 := Lib.hid (show Rsp w w10 K X Z l _ n c by rw [← hw10]; exact rsp_far R9.out KF8.out ((Kept.refl (fun i => i = gs) w9).setCell (p := ⟨gs, 3, none⟩) (fun _ => rfl) _) hgs1)
        have G10 : Box w10 gs 33 #[.int .i64 Wq, .int .i64 Hq, .int .i64 (k : Int), .int .i64 r] := by rw [← hw10]; exact G9.out.put 3 (.int .i64 r)
        have HW10 := Lib.hid hw10
        have y0 : w10.cell? ⟨gs, 0, none⟩ = some (.int .i64 Wq) := G10.cell 0
        have y1 : w10.cell? ⟨gs, 1, none⟩ = some (.int .i64 Hq) := G10.cell 1
        have y2 : w10.cell? ⟨gs, 2, none⟩ = some (.int .i64 (k : Int)) := G10.cell 2
        have y3 : w10.cell? ⟨gs, 3, none⟩ = some (.int .i64 r) := G10.cell 3
        clear hw9 hr3 hw10 G10 cF
        go_upto_region 11 with fail
        rw [HW10.out]
        clear c208 g3 fg3
        go_upto_region 13 with (first
          | ((with_reducible refine wpList_store_N (o := ⟨none, _, _, _, _, _⟩) rfl (.tmp 87) (.tmp 86) rfl rfl R10.out.kv Wq Hq (k : Int) r rfl rfl ?_)
             intro w11 b11 k11
             have R11 := Lib.hid (R10.out.turn b11 k11 ((show KnA w.heap.size w10 ((((K.setN 0 Wq).setN 1 Hq).setN 2 (k : Int)).setN 3 r) X from ⟨R10.out.kn.wt, R10.out.kn.one, R10.out.kn.sl⟩).kept (k11.mono (fun i _ e => Or.inl e))))
             have cf11 : w11.cell? ⟨w.heap.size, 202, none⟩ = some (.bool (K.F 6)) := R11.out.kv.kvF (k := 6) (by omega)
             have ff11 := R11.out.kv.free 202
             clear b11 k11)
          | fail)
        obtain ⟨w12, hw12⟩ : ∃ w12, w11.setCell ⟨w.heap.size, 202, none⟩ (.bool true) = w12 := ⟨_, rfl⟩
        have R12 := Lib.hid (show Rsp w w12 (((((K.setN 0 Wq).setN 1 Hq).setN 2 (k : Int)).setN 3 r).setF 6 true) X Z l _ n c by
          rw [← hw12]
          have kq : Kept (fun i => i = w.heap.size) w11 (w11.setCell ⟨w.heap.size, 202, none⟩ (.bool true)) := (Kept.refl (fun i => i = w.heap.size) w11).setCell (p := ⟨w.heap.size, 202, none⟩) (fun _ => rfl) _
          exact R11.out.turn (R11.out.kv.putF (i := 6) (by omega) true) kq ((R11.out.kn.setF 6 true).kept (kq.mono (fun i _ e => Or.inl e))))
        rw [hw12]
        clear hw12 cf11 ff11
        obtain ⟨Vk, hVk⟩ : ∃ V, V = kvV (((((K.setN 0 Wq).setN 1 Hq).setN 2 (k : Int)).setN 3 r).setF 6 true) X := ⟨_, rfl⟩
        have HV := Lib.hid (And.intro hVk (show (Instr.loadAt 46 (.pointer (some ⟨w.heap.size, 0, none⟩))).run Tryd.prog _ = .ok Vk _ by rw [hVk]; exact Box.loadK R12.out.kv))
        clear hVk
        go_wp2_with (first
          | (with_reducible refine wpList_load_to (op := ⟨some 89, _, _, _, _, _⟩) rfl 46 (.tmp 3) rfl (.pointer (some ⟨w.heap.size, 0, none⟩)) rfl Vk HV.out.2 ?_)
          | ((with_reducible refine wpList_store_kv (o := ⟨none, _, _, _, _, _⟩) rfl (.tmp 4) (.tmp 89) rfl rfl (w.heap.size + 1) (((((K.setN 0 Wq).setN 1 Hq).setN 2 (k : Int)).setN 3 r).setF 6 true) X R12.out.kn.one rfl ?hy Z R12.out.res HZs.out ?_)
             case hy => exact HV.out.1
             intro w19 b9 k9
             have H9 := Lib.hid (And.intro b9 (And.intro (R12.out.bel.trans (k9.below R12.out.bel.size (fun i hi e => by omega))) (R12.out.kn.kept (k9.mono (fun i _ e => Or.inr e)))))
             clear b9 k9)
          | fail)
        refine bodyPost_ret (v := .tuple #[kvV (((((K.setN 0 Wq).setN 1 Hq).setN 2 (k : Int)).setN 3 r).setF 6 true) X, .bool true]) (results_ct (fn := Tryd.f67) Tryd.results67 _ _ (w.heap.size + 1) _ _ rfl rfl (loadVar_kv H9.out.1)) rfl ?_
        exact ⟨(((((K.setN 0 Wq).setN 1 Hq).setN 2 (k : Int)).setN 3 r).setF 6 true), X, true, rfl, R12.out.kn.one, H9.out.2.1, .inl ⟨rfl, by rw [frame_some hf6 hk4 (HB.out.1.resolve_left (by rw [hf6]; decide)) HFK.out, HR3.out, HFR.out.1, HFR.out.2, frame_eq], H9.out.2.2.knr, Fr.refl _ _⟩⟩
      · have h5' : ¬ (5 : Int) ≤ (n : Int) := by omega
        have HFr := Lib.hid (show (1 : Int) = frH l ∧ (1 : Int) = frW l from ⟨(if_neg (by omega)).symm, (if_neg (by omega)).symm⟩)
        obtain ⟨w5, hw5⟩ : ∃ w5, wr.alloc (.cells #[.int .i64 1, .int .i64 1, .int .i64 (k : Int), .int .i64 0] 33) = w5 := ⟨_, rfl⟩
        obtain ⟨Wq, hWq⟩ : ∃ q, q = (1 : Int) := ⟨_, rfl⟩
        obtain ⟨Hq, hHq⟩ : ∃ q, q = (1 : Int) := ⟨_, rfl⟩
        have HQw5 := Lib.hid (show Frz w w5 K X Z l A n c gs #[.int .i64 Wq, .int .i64 Hq, .int .i64 (k : Int), .int .i64 0] by rw [hWq, hHq]; exact frz_made HS.out hgs hw5)
        have hk5 : Kept (fun i => i = gs) wr w5 := by rw [← hw5]; exact Kept.of_below (on_alloc _ _) _
        have HW5 := Lib.hid (And.intro hw5 hgs)
        have HWB := Lib.hid (show Below w2.heap.size w2 w5 from HB.out.2.trans (hk5.below hsz (fun i hi e => by omega)))
        have d0 : w5.cell? ⟨gs, 0, none⟩ = some (.int .i64 Wq) := HQw5.out.box.cell 0
        have d1 : w5.cell? ⟨gs, 1, none⟩ = some (.int .i64 Hq) := HQw5.out.box.cell 1
        have d2 : w5.cell? ⟨gs, 2, none⟩ = some (.int .i64 (k : Int)) := HQw5.out.box.cell 2
        have d3 : w5.cell? ⟨gs, 3, none⟩ = some (.int .i64 0) := HQw5.out.box.cell 3
        have HFR := Lib.hid (show Hq = frH l ∧ Wq = frW l by rw [hWq, hHq]; exact HFr.out)
        clear hk5 hw5 hgs hWq hHq
        go_upto_region 8 with fail
        rw [HW5.out.1, ← HW5.out.2]
        go_wp2_with fail
        have HHD := Lib.hid (refHead_any w5 Wq Hq (k : Int) 0)
        refine Calls.mono HHD.out ?_
        rintro e w8 ⟨A8, c8, rfl, s8, b8⟩
        have S8 := Lib.hid s8
        have HK8 := Lib.hid b8
        have R8 := Lib.hid (HQw5.out.st.on b8)
        have G8 := Lib.hid (HQw5.out.box.on b8)
        have KF8 := Lib.hid (HQw5.out.far)
        clear s8 b8
        have HNO := Lib.hid (fun (hno : K.F 6 = true ∨ ¬ FrOk l (k : Int)) => (show K.F 6 = true ∨ NoFr l (k + 1) from HB.out.1.elim .inl (fun h1 => hno.elim .inl (fun h2 => .inr (h1.more h2)))))
        have HBW := Lib.hid (fun (w9 : World) (q : Below w8.heap.size w8 w9) => on_trans HWB.out (on_trans HK8.out q))
        by_cases hrt : RightS Wq Hq (k : Int) 0
        case neg =>
          have eh : headF Wq Hq (k : Int) 0 = ([], 1) := if_neg hrt
          have HNF := Lib.hid (HNO.out (.inr (fun e => hrt (by have h := e.1; rw [← HFR.out.1, ← HFR.out.2] at h; exact h))))
          rw [eh] at S8 ⊢
          clear eh hrt
          go_upto_region 9 with fail
          go_quiet (fail)
          go_wp2_with fail
          go_roundw
          case rel => exact ⟨k + 1, by omega, by go_num, HNF.out, HBW.out _ (below_drewN_refl _ _)⟩
          case measure => simp [intOf]; omega
        have eh : headF Wq Hq (k : Int) 0 = (headB Wq Hq (k : Int) 0, 0) := if_pos hrt
        have hif := frame_iff Wq Hq (k : Int) l
        have hl15 : 15 ≤ (headB Wq Hq (k : Int) 0).length := by
          rw [head_len, frameB_len]
          split <;> omega
        rw [eh] at S8 ⊢
        obtain ⟨hb, hhb⟩ : ∃ hb, hb = headB Wq Hq (k : Int) 0 := ⟨_, rfl⟩
        rw [← hhb] at hif hl15
        have S9 := Lib.hid (show Sl w8 (fun b => w5.heap.size ≤ b) A8 hb.length c8 hb by rw [hhb]; exact S8.out)
        rw [HL.out.1] at hif
        have HOK := Lib.hid (show FrOk l (k : Int) ↔ (6 + n ≤ hb.length ∧ (hb.drop 6).take n = l ∧ hb.getD 5 0 = (n : Int) + 2) from ⟨fun e => hif.1 (by have h := e.2; rw [← HFR.out.1, ← HFR.out.2] at h; exact h), fun e => ⟨by rw [← HFR.out.1, ← HFR.out.2]; exact hrt, by rw [← HFR.out.1, ← HFR.out.2]; exact hif.2 e⟩⟩)
        obtain ⟨L, hL⟩ : ∃ L, L = hb.length := ⟨_, rfl⟩
        have hdim : (headB Wq Hq (k : Int) 0, (0 : Int)).1.length = L := by rw [hL, hhb]
        dsimp only at hdim
        rw [hdim]
        rw [← hL] at S9 HOK hl15
        have cF : w8.cell? ⟨w.heap.size, 202, none⟩ = some (.bool (K.F 6)) := R8.out.kv.kvF (k := 6) (by omega)
        clear eh hif hhb hrt S8 hL hdim
        cases hf6 : K.F 6
        case true =>
          rw [hf6] at cF
          have HNF := Lib.hid (HNO.out (.inl hf6))
          go_upto_region 9 with fail
          go_quiet (fail)
          go_wp2_with fail
          go_roundw
          case rel => exact ⟨k + 1, by omega, by go_num, HNF.out, HBW.out _ (below_drewN_refl _ _)⟩
          case measure => simp [intOf]; omega
        rw [hf6] at cF
        by_cases h6 : 6 + n ≤ L
        case neg =>
          exact absurd (by omega) h6
        have h6' : 6 + (n : Int) ≤ (L : Int) := by omega
        have hd6 : decide (6 + (n : Int) ≤ (L : Int)) = true := decide_eq_true h6'
        have ew6 : IntKind.i64.wrap (6 + (n : Int)) = 6 + (n : Int) := wrapI (by omega) (by omega)
        have ew2 : IntKind.i64.wrap ((n : Int) + 2) = (n : Int) + 2 := wrapI (by omega) (by omega)
        have et6 : (6 + (n : Int)).toNat = 6 + n := by omega
        have e06 : (0 : Int) ≤ 6 + (n : Int) := by omega
        have hcc := S9.out.cap
        have hcm := S9.out.max
        unfold maxLen at hcm
        obtain ⟨bh, oh, eA, ch5⟩ := S9.out.get (show 5 < L by omega)
        subst eA
        have hv5 := S9.out.bts.fit (hb.getD 5 0) (by rw [List.getD_eq_getElem?_getD, List.getElem?_eq_getElem (by have := S9.out.len; omega)]; exact List.getElem_mem _)
        have hsl := sl_drop (k := 6) S9.out (by omega)
        have hst : Sl w8 (fun b => w5.heap.size ≤ b) (some ⟨bh, oh + 6, none⟩) n (c8 - 6) ((hb.drop 6).take n) := sl_take hsl (by omega)
        have hq1 : ∀ q, (convert 37 9 (.slice (some ⟨bh, oh + 6, none⟩) n (c8 - 6))).run Tryd.prog (w8.drewN q) = .ok (.string (strOfNums ((hb.drop 6).take n))) (w8.drewN q) := fun q => sl_str (hst.drewN q)
        have hq2 : ∀ q, (convert 37 9 (.slice A n c)).run Tryd.prog (w8.drewN q) = .ok (.string (strOfNums l)) (w8.drewN q) := fun q => sl_str (R8.out.sl.drewN q)
        have hcmp := str_dec hst.bts.fit HL.out.2
        have c6 : ¬ c8 = 6 := by omega
        obtain ⟨v5, hv⟩ : ∃ v, v = hb.getD 5 0 := ⟨_, rfl⟩
        rw [← hv] at ch5 hv5 HOK
        obtain ⟨v50, v51⟩ := hv5
        have ewv : IntKind.i64.wrap v5 = v5 := wrapI (by omega) (by omega)
        have x5 : (5 : Int) < (L : Int) := by omega
        obtain ⟨str1, hstr1⟩ : ∃ s, s = strOfNums ((hb.drop 6).take n) := ⟨_, rfl⟩
        obtain ⟨str2, hstr2⟩ : ∃ s, s = strOfNums l := ⟨_, rfl⟩
        rw [← hstr1] at hq1 hcmp
        rw [← hstr2] at hq2 hcmp
        clear hv hsl hst hstr1 hstr2
        by_cases hs : (hb.drop 6).take n = l
        case neg =>
          rw [decide_eq_false hs] at hcmp
          have HNF := Lib.hid (HNO.out (.inr (fun e => hs (HOK.out.1 e).2.1)))
          go_upto_region 9 with fail
          go_quiet (fail)
          go_wp2_with fail
          go_roundw
          case rel => exact ⟨k + 1, by omega, by go_num, HNF.out, HBW.out _ (below_drewN_refl _ _)⟩
          case measure => simp [intOf]; omega
        rw [decide_eq_true hs] at hcmp
        by_cases h5v : v5 = (n : Int) + 2
        case neg =>
          have h5b : (v5 == (n : Int) + 2) = false := by simpa using h5v
          have HNF := Lib.hid (HNO.out (.inr (fun e => h5v (HOK.out.1 e).2.2)))
          go_upto_region 9 with fail
          go_quiet (fail)
          go_wp2_with fail
          go_roundw
          case rel => exact ⟨k + 1, by omega, by go_num, HNF.out, HBW.out _ (below_drewN_refl _ _)⟩
          case measure => simp [intOf]; omega
        have HFK := Lib.hid (HOK.out.2 ⟨h6, hs, h5v⟩)
        go_upto_region 9 with fail
        go_quiet (fail)
        obtain ⟨w9, hw9⟩ : ∃ w9, w9 = w8.drewN nq := ⟨_, rfl⟩
        have R9 := Lib.hid (show Rsp w w9 K X Z l _ n c by rw [hw9]; exact R8.out.on (below_drewN_refl _ _))
        have G9 := Lib.hid (show Box w9 gs 33 #[.int .i64 Wq, .int .i64 Hq, .int .i64 (k : Int), .int .i64 0] by rw [hw9]; exact G8.out.on (below_drewN_refl _ _))
        rw [← hw9]
        obtain ⟨r, hr3⟩ : ∃ r, r = K.N 3 := ⟨_, rfl⟩
        have c208 : w9.cell? ⟨w.heap.size, 208, none⟩ = some (.int .i64 r) := by rw [hr3]; exact R9.out.kv.kvN (k := 3) (by omega)
        have g3 : w9.cell? ⟨gs, 3, none⟩ = some (.int .i64 0) := G9.out.cell 3
        have fg3 := G9.out.free 3
        have HR3 := Lib.hid hr3
        obtain ⟨w10, hw10⟩ : ∃ w10, w9.setCell ⟨gs, 3, none⟩ (.int .i64 r) = w10 := ⟨_, rfl⟩
        have R10 := Lib.hid (show Rsp w w10 K X Z l _ n c by rw [← hw10]; exact rsp_far R9.out KF8.out ((Kept.refl (fun i => i = gs) w9).setCell (p := ⟨gs, 3, none⟩) (fun _ => rfl) _) hgs1)
        have G10 : Box w10 gs 33 #[.int .i64 Wq, .int .i64 Hq, .int .i64 (k : Int), .int .i64 r] := by rw [← hw10]; exact G9.out.put 3 (.int .i64 r)
        have HW10 := Lib.hid hw10
        have y0 : w10.cell? ⟨gs, 0, none⟩ = some (.int .i64 Wq) := G10.cell 0
        have y1 : w10.cell? ⟨gs, 1, none⟩ = some (.int .i64 Hq) := G10.cell 1
        have y2 : w10.cell? ⟨gs, 2, none⟩ = some (.int .i64 (k : Int)) := G10.cell 2
        have y3 : w10.cell? ⟨gs, 3, none⟩ = some (.int .i64 r) := G10.cell 3
        clear hw9 hr3 hw10 G10 cF
        go_upto_region 11 with fail
        rw [HW10.out]
        clear c208 g3 fg3
        go_upto_region 13 with (first
          | ((with_reducible refine wpList_store_N (o := ⟨none, _, _, _, _, _⟩) rfl (.tmp 87) (.tmp 86) rfl rfl R10.out.kv Wq Hq (k : Int) r rfl rfl ?_)
             intro w11 b11 k11
             have R11 := Lib.hid (R10.out.turn b11 k11 ((show KnA w.heap.size w10 ((((K.setN 0 Wq).setN 1 Hq).setN 2 (k : Int)).setN 3 r) X from ⟨R10.out.kn.wt, R10.out.kn.one, R10.out.kn.sl⟩).kept (k11.mono (fun i _ e => Or.inl e))))
             have cf11 : w11.cell? ⟨w.heap.size, 202, none⟩ = some (.bool (K.F 6)) := R11.out.kv.kvF (k := 6) (by omega)
             have ff11 := R11.out.kv.free 202
             clear b11 k11)
          | fail)
        obtain ⟨w12, hw12⟩ : ∃ w12, w11.setCell ⟨w.heap.size, 202, none⟩ (.bool true) = w12 := ⟨_, rfl⟩
        have R12 := Lib.hid (show Rsp w w12 (((((K.setN 0 Wq).setN 1 Hq).setN 2 (k : Int)).setN 3 r).setF 6 true) X Z l _ n c by
          rw [← hw12]
          have kq : Kept (fun i => i = w.heap.size) w11 (w11.setCell ⟨w.heap.size, 202, none⟩ (.bool true)) := (Kept.refl (fun i => i = w.heap.size) w11).setCell (p := ⟨w.heap.size, 202, none⟩) (fun _ => rfl) _
          exact R11.out.turn (R11.out.kv.putF (i := 6) (by omega) true) kq ((R11.out.kn.setF 6 true).kept (kq.mono (fun i _ e => Or.inl e))))
        rw [hw12]
        clear hw12 cf11 ff11
        obtain ⟨Vk, hVk⟩ : ∃ V, V = kvV (((((K.setN 0 Wq).setN 1 Hq).setN 2 (k : Int)).setN 3 r).setF 6 true) X := ⟨_, rfl⟩
        have HV := Lib.hid (And.intro hVk (show (Instr.loadAt 46 (.pointer (some ⟨w.heap.size, 0, none⟩))).run Tryd.prog _ = .ok Vk _ by rw [hVk]; exact Box.loadK R12.out.kv))
        clear hVk
        go_wp2_with (first
          | (with_reducible refine wpList_load_to (op := ⟨some 89, _, _, _, _, _⟩) rfl 46 (.tmp 3) rfl (.pointer (some ⟨w.heap.size, 0, none⟩)) rfl Vk HV.out.2 ?_)
          | ((with_reducible refine wpList_store_kv (o := ⟨none, _, _, _, _, _⟩) rfl (.tmp 4) (.tmp 89) rfl rfl (w.heap.size + 1) (((((K.setN 0 Wq).setN 1 Hq).setN 2 (k : Int)).setN 3 r).setF 6 true) X R12.out.kn.one rfl ?hy Z R12.out.res HZs.out ?_)
             case hy => exact HV.out.1
             intro w19 b9 k9
             have H9 := Lib.hid (And.intro b9 (And.intro (R12.out.bel.trans (k9.below R12.out.bel.size (fun i hi e => by omega))) (R12.out.kn.kept (k9.mono (fun i _ e => Or.inr e)))))
             clear b9 k9)
          | fail)
        refine bodyPost_ret (v := .tuple #[kvV (((((K.setN 0 Wq).setN 1 Hq).setN 2 (k : Int)).setN 3 r).setF 6 true) X, .bool true]) (results_ct (fn := Tryd.f67) Tryd.results67 _ _ (w.heap.size + 1) _ _ rfl rfl (loadVar_kv H9.out.1)) rfl ?_
        exact ⟨(((((K.setN 0 Wq).setN 1 Hq).setN 2 (k : Int)).setN 3 r).setF 6 true), X, true, rfl, R12.out.kn.one, H9.out.2.1, .inl ⟨rfl, by rw [frame_some hf6 hk4 (HB.out.1.resolve_left (by rw [hf6]; decide)) HFK.out, HR3.out, HFR.out.1, HFR.out.2, frame_eq], H9.out.2.2.knr, Fr.refl _ _⟩⟩
    · obtain ek : k = 4 := by omega
      have hr : rdFrame l K = none := HB.out.1.elim frame_full (fun h => frame_none (by rw [← ek]; exact h))
      have HRn := Lib.hid hr
      clear hr
      have hk4' : ¬ (k : Int) < 4 := by omega
      go_upto_region 14 with fail
      obtain ⟨Vk, hVk⟩ : ∃ V, V = kvV K X := ⟨_, rfl⟩
      have HV := Lib.hid (And.intro hVk (show (Instr.loadAt 46 (.pointer (some ⟨w.heap.size, 0, none⟩))).run Tryd.prog _ = .ok Vk _ by rw [hVk]; exact Box.loadK HS.out.kv))
      clear hVk
      go_wp2_with (first
        | (with_reducible refine wpList_load_to (op := ⟨some 90, _, _, _, _, _⟩) rfl 46 (.tmp 3) rfl (.pointer (some ⟨w.heap.size, 0, none⟩)) rfl Vk HV.out.2 ?_)
        | ((with_reducible refine wpList_store_kv (o := ⟨none, _, _, _, _, _⟩) rfl (.tmp 4) (.tmp 90) rfl rfl (w.heap.size + 1) K X HS.out.kn.one rfl ?hy Z HS.out.res HZs.out ?_)
           case hy => exact HV.out.1
           intro w19 b9 k9
           have H9 := Lib.hid (And.intro b9 (And.intro (HS.out.bel.trans (k9.below HS.out.bel.size (fun i hi e => by omega))) (HS.out.kn.kept (k9.mono (fun i _ e => Or.inr e)))))
           clear b9 k9)
        | fail)
      refine bodyPost_ret (v := .tuple #[kvV K X, .bool false]) (results_ct (fn := Tryd.f67) Tryd.results67 _ _ (w.heap.size + 1) _ _ rfl rfl (loadVar_kv H9.out.1)) rfl ?_
      exact ⟨K, X, false, rfl, HS.out.kn.one, H9.out.2.1, .inr ⟨rfl, HRn.out⟩⟩
end Go.Proofs.YtgipngedmblnmaaDoor
