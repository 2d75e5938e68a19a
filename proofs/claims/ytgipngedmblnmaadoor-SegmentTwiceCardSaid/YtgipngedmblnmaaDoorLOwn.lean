/-
  The contracts of few and own.
-/
import Derived.Test.YtgipngedmblnmaaDoorRRd
import Derived.Test.YtgipngedmblnmaaDoorWHead
namespace Go.Proofs.YtgipngedmblnmaaDoor
open Go.RowKit

/-- what few answers -/
def FewP (w : World) (T : Tb) (e : Ending) (w' : World) : Prop := ∃ b, e = .returned (.bool b) ∧ (b = true → ∀ j, j < 4 → (T.V j).length ≤ 300) ∧ Below w.heap.size w w'
set_option maxRecDepth 10000 in
set_option maxHeartbeats 3200000 in
theorem few_any (w : World) (T : Tb) (X : Nat → Value) (hX : ∀ j, j < 4 → ∃ A n c, X j = .slice A n c ∧ Ia w A n c (T.V j)) : Calls Tryd.prog 8 #[tbV T X] w (FewP w T) := by
  obtain ⟨C, hC⟩ : ∃ C, C = (tbC T X).toArray := ⟨_, rfl⟩
  have eC : tbV T X = .agg C := by rw [hC]; rfl
  rw [eC]
  obtain ⟨w1, hw1⟩ : ∃ x, w.alloc (.cells C 31) = x := ⟨_, rfl⟩
  have b1 : Box w1 w.heap.size 31 (tbC T X).toArray := by rw [← hw1, hC]; exact Box.made _ _ _
  have k1 : Below w.heap.size w w1 := by rw [← hw1]; exact on_alloc _ _
  have cell : ∀ j, j < 4 → w1.cell? ⟨w.heap.size, 128 + 17 * j + 16, none⟩ = some (X j) := fun j hj => by rw [b1.tb.cell (by omega), tbAt_x]
  obtain ⟨A0, n0, c0, e0, i0⟩ := hX 0 (by omega)
  obtain ⟨A1, n1, c1, e1, i1⟩ := hX 1 (by omega)
  obtain ⟨A2, n2, c2, e2, i2⟩ := hX 2 (by omega)
  obtain ⟨A3, n3, c3, e3, i3⟩ := hX 3 (by omega)
  have d0 : w1.cell? ⟨w.heap.size, 144, none⟩ = some (.slice A0 n0 c0) := by rw [← e0]; exact cell 0 (by omega)
  have d1 : w1.cell? ⟨w.heap.size, 161, none⟩ = some (.slice A1 n1 c1) := by rw [← e1]; exact cell 1 (by omega)
  have d2 : w1.cell? ⟨w.heap.size, 178, none⟩ = some (.slice A2 n2 c2) := by rw [← e2]; exact cell 2 (by omega)
  have d3 : w1.cell? ⟨w.heap.size, 195, none⟩ = some (.slice A3 n3 c3) := by rw [← e3]; exact cell 3 (by omega)
  have H1 := Lib.hid (And.intro hw1 (And.intro k1 (And.intro i0.len (And.intro i1.len (And.intro i2.len i3.len)))))
  clear hw1 b1 k1 cell hC eC e0 e1 e2 e3 i0 i1 i2 i3 hX
  go_enter Tryd.func8, Tryd.ntmps8
  go_upto_region 1 with fail
  rw [H1.out.1]
  by_cases h0 : (n0 : Int) ≤ 300
  · by_cases h1 : (n1 : Int) ≤ 300
    · by_cases h2 : (n2 : Int) ≤ 300
      · by_cases h3 : (n3 : Int) ≤ 300
        · go_wp2_with fail
          go_ret
          refine ⟨true, rfl, fun _ j hj => ?_, H1.out.2.1⟩
          have l0 := H1.out.2.2.1
          have l1 := H1.out.2.2.2.1
          have l2 := H1.out.2.2.2.2.1
          have l3 := H1.out.2.2.2.2.2
          rcases (show j = 0 ∨ j = 1 ∨ j = 2 ∨ j = 3 by omega) with rfl | rfl | rfl | rfl <;> omega
        · go_wp2_with fail
          go_ret
          exact ⟨false, rfl, (fun h => by cases h), H1.out.2.1⟩
      · go_wp2_with fail
        go_ret
        exact ⟨false, rfl, (fun h => by cases h), H1.out.2.1⟩
    · go_wp2_with fail
      go_ret
      exact ⟨false, rfl, (fun h => by cases h), H1.out.2.1⟩
  · go_wp2_with fail
    go_ret
    exact ⟨false, rfl, (fun h => by cases h), H1.out.2.1⟩

theorem tb_ext {cs : Array Value} {T : Tb} {X : Nat → Value} (hs : cs.size = 196) (h : ∀ k, k < 196 → cs[k]? = some (tbAt T X k)) : cs = (tbC T X).toArray := by
  apply Array.ext_getElem?
  intro k
  rcases Nat.lt_or_ge k 196 with hk | hk
  · rw [h k hk, List.getElem?_toArray, tbC_get T X hk]
  · rw [Array.getElem?_eq_none (by omega), Array.getElem?_eq_none (by rw [List.size_toArray, tbC_len]; exact hk)]
theorem tbC_size (T : Tb) (X : Nat → Value) : (tbC T X).toArray.size = 196 := by rw [List.size_toArray, tbC_len]
/-- a slice is written into tables -/
theorem Box.putXt {w : World} {g : Nat} {T : Tb} {X : Nat → Value} (h : Box w g 31 (tbC T X).toArray) {j : Nat} (v : Value) : Box (w.setCell ⟨g, 128 + 17 * j + 16, none⟩ v) g 31 (tbC T (updX X j v)).toArray := by
  have hb := h.put (128 + 17 * j + 16) v
  suffices e : (tbC T X).toArray.setIfInBounds (128 + 17 * j + 16) v = (tbC T (updX X j v)).toArray by rwa [e] at hb
  refine tb_ext (by rw [Array.size_setIfInBounds, tbC_size]) fun k hk => ?_
  by_cases c : k = 128 + 17 * j + 16
  · subst c
    rw [Array.getElem?_setIfInBounds_self_of_lt (by rw [tbC_size]; omega), tbAt_x]
    simp [updX]
  · rw [Array.getElem?_setIfInBounds_ne (by omega), List.getElem?_toArray, tbC_get T X hk]
    unfold tbAt
    split
    · rfl
    · split
      · rfl
      · have hne : (k - 128) / 17 ≠ j := fun e => c (by omega)
        simp [updX, hne]
theorem Box.tbX {w : World} {g : Nat} {T : Tb} {X : Nat → Value} (h : Box w g 31 (tbC T X).toArray) {j : Nat} (hj : j < 4) : w.cell? ⟨g, 128 + 17 * j + 16, none⟩ = some (X j) := by rw [h.tb.cell (by omega), tbAt_x]
theorem zero31 (w : World) : (zeroValue 31).run Tryd.prog w = .ok (tbV kz.tb X0) w := by kernel_rfl
theorem nw_of_own {w : World} {base n : Nat} {v : Value} {l : List Int} (h : w.ownsRow base 3 1 v n (cellsI l)) : Nw base w v l := by
  have hl : l.length = n := by have := h.1; simpa [cellsI] using this
  have hown := h
  rcases h.2 with ⟨rfl, rfl⟩ | ⟨g, cap, cur, rfl, hg, hh, hn, hm, _, _⟩
  · exact ⟨_, _, 0, rfl, ⟨hl, Nat.le_refl _, Nat.zero_le _, fun _ => rfl, (fun b off e => by cases e), fun h0 => by omega⟩, fun b off e => by cases e⟩
  · refine ⟨some ⟨g, 0, none⟩, _, cap, rfl, ⟨hl, hn, hm, (fun e => by cases e), (fun b off e => by cases e; exact ⟨_, _, hh⟩), fun _ => ⟨g, 0, rfl, (Array.getElem?_eq_some_iff.1 hh).1, fun i hi => ?_⟩⟩, fun b off e => by cases e; exact ⟨hg, cur, hh⟩⟩
    rw [Nat.zero_add, hown.cellAt i (by omega)]
    simp [cellsI, List.getD_eq_getElem?_getD, List.getElem?_eq_getElem (show i < l.length by omega)]
/-- an append of numbers, wherever they lie, to a row of one's own -/
theorem wpList_append_ia {w : World} {ops : Array Oper} {rest : List Oper} {o : Oper} {a : Act} {Q : Exit → Act → World → Prop} (hgd : o.guard = none) (s x : Operand)
    (ho : o.op = .call { callee := .builtin .append, args := #[s, x], argTypes := #[26, 26] })
    (base : Nat) (v : Value) (n : Nat) (l : List Int) (hs : a.eval s = v) (hown : w.ownsRow base 3 1 v n (cellsI l))
    (A : Option Addr) (m c : Nat) (r : List Int) (hx : a.eval x = .slice A m c) (hr : Ia w A m c r) (h63 : n + m ≤ 1000000) (hbase : base ≤ w.heap.size)
    (h : ∀ v' w', w'.ownsRow base 3 1 v' (n + m) (cellsI (l ++ r)) → Below base w w' → wpList Tryd.prog ops Q rest (a.put o.dst v') w') : wpList Tryd.prog ops Q (o :: rest) a w := by
  obtain ⟨i0, hi0, hz0, hz1, hz2⟩ := info_parts int_info
  cases A with
  | none =>
    obtain rfl : c = 0 := hr.nil rfl
    obtain rfl : m = 0 := by have := hr.cap; omega
    have hl : r = [] := List.eq_nil_of_length_eq_zero hr.len
    subst hl
    exact wpList_append_own_none hgd s x 26 ho base 3 i0 1 Tryd.underlying26 hi0 v n (cellsI l) hs hown hx (h v w (by simpa using hown) (Below.refl _ _))
  | some ad =>
    refine wpList_append_own _ hgd s x 26 ho base 3 i0 (.int .i64 0) 1 8 Tryd.underlying26 hi0 hz0 hz1 hz2 rfl (by omega) v n (cellsI l) hs hown ad m c (cellsI r) hx (by rw [cellsI_len, hr.len, Nat.mul_one]) hr.read (cellsI_one r) (by simp only [maxLen]; omega) (by omega) hbase ?_
    intro v' w' h1 h2 _
    have e : cellsI l ++ cellsI r = cellsI (l ++ r) := by simp [cellsI]
    rw [e] at h1
    exact h v' w' h1 ((Below.refl base w).grown h2 hbase (fun j hj => (hown.lt j hj).1))
/-- how things stand while the tables' values are copied: k of either kind are done -/
structure Owd (w wr : World) (T : Tb) (X X' : Nat → Value) (k : Nat) : Prop where
  dst : Box wr w.heap.size 31 (tbC T X').toArray
  res : Box wr (w.heap.size + 1) 31 (tbC kz.tb X0).toArray
  bel : Below w.heap.size w wr
  one : ∀ j, (X' j).oneCell' = true
  new : ∀ j, j < 4 → j % 2 < k → Nw (w.heap.size + 1 + 1) wr (X' j) (T.V j)
  old : ∀ j, j < 4 → ¬ j % 2 < k → X' j = X j
theorem Owd.step {w wr w1 : World} {T : Tb} {X X' : Nat → Value} {k : Nat} (h : Owd w wr T X X' k) (b : Below wr.heap.size wr w1) {j : Nat} {v : Value} (hv : Nw wr.heap.size w1 v (T.V j)) (hlo : w.heap.size + 1 + 1 ≤ wr.heap.size) :
    Box (w1.setCell ⟨w.heap.size, 128 + 17 * j + 16, none⟩ v) w.heap.size 31 (tbC T (updX X' j v)).toArray ∧ Box (w1.setCell ⟨w.heap.size, 128 + 17 * j + 16, none⟩ v) (w.heap.size + 1) 31 (tbC kz.tb X0).toArray ∧
    Below w.heap.size w (w1.setCell ⟨w.heap.size, 128 + 17 * j + 16, none⟩ v) ∧ (∀ i, (updX X' j v i).oneCell' = true) ∧ (∀ i, i < 4 → (i % 2 < k ∨ i = j) → Nw (w.heap.size + 1 + 1) (w1.setCell ⟨w.heap.size, 128 + 17 * j + 16, none⟩ v) (updX X' j v i) (T.V i)) := by
  have kk : Kept (fun i => i = w.heap.size) w1 (w1.setCell ⟨w.heap.size, 128 + 17 * j + 16, none⟩ v) := (Kept.refl (fun i => i = w.heap.size) w1).setCell (p := ⟨w.heap.size, 128 + 17 * j + 16, none⟩) (fun _ => rfl) _
  have hd1 := h.dst.on b
  have hne : ∀ i, i = w.heap.size → ∀ cs, ¬ Box w1 i 3 cs := fun i e cs hx => by subst e; exact hd1.apart hx (by decide) rfl
  refine ⟨hd1.putXt v, kk.box (h.res.on b) (by omega), (on_trans h.bel b).trans (kk.below (on_trans h.bel b).size (fun i hi e => by omega)), fun i => ?_, fun i hi hk => ?_⟩
  · unfold updX
    split
    · exact hv.one
    · exact h.one i
  · by_cases e : i = j
    · subst e
      rw [show updX X' i v i = v from if_pos rfl]
      exact (hv.mono hlo).kept kk hne
    · rw [show updX X' j v i = X' i from if_neg e]
      exact ((h.new i hi (by omega)).on b).kept kk hne
theorem two_made31 (w : World) (C Z : Array Value) : ∃ w2, (w.alloc (.cells C 31)).alloc (.cells Z 31) = w2 ∧ Box w2 w.heap.size 31 C ∧ Box w2 (w.heap.size + 1) 31 Z ∧ Below w.heap.size w w2 ∧ w2.heap.size = w.heap.size + 1 + 1 := by
  have a1 := Box.made w 31 C
  have a2 := Box.made (w.alloc (.cells C 31)) 31 Z
  refine ⟨_, rfl, a1.alloc _, ?_, on_trans (on_alloc _ _) (on_alloc _ _), by simp⟩
  rwa [show (w.alloc (.cells C 31)).heap.size = w.heap.size + 1 by simp] at a2
/-- tables in memory of their own, and where it lies -/
def OwnZ (w : World) (T : Tb) (e : Ending) (w' : World) : Prop := ∃ X', e = .returned (tbV T X') ∧ (∀ j, (X' j).oneCell' = true) ∧ (∀ j, j < 4 → ∃ A n c, X' j = .slice A n c ∧ Ia w' A n c (T.V j) ∧ ∀ b off, A = some ⟨b, off, none⟩ → w.heap.size ≤ b) ∧ Below w.heap.size w w'
/-- tables in memory of their own -/
def OwnY (w : World) (T : Tb) (e : Ending) (w' : World) : Prop := ∃ X', e = .returned (tbV T X') ∧ (∀ j, (X' j).oneCell' = true) ∧ (∀ j, j < 4 → ∃ A n c, X' j = .slice A n c ∧ Ia w' A n c (T.V j)) ∧ Below w.heap.size w w'
theorem wp_store_tb {o : Oper} {a : Act} {w : World} {Kp : Act → World → Prop} {Q : Exit → Act → World → Prop} (x y : Operand) (ho : o.op = .store 31 x y) (hd : o.dst = none)
    (g : Nat) (T : Tb) (X : Nat → Value) (hX : ∀ j, (X j).oneCell' = true) (hx : a.eval x = .pointer (some ⟨g, 0, none⟩)) (hy : a.eval y = tbV T X) (old : Array Value) (hg : Box w g 31 old) (hold : old.size = 196)
    (h : ∀ w', Box w' g 31 (tbC T X).toArray → Kept (fun i => i = g) w w' → Kp a w') : Oper.wp Tryd.prog o a w Kp Q := by
  refine wp_store_row 31 x y ho g (tbC T X).toArray hx hy 31 old hg (by rw [tb_size, List.size_toArray, tbC_len]) (by rw [hold, List.size_toArray, tbC_len]) (all_oneCell_toArray (tb_one hX)) ?_
  rw [hd]
  exact h _ (setRow_heap w g old _ 31 _ hg) ⟨rfl, rfl, rfl, by simp, fun k _ hk => setRow_other w g k _ hk⟩
theorem wpList_store_tb {ops : Array Oper} {rest : List Oper} {o : Oper} {a : Act} {w : World} {Q : Exit → Act → World → Prop} (hgd : o.guard = none) (x y : Operand) (ho : o.op = .store 31 x y) (hd : o.dst = none)
    (g : Nat) (T : Tb) (X : Nat → Value) (hX : ∀ j, (X j).oneCell' = true) (hx : a.eval x = .pointer (some ⟨g, 0, none⟩)) (hy : a.eval y = tbV T X) (old : Array Value) (hg : Box w g 31 old) (hold : old.size = 196)
    (h : ∀ w', Box w' g 31 (tbC T X).toArray → Kept (fun i => i = g) w w' → wpList Tryd.prog ops Q rest a w') : wpList Tryd.prog ops Q (o :: rest) a w :=
  wpList_plain hgd fun _ hK => wp_store_tb x y ho hd g T X hX hx hy old hg hold fun w' h1 h2 => hK _ _ (h w' h1 h2)

set_option maxRecDepth 10000 in
set_option maxHeartbeats 6400000 in
theorem own_at (w : World) (T : Tb) (X : Nat → Value) (h1X : ∀ j, (X j).oneCell' = true) (hX : ∀ j, j < 4 → ∃ A n c, X j = .slice A n c ∧ Ia w A n c (T.V j)) (hfew : ∀ j, j < 4 → (T.V j).length ≤ 5000) : Calls Tryd.prog 10 #[tbV T X] w (OwnZ w T) := by
  obtain ⟨C, hC⟩ : ∃ C, C = (tbC T X).toArray := ⟨_, rfl⟩
  have eC : tbV T X = .agg C := by rw [hC]; rfl
  rw [eC]
  obtain ⟨Z, hZ⟩ : ∃ Z, Z = (tbC kz.tb X0).toArray := ⟨_, rfl⟩
  have hz' : ∀ w, (zeroValue 31).run Tryd.prog w = .ok (.agg Z) w := fun w => by rw [hZ]; exact zero31 w
  obtain ⟨w2, hw2, b0, b1, k2, hs2⟩ := two_made31 w C Z
  rw [hC] at b0
  have b1' := b1
  rw [hZ] at b1'
  have HW := Lib.hid (And.intro hw2 (And.intro hs2 (And.intro hX (And.intro hfew (And.intro (show Owd w w2 T X X 0 from ⟨b0, b1', k2, h1X, (fun j _ hj => absurd hj (by omega)), fun _ _ _ => rfl⟩) (show Z.size = 196 by rw [hZ, tbC_size]))))))
  clear hw2 b0 b1 b1' k2 hs2 hC hZ eC hX hfew h1X
  go_enter Tryd.func10, Tryd.ntmps10
  go_upto_region 1 with fail
  rw [HW.out.1]
  go_wp2_with fail
  go_loopw [4] (fun i wr => ∃ (k : Nat) (X' : Nat → Value), k ≤ 2 ∧ i = .int .i64 ((k : Nat) : Int) ∧ Owd w wr T X X' k) (fun i _ => 2 - (intOf i).toNat)
  case atStart => exact ⟨0, X, by omega, rfl, HW.out.2.2.2.2.1⟩
  case round =>
    obtain ⟨k, X', hk, rfl, hS⟩ := hrel
    have HS := Lib.hid hS
    clear hS
    have hlo : w.heap.size + 1 + 1 ≤ wr.heap.size := by have := HS.out.res.lt; omega
    by_cases hk2 : k < 2
    · obtain ⟨A1, n1, c1, ex1, ia1⟩ := HW.out.2.2.1 k (by omega)
      obtain ⟨A2, n2, c2, ex2, ia2⟩ := HW.out.2.2.1 (2 + k) (by omega)
      have hn1 := HW.out.2.2.2.1 k (by omega)
      have hn2 := HW.out.2.2.2.1 (2 + k) (by omega)
      rw [ia1.len] at hn1
      rw [ia2.len] at hn2
      have o1 := HS.out.old k (by omega) (by omega)
      have o2 := HS.out.old (2 + k) (by omega) (by omega)
      have d1 : (wr.alloc (.cells #[] 3)).cell? ⟨w.heap.size, 128 + 17 * k + 16, none⟩ = some (.slice A1 n1 c1) := by rw [← ex1, ← o1]; exact (HS.out.dst.alloc _).tbX (j := k) (by omega)
      have HI := Lib.hid (And.intro ia1 (And.intro ia2 (And.intro (And.intro hn1 hn2) (And.intro (And.intro (o1.trans ex1) (o2.trans ex2)) hlo))))
      have q1 : 128 + k * 17 + 16 = 128 + 17 * k + 16 := by omega
      have q2 : 162 + k * 17 + 16 = 128 + 17 * (2 + k) + 16 := by omega
      have hk2' : (k : Int) < 2 := by omega
      clear ia1 ia2 hn1 hn2 ex1 ex2 o1 o2
      go_wp2_with (first
        | ((with_reducible refine wpList_append_ia (o := ⟨some 14, _, _, _, _, _⟩) rfl (.tmp 8) (.tmp 13) rfl wr.heap.size (.slice (some ⟨wr.heap.size, 0, none⟩) 0 0) 0 [] rfl (World.ownsRow_made wr #[] 0 (Nat.le_refl _) (Nat.zero_le _) rfl) A1 n1 c1 (T.V k) rfl (HI.out.1.on (on_trans HS.out.bel (on_alloc _ _))) ?h63 ?hba ?_)
           case h63 => have := HI.out.2.2.1.1; omega
           case hba => simp
           intro v4 w4 hown4 b4
           rw [List.nil_append] at hown4
           have nw4 := nw_of_own hown4
           have b40 : Below wr.heap.size wr w4 := (on_alloc wr (.cells #[] 3)).trans b4
           have st4 := HS.out.step b40 (j := k) nw4 HI.out.2.2.2.2
           have db4 := HS.out.dst.on b40
           have cD : w4.cell? ⟨w.heap.size, 128 + 17 * k + 16, none⟩ = some (X' k) := db4.tbX (j := k) (by omega)
           have fD : w4.frozen? ⟨w.heap.size, 128 + 17 * k + 16, none⟩ = false := db4.free _
           obtain ⟨A4, n4, c4, hv4, _⟩ := nw4.is
           subst hv4
           obtain ⟨p4, hp4⟩ : ∃ o, o = X' k := ⟨_, rfl⟩
           rw [← hp4] at cD
           obtain ⟨w5, hw5⟩ : ∃ x, w4.setCell ⟨w.heap.size, 128 + 17 * k + 16, none⟩ (.slice A4 n4 c4) = x := ⟨_, rfl⟩
           rw [hw5] at st4
           have hx2 : updX X' k (.slice A4 n4 c4) (2 + k) = .slice A2 n2 c2 := (updX_other (by omega)).trans HI.out.2.2.2.1.2
           have H5 := Lib.hid (And.intro st4 hx2)
           have hlo5 : w.heap.size + 1 + 1 ≤ w5.heap.size := by have := H5.out.1.2.1.lt; omega
           have d2 : (w5.alloc (.cells #[] 3)).cell? ⟨w.heap.size, 128 + 17 * (2 + k) + 16, none⟩ = some (.slice A2 n2 c2) := by rw [← hx2]; exact (H5.out.1.1.alloc _).tbX (j := 2 + k) (by omega)
           clear hown4 b4 nw4 b40 st4 db4 hp4 hx2 d1)
        | ((with_reducible refine wpList_append_ia (o := ⟨some 25, _, _, _, _, _⟩) rfl (.tmp 19) (.tmp 24) rfl w5.heap.size (.slice (some ⟨w5.heap.size, 0, none⟩) 0 0) 0 [] rfl (World.ownsRow_made w5 #[] 0 (Nat.le_refl _) (Nat.zero_le _) rfl) A2 n2 c2 (T.V (2 + k)) rfl (HI.out.2.1.on (on_trans H5.out.1.2.2.1 (on_alloc _ _))) ?h63 ?hba ?_)
           case h63 => have := HI.out.2.2.1.2; omega
           case hba => simp
           intro v6 w6 hown6 b6
           rw [List.nil_append] at hown6
           have nw6 := nw_of_own hown6
           have b60 : Below w5.heap.size w5 w6 := (on_alloc w5 (.cells #[] 3)).trans b6
           have db6 := H5.out.1.1.on b60
           have cE : w6.cell? ⟨w.heap.size, 128 + 17 * (2 + k) + 16, none⟩ = some (updX X' k (.slice A4 n4 c4) (2 + k)) := db6.tbX (j := 2 + k) (by omega)
           have fE : w6.frozen? ⟨w.heap.size, 128 + 17 * (2 + k) + 16, none⟩ = false := db6.free _
           obtain ⟨A6, n6, c6, hv6, _⟩ := nw6.is
           subst hv6
           obtain ⟨p6, hp6⟩ : ∃ o, o = updX X' k (.slice A4 n4 c4) (2 + k) := ⟨_, rfl⟩
           rw [← hp6] at cE
           obtain ⟨w7, hw7⟩ : ∃ x, w6.setCell ⟨w.heap.size, 128 + 17 * (2 + k) + 16, none⟩ (.slice A6 n6 c6) = x := ⟨_, rfl⟩
           have kk : Kept (fun i => i = w.heap.size) w6 w7 := by rw [← hw7]; exact (Kept.refl (fun i => i = w.heap.size) w6).setCell (p := ⟨w.heap.size, 128 + 17 * (2 + k) + 16, none⟩) (fun _ => rfl) _
           have hne : ∀ i, i = w.heap.size → ∀ cs, ¬ Box w6 i 3 cs := fun i e cs hx => by subst e; exact db6.apart hx (by decide) rfl
           have hfin : Owd w w7 T X (updX (updX X' k (.slice A4 n4 c4)) (2 + k) (.slice A6 n6 c6)) (k + 1) :=
             ⟨by rw [← hw7]; exact db6.putXt _, kk.box (H5.out.1.2.1.on b60) (by omega), (on_trans H5.out.1.2.2.1 b60).trans (kk.below (on_trans H5.out.1.2.2.1 b60).size (fun i hi e => by omega)),
              fun i => by
                unfold updX
                split
                · rfl
                · exact H5.out.1.2.2.2.1 i,
              fun i hi hk1 => by
                by_cases e : i = 2 + k
                · subst e
                  rw [show updX (updX X' k (.slice A4 n4 c4)) (2 + k) (.slice A6 n6 c6) (2 + k) = .slice A6 n6 c6 from if_pos rfl]
                  exact (nw6.mono hlo5).kept kk hne
                · rw [updX_other e]
                  exact ((H5.out.1.2.2.2.2 i hi (by omega)).on b60).kept kk hne,
              fun i hi hk1 => by
                rw [updX_other (by omega), updX_other (by omega)]
                exact HS.out.old i hi (by omega)⟩
           have HF := Lib.hid hfin
           clear hown6 b6 nw6 b60 db6 hp6 kk hne hfin)
        | fail)
      clear hw5 cD fD hw7 cE fE d2
      go_roundw
      case rel => exact ⟨k + 1, _, by omega, by go_num, HF.out⟩
      case measure => simp [intOf]; omega
    · have ek : k = 2 := by omega
      have hS2 := HS.out
      rw [ek] at hS2
      have H9 := Lib.hid hS2
      obtain ⟨Vk, hVk⟩ : ∃ V, V = tbV T X' := ⟨_, rfl⟩
      have HV := Lib.hid (And.intro hVk (show (Instr.loadAt 31 (.pointer (some ⟨w.heap.size, 0, none⟩))).run Tryd.prog wr = .ok Vk wr by rw [hVk]; exact hS2.dst.tb.load))
      clear hS2 ek hVk
      go_wp2_with (first
        | (with_reducible refine wpList_load_to (op := ⟨some 30, _, _, _, _, _⟩) rfl 31 (.tmp 1) rfl (.pointer (some ⟨w.heap.size, 0, none⟩)) rfl Vk HV.out.2 ?_)
        | ((with_reducible refine wpList_store_tb (o := ⟨none, _, _, _, _, _⟩) rfl (.tmp 2) (.tmp 30) rfl rfl (w.heap.size + 1) T X' H9.out.one rfl ?hy (tbC kz.tb X0).toArray H9.out.res (tbC_size _ _) ?_)
           case hy => exact HV.out.1
           intro w9 b9 k9
           have HW9 := Lib.hid (And.intro b9 k9)
           clear b9 k9)
        | fail)
      refine bodyPost_ret (v := tbV T X') (results_c (fn := Tryd.f10) Tryd.results10 _ _ (w.heap.size + 1) _ rfl (loadVar_tb HW9.out.1)) rfl ?_
      have hne : ∀ i, i = w.heap.size + 1 → ∀ cs, ¬ Box wr i 3 cs := fun i e cs hx => by subst e; exact H9.out.res.apart hx (by decide) rfl
      refine ⟨X', rfl, H9.out.one, fun j hj => ?_, H9.out.bel.trans (HW9.out.2.below H9.out.bel.size (fun i hi e => by omega))⟩
      obtain ⟨A, n, c, e, hi, hb⟩ := ((H9.out.new j hj (by omega)).kept HW9.out.2 hne).is
      exact ⟨A, n, c, e, hi.ia, fun b off ea => by have := (hb b off ea).1; omega⟩
theorem own_any (w : World) (T : Tb) (X : Nat → Value) (h1X : ∀ j, (X j).oneCell' = true) (hX : ∀ j, j < 4 → ∃ A n c, X j = .slice A n c ∧ Ia w A n c (T.V j)) (hfew : ∀ j, j < 4 → (T.V j).length ≤ 5000) : Calls Tryd.prog 10 #[tbV T X] w (OwnY w T) :=
  (own_at w T X h1X hX hfew).mono fun e w' h => by
    obtain ⟨X', h1, h2, h3, h4⟩ := h
    exact ⟨X', h1, h2, fun j hj => by obtain ⟨A, n, c, e, hi, _⟩ := h3 j hj; exact ⟨A, n, c, e, hi⟩, h4⟩
end Go.Proofs.YtgipngedmblnmaaDoor
