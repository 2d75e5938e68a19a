/-
  The contract of plane's Cut.
-/
import Derived.Test.YtadlaljohlpabaaQBlock
import Derived.Deep.MidRow
namespace Go.Proofs.Ytadlaljohlpabaa
open Go.RowKit

theorem kept_setCells (b : Nat) : ∀ (vs : List Value) (o : Nat) (w : World), Kept (fun i => i = b) w (w.setCells b o vs)
  | [], _, w => Kept.refl _ w
  | v :: r, o, w => ((Kept.refl (fun i => i = b) w).setCell (p := ⟨b, o, none⟩) (fun _ => rfl) v).trans (kept_setCells b r (o + 1) _) (fun _ _ h => h)
theorem Below.frozen' {w w' : World} (k : Below w.heap.size w w') {b o : Nat} (hb : b < w.heap.size) : w'.frozen? ⟨b, o, none⟩ = w.frozen? ⟨b, o, none⟩ := (Kept.of_below k (fun _ => False)).frozen hb (fun h => h)
/-- what lies in memory: the argument's box, a slice of n blocks of which the first k are written -/
structure Rs (w wr : World) (gA gS n : Nat) (P : Array Value) (f : Nat → List Int) (k : Nat) : Prop where
  arg : Box wr gA 24 P
  row : ∀ i, i < k → wr.rangeAt gS (i * 64) (cellsI (f i))
  all : wr.there gS 0 (n * 64)
  bel : Below w.heap.size w wr
  lt : gS < wr.heap.size
  newA : w.heap.size ≤ gA
  newS : w.heap.size ≤ gS
  ne : gA ≠ gS
section
variable {w wr w' : World} {gA gS n : Nat} {P : Array Value} {f : Nat → List Int} {k : Nat}
theorem Rs.on (h : Rs w wr gA gS n P f k) (b : Below wr.heap.size wr w') : Rs w w' gA gS n P f k :=
  ⟨h.arg.on b, fun i hi j v hv => (b.cell (p := ⟨gS, i * 64 + j, none⟩) h.lt).trans (h.row i hi j v hv), fun j hj => ⟨by rw [b.cell (p := ⟨gS, 0 + j, none⟩) h.lt]; exact (h.all j hj).1, by rw [Below.frozen' b h.lt]; exact (h.all j hj).2⟩, on_trans h.bel b, Nat.lt_of_lt_of_le h.lt b.size, h.newA, h.newS, h.ne⟩
theorem Rs.there (h : Rs w wr gA gS n P f k) (hk : k < n) : wr.there gS (k * 64) 64 := fun j hj => by
  have := h.all (k * 64 + j) (by have := Nat.mul_le_mul_right 64 (show k + 1 ≤ n from hk); omega)
  rwa [Nat.zero_add] at this
/-- one block more -/
theorem Rs.more (h : Rs w wr gA gS n P f k) (hk : k < n) (hf : ∀ i, (f i).length = 64) : Rs w (wr.setCells gS (k * 64) (cellsI (f k))) gA gS n P f (k + 1) := by
  have kp := kept_setCells gS (cellsI (f k)) (k * 64) wr
  have hl : (cellsI (f k)).length = 64 := by rw [cellsI_len, hf]
  refine ⟨kp.box h.arg h.ne, fun i hi => ?_, World.there_setCells h.all _ _ _, h.bel.trans (kp.below h.bel.size (fun i hi e => by have := h.newS; omega)), Nat.lt_of_lt_of_le h.lt kp.size, h.newA, h.newS, h.ne⟩
  by_cases e : i = k
  · subst e
    exact World.rangeAt_setCells_same wr gS (i * 64) _ (by rw [hl]; exact h.there hk)
  · exact World.rangeAt_setCells_apart (h.row i (by omega)) _ _ _ (Or.inr (Or.inl (by rw [cellsI_len, hf]; have := Nat.mul_le_mul_right 64 (show i + 1 ≤ k by omega); omega)))
/-- all are written -/
theorem Rs.done (h : Rs w wr gA gS n P f n) (hf : ∀ i, (f i).length = 64) : Bs wr (some ⟨gS, 0, none⟩) n ((List.range n).map f) := by
  refine ⟨by rw [List.length_map, List.length_range], fun x hx => ?_, fun _ => ⟨gS, 0, rfl, h.lt, fun i x hx j hj => ?_⟩⟩
  · obtain ⟨i, _, rfl⟩ := List.mem_map.1 hx
    exact hf i
  · have hi : i < n := by have := (List.getElem?_eq_some_iff.1 hx).1; simpa using this
    rw [List.getElem?_map, List.getElem?_range hi] at hx
    cases hx
    rw [Nat.zero_add]
    exact h.row i hi j _ (cellsI_get _ _ (by rw [hf]; exact hj))
end
/-- a block is written into a slice of blocks, as an operation of a region -/
theorem wp_store_bk {o : Oper} {a : Act} {w wr : World} {K : Act → World → Prop} {Q : Exit → Act → World → Prop} {gA gS n : Nat} {P : Array Value} {f : Nat → List Int} {k : Nat} (x y : Operand) (ho : o.op = .store 51 x y) (hd : o.dst = none)
    (h : Rs w wr gA gS n P f k) (hk : k < n) (hf : ∀ i, (f i).length = 64) (hx : a.eval x = .pointer (some ⟨gS, k * 64, none⟩)) (hy : a.eval y = blkV (f k))
    (hK : ∀ w', Rs w w' gA gS n P f (k + 1) → Kept (fun i => i = gS) wr w' → K a w') : Oper.wp Try.prog o a wr K Q := by
  have hl : (cellsI (f k)).length = 64 := by rw [cellsI_len, hf]
  refine wp_store_mid 51 x y ho gS (k * 64) (cellsI (f k)).toArray hx hy (by rw [List.size_toArray, hl]; exact h.there hk) (by rw [arr26_size, List.size_toArray, hl]) (all_oneCell_toArray (cellsI_one _)) ?_
  rw [hd]
  exact hK _ (h.more hk hf) (kept_setCells _ _ _ _)
/-- a slice of blocks is made -/
theorem make_blks (n : Nat) (hn : n ≤ 1000) : ∃ M : Array Value, M.size = n * 64 ∧ ∀ w, (Instr.makeSlice 37 (.int .i64 (n : Int)) (.int .i64 (n : Int))).run Try.prog w = .ok (.slice (some ⟨w.heap.size, 0, none⟩) n n) (w.alloc (.cells M 51)) := by
  obtain ⟨i0, hi0, h2⟩ := Option.map_eq_some_iff.1 blk_info
  simp only [Prod.mk.injEq] at h2
  obtain ⟨hz0, hz1, hz2⟩ := h2
  refine ⟨madeCells (blkV (List.replicate 64 0)).cells (n * i0.size), by rw [size_madeCells, hz1], fun w => ?_⟩
  have := run_make (P := Try.prog) w 37 51 i0 _ Try.underlying37 hi0 hz0 .i64 .i64 (n : Int) (n : Int) (by omega) (Int.le_refl _) (by rw [hz2]; omega) (by omega)
  simpa using this
theorem rs_made {w w1 : World} {gA n : Nat} {P : Array Value} {M : Array Value} (f : Nat → List Int) (hA : Box w1 gA 24 P) (k : Below w.heap.size w w1) (hn : w.heap.size ≤ gA) (hM : M.size = n * 64) : Rs w (w1.alloc (.cells M 51)) gA w1.heap.size n P f 0 := by
  have b := Box.made w1 51 M
  have ka := on_alloc w1 (.cells M 51)
  have hl := hA.lt
  refine ⟨hA.on ka, fun i hi => absurd hi (by omega), fun j hj => ⟨?_, b.free _⟩, on_trans k ka, b.lt, hn, k.size, by omega⟩
  rw [b.cell, Nat.zero_add, Array.getElem?_eq_getElem (by omega)]
  rfl
end Go.Proofs.Ytadlaljohlpabaa
