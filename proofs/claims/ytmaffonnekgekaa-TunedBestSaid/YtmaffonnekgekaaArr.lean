/-
  Arrays of 257 numbers, and the three of trees, in memory.
-/
import Derived.Test.YtmaffonnekgekaaCounts
namespace Go.Proofs.Ytmaffonnekgekaa
open Go.RowKit

theorem arr257_size : (Try.prog.info? 47).map (·.size) = some 257 := by kernel_rfl
theorem trees_size : (Try.prog.info? 75).map (·.size) = some 771 := by kernel_rfl
theorem cellsI_get (l : List Int) (k : Nat) (hk : k < l.length) : (cellsI l)[k]? = some (.int .i64 (l.getD k 0)) := by
  simp [cellsI, List.getD_eq_getElem?_getD, List.getElem?_eq_getElem hk]
/-- an array of numbers is indexed -/
theorem index257 (w : World) {l : List Int} (hl : l.length = 257) {k : Nat} (hk : k < 257) : (Instr.index 47 (.agg (cellsI l).toArray) (.int .i64 (k : Int))).run Try.prog w = .ok (.int .i64 (l.getD k 0)) w := by
  have hp : (part 3 (cellsI l).toArray k).run Try.prog w = .ok (.int .i64 (l.getD k 0)) w := run_part_plain w (by kernel_rfl) (by simpa using cellsI_get l k (by omega))
  simp [Instr.index, run_underlying Try.underlying47, asIntOf, hp, Result.andThen]
  intro h
  omega
/-- the array is read whole -/
theorem load257 {w : World} {g o : Nat} {l : List Int} (h : w.rangeAt g o (cellsI l)) (hl : l.length = 257) : (Instr.loadAt 47 (.pointer (some ⟨g, o, none⟩))).run Try.prog w = .ok (.agg (cellsI l).toArray) w :=
  run_loadAt_mid w g o 47 (cellsI l) _ h Try.underlying47 rfl (by rw [arr257_size, cellsI_len, hl])
theorem zero47 (w : World) : (zeroValue 47).run Try.prog w = .ok (.agg (cellsI (List.replicate 257 0)).toArray) w := by kernel_rfl
theorem zero75 (w : World) : (zeroValue 75).run Try.prog w = .ok (.agg (cellsI (List.replicate 257 0 ++ (List.replicate 257 0 ++ List.replicate 257 0))).toArray) w := by kernel_rfl
theorem Box.range47 {w : World} {g : Nat} {t : TypeId} {l : List Int} (h : Box w g t (cellsI l).toArray) : w.rangeAt g 0 (cellsI l) := by
  intro j u hu
  rw [Nat.zero_add, h.cell j]
  simpa using hu
theorem put_cellsI (l : List Int) (i : Nat) (z : Int) : (cellsI l).toArray.setIfInBounds i (.int .i64 z) = (cellsI (l.set i z)).toArray := by
  simp [cellsI, List.map_set]

/-- three arrays in a block -/
structure TreeAt (w : World) (g : Nat) (S T L : List Int) : Prop where
  box : Box w g 75 (cellsI (S ++ (T ++ L))).toArray
  ls : S.length = 257
  lt : T.length = 257
  ll : L.length = 257
section
variable {w w' : World} {g : Nat} {S T L : List Int}
theorem getD_left {a b : List Int} {k : Nat} (h : k < a.length) : (a ++ b).getD k 0 = a.getD k 0 := by
  simp only [List.getD_eq_getElem?_getD]
  rw [List.getElem?_append_left h]
theorem getD_right {a b : List Int} {k n : Nat} (h : a.length = n) : (a ++ b).getD (n + k) 0 = b.getD k 0 := by
  simp only [List.getD_eq_getElem?_getD]
  rw [List.getElem?_append_right (by omega), h, Nat.add_sub_cancel_left]
theorem TreeAt.cellS (h : TreeAt w g S T L) {k : Nat} (hk : k < 257) : w.cell? ⟨g, k, none⟩ = some (.int .i64 (S.getD k 0)) := by
  have a := h.ls
  rw [h.box.cell k]
  rw [List.getElem?_toArray, cellsI_get _ _ (by simp; omega), getD_left (by omega)]
theorem TreeAt.cellT (h : TreeAt w g S T L) {k : Nat} (hk : k < 257) : w.cell? ⟨g, 257 + k, none⟩ = some (.int .i64 (T.getD k 0)) := by
  have a := h.ls
  have b := h.lt
  rw [h.box.cell (257 + k), List.getElem?_toArray, cellsI_get _ _ (by simp; omega), getD_right a, getD_left (by omega)]
theorem TreeAt.cellL (h : TreeAt w g S T L) {k : Nat} (hk : k < 257) : w.cell? ⟨g, 514 + k, none⟩ = some (.int .i64 (L.getD k 0)) := by
  have a := h.ls
  have b := h.lt
  have c := h.ll
  rw [h.box.cell (514 + k), List.getElem?_toArray, cellsI_get _ _ (by simp; omega), show 514 + k = 257 + (257 + k) by omega, getD_right a, getD_right b]
theorem TreeAt.putS (h : TreeAt w g S T L) {k : Nat} (hk : k < 257) (z : Int) : TreeAt (w.setCell ⟨g, k, none⟩ (.int .i64 z)) g (S.set k z) T L := by
  have a := h.ls
  refine ⟨?_, by rw [List.length_set, a], h.lt, h.ll⟩
  have hb := h.box.put k (.int .i64 z)
  rw [put_cellsI, List.set_append_left _ _ (by omega)] at hb
  exact hb
theorem TreeAt.putT (h : TreeAt w g S T L) {k : Nat} (hk : k < 257) (z : Int) : TreeAt (w.setCell ⟨g, 257 + k, none⟩ (.int .i64 z)) g S (T.set k z) L := by
  have a := h.ls
  have b := h.lt
  refine ⟨?_, a, by rw [List.length_set, b], h.ll⟩
  have hb := h.box.put (257 + k) (.int .i64 z)
  rw [put_cellsI, List.set_append_right _ _ (by omega), a, Nat.add_sub_cancel_left, List.set_append_left _ _ (by omega)] at hb
  exact hb
theorem TreeAt.putL (h : TreeAt w g S T L) {k : Nat} (hk : k < 257) (z : Int) : TreeAt (w.setCell ⟨g, 514 + k, none⟩ (.int .i64 z)) g S T (L.set k z) := by
  have a := h.ls
  have b := h.lt
  refine ⟨?_, a, b, by rw [List.length_set, h.ll]⟩
  have hb := h.box.put (514 + k) (.int .i64 z)
  rw [put_cellsI, List.set_append_right _ _ (by omega), a, show 514 + k - 257 = 257 + k by omega, List.set_append_right _ _ (by omega), b, Nat.add_sub_cancel_left] at hb
  exact hb
theorem TreeAt.on (h : TreeAt w g S T L) (k : Below w.heap.size w w') : TreeAt w' g S T L := ⟨h.box.on k, h.ls, h.lt, h.ll⟩
theorem TreeAt.rangeS (h : TreeAt w g S T L) : w.rangeAt g 0 (cellsI S) := by
  intro j u hu
  have hj : j < (cellsI S).length := (List.getElem?_eq_some_iff.1 hu).1
  rw [cellsI_len, h.ls] at hj
  rw [Nat.zero_add, h.cellS hj, ← hu, cellsI_get _ _ (by rw [h.ls]; exact hj)]
theorem TreeAt.rangeT (h : TreeAt w g S T L) : w.rangeAt g 257 (cellsI T) := by
  intro j u hu
  have hj : j < (cellsI T).length := (List.getElem?_eq_some_iff.1 hu).1
  rw [cellsI_len, h.lt] at hj
  rw [h.cellT hj, ← hu, cellsI_get _ _ (by rw [h.lt]; exact hj)]
theorem TreeAt.rangeL (h : TreeAt w g S T L) : w.rangeAt g 514 (cellsI L) := by
  intro j u hu
  have hj : j < (cellsI L).length := (List.getElem?_eq_some_iff.1 hu).1
  rw [cellsI_len, h.ll] at hj
  rw [h.cellL hj, ← hu, cellsI_get _ _ (by rw [h.ll]; exact hj)]
end
end Go.Proofs.Ytmaffonnekgekaa
