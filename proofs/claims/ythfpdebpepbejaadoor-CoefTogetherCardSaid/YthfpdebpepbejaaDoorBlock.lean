/-
  Blocks of 64 numbers in memory; the contracts of inRange, Right and Order.
-/
import Derived.Test.YthfpdebpepbejaaDoorSize
import Derived.Test.YthfpdebpepbejaaDoorSpec
namespace Go.Proofs.YthfpdebpepbejaaDoor
open Go.RowKit

/-- the zigzag order -/
def zz : List Int := [0, 1, 8, 16, 9, 2, 3, 10, 17, 24, 32, 25, 18, 11, 4, 5, 12, 19, 26, 33, 40, 48, 41, 34, 27, 20, 13, 6, 7, 14, 21, 28, 35, 42, 49, 56, 57, 50, 43, 36, 29, 22, 15, 23, 30, 37, 44, 51, 58, 59, 52, 45, 38, 31, 39, 46, 53, 60, 61, 54, 47, 55, 62, 63]
/-- the order as natural numbers -/
def zn (i : Nat) : Nat := (zz.getD i 0).toNat
theorem zz_len : zz.length = 64 := by decide
theorem zn_at : ∀ i, i < 64 → zz.getD i 0 = (zn i : Int) ∧ zn i < 64 := by decide
/-- the table lies in the program's memory as its text lays it -/
def Tab (w : World) : Prop := ∀ i, i < 64 → w.cell? ⟨0, i, none⟩ = some (.int .i64 (zz.getD i 0))
theorem Tab.zero {w : World} (h : Tab w) : 0 < w.heap.size := World.block_lt_of_cell? w ⟨0, 0, none⟩ (h 0 (by omega))
theorem Tab.on {w w' : World} (h : Tab w) (k : Below w.heap.size w w') : Tab w' := fun i hi => (k.cell (p := ⟨0, i, none⟩) h.zero).trans (h i hi)
theorem Tab.kept {S : Nat → Prop} {w w' : World} (h : Tab w) (k : Kept S w w') (hS : ¬ S 0) : Tab w' := fun i hi => (k.cell (p := ⟨0, i, none⟩) h.zero hS).trans (h i hi)
theorem Tab.bel {B : Nat} {w w' : World} (h : Tab w) (k : Below B w w') (hB : 0 < B) : Tab w' := fun i hi => (k.cell (p := ⟨0, i, none⟩) hB).trans (h i hi)

/-- a number that a block may have -/
def In (z : Int) : Prop := -1023 ≤ z ∧ z ≤ 1023
instance (z : Int) : Decidable (In z) := by unfold In; infer_instance
/-- a block that may be -/
def RightB (b : List Int) : Prop := ∀ j, j < 64 → In (b.getD j 0)
instance (b : List Int) : Decidable (RightB b) := by unfold RightB; infer_instance

theorem in_dec (z : Int) (c : Bool) (h : c = true ↔ In z) : c = decide (In z) := by
  by_cases hi : In z
  · rw [h.2 hi]; simp [hi]
  · cases c
    · simp [hi]
    · exact absurd (h.1 rfl) hi

set_option maxHeartbeats 400000 in
theorem inRange_any (w : World) (z : Int) : Calls Tryd.prog 32 #[.int .i64 z] w fun e w' => e = .returned (.bool (decide (In z))) ∧ w = w' := by
  by_cases h1 : z < -1023
  · have hd : decide (In z) = false := by rw [decide_eq_false_iff_not]; unfold In; omega
    rw [hd]
    go_enter Tryd.func32, Tryd.ntmps32
    go_wp2
    go_ret
    exact ⟨rfl, rfl⟩
  have hd : decide (In z) = decide (z ≤ 1023) := by
    apply decide_eq_decide.2
    unfold In
    omega
  rw [hd]
  go_enter Tryd.func32, Tryd.ntmps32
  go_wp2
  go_ret
  exact ⟨rfl, rfl⟩
set_option maxHeartbeats 400000 in
theorem refIn_any (w : World) (z : Int) : Calls Tryd.prog 18 #[.int .i64 z] w fun e w' => e = .returned (.bool (decide (In z))) ∧ w = w' := by
  by_cases h1 : z < -1023
  · have hd : decide (In z) = false := by rw [decide_eq_false_iff_not]; unfold In; omega
    rw [hd]
    go_enter Tryd.func18, Tryd.ntmps18
    go_wp2
    go_ret
    exact ⟨rfl, rfl⟩
  have hd : decide (In z) = decide (z ≤ 1023) := by
    apply decide_eq_decide.2
    unfold In
    omega
  rw [hd]
  go_enter Tryd.func18, Tryd.ntmps18
  go_wp2
  go_ret
  exact ⟨rfl, rfl⟩

/-- a block as a value -/
def blkV (b : List Int) : Value := .agg (cellsI b).toArray
/-- a block in memory -/
structure Blk (w : World) (g : Nat) (b : List Int) : Prop where
  box : Box w g 23 (cellsI b).toArray
  len : b.length = 64
theorem arr23_size : (Tryd.prog.info? 23).map (·.size) = some 64 := by kernel_rfl
theorem arr22_size : (Tryd.prog.info? 22).map (·.size) = some 64 := by kernel_rfl
theorem cellsI_get (l : List Int) (k : Nat) (hk : k < l.length) : (cellsI l)[k]? = some (.int .i64 (l.getD k 0)) := by
  simp [cellsI, List.getD_eq_getElem?_getD, List.getElem?_eq_getElem hk]
section
variable {w w' : World} {g : Nat} {b : List Int}
theorem Blk.cell (h : Blk w g b) {k : Nat} (hk : k < 64) : w.cell? ⟨g, k, none⟩ = some (.int .i64 (b.getD k 0)) := by
  rw [h.box.cell k, List.getElem?_toArray, cellsI_get _ _ (by rw [h.len]; exact hk)]
theorem Blk.on (h : Blk w g b) (k : Below w.heap.size w w') : Blk w' g b := ⟨h.box.on k, h.len⟩
theorem Blk.kept {S : Nat → Prop} (h : Blk w g b) (k : Kept S w w') (hS : ¬ S g) : Blk w' g b := ⟨k.box h.box hS, h.len⟩
theorem Blk.range (h : Blk w g b) : w.rangeAt g 0 (cellsI b) := by
  intro j u hu
  rw [Nat.zero_add, h.box.cell j]
  simpa using hu
theorem Blk.load (h : Blk w g b) : (Instr.loadAt 23 (.pointer (some ⟨g, 0, none⟩))).run Tryd.prog w = .ok (blkV b) w :=
  run_loadAt_mid w g 0 23 (cellsI b) _ h.range Tryd.underlying23 rfl (by rw [arr23_size, cellsI_len, h.len])
theorem put_cellsI (l : List Int) (i : Nat) (z : Int) : (cellsI l).toArray.setIfInBounds i (.int .i64 z) = (cellsI (l.set i z)).toArray := by
  simp [cellsI, List.map_set]
theorem Blk.put (h : Blk w g b) (k : Nat) (z : Int) : Blk (w.setCell ⟨g, k, none⟩ (.int .i64 z)) g (b.set k z) := by
  refine ⟨?_, by rw [List.length_set, h.len]⟩
  have := h.box.put k (.int .i64 z)
  rwa [put_cellsI] at this
end
theorem Tab.range {w : World} (h : Tab w) : w.rangeAt 0 0 (cellsI zz) := by
  intro j u hu
  have hj : j < (cellsI zz).length := (List.getElem?_eq_some_iff.1 hu).1
  rw [cellsI_len, zz_len] at hj
  rw [Nat.zero_add, h j hj, ← hu, cellsI_get _ _ (by rw [zz_len]; exact hj)]
theorem Tab.load {w : World} (h : Tab w) : (Instr.loadAt 22 (.pointer (some ⟨0, 0, none⟩))).run Tryd.prog w = .ok (blkV zz) w :=
  run_loadAt_mid w 0 0 22 (cellsI zz) _ h.range Tryd.underlying22 rfl (by rw [arr22_size, cellsI_len, zz_len])
/-- a block's numbers are read -/
theorem index23 (w : World) {l : List Int} (hl : l.length = 64) {k : Nat} (hk : k < 64) : (Instr.index 23 (blkV l) (.int .i64 (k : Int))).run Tryd.prog w = .ok (.int .i64 (l.getD k 0)) w := by
  have hp : (part 3 (cellsI l).toArray k).run Tryd.prog w = .ok (.int .i64 (l.getD k 0)) w := run_part_plain w (by kernel_rfl) (by simpa using cellsI_get l k (by omega))
  simp [blkV, Instr.index, run_underlying Tryd.underlying23, asIntOf, hp, Result.andThen]
  intro h
  omega
theorem index22 (w : World) {l : List Int} (hl : l.length = 64) {k : Nat} (hk : k < 64) : (Instr.index 22 (blkV l) (.int .i64 (k : Int))).run Tryd.prog w = .ok (.int .i64 (l.getD k 0)) w := by
  have hp : (part 3 (cellsI l).toArray k).run Tryd.prog w = .ok (.int .i64 (l.getD k 0)) w := run_part_plain w (by kernel_rfl) (by simpa using cellsI_get l k (by omega))
  simp [blkV, Instr.index, run_underlying Tryd.underlying22, asIntOf, hp, Result.andThen]
  intro h
  omega
theorem zero23 (w : World) : (zeroValue 23).run Tryd.prog w = .ok (blkV (List.replicate 64 0)) w := by kernel_rfl
theorem zero22 (w : World) : (zeroValue 22).run Tryd.prog w = .ok (blkV (List.replicate 64 0)) w := by kernel_rfl
theorem build0 (w : World) : (Instr.build 23 #[]).run Tryd.prog w = .ok (blkV (List.replicate 64 0)) w := run_build w 23 _ _ (by kernel_rfl)
theorem build1 (w : World) (z : Int) : (Instr.build 23 #[(0, .int .i64 z)]).run Tryd.prog w = .ok (blkV (z :: List.replicate 63 0)) w := run_build w 23 _ _ (by show Program.built _ _ _ = _; kernel_rfl)
/-- a block is written whole -/
theorem wpList_store_blk {t : TypeId} {ops : Array Oper} {rest : List Oper} {o : Oper} {a : Act} {w : World} {Q : Exit → Act → World → Prop} (ht : (Tryd.prog.info? t).map (·.size) = some 64) (hgd : o.guard = none) (x y : Operand) (ho : o.op = .store t x y) (hd : o.dst = none)
    (g : Nat) (b : List Int) (hx : a.eval x = .pointer (some ⟨g, 0, none⟩)) (hy : a.eval y = blkV b) (old : Array Value) (hg : Box w g t old) (hold : old.size = 64) (hb : b.length = 64)
    (h : ∀ w', Box w' g t (cellsI b).toArray → Kept (fun i => i = g) w w' → wpList Tryd.prog ops Q rest a w') : wpList Tryd.prog ops Q (o :: rest) a w := by
  refine wpList_plain hgd fun _ hK => ?_
  refine wp_store_row t x y ho g (cellsI b).toArray hx hy t old hg (by rw [ht]; simp [cellsI_len, hb]) (by rw [hold]; simp [cellsI_len, hb]) (all_oneCell_toArray (cellsI_one b)) ?_
  rw [hd]
  exact hK _ _ (h _ (setRow_heap w g old _ t _ hg) ⟨rfl, rfl, rfl, by simp, fun k _ hk => setRow_other w g k _ hk⟩)
end Go.Proofs.YthfpdebpepbejaaDoor
