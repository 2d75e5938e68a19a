/-
  The contract of awake.
-/
import Derived.Test.YthfpdebpepbejaaDoorNew
namespace Go.Proofs.YthfpdebpepbejaaDoor
open Go.RowKit

def B1 : List Int := [1, 0, 2, 0, 0, 0, 0, 0, 0, 0, 0, 0, 0, 0, 0, 0]
def V1 : List Int := [5, 6, 7]
theorem valid1 : Valid B1 V1 := by
  refine ⟨?_, by decide, by decide, by decide, ?_, by decide, ?_⟩
  · intro i hi
    have hc : i = 0 ∨ i = 1 ∨ i = 2 ∨ i = 3 ∨ i = 4 ∨ i = 5 ∨ i = 6 ∨ i = 7 ∨ i = 8 ∨ i = 9 ∨ i = 10 ∨ i = 11 ∨ i = 12 ∨ i = 13 ∨ i = 14 ∨ i = 15 := by omega
    rcases hc with rfl | rfl | rfl | rfl | rfl | rfl | rfl | rfl | rfl | rfl | rfl | rfl | rfl | rfl | rfl | rfl <;> decide
  · intro v hv
    simp [V1] at hv
    omega
  · intro i hi
    have hc : i = 0 ∨ i = 1 ∨ i = 2 ∨ i = 3 ∨ i = 4 ∨ i = 5 ∨ i = 6 ∨ i = 7 ∨ i = 8 ∨ i = 9 ∨ i = 10 ∨ i = 11 ∨ i = 12 ∨ i = 13 ∨ i = 14 ∨ i = 15 := by omega
    rcases hc with rfl | rfl | rfl | rfl | rfl | rfl | rfl | rfl | rfl | rfl | rfl | rfl | rfl | rfl | rfl | rfl <;> decide
theorem code1 : codeOf (codes B1 V1) 7 = (5, 3) := by decide
theorem valid0 : ¬ Valid (List.replicate 16 0) [] := fun h => absurd h.pos (by simp)
theorem build_arr1 (w : World) : (Instr.build 40 #[(0, .int .i64 1), (1, .int .i64 0), (2, .int .i64 2)]).run Tryd.prog w = .ok (.agg (cellsI B1).toArray) w := run_build w 40 _ _ (by kernel_rfl)
theorem build_zero (w : World) : (Instr.build 42 #[]).run Tryd.prog w = .ok (specV (List.replicate 16 0) (.slice none 0 0)) w := run_build w 42 _ _ (by kernel_rfl)
theorem valid_vals {B V : List Int} (h : Valid B V) : ∀ e ∈ codes B V, 0 ≤ e.1 ∧ e.1 ≤ 255 := fun _ he => h.rng _ (mem_ents he).1

/-- what awake answers -/
def Awake5 (w : World) (e : Ending) (w' : World) : Prop := e = .returned (.bool true) ∧ Below w.heap.size w w'

end Go.Proofs.YthfpdebpepbejaaDoor
