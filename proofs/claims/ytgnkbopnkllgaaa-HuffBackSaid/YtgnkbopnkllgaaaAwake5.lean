/-
  The contract of awake.
-/
import Derived.Test.YtgnkbopnkllgaaaNew
namespace Go.Proofs.Ytgnkbopnkllgaaa
open Go.RowKit

def B1 : List Int := [1, 0, 2, 0, 0, 0, 0, 0, 0, 0, 0, 0, 0, 0, 0, 0]
def V1 : List Int := [5, 6, 7]
theorem valid1 : Valid B1 V1 := by
  refine ⟨?_, by decide, by decide, by decide, ?_, by decide, ?_⟩
  · intro i hi
    have hc : i = 0 ∨ i = 1 ∨ i = 2 ∨ i = 3 ∨ i = 4 ∨ i = 5 ∨ i = 6 ∨ i = 7 ∨ i = 8 ∨ i = 9 ∨ i = 10 ∨ i = 11 ∨ i = 12 ∨ i = 13 ∨ i = 14 ∨ i = 15 := by omega
    rcases hc with rfl | rfl | rfl | rfl | rfl | rfl | rfl | rfl | rfl | rfl | rfl | rfl | rfl | rfl | rfl | rfl <;> decide
  · intro v hv
    simp [V1] at hv
    omega
  · intro i hi
    have hc : i = 0 ∨ i = 1 ∨ i = 2 ∨ i = 3 ∨ i = 4 ∨ i = 5 ∨ i = 6 ∨ i = 7 ∨ i = 8 ∨ i = 9 ∨ i = 10 ∨ i = 11 ∨ i = 12 ∨ i = 13 ∨ i = 14 ∨ i = 15 := by omega
    rcases hc with rfl | rfl | rfl | rfl | rfl | rfl | rfl | rfl | rfl | rfl | rfl | rfl | rfl | rfl | rfl | rfl <;> decide
theorem code1 : codeOf (codes B1 V1) 7 = (5, 3) := by decide
theorem valid0 : ¬ Valid (List.replicate 16 0) [] := fun h => absurd h.pos (by simp)
theorem build_arr1 (w : World) : (Instr.build 22 #[(0, .int .i64 1), (1, .int .i64 0), (2, .int .i64 2)]).run Try.prog w = .ok (.agg (cellsI B1).toArray) w := run_build w 22 _ _ (by kernel_rfl)
theorem build_zero (w : World) : (Instr.build 25 #[]).run Try.prog w = .ok (specV (List.replicate 16 0) (.slice none 0 0)) w := run_build w 25 _ _ (by kernel_rfl)
theorem valid_vals {B V : List Int} (h : Valid B V) : ∀ e ∈ codes B V, 0 ≤ e.1 ∧ e.1 ≤ 255 := fun _ he => h.rng _ (mem_ents he).1

/-- what awake answers -/
def Awake5 (w : World) (e : Ending) (w' : World) : Prop := e = .returned (.bool true) ∧ Below w.heap.size w w'

set_option maxRecDepth 20000 in
set_option maxHeartbeats 1600000 in
theorem awake5_any (w : World) : Calls Try.prog 10 #[] w (Awake5 w) := by
  have hi : Il (w.alloc (.cells #[.int .i64 5, .int .i64 6, .int .i64 7] 3)) (some ⟨w.heap.size, 0, none⟩) 3 3 V1 := il_of_box (l := V1) (Box.made w 3 _) rfl (by unfold maxLen; omega)
  have HN := Lib.hid (new_any (w.alloc (.cells #[.int .i64 5, .int .i64 6, .int .i64 7] 3)) B1 V1 _ 3 3 rfl hi (by omega))
  clear hi
  go_enter Try.func10, Try.ntmps10
  go_wp2_with (first
    | (with_reducible refine wpList_build_to (op := ⟨some 9, _, _, _, _, _⟩) rfl 22 _ rfl (.agg (cellsI B1).toArray) #[(0, .int .i64 1), (1, .int .i64 0), (2, .int .i64 2)] (by simp [Act.eval]) (build_arr1 _) ?_)
    | (with_reducible refine wpList_build_to (op := ⟨some 11, _, _, _, _, _⟩) rfl 25 _ rfl (specV B1 (.slice (some ⟨w.heap.size, 0, none⟩) 3 3)) #[(0, .agg (cellsI B1).toArray), (1, .slice (some ⟨w.heap.size, 0, none⟩) 3 3)] (by simp [Act.eval]) (build_spec _ _ 3 3 rfl) ?_)
    | fail)
  refine HN.out.mono ?_
  rintro e w2 ⟨b2, hN⟩
  obtain ⟨hv, _⟩ | ⟨_, t, rfl, hT⟩ := hN
  · exact absurd valid1 hv
  have H2 := Lib.hid (And.intro hT (on_trans (on_alloc _ _) b2))
  clear hT b2 HN
  go_wp2_with fail
  refine (code_any w2 _ _ t B1 V1 _ 7 H2.out.1 (valid_vals valid1)).mono ?_
  rw [code1]
  rintro e w3 ⟨rfl, b3⟩
  have H3 := Lib.hid (on_trans H2.out.2 b3)
  clear b3
  go_wp2_with (first
    | (with_reducible refine wpList_build_to (op := ⟨some 22, _, _, _, _, _⟩) rfl 25 _ rfl (specV (List.replicate 16 0) (.slice none 0 0)) #[] (by simp) (build_zero _) ?_)
    | fail)
  refine (new_any w3 (List.replicate 16 0) [] none 0 0 rfl (Il.none _) (by omega)).mono ?_
  rintro e w4 ⟨b4, hN⟩
  obtain ⟨_, rfl⟩ | ⟨hv, _⟩ := hN
  · have H4 := Lib.hid (on_trans H3.out b4)
    clear b4
    go_wp2
    go_ret
    exact ⟨rfl, H4.out⟩
  · exact absurd hv valid0
end Go.Proofs.Ytgnkbopnkllgaaa
