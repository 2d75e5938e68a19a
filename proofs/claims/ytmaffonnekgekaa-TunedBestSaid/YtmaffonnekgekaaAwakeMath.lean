/-
  The table of the counts 5, 1, 1: mathematics, no code.
-/
import Derived.Test.YtmaffonnekgekaaSpecMath
namespace Go.Proofs.Ytmaffonnekgekaa
open Go.RowKit

def C51 : List Int := [5, 1, 1]
def B111 : List Int := [1, 1, 1, 0, 0, 0, 0, 0, 0, 0, 0, 0, 0, 0, 0, 0]
def V012 : List Int := [0, 1, 2]
def fin51 : Nat → Nat := inc [0, 1, 2, 256] (inc [1, 2, 256] (inc [2, 256] fun _ => 0))
theorem us51 : usF C51 = [0, 1, 2] := by decide
theorem good51 : Good C51 := by
  refine ⟨fun j hj => ?_, by decide, by decide⟩
  have hc : j = 0 ∨ j = 1 ∨ j = 2 := by
    have : C51.length = 3 := rfl
    omega
  rcases hc with rfl | rfl | rfl <;> decide
theorem any51 : Any C51 C51.length := ⟨0, by decide, by decide⟩
instance (cn : Nat → Nat) (A B : List Nat) : Decidable (Bef cn A B) := inferInstanceAs (Decidable (wOf cn A < wOf cn B ∨ (wOf cn A = wOf cn B ∧ top B < top A)))
theorem lens51 : LengthsOf (cnF C51) (usF C51) fin51 := by
  unfold LengthsOf
  rw [us51]
  refine .join (A := [256]) (B := [2]) (C := [2, 256]) (rest := [[0], [1]]) (by decide) (by decide) (by decide) (by decide) (by decide) ?_
  refine .join (A := [1]) (B := [2, 256]) (C := [1, 2, 256]) (rest := [[0]]) (by decide) (by decide) (by decide) (by decide) (by decide) ?_
  refine .join (A := [1, 2, 256]) (B := [0]) (C := [0, 1, 2, 256]) (rest := []) (by decide) (by decide) (by decide) (by decide) (by decide) ?_
  exact .done _ _
theorem fin51_le (v : Nat) : fin51 v ≤ 3 := by
  unfold fin51 inc
  split <;> split <;> split <;> (dsimp only; omega)
theorem cnt51 (s : Nat) (h : 16 < s) : cntOf fin51 [0, 1, 2, 256] s = 0 := by
  unfold cntOf
  rw [List.countP_eq_zero]
  intro v _
  have := fin51_le v
  simp
  omega
theorem vals51 : valsTo fin51 299 = [0, 1, 2] := by
  have h := valsTo_rest (fin := fin51) (fun s hs => by
    rw [List.eq_nil_iff_forall_not_mem]
    intro v hv
    have h1 := (mem_seg.1 hv).2
    have h2 := fin51_le v
    omega) 283
  rw [show (299 : Nat) = 16 + 283 from rfl, h]
  decide +kernel
theorem spec51 : SpecOf C51 B111 V012 := by
  refine ⟨fin51, cntOf fin51 [0, 1, 2, 256], lens51, ?_, ?_, rfl, ?_⟩
  · rw [us51]
    exact Lim.downs (i := 16) (by omega) 283 (fun s hs => cnt51 s hs) (.stop _)
  · intro i hi
    have hc : i = 0 ∨ i = 1 ∨ i = 2 ∨ i = 3 ∨ i = 4 ∨ i = 5 ∨ i = 6 ∨ i = 7 ∨ i = 8 ∨ i = 9 ∨ i = 10 ∨ i = 11 ∨ i = 12 ∨ i = 13 ∨ i = 14 ∨ i = 15 := by omega
    rcases hc with rfl | rfl | rfl | rfl | rfl | rfl | rfl | rfl | rfl | rfl | rfl | rfl | rfl | rfl | rfl | rfl <;> decide +kernel
  · rw [vals51]
    rfl
theorem bad_nil : ¬ Good [] := fun h => by
  have := h.one
  simp at this
end Go.Proofs.Ytmaffonnekgekaa
