/-
  The size of a number: mathematics, no code.
-/
import Derived.Test.YthfpdebpepbejaaDoorTake
namespace Go.Proofs.YthfpdebpepbejaaDoor
open Go.RowKit

/-- how many binary digits a number has -/
def szN (n : Nat) : Nat := if h : n = 0 then 0 else szN (n / 2) + 1
termination_by n
decreasing_by omega
theorem szN_zero : szN 0 = 0 := by rw [szN]; simp
theorem szN_pos {n : Nat} (h : n ≠ 0) : szN n = szN (n / 2) + 1 := by rw [szN]; simp [h]
/-- the size of a number -/
def sz (z : Int) : Nat := szN z.natAbs
theorem szN_le : ∀ (k n : Nat), szN n ≤ k ↔ n < 2 ^ k
  | 0, n => by
    by_cases h : n = 0
    · subst h; rw [szN_zero]; decide
    · rw [szN_pos h, Nat.pow_zero]
      omega
  | k + 1, n => by
    by_cases h : n = 0
    · subst h; rw [szN_zero]
      have := pow_pos' (k + 1)
      omega
    · rw [szN_pos h]
      have := szN_le k (n / 2)
      rw [Nat.pow_succ]
      omega
theorem szN_lt (n : Nat) : n < 2 ^ szN n := (szN_le _ _).1 (Nat.le_refl _)
theorem szN_ge {n : Nat} (h : n ≠ 0) : 2 ^ (szN n - 1) ≤ n := by
  have h1 : 0 < szN n := by rw [szN_pos h]; omega
  have := szN_le (szN n - 1) n
  omega
theorem szN_mono {m n : Nat} (h : m ≤ n) : szN m ≤ szN n := (szN_le _ _).2 (Nat.lt_of_le_of_lt h (szN_lt n))
theorem sz_zero : sz 0 = 0 := by unfold sz; exact szN_zero
theorem sz_neg (z : Int) : sz (-z) = sz z := by unfold sz; rw [Int.natAbs_neg]
theorem sz_eq_zero {z : Int} : sz z = 0 ↔ z = 0 := by
  refine ⟨fun h => ?_, fun h => by subst h; exact sz_zero⟩
  have := (szN_le 0 z.natAbs).1 (by unfold sz at h; omega)
  simp at this
  exact this
theorem sz_le {z : Int} {k : Nat} : sz z ≤ k ↔ z.natAbs < 2 ^ k := szN_le k _
theorem sz_half (z : Int) (h : z ≠ 0) : sz z = sz (z.tdiv 2) + 1 := by
  unfold sz
  rw [szN_pos (by omega), Int.natAbs_tdiv]
  rfl
end Go.Proofs.YthfpdebpepbejaaDoor
