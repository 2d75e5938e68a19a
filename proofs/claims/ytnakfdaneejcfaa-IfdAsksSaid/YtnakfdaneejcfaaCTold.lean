/-
  The bytes of a number: plain mathematics, no program.
-/
import Derived.Test.YtnakfdaneejcfaaCBytes
namespace Go.Proofs.Ytnakfdaneejcfaa
open Go.RowKit

/-- a number's byte, the least one at 0 -/
def byteAt (v : Int) (j : Nat) : Int := v / (256 : Int) ^ j % 256

/-- so many bytes of a number -/
def told (v : Int) (m : Nat) (big : Bool) : List Int := (List.range m).map fun i => byteAt v (if big then m - 1 - i else i)

theorem byteAt_fit (v : Int) (j : Nat) : 0 ≤ byteAt v j ∧ byteAt v j ≤ 255 := by unfold byteAt; omega
theorem told_len (v : Int) (m : Nat) (big : Bool) : (told v m big).length = m := by simp [told]
theorem told_fit (v : Int) (m : Nat) (big : Bool) : Fit (told v m big) := by
  intro z hz
  obtain ⟨i, _, rfl⟩ := List.mem_map.1 hz
  exact byteAt_fit v _
theorem told_get (v : Int) (m : Nat) (big : Bool) (k : Nat) (h : k < m) : (told v m big).getD k 0 = byteAt v (if big then m - 1 - k else k) := by
  simp [told, List.getD_eq_getElem?_getD, List.getElem?_map, List.getElem?_range h]
theorem told_more (v : Int) (m : Nat) : told v (m + 1) false = told v m false ++ [byteAt v m] := by
  simp [told, List.range_succ]
theorem told_rev (v : Int) (m : Nat) : told v m true = (told v m false).reverse := by
  refine List.ext_getElem (by simp [told]) fun i h1 h2 => ?_
  simp only [told_len] at h1
  simp [told, List.getElem_reverse]
theorem split_at (v P : Int) (hP : 0 < P) : v % (P * 256) = v % P + v / P % 256 * P := by
  have h1 := Int.emod_add_mul_ediv v P
  have h2 := Int.emod_add_mul_ediv (v / P) 256
  have r0 := Int.emod_nonneg v (show P ≠ 0 by omega)
  have r1 := Int.emod_lt_of_pos v hP
  have q0 := Int.emod_nonneg (v / P) (show (256 : Int) ≠ 0 by omega)
  have q1 := Int.emod_lt_of_pos (v / P) (show (0 : Int) < 256 by omega)
  have hq : v / P % 256 * P ≤ 255 * P := Int.mul_le_mul_of_nonneg_right (by omega) (by omega)
  have hq0 : 0 ≤ v / P % 256 * P := Int.mul_nonneg q0 (by omega)
  have e : v = (v % P + v / P % 256 * P) + (v / P / 256) * (P * 256) := by
    have h3 : P * (v / P) = v / P % 256 * P + (v / P / 256) * (P * 256) := by
      have h4 : P * (v / P) = P * (v / P % 256 + 256 * (v / P / 256)) := by rw [h2]
      rw [h4, Int.mul_add, Int.mul_comm P (v / P % 256), ← Int.mul_assoc, Int.mul_comm (P * 256)]
    omega
  have h5 : v % (P * 256) = (v % P + v / P % 256 * P) % (P * 256) := by
    have h6 := Int.add_mul_emod_self_right (v % P + v / P % 256 * P) (v / P / 256) (P * 256)
    rw [← e] at h6
    exact h6
  rw [h5, Int.emod_eq_of_lt (by omega) (by omega)]

theorem le_told (v : Int) (m : Nat) : le (told v m false) = v % (256 : Int) ^ m := by
  induction m with
  | zero => simp [told, le, Int.emod_one]
  | succ k ih =>
    rw [told_more, le_app, told_len, ih, Int.pow_succ]
    unfold byteAt
    exact (split_at v _ (Int.pow_pos (by omega))).symm
theorem val_told (v : Int) (m : Nat) (big : Bool) : val big (told v m big) = v % (256 : Int) ^ m := by
  unfold val
  cases big
  · exact le_told v m
  · simp only [if_true, told_rev, be_rev]
    exact le_told v m
end Go.Proofs.Ytnakfdaneejcfaa
