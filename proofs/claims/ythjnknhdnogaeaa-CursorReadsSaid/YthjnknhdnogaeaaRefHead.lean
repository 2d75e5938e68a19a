/-
  The contract of the reference's Number, where there are enough bytes.
-/
import Derived.Test.YthjnknhdnogaeaaRefNum
namespace Go.Proofs.Ythjnknhdnogaeaa
open Go.RowKit

theorem beOn_eq (l : List Int) : ∀ a, beOn a l = a * (256 : Int) ^ l.length + be l := by
  induction l with
  | nil => intro a; simp [beOn, be]
  | cons z r ih =>
    intro a
    have h1 := ih (a * 256 + z)
    have h2 := ih (0 * 256 + z)
    simp only [be, beOn, List.length_cons, Int.pow_succ, Int.zero_mul, Int.zero_add] at *
    rw [h1, h2, Int.add_mul, Int.mul_assoc, Int.mul_comm 256]
    omega
theorem be_cons (z : Int) (r : List Int) : be (z :: r) = z * (256 : Int) ^ r.length + be r := by
  have := beOn_eq r z
  simpa [be, beOn] using this
theorem be_head (L : List Int) (hf : Fit L) (h8 : L.length = 8) : 128 ≤ L.getD 0 0 ↔ 9223372036854775807 < be L := by
  cases L with
  | nil => simp at h8
  | cons z r =>
    have hr : r.length = 7 := by simpa using h8
    have hb := be_bounds r (fun y hy => hf y (by simp [hy]))
    rw [be_cons, hr] at *
    simp only [List.getD_cons_zero]
    have e : (256 : Int) ^ 7 = 72057594037927936 := by decide +kernel
    rw [e] at *
    omega
theorem be_part (L : List Int) (hf : Fit L) (k : Nat) : be (L.take k) ≤ be L := by
  have h := List.take_append_drop k L
  have hd := be_bounds (L.drop k) (hf.drop k)
  have ht := be_bounds (L.take k) (hf.take k)
  have e : be L = be (L.take k) * (256 : Int) ^ (L.drop k).length + be (L.drop k) := by
    conv => lhs; rw [← h]
    have : ∀ (a b : List Int) (x : Int), beOn x (a ++ b) = beOn (beOn x a) b := by
      intro a
      induction a with
      | nil => intro b x; rfl
      | cons z r ih => intro b x; simp [beOn, ih]
    rw [be, this, beOn_eq]
    rfl
  have hp : (1 : Int) ≤ (256 : Int) ^ (L.drop k).length := by
    have : (0 : Int) < (256 : Int) ^ (L.drop k).length := Int.pow_pos (by omega)
    omega
  have h3 : be (L.take k) * 1 ≤ be (L.take k) * (256 : Int) ^ (L.drop k).length := Int.mul_le_mul_of_nonneg_left hp ht.1
  omega

end Go.Proofs.Ythjnknhdnogaeaa
