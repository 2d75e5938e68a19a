/-
  Numbers as bytes: plain mathematics, no program.
-/
import Derived.Test.YtnakfdaneejcfaaCFail
import Derived.WalkKit
namespace Go.Proofs.Ytnakfdaneejcfaa
open Go.RowKit

/-- the number of bytes, the least one first -/
def le : List Int → Int
  | [] => 0
  | z :: r => z + 256 * le r

/-- the number of bytes, the greatest one first, behind a number -/
def beOn (a : Int) : List Int → Int
  | [] => a
  | z :: r => beOn (a * 256 + z) r
def be (l : List Int) : Int := beOn 0 l

theorem le_app (l : List Int) (z : Int) : le (l ++ [z]) = le l + z * (256 : Int) ^ l.length := by
  induction l with
  | nil => simp [le]
  | cons x r ih =>
    simp only [List.cons_append, le, ih, List.length_cons, Int.pow_succ, Int.mul_add]
    have : 256 * (z * (256 : Int) ^ r.length) = z * ((256 : Int) ^ r.length * 256) := by
      rw [Int.mul_comm 256 (z * _), Int.mul_assoc]
    omega
theorem beOn_app (l : List Int) (z : Int) : ∀ a, beOn a (l ++ [z]) = beOn a l * 256 + z := by
  induction l with
  | nil => intro a; simp [beOn]
  | cons x r ih => intro a; simp [beOn, ih]
theorem be_app (l : List Int) (z : Int) : be (l ++ [z]) = be l * 256 + z := beOn_app l z 0

theorem le_bounds (l : List Int) (h : Fit l) : 0 ≤ le l ∧ le l < (256 : Int) ^ l.length := by
  induction l with
  | nil => simp [le]
  | cons x r ih =>
    have hx := h x (by simp)
    have hr := ih (fun z hz => h z (by simp [hz]))
    simp only [le, List.length_cons, Int.pow_succ]
    omega
theorem be_rev (l : List Int) : be l.reverse = le l := by
  induction l with
  | nil => rfl
  | cons x r ih => rw [List.reverse_cons, be_app, ih]; simp only [le]; omega
theorem be_is (l : List Int) : be l = le l.reverse := by
  have := be_rev l.reverse
  rwa [List.reverse_reverse] at this
theorem be_bounds (l : List Int) (h : Fit l) : 0 ≤ be l ∧ be l < (256 : Int) ^ l.length := by
  rw [be_is]
  have := le_bounds l.reverse h.rev
  rwa [List.length_reverse] at this

/-- the number that bytes are told as -/
def val (big : Bool) (l : List Int) : Int := if big then be l else le l
theorem val_bounds (big : Bool) (l : List Int) (h : Fit l) : 0 ≤ val big l ∧ val big l < (256 : Int) ^ l.length := by
  unfold val
  split
  · exact be_bounds l h
  · exact le_bounds l h

/-- bits that lie apart are added -/
theorem or_apart (x y s : Nat) (h : y < 2 ^ s) : (x * 2 ^ s) ||| y = x * 2 ^ s + y := by
  rw [← Nat.shiftLeft_eq, Nat.shiftLeft_add_eq_or_of_lt h]

theorem pow_256 (k : Nat) : (256 : Int) ^ k = 2 ^ (8 * k) := by
  rw [Int.pow_mul]; rfl
theorem pow_256n (k : Nat) : (256 : Nat) ^ k = 2 ^ (8 * k) := by
  rw [Nat.pow_mul]

theorem pow_le_u64 (k : Nat) (h : k ≤ 8) : (2 : Nat) ^ (8 * k) ≤ 18446744073709551616 := by
  have : (2 : Nat) ^ (8 * k) ≤ 2 ^ 64 := Nat.pow_le_pow_right (by omega) (by omega)
  simpa using this

/-- one byte more, the least one first -/
theorem or_little (v z : Int) (k : Nat) (hk : k < 8) (v0 : 0 ≤ v) (v1 : v < (256 : Int) ^ k) (z0 : 0 ≤ z) (z1 : z ≤ 255) :
    bits .or .u64 v (IntKind.u64.wrap (z * 2 ^ (8 * k))) = v + z * (256 : Int) ^ k := by
  obtain ⟨a, rfl⟩ := Int.eq_ofNat_of_zero_le v0
  obtain ⟨b, rfl⟩ := Int.eq_ofNat_of_zero_le z0
  have hp : ((256 : Int) ^ k) = ((256 ^ k : Nat) : Int) := by simp
  have hq : ((2 : Int) ^ (8 * k)) = ((2 ^ (8 * k) : Nat) : Int) := by simp
  have hb : b * 2 ^ (8 * k) < 2 ^ (8 * (k + 1)) := by
    have : 2 ^ (8 * (k + 1)) = 256 * 2 ^ (8 * k) := by rw [← pow_256n, ← pow_256n, Nat.pow_succ, Nat.mul_comm]
    rw [this]
    exact Nat.mul_lt_mul_of_pos_right (by omega) (Nat.two_pow_pos _)
  have hu := pow_le_u64 (k + 1) (by omega)
  have hu' := pow_le_u64 k (by omega)
  rw [hp] at v1 ⊢
  rw [pow_256n] at v1 ⊢
  have ha : a < 2 ^ (8 * k) := by omega
  rw [IntKind.wrap_u64, hq, show ((b : Nat) : Int) * ((2 ^ (8 * k) : Nat) : Int) = ((b * 2 ^ (8 * k) : Nat) : Int) from by simp]
  rw [Int.emod_eq_of_lt (by omega) (by omega)]
  rw [u64_or_nat _ _ (by omega) (by omega), Nat.or_comm, or_apart _ _ _ ha]
  omega

/-- one byte more, the greatest one first -/
theorem or_big (x z : Int) (j m : Nat) (hj : m < 8) (hjm : j + m < 8) (x0 : 0 ≤ x) (x1 : x < (256 : Int) ^ j) (z0 : 0 ≤ z) (z1 : z ≤ 255) :
    bits .or .u64 (x * (256 : Int) ^ (m + 1)) (IntKind.u64.wrap (z * 2 ^ (8 * m))) = (x * 256 + z) * (256 : Int) ^ m := by
  obtain ⟨a, rfl⟩ := Int.eq_ofNat_of_zero_le x0
  obtain ⟨b, rfl⟩ := Int.eq_ofNat_of_zero_le z0
  have hp : ∀ k : Nat, ((256 : Int) ^ k) = ((2 ^ (8 * k) : Nat) : Int) := fun k => by rw [pow_256]; simp
  have hq : ((2 : Int) ^ (8 * m)) = ((2 ^ (8 * m) : Nat) : Int) := by simp
  have hm1 : 2 ^ (8 * (m + 1)) = 256 * 2 ^ (8 * m) := by rw [← pow_256n, ← pow_256n, Nat.pow_succ, Nat.mul_comm]
  have hb : b * 2 ^ (8 * m) < 2 ^ (8 * (m + 1)) := by
    rw [hm1]
    exact Nat.mul_lt_mul_of_pos_right (by omega) (Nat.two_pow_pos _)
  have hu := pow_le_u64 (m + 1) (by omega)
  rw [hp] at x1
  have ha : a < 2 ^ (8 * j) := by omega
  have hA : a * 2 ^ (8 * (m + 1)) < 18446744073709551616 := by
    have h1 : a * 2 ^ (8 * (m + 1)) < 2 ^ (8 * j) * 2 ^ (8 * (m + 1)) := Nat.mul_lt_mul_of_pos_right ha (Nat.two_pow_pos _)
    rw [← Nat.pow_add, ← Nat.mul_add] at h1
    have h2 := pow_le_u64 (j + (m + 1)) (by omega)
    omega
  rw [IntKind.wrap_u64, hq, show ((b : Nat) : Int) * ((2 ^ (8 * m) : Nat) : Int) = ((b * 2 ^ (8 * m) : Nat) : Int) from by simp]
  rw [Int.emod_eq_of_lt (by omega) (by omega), hp, hp]
  rw [show ((a : Nat) : Int) * ((2 ^ (8 * (m + 1)) : Nat) : Int) = ((a * 2 ^ (8 * (m + 1)) : Nat) : Int) from by simp]
  rw [u64_or_nat _ _ hA (by omega), or_apart _ _ _ hb, hm1]
  simp only [Int.natCast_add, Int.natCast_mul, Int.add_mul, Int.mul_assoc]
  rfl

end Go.Proofs.Ytnakfdaneejcfaa
