/-
  The size of a number: mathematics, no code. The contracts of Size, the program's and the reference's.
-/
import Derived.Test.YthfpdebpepbejaaDoorTake
namespace Go.Proofs.YthfpdebpepbejaaDoor
open Go.RowKit

/-- how many binary digits a number has -/
def szN (n : Nat) : Nat := if h : n = 0 then 0 else szN (n / 2) + 1
termination_by n
decreasing_by omega
theorem szN_zero : szN 0 = 0 := by rw [szN]; simp
theorem szN_pos {n : Nat} (h : n ≠ 0) : szN n = szN (n / 2) + 1 := by rw [szN]; simp [h]
/-- the size of a number -/
def sz (z : Int) : Nat := szN z.natAbs
theorem szN_le : ∀ (k n : Nat), szN n ≤ k ↔ n < 2 ^ k
  | 0, n => by
    by_cases h : n = 0
    · subst h; rw [szN_zero]; decide
    · rw [szN_pos h, Nat.pow_zero]
      omega
  | k + 1, n => by
    by_cases h : n = 0
    · subst h; rw [szN_zero]
      have := pow_pos' (k + 1)
      omega
    · rw [szN_pos h]
      have := szN_le k (n / 2)
      rw [Nat.pow_succ]
      omega
theorem szN_lt (n : Nat) : n < 2 ^ szN n := (szN_le _ _).1 (Nat.le_refl _)
theorem szN_ge {n : Nat} (h : n ≠ 0) : 2 ^ (szN n - 1) ≤ n := by
  have h1 : 0 < szN n := by rw [szN_pos h]; omega
  have := szN_le (szN n - 1) n
  omega
theorem szN_mono {m n : Nat} (h : m ≤ n) : szN m ≤ szN n := (szN_le _ _).2 (Nat.lt_of_le_of_lt h (szN_lt n))
theorem sz_zero : sz 0 = 0 := by unfold sz; exact szN_zero
theorem sz_neg (z : Int) : sz (-z) = sz z := by unfold sz; rw [Int.natAbs_neg]
theorem sz_eq_zero {z : Int} : sz z = 0 ↔ z = 0 := by
  refine ⟨fun h => ?_, fun h => by subst h; exact sz_zero⟩
  have := (szN_le 0 z.natAbs).1 (by unfold sz at h; omega)
  simp at this
  exact this
theorem sz_le {z : Int} {k : Nat} : sz z ≤ k ↔ z.natAbs < 2 ^ k := szN_le k _
theorem sz_half (z : Int) (h : z ≠ 0) : sz z = sz (z.tdiv 2) + 1 := by
  unfold sz
  rw [szN_pos (by omega), Int.natAbs_tdiv]
  rfl
end Go.Proofs.YthfpdebpepbejaaDoor

namespace Go.Proofs.YthfpdebpepbejaaDoor
open Go.RowKit

/-- what Size answers -/
def Sized (w : World) (z : Int) (e : Ending) (w' : World) : Prop := e = .returned (.int .i64 (sz z : Int)) ∧ w = w'

/-- a number that an int holds -/
def isInt (z : Int) : Prop := -9223372036854775808 ≤ z ∧ z ≤ 9223372036854775807
theorem half_abs (z : Int) : (z.tdiv 2).natAbs = z.natAbs / 2 := by rw [Int.natAbs_tdiv]; rfl
theorem isInt.half {z : Int} (h : isInt z) : isInt (z.tdiv 2) := by
  have := half_abs z
  unfold isInt at *
  omega
theorem isInt.sz {z : Int} (h : isInt z) : sz z ≤ 64 := by
  have : (2:Nat) ^ 64 = 18446744073709551616 := by decide
  refine sz_le.2 ?_
  rw [this]
  unfold isInt at h
  omega

set_option maxHeartbeats 800000 in
theorem size_any (w : World) (z : Int) (h : isInt z) : Calls Tryd.prog 14 #[.int .i64 z] w (Sized w z) := by
  have H := Lib.hid h
  clear h
  go_enter Tryd.func14, Tryd.ntmps14
  go_wp2_with fail
  go_loopw [0, 3] (fun n s wr => ∃ (y : Int) (k : Nat), isInt y ∧ n = .int .i64 y ∧ s = .int .i64 (k : Int) ∧ k + sz y = sz z ∧ wr = w) (fun n _ _ => (intOf n).natAbs)
  case atStart => exact ⟨z, 0, H.out, rfl, rfl, by omega, rfl⟩
  case round =>
    obtain ⟨y, k, hy, rfl, rfl, hk, rfl⟩ := hrel
    have hz64 := H.out.sz
    have hh := hy.half
    have HH := Lib.hid (And.intro hh (And.intro hk hy))
    have hk64 : k ≤ 64 := by omega
    obtain ⟨h0, h1⟩ := hy
    by_cases hy0 : y = 0
    · subst hy0
      have e : k = sz z := by rw [← hk, sz_zero]; rfl
      have E := Lib.hid e
      clear hh hk hz64 e
      go_wp2
      go_ret
      exact ⟨by rw [← E.out]; rfl, rfl⟩
    · have hs := sz_half y hy0
      obtain ⟨x, hx⟩ : ∃ x, x = y.tdiv 2 := ⟨_, rfl⟩
      rw [← hx] at hs hh
      have HX := Lib.hid (And.intro hs (And.intro hh hx))
      clear hh hk hz64 hs
      obtain ⟨g0, g1⟩ := HX.out.2.1
      have gd : (Int.ediv y 2 : Int) = Int.ediv y 2 := rfl
      clear gd
      go_wp2
      have hx := HX.out.2.2
      have hab := half_abs y
      rw [← hx] at hab
      refine ⟨⟨x, k + 1, HX.out.2.1, by rw [hx], by go_num, ?_, trivial⟩, ?_⟩
      · have := HX.out.1
        have := HH.out.2.1
        omega
      · rw [← hx]
        simp only [intOf]
        omega

set_option maxHeartbeats 800000 in
theorem refSize_any (w : World) (z : Int) (h : isInt z) : Calls Tryd.prog 15 #[.int .i64 z] w (Sized w z) := by
  have H := Lib.hid h
  clear h
  go_enter Tryd.func15, Tryd.ntmps15
  go_wp2_with fail
  go_loopw [0, 3] (fun n s wr => ∃ (y : Int) (k : Nat), isInt y ∧ n = .int .i64 y ∧ s = .int .i64 (k : Int) ∧ k + sz y = sz z ∧ wr = w) (fun n _ _ => (intOf n).natAbs)
  case atStart => exact ⟨z, 0, H.out, rfl, rfl, by omega, rfl⟩
  case round =>
    obtain ⟨y, k, hy, rfl, rfl, hk, rfl⟩ := hrel
    have hz64 := H.out.sz
    have hh := hy.half
    have HH := Lib.hid (And.intro hh (And.intro hk hy))
    have hk64 : k ≤ 64 := by omega
    obtain ⟨h0, h1⟩ := hy
    by_cases hy0 : y = 0
    · subst hy0
      have e : k = sz z := by rw [← hk, sz_zero]; rfl
      have E := Lib.hid e
      clear hh hk hz64 e
      go_wp2
      go_ret
      exact ⟨by rw [← E.out]; rfl, rfl⟩
    · have hs := sz_half y hy0
      obtain ⟨x, hx⟩ : ∃ x, x = y.tdiv 2 := ⟨_, rfl⟩
      rw [← hx] at hs hh
      have HX := Lib.hid (And.intro hs (And.intro hh hx))
      clear hh hk hz64 hs
      obtain ⟨g0, g1⟩ := HX.out.2.1
      have gd : (Int.ediv y 2 : Int) = Int.ediv y 2 := rfl
      clear gd
      go_wp2
      have hx := HX.out.2.2
      have hab := half_abs y
      rw [← hx] at hab
      refine ⟨⟨x, k + 1, HX.out.2.1, by rw [hx], by go_num, ?_, trivial⟩, ?_⟩
      · have := HX.out.1
        have := HH.out.2.1
        omega
      · rw [← hx]
        simp only [intOf]
        omega
end Go.Proofs.YthfpdebpepbejaaDoor
