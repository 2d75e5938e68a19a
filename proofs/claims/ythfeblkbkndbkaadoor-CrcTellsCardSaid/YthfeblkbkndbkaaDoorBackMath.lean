/-
  A sealed text with a byte of it turned: plain mathematics.
-/
import Derived.Test.YthfeblkbkndbkaaDoorRefSeal
namespace Go.Proofs.YthfeblkbkndbkaaDoor

theorem sealed_take (l : List Int) : (sealed l).take l.length = l := by simp [sealed]
theorem sealed_drop (l : List Int) : (sealed l).drop l.length = told ((sum l : Nat) : Int) 4 false := by simp [sealed]
theorem sum32 {l : List Int} (h : Fit l) : sum l < 4294967296 := sum_lt h.toNat
theorem le_sum {l : List Int} (h : Fit l) : le (told ((sum l : Nat) : Int) 4 false) = ((sum l : Nat) : Int) :=
  (told_iff _ (sum l) (told_fit _ _ _) (told_len _ _ _) (sum32 h)).2 rfl
/-- Check takes what Seal tells -/
theorem sealed_ok {l : List Int} (h : Fit l) : ((sum ((sealed l).take l.length) : Nat) : Int) = le ((sealed l).drop l.length) := by
  rw [sealed_take, sealed_drop, le_sum h]
theorem Fit.set {l : List Int} (h : Fit l) (i : Nat) (z : Int) (h0 : 0 ≤ z) (h1 : z ≤ 255) : Fit (l.set i z) := by
  intro x hx
  rcases List.mem_or_eq_of_mem_set hx with h2 | h2
  · exact h x h2
  · subst h2; exact ⟨h0, h1⟩
theorem set_same (l : List Int) (i : Nat) (hi : i < l.length) : l.set i (l.getD i 0) = l := by
  rw [List.getD_eq_getElem?_getD, List.getElem?_eq_getElem hi]
  simp
/-- and takes it no more with a byte of it turned -/
theorem turned_bad {l : List Int} (h : Fit l) (i z b : Nat) (hi : i < l.length + 4) (hz : (z : Int) = (sealed l).getD i 0) (hb : b < 256) (h0 : b ≠ 0) :
    ((sum (((sealed l).set i ((z ^^^ b : Nat) : Int)).take l.length) : Nat) : Int) ≠ le (((sealed l).set i ((z ^^^ b : Nat) : Int)).drop l.length) := by
  have hz2 : z < 256 := by have := (sealed_fit h).getD i; omega
  have hzb : z ^^^ b < 256 := Nat.xor_lt_two_pow (n := 8) hz2 hb
  by_cases hl : i < l.length
  · have e1 : ((sealed l).set i ((z ^^^ b : Nat) : Int)).take l.length = l.set i ((z ^^^ b : Nat) : Int) := by
      rw [sealed, List.set_append_left _ _ hl]; simp
    have e2 : ((sealed l).set i ((z ^^^ b : Nat) : Int)).drop l.length = told ((sum l : Nat) : Int) 4 false := by
      rw [sealed, List.set_append_left _ _ hl]; simp
    have e3 : (l.getD i 0).toNat = z := by
      have : (sealed l).getD i 0 = l.getD i 0 := by
        simp only [List.getD_eq_getElem?_getD, sealed]
        rw [List.getElem?_append_left hl]
      rw [← this, ← hz]; simp
    rw [e1, e2, le_sum h]
    have := byte_tells l i b hl hb h0
    rw [e3] at this
    intro e
    exact this (by exact_mod_cast e)
  · have e1 : ((sealed l).set i ((z ^^^ b : Nat) : Int)).take l.length = l := by
      rw [sealed, List.set_append_right _ _ (by omega)]; simp
    have e2 : ((sealed l).set i ((z ^^^ b : Nat) : Int)).drop l.length = (told ((sum l : Nat) : Int) 4 false).set (i - l.length) ((z ^^^ b : Nat) : Int) := by
      rw [sealed, List.set_append_right _ _ (by omega)]; simp
    rw [e1, e2]
    intro e
    have h2 := (told_iff _ (sum l) ((told_fit _ _ _).set (i - l.length) ((z ^^^ b : Nat) : Int) (by omega) (by omega)) (by rw [List.length_set, told_len]) (sum32 h)).1 e.symm
    have h3 : ((told ((sum l : Nat) : Int) 4 false).set (i - l.length) ((z ^^^ b : Nat) : Int)).getD (i - l.length) 0 = ((z ^^^ b : Nat) : Int) := by
      simp only [List.getD_eq_getElem?_getD]
      rw [List.getElem?_set_self (by rw [told_len]; omega)]
      rfl
    have h4 : (sealed l).getD i 0 = (told ((sum l : Nat) : Int) 4 false).getD (i - l.length) 0 := by
      simp only [List.getD_eq_getElem?_getD, sealed]
      rw [List.getElem?_append_right (by omega)]
    rw [h2, ← h4, ← hz] at h3
    have h5 : z = z ^^^ b := by exact_mod_cast h3
    have h6 : z ^^^ z = z ^^^ (z ^^^ b) := by rw [← h5]
    rw [← Nat.xor_assoc, Nat.xor_self, Nat.zero_xor] at h6
    exact h0 h6.symm

end Go.Proofs.YthfeblkbkndbkaaDoor
