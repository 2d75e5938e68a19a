/-
  Rounding: mathematics, and the contracts of Round, the program's and the reference's. The contracts of hold and scale.
-/
import Derived.Test.YtadlaljohlpabaaBlock
namespace Go.Proofs.Ytadlaljohlpabaa
open Go.RowKit

/-- a fraction that is rounded -/
def Frac (n d : Int) : Prop := 1 ≤ d ∧ d ≤ 1152921504606846976 ∧ -1152921504606846976 ≤ n ∧ n ≤ 1152921504606846976
instance (n d : Int) : Decidable (Frac n d) := by unfold Frac; infer_instance
/-- a fraction rounded -/
def rnd (n d : Int) : Int := if Frac n d then (if n < 0 then -((-n + d / 2) / d) else (n + d / 2) / d) else 0
theorem rnd_out {n d : Int} (h : ¬ Frac n d) : rnd n d = 0 := if_neg h
theorem rnd_pos {n d : Int} (h : Frac n d) (h0 : 0 ≤ n) : rnd n d = (n + d / 2) / d := by unfold rnd; rw [if_pos h, if_neg (by omega)]
theorem Frac.neg {n d : Int} (h : Frac n d) : Frac (-n) d := by unfold Frac at *; omega
theorem rnd_neg (n d : Int) : rnd (-n) d = - rnd n d := by
  by_cases h : Frac n d
  · have h' := h.neg
    by_cases h0 : n = 0
    · subst h0
      have hd := h.1
      rw [show (-0 : Int) = 0 from rfl, rnd_pos h (by omega)]
      have : (0 + d / 2) / d = 0 := Int.ediv_eq_zero_of_lt (by omega) (by omega)
      rw [this]; rfl
    · unfold rnd
      rw [if_pos h, if_pos h']
      by_cases hn : n < 0
      · rw [if_pos hn, if_neg (by omega), Int.neg_neg]
      · rw [if_neg hn, if_pos (by omega), Int.neg_neg]
  · have h' : ¬ Frac (-n) d := fun e => h (by have := e.neg; rwa [Int.neg_neg] at this)
    rw [rnd_out h, rnd_out h']; rfl

/-- what Round answers -/
def Rounded (w : World) (n d : Int) (e : Ending) (w' : World) : Prop := e = .returned (.int .i64 (rnd n d)) ∧ w = w'
/-- a number that an int holds -/
def isInt (z : Int) : Prop := -9223372036854775808 ≤ z ∧ z ≤ 9223372036854775807

set_option maxHeartbeats 800000 in
theorem round_pos (w : World) (n d : Int) (h : Frac n d) (h0 : 0 ≤ n) : Calls Try.prog 34 #[.int .i64 n, .int .i64 d] w (Rounded w n d) := by
  have e := rnd_pos h h0
  have E := Lib.hid e
  clear e
  obtain ⟨h1, h2, h3, h4⟩ := h
  go_enter Try.func34, Try.ntmps34
  go_wp2_with fail
  go_ret
  exact ⟨by rw [E.out]; rfl, rfl⟩

/-- what is no fraction is not rounded -/
theorem not_frac {n d : Int} (h : ¬ Frac n d) : d < 1 ∨ 1152921504606846976 < d ∨ n < -1152921504606846976 ∨ 1152921504606846976 < n := by unfold Frac at h; omega
theorem rnd_bound (n d : Int) : -1152921504606846976 ≤ rnd n d ∧ rnd n d ≤ 1152921504606846976 := by
  have key : ∀ m, Frac m d → 0 ≤ m → 0 ≤ (m + d / 2) / d ∧ (m + d / 2) / d ≤ 1152921504606846976 := by
    intro m hm h0
    obtain ⟨h1, h2, h3, h4⟩ := hm
    refine ⟨Int.ediv_nonneg (by omega) (by omega), ?_⟩
    by_cases e : d = 1
    · subst e; omega
    · have : (m + d / 2) / d < 1152921504606846977 := Int.ediv_lt_of_lt_mul (by omega) (by omega)
      omega
  by_cases h : Frac n d
  · by_cases h0 : 0 ≤ n
    · rw [rnd_pos h h0]; have := key n h h0; omega
    · have e := rnd_neg n d
      rw [rnd_pos h.neg (by omega)] at e
      have := key (-n) h.neg (by omega)
      omega
  · rw [rnd_out h]; omega

set_option maxHeartbeats 800000 in
theorem round_any (w : World) (n d : Int) (hn : isInt n) (hd : isInt d) : Calls Try.prog 34 #[.int .i64 n, .int .i64 d] w (Rounded w n d) := by
  by_cases h : Frac n d
  · by_cases h0 : 0 ≤ n
    · exact round_pos w n d h h0
    · have e := rnd_neg n d
      have hc := round_pos w (-n) d h.neg (by omega)
      unfold Rounded at hc
      rw [e] at hc
      have hb := rnd_bound n d
      obtain ⟨x, hx⟩ : ∃ x, x = rnd n d := ⟨_, rfl⟩
      rw [← hx] at hc hb
      have HC := Lib.hid (And.intro hc hx)
      clear hc hx e
      obtain ⟨h1, h2, h3, h4⟩ := h
      obtain ⟨b1, b2⟩ := hb
      go_enter Try.func34, Try.ntmps34
      go_wp2_with fail
      refine HC.out.1.mono ?_
      rintro e w2 ⟨rfl, rfl⟩
      go_wp2
      go_ret
      exact ⟨by rw [← HC.out.2]; rfl, rfl⟩
  · have e := rnd_out h
    have E := Lib.hid e
    clear e
    obtain ⟨n0, n1⟩ := hn
    obtain ⟨d0, d1⟩ := hd
    rcases not_frac h with h1 | h1 | h1 | h1
    all_goals
      clear h
      go_enter Try.func34, Try.ntmps34
      go_wp2
      all_goals (go_ret; exact ⟨by rw [E.out]; rfl, rfl⟩)

/-- the reference rounds so -/
theorem rnd_ref {n d : Int} (h : Frac n d) (h0 : 0 ≤ n) : (n - n / d * d ≥ (n / d + 1) * d - n → rnd n d = n / d + 1) ∧ (¬ n - n / d * d ≥ (n / d + 1) * d - n → rnd n d = n / d) := by
  rw [rnd_pos h h0]
  obtain ⟨h1, _⟩ := h
  have e := Int.mul_ediv_add_emod n d
  have r0 := Int.emod_nonneg n (show d ≠ 0 by omega)
  have r1 := Int.emod_lt_of_pos n (show 0 < d by omega)
  obtain ⟨q, hq⟩ : ∃ q, q = n / d := ⟨_, rfl⟩
  obtain ⟨r, hr⟩ : ∃ r, r = n % d := ⟨_, rfl⟩
  rw [← hq, ← hr] at e
  rw [← hr] at r0 r1
  rw [← hq]
  have e2 : (q + 1) * d = d * q + d := by rw [Int.add_mul, Int.one_mul, Int.mul_comm]
  have e3 : q * d = d * q := Int.mul_comm _ _
  rw [e2, e3]
  refine ⟨fun hh => ?_, fun hh => ?_⟩
  · have : n + d / 2 = (r + d / 2 - d) + d * (q + 1) := by rw [Int.mul_add, Int.mul_one]; omega
    rw [this, Int.add_mul_ediv_left _ _ (by omega), Int.ediv_eq_zero_of_lt (by omega) (by omega)]
    omega
  · have : n + d / 2 = (r + d / 2) + d * q := by omega
    rw [this, Int.add_mul_ediv_left _ _ (by omega), Int.ediv_eq_zero_of_lt (by omega) (by omega)]
    omega

set_option maxHeartbeats 800000 in
theorem refRound_pos (w : World) (n d : Int) (h : Frac n d) (h0 : 0 ≤ n) : Calls Try.prog 36 #[.int .i64 n, .int .i64 d] w (Rounded w n d) := by
  have hh := rnd_ref h h0
  obtain ⟨h1, h2, h3, h4⟩ := h
  have hq0 : 0 ≤ n / d := Int.ediv_nonneg h0 (by omega)
  have hq1 : n / d ≤ n := Int.ediv_le_self _ h0
  have hm0 : 0 ≤ n / d * d := Int.mul_nonneg hq0 (by omega)
  have hm1 : n / d * d ≤ n := Int.ediv_mul_le n (by omega)
  have hm2 : (n / d + 1) * d = n / d * d + d := by rw [Int.add_mul, Int.one_mul]
  rw [hm2] at hh
  have hqd : ∀ q, q = n / d → (n / d + 1) * d = q * d + d := fun q e => by rw [e, hm2]
  obtain ⟨q, hq⟩ : ∃ q, q = n / d := ⟨_, rfl⟩
  have hmq := hqd q hq
  rw [← hq] at hh hq0 hq1 hm0 hm1 hm2
  obtain ⟨m, hm⟩ : ∃ m, m = q * d := ⟨_, rfl⟩
  rw [← hm] at hh hm0 hm1 hm2
  have hq' := hq.symm
  have hm' := hm.symm
  have H := Lib.hid (And.intro hh (And.intro hq hm))
  clear hh hq hm hqd hmq
  by_cases hc : n - m ≥ m + d - n
  · have E := Lib.hid (H.out.1.1 hc)
    go_enter Try.func36, Try.ntmps36
    go_wp2_with fail
    go_ret
    exact ⟨by rw [E.out]; rfl, rfl⟩
  · have E := Lib.hid (H.out.1.2 hc)
    go_enter Try.func36, Try.ntmps36
    go_wp2_with fail
    go_ret
    exact ⟨by rw [E.out]; rfl, rfl⟩

set_option maxHeartbeats 800000 in
theorem refRound_any (w : World) (n d : Int) (hn : isInt n) (hd : isInt d) : Calls Try.prog 36 #[.int .i64 n, .int .i64 d] w (Rounded w n d) := by
  by_cases h : Frac n d
  · by_cases h0 : 0 ≤ n
    · exact refRound_pos w n d h h0
    · have e := rnd_neg n d
      have hc := refRound_pos w (-n) d h.neg (by omega)
      unfold Rounded at hc
      rw [e] at hc
      have hb := rnd_bound n d
      obtain ⟨x, hx⟩ : ∃ x, x = rnd n d := ⟨_, rfl⟩
      rw [← hx] at hc hb
      have e0 : 0 - n = -n := by omega
      have e1 : 0 - -x = x := by omega
      have HC := Lib.hid (And.intro hc hx)
      clear hc hx e
      obtain ⟨h1, h2, h3, h4⟩ := h
      obtain ⟨b1, b2⟩ := hb
      go_enter Try.func36, Try.ntmps36
      go_wp2_with fail
      refine HC.out.1.mono ?_
      rintro e w2 ⟨rfl, rfl⟩
      go_wp2
      go_ret
      exact ⟨by rw [← HC.out.2]; rfl, rfl⟩
  · have e := rnd_out h
    have E := Lib.hid e
    clear e
    obtain ⟨n0, n1⟩ := hn
    obtain ⟨d0, d1⟩ := hd
    rcases not_frac h with h1 | h1 | h1 | h1
    all_goals
      clear h
      go_enter Try.func36, Try.ntmps36
      go_wp2
      all_goals (go_ret; exact ⟨by rw [E.out]; rfl, rfl⟩)

/-- a number held between two -/
def held (z lo hi : Int) : Int := if z < lo then lo else if hi < z then hi else z
end Go.Proofs.Ytadlaljohlpabaa
