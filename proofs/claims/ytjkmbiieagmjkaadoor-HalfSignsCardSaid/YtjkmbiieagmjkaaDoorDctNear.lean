/-
  Layer 9's mathematics, third part: forward and back a block of samples of -128 to 127 is off by 4 at most. No code.
-/
import Derived.Test.YtjkmbiieagmjkaaDoorDctMath
namespace Go.Proofs.YtjkmbiieagmjkaaDoor
open Go.RowKit

/-- a fraction rounded is off by half a part at most -/
theorem rnd_off {n d : Int} (h : Frac n d) : 2 * (rnd n d * d - n) ≤ d ∧ -d ≤ 2 * (rnd n d * d - n) := by
  have key : ∀ n, Frac n d → 0 ≤ n → 2 * (rnd n d * d - n) ≤ d ∧ -d ≤ 2 * (rnd n d * d - n) := by
    intro n h h0
    rw [rnd_pos h h0]
    have e := Int.mul_ediv_add_emod (n + d / 2) d
    have r0 := Int.emod_nonneg (n + d / 2) (show d ≠ 0 by have := h.1; omega)
    have r1 := Int.emod_lt_of_pos (n + d / 2) (show 0 < d by have := h.1; omega)
    rw [Int.mul_comm] at e
    obtain ⟨Q, hQ⟩ : ∃ Q, Q = (n + d / 2) / d * d := ⟨_, rfl⟩
    rw [← hQ] at e ⊢
    omega
  by_cases h0 : 0 ≤ n
  · exact key n h h0
  · have h1 := key (-n) h.neg (by omega)
    rw [rnd_neg, Int.neg_mul] at h1
    omega

/-- the waves' products, column by column -/
def kk (y p : Nat) : Int := su (fun u => wv u y * wv u p) 8
/-- what a sample's sum is off by, from one sample -/
def dd (y x p q : Nat) : Int := kk y p * kk x q - (if p = y then (if q = x then 4503599627370496 else 0) else 0)
theorem near_numbers : ∀ y, y < 8 → ∀ x, x < 8 → 128 * su (fun p => su (fun q => ((dd y x p q).natAbs : Int)) 8) 8 ≤ 1125899906842624 := by decide +kernel

/-- the waves of the waves are the samples, nearly -/
theorem back_sum (b : List Int) (y x : Nat) : su (fun u => su (fun v => wv u y * wv v x * fwdT b u v) 8) 8 = su (fun p => su (fun q => kk y p * kk x q * b.getD (8 * p + q) 0) 8) 8 := by
  have h1 : ∀ u v, wv u y * wv v x * fwdT b u v = su (fun p => su (fun q => (wv u y * wv u p) * ((wv v x * wv v q) * b.getD (8 * p + q) 0)) 8) 8 := fun u v => by
    unfold fwdT
    rw [← su_mul]
    refine su_congr fun p _ => ?_
    rw [← su_mul]
    refine su_congr fun q _ => ?_
    simp only [Int.mul_assoc, Int.mul_left_comm]
  have h2 : su (fun u => su (fun v => wv u y * wv v x * fwdT b u v) 8) 8 = su (fun u => su (fun p => su (fun q => su (fun v => (wv u y * wv u p) * ((wv v x * wv v q) * b.getD (8 * p + q) 0)) 8) 8) 8) 8 := by
    refine su_congr fun u _ => ?_
    rw [su_congr (fun v _ => h1 u v), su_swap]
    refine su_congr fun p _ => ?_
    rw [su_swap]
  rw [h2, su_swap]
  refine su_congr fun p _ => ?_
  rw [su_swap]
  refine su_congr fun q _ => ?_
  have h3 : ∀ u, su (fun v => (wv u y * wv u p) * ((wv v x * wv v q) * b.getD (8 * p + q) 0)) 8 = (wv u y * wv u p) * (kk x q * b.getD (8 * p + q) 0) := fun u => by
    rw [su_mul, su_mul_right]
    rfl
  rw [su_congr (fun u _ => h3 u), su_mul_right, Int.mul_assoc]
  rfl
theorem su_sub (f g : Nat → Int) (n : Nat) : su (fun i => f i - g i) n = su f n - su g n := by
  rw [su_congr (g := fun i => f i + -g i) (fun i _ => by omega), su_add, su_neg]
  omega
/-- the samples' sum, and the sample -/
theorem back_near {b : List Int} (h : Wi b (-128) 128) {y x : Nat} (hy : y < 8) (hx : x < 8) :
    -1125899906842624 ≤ su (fun p => su (fun q => kk y p * kk x q * b.getD (8 * p + q) 0) 8) 8 - 4503599627370496 * b.getD (8 * y + x) 0 ∧
    su (fun p => su (fun q => kk y p * kk x q * b.getD (8 * p + q) 0) 8) 8 - 4503599627370496 * b.getD (8 * y + x) 0 ≤ 1125899906842624 := by
  have e1 : 4503599627370496 * b.getD (8 * y + x) 0 = su (fun p => su (fun q => (if p = y then (if q = x then 4503599627370496 else 0) else 0) * b.getD (8 * p + q) 0) 8) 8 := by
    have h1 : ∀ p, su (fun q => (if p = y then (if q = x then (4503599627370496 : Int) else 0) else 0) * b.getD (8 * p + q) 0) 8 = if p = y then 4503599627370496 * b.getD (8 * p + x) 0 else 0 := fun p => by
      by_cases hp : p = y
      · rw [if_pos hp, ← su_only (fun q => 4503599627370496 * b.getD (8 * p + q) 0) x 8 hx]
        refine su_congr fun q _ => ?_
        rw [if_pos hp]
        by_cases hq : q = x
        · rw [if_pos hq, if_pos hq]
        · rw [if_neg hq, if_neg hq, Int.zero_mul]
      · rw [if_neg hp, su_congr (g := fun _ => 0) (fun q _ => by rw [if_neg hp, Int.zero_mul]), su_none]
    rw [su_congr (fun p _ => h1 p), su_only (fun p => 4503599627370496 * b.getD (8 * p + x) 0) y 8 hy]
  rw [e1, ← su_sub]
  have e2 : ∀ p, su (fun q => kk y p * kk x q * b.getD (8 * p + q) 0) 8 - su (fun q => (if p = y then (if q = x then (4503599627370496 : Int) else 0) else 0) * b.getD (8 * p + q) 0) 8 = su (fun q => dd y x p q * b.getD (8 * p + q) 0) 8 := fun p => by
    rw [← su_sub]
    refine su_congr fun q _ => ?_
    unfold dd
    rw [Int.sub_mul]
  rw [su_congr (fun p _ => e2 p)]
  have hn := near_numbers y hy x hx
  have hb : -su (fun p => su (fun q => ((dd y x p q).natAbs : Int) * 128) 8) 8 ≤ su (fun p => su (fun q => dd y x p q * b.getD (8 * p + q) 0) 8) 8 ∧ su (fun p => su (fun q => dd y x p q * b.getD (8 * p + q) 0) 8) 8 ≤ su (fun p => su (fun q => ((dd y x p q).natAbs : Int) * 128) 8) 8 :=
    su_two fun p hp => su_two fun q hq => mul_abs (h (8 * p + q) (by omega)).1 (h (8 * p + q) (by omega)).2
  have e3 : su (fun p => su (fun q => ((dd y x p q).natAbs : Int) * 128) 8) 8 = su (fun p => su (fun q => ((dd y x p q).natAbs : Int)) 8) 8 * 128 := by
    rw [su_congr (fun p _ => su_mul_right 128 _ 8), su_mul_right]
  rw [e3] at hb
  omega
theorem wi_128 {b : List Int} (h : Wi b (-128) 127) : Wi b (-128) 128 := fun k hk => by have := h k hk; omega
/-- the waves of samples -/
theorem fwdL_small {b : List Int} (h : Wi b (-128) 128) : Wi (fwdL b) (-1048576) 1048576 := fun k hk => by
  have a := fwdL_at b (u := k / 8) (v := k % 8) (by omega) (by omega)
  rw [show 8 * (k / 8) + k % 8 = k by omega] at a
  rw [a]
  have t := fwdT_small h (by omega) (i := k / 8) (k := k % 8) (by omega) (by omega)
  have r := rnd_off (n := fwdT b (k / 8) (k % 8)) (d := 67108864) (by unfold Frac; omega)
  omega
/-- forward and back is off by 4 at most -/
theorem dct_near {b : List Int} (h : Wi b (-128) 127) : fwdF b = (fwdL b, 0) ∧ invF (fwdL b) = (invL (fwdL b), 0) ∧ ∀ k, k < 64 → -4 ≤ b.getD k 0 - (invL (fwdL b)).getD k 0 ∧ b.getD k 0 - (invL (fwdL b)).getD k 0 ≤ 4 := by
  have h8 := wi_128 h
  have hs := fwdL_small h8
  refine ⟨by unfold fwdF; rw [if_pos (show Wi b (-2048) 2047 from fun k hk => by have := h k hk; omega)], by unfold invF; rw [if_pos hs], fun k hk => ?_⟩
  have a := invL_at (fwdL b) (u := k / 8) (v := k % 8) (by omega) (by omega)
  rw [show 8 * (k / 8) + k % 8 = k by omega] at a
  rw [a]
  obtain ⟨y, hy⟩ : ∃ y, y = k / 8 := ⟨_, rfl⟩
  obtain ⟨x, hx⟩ : ∃ x, x = k % 8 := ⟨_, rfl⟩
  have hy8 : y < 8 := by omega
  have hx8 : x < 8 := by omega
  rw [← hy, ← hx, show b.getD k 0 = b.getD (8 * y + x) 0 by rw [show 8 * y + x = k by omega]]
  -- the waves are their sums, but for what was rounded
  have hU : 67108864 * invT (fwdL b) y x = su (fun u => su (fun v => wv u y * wv v x * fwdT b u v) 8) 8 + su (fun u => su (fun v => wv u y * wv v x * (rnd (fwdT b u v) 67108864 * 67108864 - fwdT b u v)) 8) 8 := by
    unfold invT
    rw [← su_add, ← su_mul]
    refine su_congr fun u hu => ?_
    rw [← su_add, ← su_mul]
    refine su_congr fun v hv => ?_
    rw [fwdL_at b hu hv, ← Int.mul_add, Int.mul_left_comm, Int.mul_comm 67108864]
    congr 1
    omega
  have hR := sum_small (c := fun u => wv u y) (d := fun v => wv v x) (z := fun u v => rnd (fwdT b u v) 67108864 * 67108864 - fwdT b u v) (M := 33554432) (fun u hu v hv => by
    have t := fwdT_small h8 (by omega) hu hv
    have r := rnd_off (n := fwdT b u v) (d := 67108864) (by unfold Frac; omega)
    show -33554432 ≤ rnd (fwdT b u v) 67108864 * 67108864 - fwdT b u v ∧ rnd (fwdT b u v) 67108864 * 67108864 - fwdT b u v ≤ 33554432
    omega)
  have c1 := colA_is y hy8
  have c2 := colA_is x hx8
  unfold colA at c1 c2
  rw [c1, c2] at hR
  have hA := back_sum b y x
  have hN := back_near h8 hy8 hx8
  have t := invT_small hs hy8 hx8
  have r := rnd_off (n := invT (fwdL b) y x) (d := 67108864) (by unfold Frac; omega)
  rw [hA] at hU
  obtain ⟨G, hG⟩ : ∃ G, G = rnd (invT (fwdL b) y x) 67108864 := ⟨_, rfl⟩
  rw [← hG] at r ⊢
  clear hG
  omega
end Go.Proofs.YtjkmbiieagmjkaaDoor
