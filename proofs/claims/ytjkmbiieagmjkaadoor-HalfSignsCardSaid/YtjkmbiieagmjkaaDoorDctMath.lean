/-
  Layer 9's mathematics, second part: numbers turned about, samples all alike, rows that are columns. No code.
-/
import Derived.Test.YtjkmbiieagmjkaaDoorDctSums
namespace Go.Proofs.YtjkmbiieagmjkaaDoor
open Go.RowKit

theorem fwdT_neg (b : List Int) (i k : Nat) : fwdT (negL b) i k = -fwdT b i k := by
  unfold fwdT
  rw [← su_neg]
  refine su_congr fun p hp => ?_
  rw [← su_neg]
  refine su_congr fun q hq => ?_
  rw [negL_at b (by omega), Int.mul_neg]
theorem invT_neg (b : List Int) (i k : Nat) : invT (negL b) i k = -invT b i k := by
  unfold invT
  rw [← su_neg]
  refine su_congr fun p hp => ?_
  rw [← su_neg]
  refine su_congr fun q hq => ?_
  rw [negL_at b (by omega), Int.mul_neg]
/-- what is turned about comes out turned about -/
theorem fwdL_neg (b : List Int) {k : Nat} (hk : k < 64) : (fwdL b).getD k 0 = -((fwdL (negL b)).getD k 0) := by
  unfold fwdL
  rw [tab_at _ hk, tab_at _ hk, fwdT_neg b, rnd_neg, Int.neg_neg]
theorem invL_neg (b : List Int) {k : Nat} (hk : k < 64) : (invL b).getD k 0 = -((invL (negL b)).getD k 0) := by
  unfold invL
  rw [tab_at _ hk, tab_at _ hk, invT_neg b, rnd_neg, Int.neg_neg]
theorem dct_turns {b : List Int} (h : Wi b (-2047) 2047) : fwdF b = (fwdL b, 0) ∧ fwdF (negL b) = (fwdL (negL b), 0) ∧ invF b = (invL b, 0) ∧ invF (negL b) = (invL (negL b), 0) := by
  have h' := wi_neg h
  refine ⟨?_, ?_, ?_, ?_⟩
  · unfold fwdF; rw [if_pos (show Wi b (-2048) 2047 from fun j hj => by have := h j hj; omega)]
  · unfold fwdF; rw [if_pos (show Wi (negL b) (-2048) 2047 from fun j hj => by have := h' j hj; omega)]
  · unfold invF; rw [if_pos (show Wi b (-1048576) 1048576 from fun j hj => by have := h j hj; omega)]
  · unfold invF; rw [if_pos (show Wi (negL b) (-1048576) 1048576 from fun j hj => by have := h' j hj; omega)]

/-- a block whose rows are the columns of another one -/
def turnL (b : List Int) : List Int := tab fun j => b.getD (8 * (j % 8) + j / 8) 0
theorem turnL_len (b : List Int) : (turnL b).length = 64 := tab_len _
theorem turnL_at (b : List Int) {p q : Nat} (hp : p < 8) (hq : q < 8) : (turnL b).getD (8 * p + q) 0 = b.getD (8 * q + p) 0 := by
  unfold turnL
  rw [tab_at _ (by omega), show (8 * p + q) % 8 = q by omega, show (8 * p + q) / 8 = p by omega]
theorem wi_turn {b : List Int} {lo hi : Int} : Wi (turnL b) lo hi ↔ Wi b lo hi := by
  constructor
  · intro h k hk
    have := h (8 * (k % 8) + k / 8) (by omega)
    rw [turnL_at b (by omega) (by omega), show 8 * (k / 8) + k % 8 = k by omega] at this
    exact this
  · intro h k hk
    rw [show k = 8 * (k / 8) + k % 8 by omega, turnL_at b (by omega) (by omega)]
    exact h _ (by omega)
theorem fwdT_turn (b : List Int) (i k : Nat) : fwdT (turnL b) k i = fwdT b i k := by
  unfold fwdT
  rw [su_swap]
  refine su_congr fun p hp => su_congr fun q hq => ?_
  rw [turnL_at b (by omega) (by omega), Int.mul_comm (wv k q)]
theorem invT_turn (b : List Int) (i k : Nat) : invT (turnL b) k i = invT b i k := by
  unfold invT
  rw [su_swap]
  refine su_congr fun p hp => su_congr fun q hq => ?_
  rw [turnL_at b (by omega) (by omega), Int.mul_comm (wv q k)]
/-- rows that are columns come out as rows that are columns -/
theorem fwdF_turn (b : List Int) : (fwdF (turnL b)).2 = (fwdF b).2 ∧ ∀ k, k < 64 → (fwdF b).1.getD k 0 = (fwdF (turnL b)).1.getD (k % 8 * 8 + k / 8) 0 := by
  by_cases h : Wi b (-2048) 2047
  · have e1 : fwdF b = (fwdL b, 0) := by unfold fwdF; rw [if_pos h]
    have e2 : fwdF (turnL b) = (fwdL (turnL b), 0) := by unfold fwdF; rw [if_pos (wi_turn.2 h)]
    rw [e1, e2]
    refine ⟨rfl, fun k hk => ?_⟩
    have a1 := fwdL_at b (u := k / 8) (v := k % 8) (by omega) (by omega)
    have a2 := fwdL_at (turnL b) (u := k % 8) (v := k / 8) (by omega) (by omega)
    rw [show 8 * (k / 8) + k % 8 = k by omega] at a1
    rw [show 8 * (k % 8) + k / 8 = k % 8 * 8 + k / 8 by omega] at a2
    show (fwdL b).getD k 0 = (fwdL (turnL b)).getD (k % 8 * 8 + k / 8) 0
    rw [a1, a2, fwdT_turn b]
  · have e1 : fwdF b = (zeros64, 2) := by unfold fwdF; rw [if_neg h]
    have e2 : fwdF (turnL b) = (zeros64, 2) := by unfold fwdF; rw [if_neg (fun e => h (wi_turn.1 e))]
    rw [e1, e2]
    refine ⟨rfl, fun k hk => ?_⟩
    show zeros64.getD _ 0 = zeros64.getD _ 0
    rw [zeros_at, zeros_at]
theorem invF_turn (b : List Int) : (invF (turnL b)).2 = (invF b).2 ∧ ∀ k, k < 64 → (invF b).1.getD k 0 = (invF (turnL b)).1.getD (k % 8 * 8 + k / 8) 0 := by
  by_cases h : Wi b (-1048576) 1048576
  · have e1 : invF b = (invL b, 0) := by unfold invF; rw [if_pos h]
    have e2 : invF (turnL b) = (invL (turnL b), 0) := by unfold invF; rw [if_pos (wi_turn.2 h)]
    rw [e1, e2]
    refine ⟨rfl, fun k hk => ?_⟩
    have a1 := invL_at b (u := k / 8) (v := k % 8) (by omega) (by omega)
    have a2 := invL_at (turnL b) (u := k % 8) (v := k / 8) (by omega) (by omega)
    rw [show 8 * (k / 8) + k % 8 = k by omega] at a1
    rw [show 8 * (k % 8) + k / 8 = k % 8 * 8 + k / 8 by omega] at a2
    show (invL b).getD k 0 = (invL (turnL b)).getD (k % 8 * 8 + k / 8) 0
    rw [a1, a2, invT_turn b]
  · have e1 : invF b = (zeros64, 2) := by unfold invF; rw [if_neg h]
    have e2 : invF (turnL b) = (zeros64, 2) := by unfold invF; rw [if_neg (fun e => h (wi_turn.1 e))]
    rw [e1, e2]
    refine ⟨rfl, fun k hk => ?_⟩
    show zeros64.getD _ 0 = zeros64.getD _ 0
    rw [zeros_at, zeros_at]

/-- samples that are all alike -/
def flatL (n : Int) : List Int := tab fun _ => n
theorem flatL_len (n : Int) : (flatL n).length = 64 := tab_len _
theorem flatL_at (n : Int) {k : Nat} (hk : k < 64) : (flatL n).getD k 0 = n := tab_at _ hk
theorem rows_none : ∀ u, u < 8 → 0 < u → su (wv u) 8 = 0 := by decide +kernel
theorem fwdT_flat (n : Int) (i k : Nat) : fwdT (flatL n) i k = su (wv i) 8 * (su (wv k) 8 * n) := by
  unfold fwdT
  rw [su_congr (g := fun p => wv i p * (su (wv k) 8 * n)) (fun p hp => ?_), su_mul_right]
  rw [← su_mul_right, ← su_mul]
  refine su_congr fun q hq => ?_
  rw [flatL_at n (by omega), Int.mul_assoc]
/-- samples that are all alike have no wave but the first -/
theorem fwdL_flat (n : Int) {k : Nat} (hk : k < 64) (h0 : 0 < k) : (fwdL (flatL n)).getD k 0 = 0 := by
  have a := fwdL_at (flatL n) (u := k / 8) (v := k % 8) (by omega) (by omega)
  rw [show 8 * (k / 8) + k % 8 = k by omega] at a
  rw [a, fwdT_flat]
  have e : su (wv (k / 8)) 8 * (su (wv (k % 8)) 8 * n) = 0 := by
    by_cases h : 0 < k / 8
    · rw [rows_none _ (by omega) h, Int.zero_mul]
    · rw [rows_none (k % 8) (by omega) (by omega), Int.zero_mul, Int.mul_zero]
  rw [e]
  decide
theorem flat_wi (n lo hi : Int) : Wi (flatL n) lo hi ↔ lo ≤ n ∧ n ≤ hi := by
  constructor
  · intro h
    have := h 0 (by omega)
    rwa [flatL_at n (by omega)] at this
  · intro h k hk
    rw [flatL_at n hk]
    exact h
end Go.Proofs.YtjkmbiieagmjkaaDoor
