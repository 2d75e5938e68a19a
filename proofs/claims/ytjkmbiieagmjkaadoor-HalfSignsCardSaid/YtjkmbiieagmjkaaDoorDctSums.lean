/-
  Layer 9's mathematics, first part: sums, the waves, what Forward and Inverse tell. No code.
-/
import Derived.Test.YtjkmbiieagmjkaaDoorBackMath8
namespace Go.Proofs.YtjkmbiieagmjkaaDoor
open Go.RowKit

/-- the sum of the first n terms -/
def su (f : Nat → Int) : Nat → Int
  | 0 => 0
  | n + 1 => su f n + f n
section
variable {f g : Nat → Int}
theorem su_zero (f : Nat → Int) : su f 0 = 0 := rfl
theorem su_succ (f : Nat → Int) (n : Nat) : su f (n + 1) = su f n + f n := rfl
theorem su_congr : ∀ {n : Nat}, (∀ i, i < n → f i = g i) → su f n = su g n
  | 0, _ => rfl
  | n + 1, h => by rw [su_succ, su_succ, su_congr (fun i hi => h i (by omega)), h n (by omega)]
theorem su_add (f g : Nat → Int) : ∀ n, su (fun i => f i + g i) n = su f n + su g n
  | 0 => rfl
  | n + 1 => by rw [su_succ, su_succ, su_succ, su_add f g n]; omega
theorem su_mul (c : Int) (f : Nat → Int) : ∀ n, su (fun i => c * f i) n = c * su f n
  | 0 => by rw [su_zero, su_zero, Int.mul_zero]
  | n + 1 => by rw [su_succ, su_succ, su_mul c f n, Int.mul_add]
theorem su_mul_right (c : Int) (f : Nat → Int) (n : Nat) : su (fun i => f i * c) n = su f n * c := by
  rw [Int.mul_comm, ← su_mul]
  exact su_congr fun i _ => Int.mul_comm _ _
theorem su_neg (f : Nat → Int) : ∀ n, su (fun i => -f i) n = -su f n
  | 0 => rfl
  | n + 1 => by rw [su_succ, su_succ, su_neg f n]; omega
theorem su_none : ∀ n, su (fun _ => 0) n = 0
  | 0 => rfl
  | n + 1 => by rw [su_succ, su_none n]; rfl
theorem su_swap (h : Nat → Nat → Int) (m : Nat) : ∀ n, su (fun i => su (h i) m) n = su (fun j => su (fun i => h i j) n) m
  | 0 => by rw [su_zero]; exact (su_none m).symm
  | n + 1 => by
    rw [su_succ, su_swap h m n, ← su_add]
    rfl
theorem su_le : ∀ {n : Nat}, (∀ i, i < n → f i ≤ g i) → su f n ≤ su g n
  | 0, _ => Int.le_refl _
  | n + 1, h => by
    have h1 := su_le (n := n) (fun i hi => h i (by omega))
    have h2 := h n (by omega)
    rw [su_succ, su_succ]
    omega
theorem su_two {n : Nat} (h : ∀ i, i < n → -g i ≤ f i ∧ f i ≤ g i) : -su g n ≤ su f n ∧ su f n ≤ su g n := by
  refine ⟨?_, su_le fun i hi => (h i hi).2⟩
  rw [← su_neg]
  exact su_le fun i hi => (h i hi).1
theorem su_only (f : Nat → Int) (y : Nat) : ∀ n, y < n → su (fun p => if p = y then f p else 0) n = f y := by
  have none : ∀ n, n ≤ y → su (fun p => if p = y then f p else 0) n = 0 := fun n hn => by
    rw [su_congr (g := fun _ => 0) (fun i hi => if_neg (by omega)), su_none]
  intro n
  induction n with
  | zero => intro h; omega
  | succ n ih =>
    intro h
    rw [su_succ]
    by_cases e : n = y
    · rw [none n (by omega), if_pos e, e]; omega
    · rw [ih (by omega), if_neg e]; omega
end
/-- a product's amount -/
theorem mul_abs {c z M : Int} (h0 : -M ≤ z) (h1 : z ≤ M) : -((c.natAbs : Int) * M) ≤ c * z ∧ c * z ≤ (c.natAbs : Int) * M := by
  rcases Int.le_total 0 c with hc | hc
  · have e : (c.natAbs : Int) = c := Int.natAbs_of_nonneg hc
    rw [e]
    have a1 := Int.mul_le_mul_of_nonneg_left h1 hc
    have a2 := Int.mul_le_mul_of_nonneg_left h0 hc
    rw [Int.mul_neg] at a2
    exact ⟨a2, a1⟩
  · have e : (c.natAbs : Int) = -c := Int.ofNat_natAbs_of_nonpos hc
    rw [e]
    have a1 := Int.mul_le_mul_of_nonneg_left h1 (show 0 ≤ -c by omega)
    have a2 := Int.mul_le_mul_of_nonneg_left h0 (show 0 ≤ -c by omega)
    simp only [Int.neg_mul, Int.mul_neg, Int.neg_neg] at a1 a2 ⊢
    omega

/-- the waves -/
def wz : List Int := [2896, 2896, 2896, 2896, 2896, 2896, 2896, 2896, 4017, 3406, 2276, 799, -799, -2276, -3406, -4017, 3784, 1567, -1567, -3784, -3784, -1567, 1567, 3784, 3406, -799, -4017, -2276, 2276, 4017, 799, -3406, 2896, -2896, -2896, 2896, 2896, -2896, -2896, 2896, 2276, -4017, 799, 3406, -3406, -799, 4017, -2276, 1567, -3784, 3784, -1567, -1567, 3784, -3784, 1567, 799, -2276, 3406, -4017, 4017, -3406, 2276, -799]
theorem wz_len : wz.length = 64 := by decide
/-- the number at index x of row u -/
def wv (u x : Nat) : Int := wz.getD (8 * u + x) 0
theorem wv_small : ∀ u, u < 8 → ∀ x, x < 8 → -4017 ≤ wv u x ∧ wv u x ≤ 4017 := by decide +kernel
/-- how much a row, and a column, of the waves amounts to -/
def rowA (u : Nat) : Int := su (fun x => ((wv u x).natAbs : Int)) 8
def colA (x : Nat) : Int := su (fun u => ((wv u x).natAbs : Int)) 8
theorem rowA_small : ∀ u, u < 8 → rowA u ≤ 23168 ∧ 0 ≤ rowA u := by decide +kernel
theorem colA_is : ∀ x, x < 8 → colA x = 21641 := by decide +kernel

/-- a wave's sum, and a sample's -/
def fwdT (b : List Int) (i k : Nat) : Int := su (fun p => su (fun q => wv i p * wv k q * b.getD (8 * p + q) 0) 8) 8
def invT (b : List Int) (i k : Nat) : Int := su (fun p => su (fun q => wv p i * wv q k * b.getD (8 * p + q) 0) 8) 8
/-- what Forward and Inverse tell -/
def fwdL (b : List Int) : List Int := tab fun j => rnd (fwdT b (j / 8) (j % 8)) 67108864
def invL (b : List Int) : List Int := tab fun j => rnd (invT b (j / 8) (j % 8)) 67108864
def fwdF (b : List Int) : List Int × Int := if Wi b (-2048) 2047 then (fwdL b, 0) else (zeros64, 2)
def invF (b : List Int) : List Int × Int := if Wi b (-1048576) 1048576 then (invL b, 0) else (zeros64, 2)
theorem fwdL_len (b : List Int) : (fwdL b).length = 64 := tab_len _
theorem invL_len (b : List Int) : (invL b).length = 64 := tab_len _
theorem fwdF_len (b : List Int) : (fwdF b).1.length = 64 := by unfold fwdF; split; exact fwdL_len _; exact zeros_len
theorem invF_len (b : List Int) : (invF b).1.length = 64 := by unfold invF; split; exact invL_len _; exact zeros_len
theorem fwdL_at (b : List Int) {u v : Nat} (hu : u < 8) (hv : v < 8) : (fwdL b).getD (8 * u + v) 0 = rnd (fwdT b u v) 67108864 := by
  unfold fwdL
  rw [tab_at _ (by omega), show (8 * u + v) / 8 = u by omega, show (8 * u + v) % 8 = v by omega]
theorem invL_at (b : List Int) {u v : Nat} (hu : u < 8) (hv : v < 8) : (invL b).getD (8 * u + v) 0 = rnd (invT b u v) 67108864 := by
  unfold invL
  rw [tab_at _ (by omega), show (8 * u + v) / 8 = u by omega, show (8 * u + v) % 8 = v by omega]

/-- sums of products of two amounts -/
theorem su_prod (f g : Nat → Int) (M : Int) (n m : Nat) : su (fun p => su (fun q => f p * (g q * M)) m) n = su f n * su g m * M := by
  rw [su_congr (g := fun p => f p * (su g m * M)) (fun p _ => by rw [su_mul, su_mul_right]), su_mul_right, Int.mul_assoc]
theorem sum_small {c d : Nat → Int} {z : Nat → Nat → Int} {M : Int} (h : ∀ p, p < 8 → ∀ q, q < 8 → -M ≤ z p q ∧ z p q ≤ M) :
    -(su (fun p => ((c p).natAbs : Int)) 8 * su (fun q => ((d q).natAbs : Int)) 8 * M) ≤ su (fun p => su (fun q => c p * d q * z p q) 8) 8 ∧ su (fun p => su (fun q => c p * d q * z p q) 8) 8 ≤ su (fun p => ((c p).natAbs : Int)) 8 * su (fun q => ((d q).natAbs : Int)) 8 * M := by
  rw [← su_prod (fun p => ((c p).natAbs : Int)) (fun q => ((d q).natAbs : Int)) M 8 8]
  refine su_two fun p hp => su_two fun q hq => ?_
  obtain ⟨h0, h1⟩ := h p hp q hq
  have a := mul_abs (c := d q) h0 h1
  have b := mul_abs (c := c p) a.1 a.2
  rw [Int.mul_assoc]
  exact b
/-- amounts of the sums -/
theorem fwdT_small {b : List Int} {M : Int} (h : Wi b (-M) M) (h0 : 0 ≤ M) {i k : Nat} (hi : i < 8) (hk : k < 8) : -(536756224 * M) ≤ fwdT b i k ∧ fwdT b i k ≤ 536756224 * M := by
  have a := sum_small (c := wv i) (d := wv k) (z := fun p q => b.getD (8 * p + q) 0) (M := M) (fun p hp q hq => h (8 * p + q) (by omega))
  have e : rowA i * rowA k * M ≤ 536756224 * M := by
    have r1 := rowA_small i hi
    have r2 := rowA_small k hk
    refine Int.mul_le_mul_of_nonneg_right ?_ h0
    exact Int.le_trans (Int.mul_le_mul r1.1 r2.1 r2.2 (by omega)) (by decide)
  unfold fwdT
  unfold rowA at e
  omega
theorem invT_small {b : List Int} {M : Int} (h : Wi b (-M) M) {i k : Nat} (hi : i < 8) (hk : k < 8) : -(468332881 * M) ≤ invT b i k ∧ invT b i k ≤ 468332881 * M := by
  have a := sum_small (c := fun p => wv p i) (d := fun q => wv q k) (z := fun p q => b.getD (8 * p + q) 0) (M := M) (fun p hp q hq => h (8 * p + q) (by omega))
  have r1 := colA_is i hi
  have r2 := colA_is k hk
  unfold colA at r1 r2
  rw [r1, r2] at a
  unfold invT
  omega
end Go.Proofs.YtjkmbiieagmjkaaDoor
