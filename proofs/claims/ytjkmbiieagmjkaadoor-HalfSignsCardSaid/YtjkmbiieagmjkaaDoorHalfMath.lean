/-
  Layer 10's mathematics: four blocks as one: amounts, numbers turned about, rows that are columns, noughts, four alike. No code.
-/
import Derived.Test.YtjkmbiieagmjkaaDoorDctNear
namespace Go.Proofs.YtjkmbiieagmjkaaDoor
open Go.RowKit

/-- the half matrices -/
def hz : List Int := [2896, 0, 0, 0, 2624, 1204, -216, 66, 0, 2896, 0, 0, -922, 2291, 1487, -283, 0, 0, 2896, 0, 616, -1021, 2225, 1420, 0, 0, 0, 2896, -522, 805, -1087, 2507, 2896, 0, 0, 0, -2624, 1204, 216, 66, 0, -2896, 0, 0, 922, 2291, -1487, -283, 0, 0, 2896, 0, -616, -1021, -2225, 1420, 0, 0, 0, -2896, 522, 805, 1087, 2507]
theorem hz_len : hz.length = 64 := by decide
/-- a(h, u, i) -/
def hv (h u i : Nat) : Int := hz.getD (32 * h + 4 * u + i) 0
theorem hv_small : ∀ h, h < 2 → ∀ u, u < 8 → ∀ i, i < 4 → -2896 ≤ hv h u i ∧ hv h u i ≤ 2896 := by decide +kernel
/-- how much a row of both matrices amounts to -/
def halfA (u : Nat) : Int := su (fun p => su (fun i => ((hv p u i).natAbs : Int)) 4) 2
theorem halfA_small : ∀ u, u < 8 → 0 ≤ halfA u ∧ halfA u ≤ 10564 := by decide +kernel

/-- the number at index j of block m of four blocks -/
def fo (f : List Int) (m j : Nat) : Int := f.getD (64 * m + j) 0
/-- all numbers of four blocks lie between two -/
def W4 (f : List Int) (lo hi : Int) : Prop := ∀ m, m < 4 → ∀ j, j < 64 → lo ≤ fo f m j ∧ fo f m j ≤ hi
instance (f : List Int) (lo hi : Int) : Decidable (W4 f lo hi) := by unfold W4; infer_instance
/-- a sum of Merge -/
def mrgT (f : List Int) (u v : Nat) : Int := su (fun p => su (fun q => su (fun i => su (fun k => hv p u i * hv q v k * fo f (2 * p + q) (8 * i + k)) 4) 4) 2) 2
/-- what Merge tells -/
def mrgL (f : List Int) : List Int := tab fun j => rnd (mrgT f (j / 8) (j % 8)) 33554432
def mrgF (f : List Int) : List Int × Int := if W4 f (-1048576) 1048576 then (mrgL f, 0) else (zeros64, 2)
theorem mrgL_len (f : List Int) : (mrgL f).length = 64 := tab_len _
theorem mrgF_len (f : List Int) : (mrgF f).1.length = 64 := by unfold mrgF; split; exact mrgL_len _; exact zeros_len
theorem mrgL_at (f : List Int) {u v : Nat} (hu : u < 8) (hv : v < 8) : (mrgL f).getD (8 * u + v) 0 = rnd (mrgT f u v) 33554432 := by
  unfold mrgL
  rw [tab_at _ (by omega), show (8 * u + v) / 8 = u by omega, show (8 * u + v) % 8 = v by omega]
theorem mrgT_congr {f g : List Int} (h : ∀ m, m < 4 → ∀ i, i < 4 → ∀ k, k < 4 → fo f m (8 * i + k) = fo g m (8 * i + k)) (u v : Nat) : mrgT f u v = mrgT g u v := by
  unfold mrgT
  refine su_congr fun p hp => su_congr fun q hq => su_congr fun i hi => su_congr fun k hk => ?_
  rw [h _ (by omega) i hi k hk]
/-- a sum's amount -/
theorem mrgT_small {f : List Int} {M : Int} (h : W4 f (-M) M) (h0 : 0 ≤ M) {u v : Nat} (hu : u < 8) (hv' : v < 8) : -(111598096 * M) ≤ mrgT f u v ∧ mrgT f u v ≤ 111598096 * M := by
  have e : su (fun p => su (fun q => su (fun i => su (fun k => ((hv p u i).natAbs : Int) * (((hv q v k).natAbs : Int) * M)) 4) 4) 2) 2 = halfA u * halfA v * M := by
    have h1 : ∀ p q, su (fun i => su (fun k => ((hv p u i).natAbs : Int) * (((hv q v k).natAbs : Int) * M)) 4) 4 = su (fun i => ((hv p u i).natAbs : Int)) 4 * (su (fun k => ((hv q v k).natAbs : Int)) 4 * M) := fun p q => by
      rw [su_prod (fun i => ((hv p u i).natAbs : Int)) (fun k => ((hv q v k).natAbs : Int)) M 4 4, Int.mul_assoc]
    rw [su_congr (fun p _ => su_congr (fun q _ => h1 p q)), su_prod (fun p => su (fun i => ((hv p u i).natAbs : Int)) 4) (fun q => su (fun k => ((hv q v k).natAbs : Int)) 4) M 2 2]
    rfl
  have b : -su (fun p => su (fun q => su (fun i => su (fun k => ((hv p u i).natAbs : Int) * (((hv q v k).natAbs : Int) * M)) 4) 4) 2) 2 ≤ mrgT f u v ∧ mrgT f u v ≤ su (fun p => su (fun q => su (fun i => su (fun k => ((hv p u i).natAbs : Int) * (((hv q v k).natAbs : Int) * M)) 4) 4) 2) 2 := by
    unfold mrgT
    refine su_two fun p hp => su_two fun q hq => su_two fun i hi => su_two fun k hk => ?_
    obtain ⟨a0, a1⟩ := h (2 * p + q) (by omega) (8 * i + k) (by omega)
    have a := mul_abs (c := hv q v k) a0 a1
    have b := mul_abs (c := hv p u i) a.1 a.2
    rw [Int.mul_assoc]
    exact b
  rw [e] at b
  have r1 := halfA_small u hu
  have r2 := halfA_small v hv'
  have t : halfA u * halfA v * M ≤ 111598096 * M := Int.mul_le_mul_of_nonneg_right (Int.le_trans (Int.mul_le_mul r1.2 r2.2 r2.1 (by omega)) (by decide)) h0
  omega

/-- four blocks turned about -/
def neg4 (f : List Int) : List Int := (List.range 256).map fun j => -(f.getD j 0)
theorem neg4_len (f : List Int) : (neg4 f).length = 256 := by simp [neg4]
theorem neg4_at (f : List Int) {m j : Nat} (hm : m < 4) (hj : j < 64) : fo (neg4 f) m j = -(fo f m j) := by
  unfold fo neg4
  rw [List.getD_eq_getElem?_getD, List.getElem?_map, List.getElem?_range (by omega)]
  rfl
theorem mrgT_neg (f : List Int) (u v : Nat) : mrgT (neg4 f) u v = -mrgT f u v := by
  unfold mrgT
  rw [← su_neg]
  refine su_congr fun p hp => ?_
  rw [← su_neg]
  refine su_congr fun q hq => ?_
  rw [← su_neg]
  refine su_congr fun i hi => ?_
  rw [← su_neg]
  refine su_congr fun k hk => ?_
  rw [neg4_at f (by omega) (by omega), Int.mul_neg]
theorem w4_neg {f : List Int} {M : Int} (h : W4 f (-M) M) : W4 (neg4 f) (-M) M := fun m hm j hj => by
  have := h m hm j hj
  rw [neg4_at f hm hj]
  omega
/-- four blocks turned about make the block turned about -/
theorem mrg_signs {f : List Int} (h : W4 f (-1048576) 1048576) : mrgF f = (mrgL f, 0) ∧ mrgF (neg4 f) = (mrgL (neg4 f), 0) ∧ ∀ k, k < 64 → (mrgL f).getD k 0 = -((mrgL (neg4 f)).getD k 0) := by
  refine ⟨by unfold mrgF; rw [if_pos h], by unfold mrgF; rw [if_pos (w4_neg h)], fun k hk => ?_⟩
  unfold mrgL
  rw [tab_at _ hk, tab_at _ hk, mrgT_neg, rnd_neg, Int.neg_neg]

/-- four blocks whose rows are columns, the upper right and the lower left one changed for one another -/
def turn4 (f : List Int) : List Int := (List.range 256).map fun j => fo f (j / 64 % 2 * 2 + j / 64 / 2) (8 * (j % 8) + j % 64 / 8)
theorem turn4_len (f : List Int) : (turn4 f).length = 256 := by simp [turn4]
theorem turn4_at (f : List Int) {m j : Nat} (hm : m < 4) (hj : j < 64) : fo (turn4 f) m j = fo f (m % 2 * 2 + m / 2) (8 * (j % 8) + j / 8) := by
  have e : fo (turn4 f) m j = fo f ((64 * m + j) / 64 % 2 * 2 + (64 * m + j) / 64 / 2) (8 * ((64 * m + j) % 8) + (64 * m + j) % 64 / 8) := by
    conv => lhs; unfold fo turn4
    rw [List.getD_eq_getElem?_getD, List.getElem?_map, List.getElem?_range (by omega)]
    rfl
  rw [e, show (64 * m + j) / 64 = m by omega, show (64 * m + j) % 8 = j % 8 by omega, show (64 * m + j) % 64 = j by omega]
theorem mrgT_turn (f : List Int) (u v : Nat) : mrgT (turn4 f) u v = mrgT f v u := by
  unfold mrgT
  rw [su_swap]
  refine su_congr fun p hp => su_congr fun q hq => ?_
  rw [su_swap]
  refine su_congr fun i hi => su_congr fun k hk => ?_
  rw [turn4_at f (by omega) (by omega), show (2 * q + p) % 2 * 2 + (2 * q + p) / 2 = 2 * p + q by omega, show (8 * k + i) % 8 = i by omega, show (8 * k + i) / 8 = k by omega, Int.mul_comm (hv q u k)]
theorem w4_turn {f : List Int} {lo hi : Int} : W4 (turn4 f) lo hi ↔ W4 f lo hi := by
  constructor
  · intro h m hm j hj
    have := h (m % 2 * 2 + m / 2) (by omega) (8 * (j % 8) + j / 8) (by omega)
    rw [turn4_at f (by omega) (by omega), show (m % 2 * 2 + m / 2) % 2 * 2 + (m % 2 * 2 + m / 2) / 2 = m by omega, show 8 * ((8 * (j % 8) + j / 8) % 8) + (8 * (j % 8) + j / 8) / 8 = j by omega] at this
    exact this
  · intro h m hm j hj
    rw [turn4_at f hm hj]
    exact h _ (by omega) _ (by omega)
theorem mrgF_turn (f : List Int) : (mrgF (turn4 f)).2 = (mrgF f).2 ∧ ∀ k, k < 64 → (mrgF f).1.getD k 0 = (mrgF (turn4 f)).1.getD (k % 8 * 8 + k / 8) 0 := by
  by_cases h : W4 f (-1048576) 1048576
  · have e1 : mrgF f = (mrgL f, 0) := by unfold mrgF; rw [if_pos h]
    have e2 : mrgF (turn4 f) = (mrgL (turn4 f), 0) := by unfold mrgF; rw [if_pos (w4_turn.2 h)]
    rw [e1, e2]
    refine ⟨rfl, fun k hk => ?_⟩
    have a1 := mrgL_at f (u := k / 8) (v := k % 8) (by omega) (by omega)
    have a2 := mrgL_at (turn4 f) (u := k % 8) (v := k / 8) (by omega) (by omega)
    rw [show 8 * (k / 8) + k % 8 = k by omega] at a1
    rw [show 8 * (k % 8) + k / 8 = k % 8 * 8 + k / 8 by omega] at a2
    show (mrgL f).getD k 0 = (mrgL (turn4 f)).getD (k % 8 * 8 + k / 8) 0
    rw [a1, a2, mrgT_turn]
  · have e1 : mrgF f = (zeros64, 2) := by unfold mrgF; rw [if_neg h]
    have e2 : mrgF (turn4 f) = (zeros64, 2) := by unfold mrgF; rw [if_neg (fun e => h (w4_turn.1 e))]
    rw [e1, e2]
    refine ⟨rfl, fun k hk => ?_⟩
    show zeros64.getD _ 0 = zeros64.getD _ 0
    rw [zeros_at, zeros_at]

/-- numbers beyond the fourth row and column change nothing -/
theorem mrg_beyond {f g : List Int} (hw : W4 f (-1048576) 1048576 ↔ W4 g (-1048576) 1048576) (h : ∀ m, m < 4 → ∀ i, i < 4 → ∀ k, k < 4 → fo f m (8 * i + k) = fo g m (8 * i + k)) : mrgF f = mrgF g := by
  have e : mrgL f = mrgL g := list_eq (mrgL_len _) (mrgL_len _) fun k hk => by
    unfold mrgL
    rw [tab_at _ hk, tab_at _ hk, mrgT_congr h]
  unfold mrgF
  rw [e]
  by_cases hf : W4 f (-1048576) 1048576
  · rw [if_pos hf, if_pos (hw.1 hf)]
  · rw [if_neg hf, if_neg (fun x => hf (hw.2 x))]
/-- noughts make noughts -/
theorem mrg_none {f : List Int} (h : ∀ m, m < 4 → ∀ j, j < 64 → fo f m j = 0) : mrgF f = (zeros64, 0) := by
  have hw : W4 f (-1048576) 1048576 := fun m hm j hj => by rw [h m hm j hj]; omega
  unfold mrgF
  rw [if_pos hw]
  congr 1
  refine list_eq (mrgL_len _) zeros_len fun k hk => ?_
  unfold mrgL
  rw [tab_at _ hk, zeros_at]
  have e : mrgT f (k / 8) (k % 8) = 0 := by
    unfold mrgT
    rw [su_congr (g := fun _ => 0) (fun p hp => ?_), su_none]
    rw [su_congr (g := fun _ => 0) (fun q hq => ?_), su_none]
    rw [su_congr (g := fun _ => 0) (fun i hi => ?_), su_none]
    rw [su_congr (g := fun _ => 0) (fun k hk => ?_), su_none]
    rw [h _ (by omega) _ (by omega), Int.mul_zero]
  rw [e]
  decide
end Go.Proofs.YtjkmbiieagmjkaaDoor
