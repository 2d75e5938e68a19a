/-
  Four bytes as a number, and the contract of stored.
-/
import Derived.Test.YthfeblkbkndbkaaDoorSum
namespace Go.Proofs.YthfeblkbkndbkaaDoor
open Go.RowKit

/-- the number of bytes, the least one first -/
def le : List Int → Int
  | [] => 0
  | z :: r => z + 256 * le r

theorem le_app (l : List Int) (z : Int) : le (l ++ [z]) = le l + z * (256 : Int) ^ l.length := by
  induction l with
  | nil => simp [le]
  | cons x r ih =>
    simp only [List.cons_append, le, ih, List.length_cons, Int.pow_succ, Int.mul_add]
    have : 256 * (z * (256 : Int) ^ r.length) = z * ((256 : Int) ^ r.length * 256) := by
      rw [Int.mul_comm 256 (z * _), Int.mul_assoc]
    omega
theorem le_bounds (l : List Int) (h : Fit l) : 0 ≤ le l ∧ le l < (256 : Int) ^ l.length := by
  induction l with
  | nil => simp [le]
  | cons x r ih =>
    have hx := h x (by simp)
    have hr := ih (fun z hz => h z (by simp [hz]))
    simp only [le, List.length_cons, Int.pow_succ]
    omega
/-- bits that lie apart are added -/
theorem or_apart (x y s : Nat) (h : y < 2 ^ s) : (x * 2 ^ s) ||| y = x * 2 ^ s + y := by
  rw [← Nat.shiftLeft_eq, Nat.shiftLeft_add_eq_or_of_lt h]

theorem pow_256 (k : Nat) : (256 : Int) ^ k = 2 ^ (8 * k) := by
  rw [Int.pow_mul]; rfl
theorem pow_256n (k : Nat) : (256 : Nat) ^ k = 2 ^ (8 * k) := by
  rw [Nat.pow_mul]

theorem split_at (v P : Int) (hP : 0 < P) : v % (P * 256) = v % P + v / P % 256 * P := by
  have h1 := Int.emod_add_mul_ediv v P
  have h2 := Int.emod_add_mul_ediv (v / P) 256
  have r0 := Int.emod_nonneg v (show P ≠ 0 by omega)
  have r1 := Int.emod_lt_of_pos v hP
  have q0 := Int.emod_nonneg (v / P) (show (256 : Int) ≠ 0 by omega)
  have q1 := Int.emod_lt_of_pos (v / P) (show (0 : Int) < 256 by omega)
  have hq : v / P % 256 * P ≤ 255 * P := Int.mul_le_mul_of_nonneg_right (by omega) (by omega)
  have hq0 : 0 ≤ v / P % 256 * P := Int.mul_nonneg q0 (by omega)
  have e : v = (v % P + v / P % 256 * P) + (v / P / 256) * (P * 256) := by
    have h3 : P * (v / P) = v / P % 256 * P + (v / P / 256) * (P * 256) := by
      have h4 : P * (v / P) = P * (v / P % 256 + 256 * (v / P / 256)) := by rw [h2]
      rw [h4, Int.mul_add, Int.mul_comm P (v / P % 256), ← Int.mul_assoc, Int.mul_comm (P * 256)]
    omega
  have h5 : v % (P * 256) = (v % P + v / P % 256 * P) % (P * 256) := by
    have h6 := Int.add_mul_emod_self_right (v % P + v / P % 256 * P) (v / P / 256) (P * 256)
    rw [← e] at h6
    exact h6
  rw [h5, Int.emod_eq_of_lt (by omega) (by omega)]

theorem le_told (v : Int) (m : Nat) : le (told v m false) = v % (256 : Int) ^ m := by
  induction m with
  | zero => simp [told, le, Int.emod_one]
  | succ k ih =>
    rw [told_more, le_app, told_len, ih, Int.pow_succ]
    unfold byteAt
    exact (split_at v _ (Int.pow_pos (by omega))).symm

theorem pow_le_u32 (k : Nat) (h : k ≤ 4) : (2 : Nat) ^ (8 * k) ≤ 4294967296 := by
  have : (2 : Nat) ^ (8 * k) ≤ 2 ^ 32 := Nat.pow_le_pow_right (by omega) (by omega)
  simpa using this

/-- one byte more, the least one first -/
theorem or_little (v z : Int) (k : Nat) (hk : k < 4) (v0 : 0 ≤ v) (v1 : v < (256 : Int) ^ k) (z0 : 0 ≤ z) (z1 : z ≤ 255) :
    bits .or .u32 v (IntKind.u32.wrap (z * 2 ^ (8 * k))) = v + z * (256 : Int) ^ k := by
  obtain ⟨a, rfl⟩ := Int.eq_ofNat_of_zero_le v0
  obtain ⟨b, rfl⟩ := Int.eq_ofNat_of_zero_le z0
  have hp : ((256 : Int) ^ k) = ((256 ^ k : Nat) : Int) := by simp
  have hq : ((2 : Int) ^ (8 * k)) = ((2 ^ (8 * k) : Nat) : Int) := by simp
  have hb : b * 2 ^ (8 * k) < 2 ^ (8 * (k + 1)) := by
    have : 2 ^ (8 * (k + 1)) = 256 * 2 ^ (8 * k) := by rw [← pow_256n, ← pow_256n, Nat.pow_succ, Nat.mul_comm]
    rw [this]
    exact Nat.mul_lt_mul_of_pos_right (by omega) (Nat.two_pow_pos _)
  have hu := pow_le_u32 (k + 1) (by omega)
  have hu' := pow_le_u32 k (by omega)
  rw [hp] at v1 ⊢
  rw [pow_256n] at v1 ⊢
  have ha : a < 2 ^ (8 * k) := by omega
  rw [IntKind.wrap_u32', hq, show ((b : Nat) : Int) * ((2 ^ (8 * k) : Nat) : Int) = ((b * 2 ^ (8 * k) : Nat) : Int) from by simp]
  rw [Int.emod_eq_of_lt (by omega) (by omega)]
  rw [u32_or_nat _ _ (by omega) (by omega), Nat.or_comm, or_apart _ _ _ ha]
  omega

theorem le_inj : ∀ (a b : List Int), Fit a → Fit b → a.length = b.length → le a = le b → a = b
  | [], [], _, _, _, _ => rfl
  | x :: a, y :: b, ha, hb, hl, h => by
    have hx := ha x (by simp)
    have hy := hb y (by simp)
    simp only [le] at h
    have e : x = y := by omega
    subst e
    rw [le_inj a b (fun z hz => ha z (by simp [hz])) (fun z hz => hb z (by simp [hz])) (by simpa using hl) (by omega)]
  | [], _ :: _, _, _, hl, _ => by simp at hl
  | _ :: _, [], _, _, hl, _ => by simp at hl

/-- four bytes are those of a number if, and only if, they tell it -/
theorem told_iff (t : List Int) (v : Nat) (ht : Fit t) (hl : t.length = 4) (hv : v < 4294967296) : le t = (v : Int) ↔ t = told (v : Int) 4 false := by
  have h4 : le (told (v : Int) 4 false) = (v : Int) := by
    rw [le_told, Int.emod_eq_of_lt (by omega) (by simp; omega)]
  constructor
  · intro h
    exact le_inj _ _ ht (told_fit _ _ _) (by rw [told_len, hl]) (by rw [h, h4])
  · intro h
    rw [h, h4]

set_option maxHeartbeats 400000 in
theorem stored_any (w : World) (K : Nat → Prop) (A : Option Addr) (c : Nat) (t : List Int) (h : Sl w K A 4 c t) :
    Calls Tryd.prog 18 #[.slice A 4 c] w fun e w' => e = .returned (.int .u32 (le t)) ∧ w = w' := by
  have H := Lib.hid h
  have HLEN := Lib.hid h.len
  obtain ⟨b, off, rfl, hc⟩ : ∃ b off, A = some ⟨b, off, none⟩ ∧ ∀ i, i < 4 → w.cell? ⟨b, off + i, none⟩ = some (.int .u8 (t.getD i 0)) := by
    obtain ⟨b, off, e, _, _, hc⟩ := h.bts.at_ (by rw [h.len]; omega)
    exact ⟨b, off, e, fun i hi => hc i (by rw [h.len]; exact hi)⟩
  have HC := Lib.hid hc
  clear h hc
  go_enter Tryd.func18, Tryd.ntmps18
  go_wp2
  go_loop [3, 5] (fun v i => ∃ k : Nat, k ≤ 4 ∧ i = .int .i64 k ∧ v = .int .u32 (le (t.take k))) (fun _ i => 4 - (intOf i).toNat)
  case atStart => exact ⟨0, Nat.zero_le _, rfl, rfl⟩
  case round =>
    obtain ⟨k, hk, rfl, rfl⟩ := hrel
    by_cases hlt : k < 4
    · have hcell := HC.out k hlt
      have HB := Lib.hid (H.out.bts.fit.getD k)
      have HN := Lib.hid (le_bounds _ (H.out.bts.fit.take k))
      have hl : k < t.length := by rw [HLEN.out]; exact hlt
      have HS := Lib.hid (or_little _ (t.getD k 0) k hlt HN.out.1 (by have := HN.out.2; rwa [List.length_take, Nat.min_eq_left (by omega)] at this) HB.out.1 HB.out.2)
      have HT := Lib.hid (le_app (t.take k) (t.getD k 0))
      have HU := Lib.hid (take_more t k hl)
      obtain ⟨z, hz⟩ : ∃ z, z = t.getD k 0 := ⟨_, rfl⟩
      have HB' := HB.out
      rw [← hz] at hcell HB'
      have HZ := Lib.hid hz
      clear hz HB HN hl
      go_wp2
      go_round
      case rel =>
        refine ⟨k + 1, by omega, by go_num, ?_⟩
        rw [HU.out, HT.out, HZ.out, List.length_take, Nat.min_eq_left (by rw [HLEN.out]; omega), ← HS.out, IntKind.wrap_u32']
      case measure => simp [intOf]; omega
    · have ek : k = t.length := by rw [HLEN.out]; omega
      have EK := Lib.hid ek
      clear ek
      go_wp2
      go_ret
      exact ⟨ret_num (by rw [EK.out, List.take_length]), rfl⟩

end Go.Proofs.YthfeblkbkndbkaaDoor
