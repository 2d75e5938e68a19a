/-
  Bits and bytes: mathematics, no code.
-/
import Derived.Test.YthfpdebpepbejaaDoorStuff
namespace Go.Proofs.YthfpdebpepbejaaDoor
open Go.RowKit

/-- the bits of a number, so many, the highest first -/
def dig : Nat → Nat → List Int
  | _, 0 => []
  | v, c + 1 => dig (v / 2) c ++ [((v % 2 : Nat) : Int)]
theorem dig_len (v c : Nat) : (dig v c).length = c := by
  induction c generalizing v with
  | zero => rfl
  | succ c ih => simp [dig, ih]
theorem dig_app (v a b : Nat) : dig v (a + b) = dig (v / 2 ^ b) a ++ dig v b := by
  induction b generalizing v with
  | zero => simp [dig]
  | succ b ih =>
    show dig (v / 2) (a + b) ++ _ = _
    rw [ih, Nat.div_div_eq_div_mul, show 2 * 2 ^ b = 2 ^ (b + 1) by rw [Nat.pow_succ]; omega, List.append_assoc]
    rfl
theorem dig_mod (v b : Nat) : dig (v % 2 ^ b) b = dig v b := by
  induction b generalizing v with
  | zero => rfl
  | succ b ih =>
    have h2 : (2 : Nat) ^ (b + 1) = 2 * 2 ^ b := by rw [Nat.pow_succ]; omega
    show dig (v % 2 ^ (b + 1) / 2) b ++ _ = dig (v / 2) b ++ _
    have h1 : v % 2 ^ (b + 1) / 2 = (v / 2) % 2 ^ b := by
      rw [h2, Nat.mod_mul_right_div_self]
    have h3 : v % 2 ^ (b + 1) % 2 = v % 2 := by
      rw [h2, Nat.mod_mul_right_mod]
    rw [h1, ih, h3]
/-- a part's first eight bits, and the rest -/
theorem dig_cut (v a b : Nat) : dig v (a + b) = dig (v / 2 ^ b) a ++ dig (v % 2 ^ b) b := by rw [dig_app, dig_mod]
/-- bits behind bits -/
theorem dig_join (v c x k : Nat) (hx : x < 2 ^ k) : dig (v * 2 ^ k + x) (c + k) = dig v c ++ dig x k := by
  rw [dig_cut]
  have hp := pow_pos' k
  have h1 : (v * 2 ^ k + x) / 2 ^ k = v := by
    rw [Nat.mul_comm, Nat.mul_add_div hp, Nat.div_eq_of_lt hx, Nat.add_zero]
  have h2 : (v * 2 ^ k + x) % 2 ^ k = x := by
    rw [Nat.mul_comm, Nat.mul_add_mod, Nat.mod_eq_of_lt hx]
  rw [h1, h2]
theorem join_lt {v c x k : Nat} (hv : v < 2 ^ c) (hx : x < 2 ^ k) : v * 2 ^ k + x < 2 ^ (c + k) := by
  rw [Nat.pow_add]
  have : (v + 1) * 2 ^ k ≤ 2 ^ c * 2 ^ k := Nat.mul_le_mul_right _ hv
  rw [Nat.add_mul, Nat.one_mul] at this
  omega
theorem dig_inj {v u c : Nat} (hv : v < 2 ^ c) (hu : u < 2 ^ c) (h : dig v c = dig u c) : v = u := by
  induction c generalizing v u with
  | zero => simp at hv hu; omega
  | succ c ih =>
    have h2 : (2 : Nat) ^ (c + 1) = 2 ^ c * 2 := Nat.pow_succ 2 c
    have hl := congrArg List.length h
    obtain ⟨h3, h4⟩ := List.append_inj' (show dig (v / 2) c ++ [((v % 2 : Nat) : Int)] = dig (u / 2) c ++ [((u % 2 : Nat) : Int)] from h) rfl
    have h5 := ih (by omega) (by omega) h3
    have h6 : v % 2 = u % 2 := by
      have : ((v % 2 : Nat) : Int) = ((u % 2 : Nat) : Int) := by simpa using h4
      omega
    omega
theorem dig_bit (v c : Nat) : ∀ z ∈ dig v c, z = 0 ∨ z = 1 := by
  induction c generalizing v with
  | zero => intro z hz; cases hz
  | succ c ih =>
    intro z hz
    rcases List.mem_append.1 hz with h | h
    · exact ih _ z h
    · simp at h
      omega

/-- the bits of bytes -/
def by8 (B : List Int) : List Int := B.flatMap fun b => dig b.toNat 8
theorem by8_app (A B : List Int) : by8 (A ++ B) = by8 A ++ by8 B := by simp [by8]
theorem by8_one (z : Int) : by8 [z] = dig z.toNat 8 := by simp [by8]
theorem by8_cons (z : Int) (B : List Int) : by8 (z :: B) = dig z.toNat 8 ++ by8 B := by simp [by8]
theorem by8_len (B : List Int) : (by8 B).length = 8 * B.length := by
  induction B with
  | nil => rfl
  | cons b B ih => rw [by8_cons, List.length_append, ih, dig_len, List.length_cons]; omega
theorem by8_inj {A B : List Int} (ha : Fit A) (hb : Fit B) (h : by8 A = by8 B) : A = B := by
  induction A generalizing B with
  | nil =>
    have := congrArg List.length h
    rw [by8_len, by8_len] at this
    rw [List.length_nil] at this
    exact (List.eq_nil_of_length_eq_zero (by omega)).symm
  | cons a A ih =>
    cases B with
    | nil =>
      have := congrArg List.length h
      rw [by8_len, by8_len] at this
      simp at this
    | cons b B =>
      rw [by8_cons, by8_cons] at h
      obtain ⟨h1, h2⟩ := List.append_inj h (by rw [dig_len, dig_len])
      have xa := ha a (List.mem_cons_self ..)
      have xb := hb b (List.mem_cons_self ..)
      have e := dig_inj (show a.toNat < 2 ^ 8 by omega) (show b.toNat < 2 ^ 8 by omega) h1
      rw [ih (fun z hz => ha z (List.mem_cons_of_mem _ hz)) (fun z hz => hb z (List.mem_cons_of_mem _ hz)) h2, show a = b by omega]

/-- a writer's bits: its whole bytes, and what is behind them -/
theorem parts_inj {A B : List Int} {v u c k : Nat} (ha : Fit A) (hb : Fit B) (hc : c < 8) (hk : k < 8) (hv : v < 2 ^ c) (hu : u < 2 ^ k) (h : by8 A ++ dig v c = by8 B ++ dig u k) : A = B ∧ v = u ∧ c = k := by
  have hl := congrArg List.length h
  rw [List.length_append, List.length_append, by8_len, by8_len, dig_len, dig_len] at hl
  have hck : c = k := by omega
  subst hck
  obtain ⟨h1, h2⟩ := List.append_inj h (by rw [by8_len, by8_len]; omega)
  exact ⟨by8_inj ha hb h1, dig_inj hv hu h2, rfl⟩

/-- the bytes of a writer, the last one filled up -/
def filledUp (B : List Int) (v c : Nat) : List Int := B ++ (if c = 0 then [] else [((fill v c : Nat) : Int)])
theorem fit_filledUp {B : List Int} {v c : Nat} (h : Fit B) (hc : c < 8) (hv : v < 2 ^ c) : Fit (filledUp B v c) := by
  unfold filledUp
  refine h.app ?_
  have := fill_lt (by omega) hv
  split
  · intro z hz; cases hz
  · intro z hz
    simp at hz
    omega
theorem dig_ones (v c k : Nat) : dig ((v + 1) * 2 ^ k - 1) (c + k) = dig v c ++ List.replicate k 1 := by
  induction k with
  | zero => simp
  | succ k ih =>
    have hp : 0 < (v + 1) * 2 ^ k := Nat.mul_pos (by omega) (pow_pos' k)
    have e : (v + 1) * 2 ^ (k + 1) - 1 = 2 * ((v + 1) * 2 ^ k - 1) + 1 := by
      rw [Nat.pow_succ, ← Nat.mul_assoc]
      omega
    rw [e]
    show dig ((2 * ((v + 1) * 2 ^ k - 1) + 1) / 2) (c + k) ++ [(((2 * ((v + 1) * 2 ^ k - 1) + 1) % 2 : Nat) : Int)] = _
    rw [show (2 * ((v + 1) * 2 ^ k - 1) + 1) / 2 = (v + 1) * 2 ^ k - 1 by omega, show (2 * ((v + 1) * 2 ^ k - 1) + 1) % 2 = 1 by omega, ih, List.append_assoc, List.replicate_succ']
    rfl
/-- filled up, the bits are the bits, and set bits behind them -/
theorem by8_filledUp (B : List Int) {v c : Nat} (hc : c < 8) : by8 (filledUp B v c) = (by8 B ++ dig v c) ++ List.replicate ((8 - c) % 8) 1 := by
  unfold filledUp
  rw [by8_app, List.append_assoc]
  congr 1
  by_cases h : c = 0
  · subst h
    simp [by8, dig]
  · rw [if_neg h, by8_one, Int.toNat_natCast, Nat.mod_eq_of_lt (by omega)]
    unfold fill
    rw [← dig_ones v c (8 - c), show c + (8 - c) = 8 by omega]

/-- 'or' where no bit meets another one -/
theorem or_join (v x k : Nat) (hx : x < 2 ^ k) : (v * 2 ^ k) ||| x = v * 2 ^ k + x := by
  rw [← Nat.shiftLeft_eq, Nat.shiftLeft_add_eq_or_of_lt hx]
end Go.Proofs.YthfpdebpepbejaaDoor
