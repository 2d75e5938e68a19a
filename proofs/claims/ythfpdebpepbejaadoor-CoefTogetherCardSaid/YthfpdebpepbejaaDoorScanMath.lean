/-
  Reading scan bytes: mathematics, no code.
-/
import Derived.Test.YthfpdebpepbejaaDoorReadMath
import Derived.Test.YthfpdebpepbejaaDoorRefBytes
namespace Go.Proofs.YthfpdebpepbejaaDoor
open Go.RowKit

/-- where a reader stands behind k bits of the bytes F, stuffed -/
def stAt (F : List Int) (k : Nat) : St := ⟨(stuff (F.take ((k + 7) / 8))).length, (F.getD ((k + 7) / 8 - 1) 0).toNat % 2 ^ (8 * ((k + 7) / 8) - k), 8 * ((k + 7) / 8) - k⟩

theorem stAt_zero (F : List Int) : stAt F 0 = ⟨0, 0, 0⟩ := by simp [stAt, stuff, Nat.mod_one]

/-- the byte that stands behind i bytes, stuffed -/
theorem stuff_at (F T : List Int) (i : Nat) (hi : i < F.length) : (stuff F ++ T).getD (stuff (F.take i)).length 0 = F.getD i 0 ∧ (F.getD i 0 = 255 → (stuff (F.take i)).length + 1 < (stuff F ++ T).length ∧ (stuff F ++ T).getD ((stuff (F.take i)).length + 1) 0 = 0) ∧ (stuff (F.take i)).length < (stuff F ++ T).length := by
  have e : stuff F ++ T = stuff (F.take i) ++ ((if F.getD i 0 = 255 then [255, 0] else [F.getD i 0]) ++ (stuff (F.drop (i + 1)) ++ T)) := by
    have h1 := stuff_more hi
    rw [← List.append_assoc, ← h1, ← List.append_assoc, ← stuff_app, List.take_append_drop]
  rw [e]
  obtain ⟨P, hP⟩ : ∃ P, P = stuff (F.take i) := ⟨_, rfl⟩
  rw [← hP]
  by_cases h : F.getD i 0 = 255
  · rw [if_pos h, h]
    refine ⟨by simp [List.getD_eq_getElem?_getD], fun _ => ⟨by simp, ?_⟩, by simp⟩
    rw [List.getD_eq_getElem?_getD, List.getElem?_append_right (by omega)]
    simp
  · rw [if_neg h]
    exact ⟨by simp [List.getD_eq_getElem?_getD], fun e => absurd e h, by simp⟩

theorem stAt_step (F T : List Int) (hf : Fit F) (k : Nat) (hk : k < 8 * F.length) :
    ∃ b : Nat, b < 2 ∧ (b : Int) = (by8 F).getD k 0 ∧ bitF (stuff F ++ T) (stAt F k) = (stAt F (k + 1), b, 0) := by
  obtain ⟨i, hi⟩ : ∃ i, i = (k + 7) / 8 := ⟨_, rfl⟩
  obtain ⟨c, hc⟩ : ∃ c, c = 8 * i - k := ⟨_, rfl⟩
  have hs : stAt F k = ⟨(stuff (F.take i)).length, (F.getD (i - 1) 0).toNat % 2 ^ c, c⟩ := by rw [hc, hi]; rfl
  rw [hs]
  by_cases hc0 : 0 < c
  · have hi2 : (k + 1 + 7) / 8 = i := by omega
    have hs2 : stAt F (k + 1) = ⟨(stuff (F.take i)).length, (F.getD (i - 1) 0).toNat % 2 ^ (c - 1), c - 1⟩ := by
      unfold stAt
      rw [hi2, show 8 * i - (k + 1) = c - 1 by omega]
    obtain ⟨z, hz⟩ : ∃ z, z = (F.getD (i - 1) 0).toNat := ⟨_, rfl⟩
    have hb := by8_at F (i - 1) (8 - c) (by omega) (by omega)
    rw [show 8 * (i - 1) + (8 - c) = k by omega, show 7 - (8 - c) = c - 1 by omega, ← hz] at hb
    have h1 : z % 2 ^ c % 2 ^ (c - 1) = z % 2 ^ (c - 1) := by
      obtain ⟨d, rfl⟩ : ∃ d, c = d + 1 := ⟨c - 1, by omega⟩
      rw [Nat.add_sub_cancel, Nat.pow_succ, Nat.mod_mul_right_mod]
    have h2 : z % 2 ^ c / 2 ^ (c - 1) = z / 2 ^ (c - 1) % 2 := by
      obtain ⟨d, rfl⟩ : ∃ d, c = d + 1 := ⟨c - 1, by omega⟩
      rw [Nat.add_sub_cancel, Nat.pow_succ, Nat.mod_mul_right_div_self]
    refine ⟨z / 2 ^ (c - 1) % 2, by omega, hb.symm, ?_⟩
    rw [hs2, bitF_full (by exact hc0), ← hz]
    show ((⟨_, z % 2 ^ c % 2 ^ (c - 1), c - 1⟩ : St), z % 2 ^ c / 2 ^ (c - 1), (0 : Int)) = _
    rw [h1, h2]
  · have hki : k = 8 * i := by omega
    have hil : i < F.length := by omega
    obtain ⟨h1, h2, h3⟩ := stuff_at F T i hil
    have hi2 : (k + 1 + 7) / 8 = i + 1 := by omega
    have hlen : (stuff (F.take (i + 1))).length = (stuff (F.take i)).length + (if F.getD i 0 = 255 then 2 else 1) := by
      rw [stuff_more hil, List.length_append]
      split <;> rfl
    have hs2 : stAt F (k + 1) = ⟨(stuff (F.take i)).length + (if F.getD i 0 = 255 then 2 else 1), (F.getD i 0).toNat % 128, 7⟩ := by
      unfold stAt
      rw [hi2, Nat.add_sub_cancel, show 8 * (i + 1) - (k + 1) = 7 by omega, hlen]
    have hE : beginE (stuff F ++ T) (stuff (F.take i)).length = 0 := by
      unfold beginE
      rw [if_pos h3, h1]
      split
      · next e => rw [if_pos (h2 e).1, if_pos (h2 e).2]
      · rfl
    have hS : beginS (stuff F ++ T) (stuff (F.take i)).length = if F.getD i 0 = 255 then 2 else 1 := by rw [beginS, h1]
    have hz := hf.getD i
    have hb := by8_at F i 0 hil (by omega)
    rw [Nat.add_zero, ← hki] at hb
    refine ⟨(F.getD i 0).toNat / 128, by omega, ?_, ?_⟩
    · rw [hb, show (2 : Nat) ^ (7 - 0) = 128 from rfl, Nat.mod_eq_of_lt (by omega)]
    · rw [hs2, bitF, if_neg hc0]
      show (if beginE (stuff F ++ T) (stuff (F.take i)).length = 0 then _ else _) = _
      rw [if_pos hE]
      show ((⟨(stuff (F.take i)).length + beginS (stuff F ++ T) (stuff (F.take i)).length, ((stuff F ++ T).getD (stuff (F.take i)).length 0).toNat % 128, 7⟩ : St), ((stuff F ++ T).getD (stuff (F.take i)).length 0).toNat / 128, (0 : Int)) = _
      rw [hS, h1]

/-- behind all bits the reader stands behind all bytes -/
theorem stAt_end (F : List Int) (k : Nat) (h1 : k ≤ 8 * F.length) (h2 : 8 * F.length < k + 8) : (stAt F k).at_ = (stuff F).length ∧ (stAt F k).c = 8 * F.length - k := by
  have e : (k + 7) / 8 = F.length := by omega
  unfold stAt
  rw [e, List.take_length]
  exact ⟨rfl, rfl⟩

/-- a number made of bits, the highest first -/
def num (m : Nat) (L : List Int) : Nat := L.foldl (fun a b => 2 * a + b.toNat) m
theorem num_dig (m v c : Nat) (hv : v < 2 ^ c) : num m (dig v c) = m * 2 ^ c + v := by
  induction c generalizing v with
  | zero => simp at hv; subst hv; simp [num, dig]
  | succ c ih =>
    have h2 : (2 : Nat) ^ (c + 1) = 2 ^ c * 2 := Nat.pow_succ 2 c
    show num m (dig (v / 2) c ++ [((v % 2 : Nat) : Int)]) = _
    unfold num at ih ⊢
    rw [List.foldl_append, ih (v / 2) (by omega), h2, ← Nat.mul_assoc]
    simp
    omega
theorem goF_bits (F T : List Int) (hf : Fit F) (s0 : St) : ∀ (n k m : Nat), k + n ≤ 8 * F.length → goF (stuff F ++ T) s0 n (stAt F k) m = (stAt F (k + n), num m (((by8 F).drop k).take n), 0)
  | 0, k, m, _ => by simp [goF, num]
  | n + 1, k, m, h => by
    obtain ⟨b, hb, he, hs⟩ := stAt_step F T hf k (by omega)
    rw [goF, hs, if_pos rfl, goF_bits F T hf s0 n (k + 1) (2 * m + b) (by omega), show k + 1 + n = k + (n + 1) by omega]
    have hkl : k < (by8 F).length := by rw [by8_len]; omega
    have hd : ((by8 F).drop k).take (n + 1) = (b : Int) :: ((by8 F).drop (k + 1)).take n := by
      rw [List.drop_eq_getElem_cons hkl, List.take_succ_cons]
      congr 1
      rw [he, List.getD_eq_getElem?_getD, List.getElem?_eq_getElem hkl]
      rfl
    rw [hd]
    rfl

/-- a mark that is stuffed is followed by the stuffing -/
theorem stuff_marks (F : List Int) : ∀ i, i < (stuff F).length → (stuff F).getD i 0 = 255 → i + 1 < (stuff F).length ∧ (stuff F).getD (i + 1) 0 = 0 := by
  induction F with
  | nil => intro i hi; simp [stuff] at hi
  | cons a F ih =>
    have e : stuff (a :: F) = (if a = 255 then [255, 0] else [a]) ++ stuff F := by simp [stuff]
    intro i hi h
    rw [e] at hi h ⊢
    by_cases ha : a = 255
    · rw [if_pos ha] at hi h ⊢
      match i with
      | 0 => exact ⟨by simp, rfl⟩
      | 1 => cases h
      | i + 2 =>
        have := ih i (by simpa using hi) (by simpa using h)
        exact ⟨by have := this.1; simp; omega, by simpa using this.2⟩
    · rw [if_neg ha] at hi h ⊢
      match i with
      | 0 => exact absurd h ha
      | i + 1 =>
        have := ih i (by simpa using hi) (by simpa using h)
        exact ⟨by have := this.1; simp; omega, by simpa using this.2⟩
end Go.Proofs.YthfpdebpepbejaaDoor
