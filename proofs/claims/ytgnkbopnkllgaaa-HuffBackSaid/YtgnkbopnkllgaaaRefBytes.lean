/-
  The contract of the reference's Bytes.
-/
import Derived.Test.YtgnkbopnkllgaaaRefPut
namespace Go.Proofs.Ytgnkbopnkllgaaa
open Go.RowKit

theorem dig_at (v c i : Nat) (hi : i < c) : (dig v c).getD i 0 = ((v / 2 ^ (c - 1 - i) % 2 : Nat) : Int) := by
  induction c generalizing v with
  | zero => omega
  | succ c ih =>
    show (dig (v / 2) c ++ [((v % 2 : Nat) : Int)]).getD i 0 = _
    by_cases h : i < c
    · rw [List.getD_eq_getElem?_getD, List.getElem?_append_left (by rw [dig_len]; exact h), ← List.getD_eq_getElem?_getD, ih (v / 2) h, Nat.div_div_eq_div_mul, show 2 * 2 ^ (c - 1 - i) = 2 ^ (c + 1 - 1 - i) by
        rw [show c + 1 - 1 - i = (c - 1 - i) + 1 by omega, Nat.pow_succ]; omega]
    · obtain rfl : i = c := by omega
      rw [List.getD_eq_getElem?_getD, List.getElem?_append_right (by rw [dig_len]; omega), dig_len]
      simp
theorem by8_at (B : List Int) (k j : Nat) (hk : k < B.length) (hj : j < 8) : (by8 B).getD (8 * k + j) 0 = (((B.getD k 0).toNat / 2 ^ (7 - j) % 2 : Nat) : Int) := by
  induction B generalizing k with
  | nil => simp at hk
  | cons b B ih =>
    rw [by8_cons]
    cases k with
    | zero =>
      rw [List.getD_eq_getElem?_getD, List.getElem?_append_left (by rw [dig_len]; omega), ← List.getD_eq_getElem?_getD, Nat.mul_zero, Nat.zero_add, dig_at _ _ _ hj]
      simp
    | succ k =>
      rw [List.getD_eq_getElem?_getD, List.getElem?_append_right (by rw [dig_len]; omega), ← List.getD_eq_getElem?_getD, dig_len, show 8 * (k + 1) + j - 8 = 8 * k + j by omega, ih k (by simpa using hk)]
      simp
/-- one bit more of a number -/
theorem more_bit (q j : Nat) (hj : j < 8) : q / 2 ^ (8 - j) * 2 + q / 2 ^ (7 - j) % 2 = q / 2 ^ (8 - (j + 1)) := by
  have e : q / 2 ^ (8 - j) = q / 2 ^ (7 - j) / 2 := by
    rw [Nat.div_div_eq_div_mul, show 8 - j = (7 - j) + 1 by omega, Nat.pow_succ]
  rw [e, show 8 - (j + 1) = 7 - j by omega]
  omega

/-- a slice's length -/
def lenOf : Value → Nat
  | .slice _ n _ => n
  | _ => 0

/-- a row of numbers of one's own, and what is older is as it was -/
structure IRow (w wr : World) (v : Value) (n : Nat) (l : List Int) : Prop where
  own : wr.ownsRow w.heap.size 3 1 v n (cellsI l)
  bel : Below w.heap.size w wr

/-- how the reference's Bytes stands behind k bytes -/
structure RB (w w1 wr : World) (u : Value) (k : Nat) (F : List Int) : Prop where
  row : wr.ownsRow w1.heap.size 5 1 u (stuff (F.take k)).length (cellsOf (stuff (F.take k)))
  bel : Below w1.heap.size w1 wr

theorem Wr.parts {w : World} {d : Nat} {L : List Int} (h : Wr w d L) : ∃ B v c, Fit B ∧ c < 8 ∧ v < 2 ^ c ∧ L = by8 B ++ dig v c := by
  obtain ⟨n, v, c, ⟨op, _, _, hf, hv, hL⟩, hc, _⟩ := h
  exact ⟨op.take n, v, c, hf.take n, hc, hv, hL⟩

end Go.Proofs.Ytgnkbopnkllgaaa
