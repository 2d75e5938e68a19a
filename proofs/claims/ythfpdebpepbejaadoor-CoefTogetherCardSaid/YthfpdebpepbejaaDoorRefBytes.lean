/-
  The contracts of the reference's Power, Digits and Put. The contract of the reference's Bytes.
-/
import Derived.Test.YthfpdebpepbejaaDoorAwake
namespace Go.Proofs.YthfpdebpepbejaaDoor
open Go.RowKit

set_option maxHeartbeats 400000 in
theorem power_any (w : World) (n : Nat) (hn : n ≤ 24) : Calls Tryd.prog 54 #[.int .i64 (n : Int)] w fun e w' => e = .returned (.int .i64 ((2 ^ n : Nat) : Int)) ∧ w = w' := by
  go_enter Tryd.func54, Tryd.ntmps54
  go_wp2
  go_loop [3, 4] (fun p i => ∃ k : Nat, k ≤ n ∧ p = .int .i64 ((2 ^ k : Nat) : Int) ∧ i = .int .i64 k) (fun _ i => n - (intOf i).toNat)
  case atStart => exact ⟨0, Nat.zero_le _, rfl, rfl⟩
  case round =>
    obtain ⟨k, hk, rfl, rfl⟩ := hrel
    obtain ⟨q, hq⟩ : ∃ q, q = 2 ^ k := ⟨_, rfl⟩
    have hq1 : q ≤ 16777216 := by rw [hq]; exact Nat.le_trans (Nat.pow_le_pow_right (by omega) (show k ≤ 24 by omega)) (by decide)
    rw [← hq]
    have HQ := Lib.hid hq
    clear hq
    by_cases hlt : k < n
    · go_wp2
      go_round
      case rel =>
        refine ⟨k + 1, by omega, ?_, by go_num⟩
        rw [Nat.pow_succ, ← HQ.out]
        congr 1
      case measure => simp [intOf]; omega
    · have ek : k = n := by omega
      have HE := Lib.hid ek
      clear ek
      go_wp2
      go_ret
      obtain rfl := HE.out
      exact ⟨by rw [HQ.out]; simp, rfl⟩

/-- a new block of one number, to be appended to -/
theorem own_one (w : World) (z : Int) : (w.alloc (.cells #[.int .i64 z] 3)).ownsRow w.heap.size 3 1 (.slice (some ⟨w.heap.size, 0, none⟩) 1 1) 1 (cellsI [z]) :=
  ⟨rfl, .inr ⟨w.heap.size, 1, #[.int .i64 z], rfl, Nat.le_refl _, heap_alloc_new w _, Nat.le_refl _, by unfold maxLen; omega, rfl, rfl⟩⟩
/-- the bits of a number, one more -/
theorem dig_step (v k : Nat) : dig v (k + 1) = [((v / 2 ^ k % 2 : Nat) : Int)] ++ dig v k := by
  rw [Nat.add_comm k 1, dig_app v 1 k]
  rfl

set_option maxHeartbeats 1600000 in
theorem digits_any (w : World) (v n : Nat) (hn : n ≤ 24) (hv : v ≤ 4611686018427387904) : Calls Tryd.prog 46 #[.int .i64 (v : Int), .int .i64 (n : Int)] w fun e w' => ∃ A c, e = .returned (.slice A n c) ∧ Il w' A n c (dig v n) ∧ Below w.heap.size w w' := by
  go_enter Tryd.func46, Tryd.ntmps46
  go_wp2
  go_loopw [0, 5, 6] (fun x s i wr => ∃ k A c, k ≤ n ∧ x = .int .i64 ((v / 2 ^ k : Nat) : Int) ∧ s = .slice A k c ∧ i = .int .i64 (k : Nat) ∧ Il wr A k c (dig v k) ∧ Below w.heap.size w wr) (fun _ _ i _ => n - (intOf i).toNat)
  case atStart => exact ⟨0, _, _, Nat.zero_le _, by simp, rfl, rfl, Il.none _, Below.refl _ _⟩
  case round =>
    obtain ⟨k, A, c, hk, rfl, rfl, rfl, hI, hbel⟩ := hrel
    obtain ⟨q, hq⟩ : ∃ q, q = v / 2 ^ k := ⟨_, rfl⟩
    have hq1 : q ≤ v := by rw [hq]; exact Nat.div_le_self _ _
    rw [← hq]
    have HQ := Lib.hid (And.intro hq (And.intro hI hbel))
    clear hq hI hbel
    by_cases hlt : k < n
    · obtain ⟨r, hr⟩ : ∃ r, r = q % 2 := ⟨_, rfl⟩
      have hr1 : (q : Int) % 2 = (r : Int) := by omega
      obtain ⟨h, hh⟩ : ∃ h, h = q / 2 := ⟨_, rfl⟩
      have hh1 : (q : Int) / 2 = (h : Int) := by omega
      have HR := Lib.hid (And.intro hr hh)
      clear hr hh
      go_wp2_with (first
        | (at_builtin; refine wpList_append_il rfl (.tmp 14) (.tmp 15) rfl wr.heap.size (.slice (some ⟨wr.heap.size, 0, none⟩) 1 1) 1 [(r : Int)] rfl (own_one wr r) A k c (dig v k) rfl (HQ.out.2.1.on (on_alloc _ _)) (by omega) (by simp) ?_; intro v3 w3 hown3 b3; obtain ⟨A3, c3, rfl, hs3, _⟩ := il_of_own hown3; have H3 := Lib.hid (And.intro hs3 (on_trans HQ.out.2.2 ((on_alloc wr _).trans b3))); clear hown3 b3 hs3)
        | fail)
      refine ⟨⟨k + 1, A3, c3, by omega, ?_, by rw [Nat.add_comm], by go_num, ?_, H3.out.2⟩, by simp [intOf]; omega⟩
      · rw [HR.out.2, HQ.out.1, Nat.div_div_eq_div_mul, Nat.pow_succ]
      · rw [dig_step, ← HQ.out.1, ← HR.out.1, Nat.add_comm k 1]
        exact H3.out.1
    · have ek : k = n := by omega
      have HE := Lib.hid ek
      clear ek
      go_wp2
      go_ret
      obtain ⟨_, hI, hb⟩ := HQ.out
      rw [← HE.out]
      exact ⟨A, c, rfl, hI, hb⟩

/-- what the reference's Put tells -/
def RefPut (w : World) (A : Option Addr) (L : List Int) (v k : Int) (e : Ending) (w' : World) : Prop :=
  ∃ A' m c', e = .returned (.tuple #[.slice A' m c', .int .i64 (putE v k)]) ∧ Il w' A' m c' (putL L v k) ∧ (A' = A ∨ ∀ b off, A' = some ⟨b, off, none⟩ → w.heap.size ≤ b) ∧ Below w.heap.size w w'

end Go.Proofs.YthfpdebpepbejaaDoor

namespace Go.Proofs.YthfpdebpepbejaaDoor
open Go.RowKit

theorem dig_at (v c i : Nat) (hi : i < c) : (dig v c).getD i 0 = ((v / 2 ^ (c - 1 - i) % 2 : Nat) : Int) := by
  induction c generalizing v with
  | zero => omega
  | succ c ih =>
    show (dig (v / 2) c ++ [((v % 2 : Nat) : Int)]).getD i 0 = _
    by_cases h : i < c
    · rw [List.getD_eq_getElem?_getD, List.getElem?_append_left (by rw [dig_len]; exact h), ← List.getD_eq_getElem?_getD, ih (v / 2) h, Nat.div_div_eq_div_mul, show 2 * 2 ^ (c - 1 - i) = 2 ^ (c + 1 - 1 - i) by
        rw [show c + 1 - 1 - i = (c - 1 - i) + 1 by omega, Nat.pow_succ]; omega]
    · obtain rfl : i = c := by omega
      rw [List.getD_eq_getElem?_getD, List.getElem?_append_right (by rw [dig_len]; omega), dig_len]
      simp
theorem by8_at (B : List Int) (k j : Nat) (hk : k < B.length) (hj : j < 8) : (by8 B).getD (8 * k + j) 0 = (((B.getD k 0).toNat / 2 ^ (7 - j) % 2 : Nat) : Int) := by
  induction B generalizing k with
  | nil => simp at hk
  | cons b B ih =>
    rw [by8_cons]
    cases k with
    | zero =>
      rw [List.getD_eq_getElem?_getD, List.getElem?_append_left (by rw [dig_len]; omega), ← List.getD_eq_getElem?_getD, Nat.mul_zero, Nat.zero_add, dig_at _ _ _ hj]
      simp
    | succ k =>
      rw [List.getD_eq_getElem?_getD, List.getElem?_append_right (by rw [dig_len]; omega), ← List.getD_eq_getElem?_getD, dig_len, show 8 * (k + 1) + j - 8 = 8 * k + j by omega, ih k (by simpa using hk)]
      simp
/-- one bit more of a number -/
theorem more_bit (q j : Nat) (hj : j < 8) : q / 2 ^ (8 - j) * 2 + q / 2 ^ (7 - j) % 2 = q / 2 ^ (8 - (j + 1)) := by
  have e : q / 2 ^ (8 - j) = q / 2 ^ (7 - j) / 2 := by
    rw [Nat.div_div_eq_div_mul, show 8 - j = (7 - j) + 1 by omega, Nat.pow_succ]
  rw [e, show 8 - (j + 1) = 7 - j by omega]
  omega

/-- a slice's length -/
def lenOf : Value → Nat
  | .slice _ n _ => n
  | _ => 0

/-- a row of numbers of one's own, and what is older is as it was -/
structure IRow (w wr : World) (v : Value) (n : Nat) (l : List Int) : Prop where
  own : wr.ownsRow w.heap.size 3 1 v n (cellsI l)
  bel : Below w.heap.size w wr

/-- how the reference's Bytes stands behind k bytes -/
structure RB (w w1 wr : World) (u : Value) (k : Nat) (F : List Int) : Prop where
  row : wr.ownsRow w1.heap.size 5 1 u (stuff (F.take k)).length (cellsOf (stuff (F.take k)))
  bel : Below w1.heap.size w1 wr

theorem Wr.parts {w : World} {d : Nat} {L : List Int} (h : Wr w d L) : ∃ B v c, Fit B ∧ c < 8 ∧ v < 2 ^ c ∧ L = by8 B ++ dig v c := by
  obtain ⟨n, v, c, ⟨op, _, _, hf, hv, hL⟩, hc, _⟩ := h
  exact ⟨op.take n, v, c, hf.take n, hc, hv, hL⟩

end Go.Proofs.YthfpdebpepbejaaDoor
