/-
  Reading by other restarts: what a reader meets in the midst and at the end of a segment. No code.
-/
import Derived.Test.YtdnjnbfmmgkpjaaDoorBA
namespace Go.Proofs.YtdnjnbfmmgkpjaaDoor
open Go.RowKit

theorem behind_at (P Y : List Int) (x : Nat) : (P ++ Y).getD (x + P.length) 0 = Y.getD x 0 := by
  rw [List.getD_eq_getElem?_getD, List.getD_eq_getElem?_getD, List.getElem?_append_right (by omega), Nat.add_sub_cancel]
/-- what may stand behind a segment: nothing, or a marker -/
def EndOf (T : List Int) : Prop := T = [] ∨ ∃ x r, T = 255 :: x :: r ∧ x ≠ 0
/-- no byte can be begun where a segment ends -/
theorem begin_end {P F T : List Int} (hT : EndOf T) : beginE (P ++ stuff F ++ T) (P.length + (stuff F).length) ≠ 0 := by
  have hl : (P ++ stuff F).length = P.length + (stuff F).length := List.length_append
  rcases hT with rfl | ⟨x, r, rfl, hx⟩
  · unfold beginE
    rw [List.append_nil, if_neg (by omega)]
    decide
  · have e0 : (P ++ stuff F ++ 255 :: x :: r).getD (P.length + (stuff F).length) 0 = 255 := by
      have := behind_at (P ++ stuff F) (255 :: x :: r) 0
      rw [Nat.zero_add, hl] at this
      exact this
    have e1 : (P ++ stuff F ++ 255 :: x :: r).getD (P.length + (stuff F).length + 1) 0 = x := by
      have := behind_at (P ++ stuff F) (255 :: x :: r) 1
      rw [hl, Nat.add_comm 1] at this
      exact this
    have hlen : (P ++ stuff F ++ 255 :: x :: r).length = P.length + (stuff F).length + r.length + 2 := by rw [List.length_append, hl]; simp; omega
    unfold beginE
    rw [if_pos (by omega), e0, if_pos rfl, if_pos (by omega), e1, if_neg hx]
    decide
theorem ones_none {B V : List Int} (hv : Valid B V) (z : Nat) : get (codes B V) (2 ^ z - 1, z) = none := by
  cases h : get (codes B V) (2 ^ z - 1, z) with
  | none => rfl
  | some e =>
    obtain ⟨h1, h2⟩ := get_some h
    have h3 := (hv.code h1).2.2.1
    rw [h2] at h3
    have := pow_pos' z
    dsimp only at h3
    omega
/-- set bits alone are no code: reading goes on to the segment's end, and there it fails -/
theorem gets_pad {B V P F T cur : List Int} {n : Nat} (hv : Valid B V) (hf : Fit F) (h8 : by8 F = cur ++ List.replicate n 1) (hn : n < 8) (hT : EndOf T) : ∀ (d j k : Nat), j + d = n → d < k →
    (getsF (codes B V) (P ++ stuff F ++ T) k (sh P.length (stAt F (cur.length + j))) (2 ^ j - 1) j).2.2 ≠ 0
  | 0, j, k, hj, hk => by
    obtain ⟨k, rfl⟩ : ∃ k', k = k' + 1 := ⟨k - 1, by omega⟩
    have hl := congrArg List.length h8
    rw [by8_len, List.length_append, List.length_replicate] at hl
    obtain ⟨e1, e2⟩ := stAt_end F (cur.length + j) (by omega) (by omega)
    have hb := begin_end (P := P) (F := F) hT
    have hat : (sh P.length (stAt F (cur.length + j))).at_ = P.length + (stuff F).length := by show (stAt F (cur.length + j)).at_ + P.length = _; omega
    have hbit : (bitF (P ++ stuff F ++ T) (sh P.length (stAt F (cur.length + j)))).2.2 ≠ 0 := by
      rw [bitF_none (by show (stAt F (cur.length + j)).c = 0; omega) (by rw [hat]; exact hb), hat]
      exact hb
    rw [getsF_err hbit]
    exact hbit
  | d + 1, j, k, hj, hk => by
    obtain ⟨k, rfl⟩ : ∃ k', k = k' + 1 := ⟨k - 1, by omega⟩
    have hl := congrArg List.length h8
    rw [by8_len, List.length_append, List.length_replicate] at hl
    obtain ⟨b, hb2, hbe, hbit⟩ := stAt_step F [] hf (cur.length + j) (by omega)
    rw [List.append_nil] at hbit
    have h1 : (by8 F).getD (cur.length + j) 0 = 1 := by
      rw [h8, List.getD_eq_getElem?_getD, List.getElem?_append_right (by omega), Nat.add_sub_cancel_left, List.getElem?_replicate_of_lt (by omega)]
      rfl
    have hb1 : b = 1 := by omega
    subst hb1
    have hs := bit_sim P (stuff F) T (s := stAt F (cur.length + j)) (by rw [hbit])
    rw [hbit] at hs
    dsimp only at hs
    have hp := pow_pos' j
    have e2 : 2 * (2 ^ j - 1) + 1 = 2 ^ (j + 1) - 1 := by rw [Nat.pow_succ]; omega
    rw [getsF_miss (by rw [hs]) (by rw [hs]; dsimp only; rw [e2]; exact ones_none hv (j + 1)), hs]
    dsimp only
    rw [e2]
    exact gets_pad hv hf h8 hn hT d (j + 1) k (by omega) (by omega)
/-- a block is not got behind a segment's last one -/
theorem block_pad {B V B' V' P F T cur : List Int} {n : Nat} {prev : Int} (hv : Valid B V) (hf : Fit F) (h8 : by8 F = cur ++ List.replicate n 1) (hn : n < 8) (hT : EndOf T) : (blockF (codes B V) (codes B' V') (P ++ stuff F ++ T) (sh P.length (stAt F cur.length)) prev).2.2 ≠ 0 := by
  have hg := gets_pad (P := P) hv hf h8 hn hT n 0 16 (by omega) (by omega)
  rw [Nat.add_zero, Nat.pow_zero, Nat.sub_self] at hg
  obtain ⟨R, hR⟩ : ∃ R, R = getsF (codes B V) (P ++ stuff F ++ T) 16 (sh P.length (stAt F cur.length)) 0 0 := ⟨_, rfl⟩
  rw [← hR] at hg
  have hF := firstF_err hR hg
  by_cases hi : In prev
  · rw [blockF_first hi hF.symm hg]
    exact hg
  · rw [blockF_prev hi]
    show (2 : Int) ≠ 0
    decide
/-- no marker is met in the midst of a segment -/
theorem mark_mid {P F T : List Int} {k : Nat} (hk : (k + 7) / 8 < F.length) : (markF (P ++ stuff F ++ T) (sh P.length (stAt F k))).2.2 ≠ 0 := by
  obtain ⟨h1, h2, h3⟩ := stuff_at F T ((k + 7) / 8) hk
  obtain ⟨a, ha⟩ : ∃ a, a = (stuff (F.take ((k + 7) / 8))).length := ⟨_, rfl⟩
  rw [← ha] at h1 h2 h3
  have hat : (sh P.length (stAt F k)).at_ = a + P.length := by rw [ha]; rfl
  have e0 : (P ++ stuff F ++ T).getD (a + P.length) 0 = F.getD ((k + 7) / 8) 0 := by rw [List.append_assoc, behind_at, h1]
  have hE : markE (P ++ stuff F ++ T) (a + P.length) ≠ 0 := by
    unfold markE
    split
    · decide
    · rw [e0, if_neg (fun hc => ?_)]
      · decide
      · have h4 := (h2 hc.1).2
        have e1 : (P ++ stuff F ++ T).getD (a + P.length + 1) 0 = 0 := by
          rw [List.append_assoc, show a + P.length + 1 = (a + 1) + P.length by omega, behind_at, h4]
        exact hc.2.2 e1
  unfold markF
  rw [hat, if_neg hE]
  exact hE
/-- no marker is met at the end of all -/
theorem mark_last {P F : List Int} {k : Nat} (h1 : k ≤ 8 * F.length) (h2 : 8 * F.length < k + 8) : (markF (P ++ stuff F ++ []) (sh P.length (stAt F k))).2.2 ≠ 0 := by
  obtain ⟨e1, _⟩ := stAt_end F k h1 h2
  have hat : (sh P.length (stAt F k)).at_ = P.length + (stuff F).length := by show (stAt F k).at_ + P.length = _; omega
  have hE : markE (P ++ stuff F ++ []) (P.length + (stuff F).length) ≠ 0 := by
    unfold markE
    rw [List.append_nil, if_pos (by rw [List.length_append]; omega)]
    decide
  unfold markF
  rw [hat, if_neg hE]
  exact hE
end Go.Proofs.YtdnjnbfmmgkpjaaDoor
