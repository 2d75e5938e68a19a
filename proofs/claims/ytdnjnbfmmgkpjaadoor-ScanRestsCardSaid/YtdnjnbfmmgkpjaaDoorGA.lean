/-
  Reading in the midst of other bytes: what is read of some bytes alone is read of them with any bytes ahead and behind. No code.
-/
import Derived.Test.YtdnjnbfmmgkpjaaDoorPA
namespace Go.Proofs.YtdnjnbfmmgkpjaaDoor
open Go.RowKit

/-- a place, so many bytes on -/
def sh (d : Nat) (s : St) : St := ⟨s.at_ + d, s.v, s.c⟩
theorem mid_len (P X T : List Int) : (P ++ X ++ T).length = P.length + X.length + T.length := by rw [List.length_append, List.length_append]
theorem mid_at (P X T : List Int) {a : Nat} (h : a < X.length) : (P ++ X ++ T).getD (a + P.length) 0 = X.getD a 0 := by
  rw [List.getD_eq_getElem?_getD, List.getD_eq_getElem?_getD, List.append_assoc, List.getElem?_append_right (by omega), Nat.add_sub_cancel, List.getElem?_append_left h]
section
variable (P X T : List Int)
theorem begin_sim {a : Nat} (h : beginE X a = 0) : beginE (P ++ X ++ T) (a + P.length) = 0 ∧ beginS (P ++ X ++ T) (a + P.length) = beginS X a ∧ (P ++ X ++ T).getD (a + P.length) 0 = X.getD a 0 := by
  have hs := beginE_some h
  have hl := mid_len P X T
  unfold beginE at h
  split at h
  · next h1 =>
    have e := mid_at P X T h1
    refine ⟨?_, by unfold beginS; rw [e], e⟩
    unfold beginE
    rw [if_pos (by omega), e]
    split at h
    · next h2 =>
      rw [if_pos h2]
      split at h
      · next h3 =>
        have e2 := mid_at P X T h3
        rw [show a + 1 + P.length = a + P.length + 1 by omega] at e2
        rw [if_pos (by omega), e2]
        split at h
        · next h4 => rw [if_pos h4]
        · cases h
      · cases h
    · next h2 => rw [if_neg h2]
  · cases h
theorem bit_sim {s : St} (h : (bitF X s).2.2 = 0) : bitF (P ++ X ++ T) (sh P.length s) = (sh P.length (bitF X s).1, (bitF X s).2.1, 0) := by
  by_cases hc : 0 < s.c
  · rw [bitF_full hc, bitF_full (s := sh P.length s) hc]
    rfl
  · by_cases h0 : beginE X s.at_ = 0
    · obtain ⟨h1, h2, h3⟩ := begin_sim P X T h0
      rw [bitF_begun (by omega) h0, bitF_begun (s := sh P.length s) (by show s.c = 0; omega) h1, bitF_full (by show 0 < 8; omega), bitF_full (by show 0 < 8; omega)]
      unfold begun sh
      dsimp only
      rw [h2, h3]
      rw [show s.at_ + P.length + beginS X s.at_ = s.at_ + beginS X s.at_ + P.length by omega]
    · rw [bitF_none (by omega) h0] at h
      exact absurd h h0
theorem go_sim (s0 s0' : St) : ∀ (k : Nat) (s : St) (m : Nat), (goF X s0 k s m).2.2 = 0 → goF (P ++ X ++ T) s0' k (sh P.length s) m = (sh P.length (goF X s0 k s m).1, (goF X s0 k s m).2.1, 0)
  | 0, s, m, _ => rfl
  | k + 1, s, m, h => by
    unfold goF at h ⊢
    by_cases hb : (bitF X s).2.2 = 0
    · rw [if_pos hb] at h ⊢
      have e := bit_sim P X T hb
      rw [e]
      dsimp only
      rw [if_pos rfl]
      exact go_sim s0 s0' k _ _ h
    · rw [if_neg hb] at h
      exact absurd h hb
theorem get_sim {s : St} {k : Int} (h : (getF X s k).2.2 = 0) : getF (P ++ X ++ T) (sh P.length s) k = (sh P.length (getF X s k).1, (getF X s k).2.1, 0) := by
  unfold getF at h ⊢
  split at h
  · cases h
  · next h1 =>
    rw [if_neg h1, if_neg h1]
    exact go_sim P X T _ _ _ _ _ h
theorem num_sim {s : St} {k : Nat} (h : (numF X s k).2.2 = 0) : numF (P ++ X ++ T) (sh P.length s) k = (sh P.length (numF X s k).1, (numF X s k).2.1, 0) := by
  unfold numF at h ⊢
  by_cases h1 : (getF X s k).2.2 = 0
  · rw [if_pos h1] at h ⊢
    rw [get_sim P X T h1]
    rfl
  · rw [if_neg h1] at h
    exact absurd h h1
theorem gets_sim (L : List En) : ∀ (k : Nat) (s : St) (m z : Nat), (getsF L X k s m z).2.2 = 0 → getsF L (P ++ X ++ T) k (sh P.length s) m z = (sh P.length (getsF L X k s m z).1, (getsF L X k s m z).2.1, 0)
  | 0, s, m, z, h => by cases h
  | k + 1, s, m, z, h => by
    by_cases hb : (bitF X s).2.2 = 0
    · have e := bit_sim P X T hb
      have hb' : (bitF (P ++ X ++ T) (sh P.length s)).2.2 = 0 := by rw [e]
      have e1 : (bitF (P ++ X ++ T) (sh P.length s)).2.1 = (bitF X s).2.1 := by rw [e]
      have e0 : (bitF (P ++ X ++ T) (sh P.length s)).1 = sh P.length (bitF X s).1 := by rw [e]
      cases hg : get L (2 * m + (bitF X s).2.1, z + 1) with
      | some en => rw [getsF_hit hb hg, getsF_hit hb' (by rw [e1]; exact hg), e0]
      | none =>
        rw [getsF_miss hb hg] at h ⊢
        rw [getsF_miss hb' (by rw [e1]; exact hg), e0, e1]
        exact gets_sim L k _ _ _ h
    · rw [getsF_err hb] at h
      exact absurd h hb
theorem first_sim {L : List En} {s : St} (h : (firstF L X s).2.2 = 0) : firstF L (P ++ X ++ T) (sh P.length s) = (sh P.length (firstF L X s).1, (firstF L X s).2.1, 0) := by
  unfold firstF at h ⊢
  by_cases h1 : (getsF L X 16 s 0 0).2.2 = 0
  · rw [if_pos h1] at h ⊢
    rw [gets_sim P X T L _ _ _ _ h1]
    dsimp only
    rw [if_pos rfl]
    split at h
    · cases h
    · next h2 =>
      rw [if_neg h2, if_neg h2]
      exact num_sim P X T h
  · rw [if_neg h1] at h
    exact absurd h h1
theorem others_sim (L : List En) : ∀ (f i : Nat) (s : St) (b : List Int), (othersG L X f i s b).2.2 = 0 → othersG L (P ++ X ++ T) f i (sh P.length s) b = (sh P.length (othersG L X f i s b).1, (othersG L X f i s b).2.1, 0)
  | 0, i, s, b, _ => rfl
  | f + 1, i, s, b, h => by
    by_cases hi : 64 ≤ i
    · rw [othersG_end hi, othersG_end hi]
    · obtain ⟨R, hR⟩ : ∃ R, R = getsF L X 16 s 0 0 := ⟨_, rfl⟩
      obtain ⟨R', hR'⟩ : ∃ R', R' = getsF L (P ++ X ++ T) 16 (sh P.length s) 0 0 := ⟨_, rfl⟩
      by_cases h1 : R.2.2 = 0
      · have e := gets_sim P X T L 16 s 0 0 (by rw [← hR]; exact h1)
        rw [← hR, ← hR'] at e
        have e1 : R'.1 = sh P.length R.1 := by rw [e]
        have e2 : R'.2.1 = R.2.1 := by rw [e]
        have e3 : R'.2.2 = 0 := by rw [e]
        by_cases h0 : R.2.1 = 0
        · rw [othersG_stop hR (by omega) h1 h0, othersG_stop hR' (by omega) e3 (by rw [e2]; exact h0), e1]
        · by_cases hb : badSym R.2.1.toNat i
          · rw [othersG_form hR (by omega) h1 h0 hb] at h
            cases h
          · obtain ⟨N, hN⟩ : ∃ N, N = numF X R.1 (R.2.1.toNat % 16) := ⟨_, rfl⟩
            obtain ⟨N', hN'⟩ : ∃ N', N' = numF (P ++ X ++ T) R'.1 (R'.2.1.toNat % 16) := ⟨_, rfl⟩
            by_cases hn : N.2.2 = 0
            · have e4 := num_sim P X T (s := R.1) (k := R.2.1.toNat % 16) (by rw [← hN]; exact hn)
              rw [← hN, ← e1, ← e2, ← hN'] at e4
              have e5 : N'.1 = sh P.length N.1 := by rw [e4]
              have e6 : N'.2.1 = N.2.1 := by rw [e4]
              rw [othersG_next hR hN (by omega) h1 h0 hb hn] at h ⊢
              rw [othersG_next hR' hN' (by omega) e3 (by rw [e2]; exact h0) (by rw [e2]; exact hb) (by rw [e4]), e5, e6, e2]
              exact others_sim L f _ _ _ h
            · rw [othersG_num hR hN (by omega) h1 h0 hb hn] at h
              exact absurd h hn
      · rw [othersG_err hR (by omega) h1] at h
        exact absurd h h1
theorem block_sim {Ld La : List En} {s : St} {prev : Int} (h : (blockF Ld La X s prev).2.2 = 0) : blockF Ld La (P ++ X ++ T) (sh P.length s) prev = (sh P.length (blockF Ld La X s prev).1, (blockF Ld La X s prev).2.1, 0) := by
  by_cases hi : In prev
  · obtain ⟨F, hF⟩ : ∃ F, F = firstF Ld X s := ⟨_, rfl⟩
    by_cases h1 : F.2.2 = 0
    · have e := first_sim P X T (L := Ld) (s := s) (by rw [← hF]; exact h1)
      rw [← hF] at e
      obtain ⟨O, hO⟩ : ∃ O, O = othersG La X 63 1 F.1 ((prev + F.2.1) :: List.replicate 63 0) := ⟨_, rfl⟩
      by_cases h2 : O.2.2 = 0
      · have e2 := others_sim P X T La 63 1 F.1 ((prev + F.2.1) :: List.replicate 63 0) (by rw [← hO]; exact h2)
        rw [← hO] at e2
        by_cases h3 : RightB O.2.1
        · rw [blockF_done hi hF h1 hO h2 h3]
          rw [blockF_done hi e.symm rfl e2.symm rfl h3]
        · rw [blockF_form hi hF h1 hO h2 h3] at h
          cases h
      · rw [blockF_others hi hF h1 hO h2] at h
        exact absurd h h2
    · rw [blockF_first hi hF h1] at h
      exact absurd h h1
  · rw [blockF_prev hi] at h
    cases h
end
/-- a block that was put is got, whatever lies ahead and behind -/
theorem block_back2 {B V B' V' F b : List Int} {prev : Int} {p : Nat} (P T : List Int) (hv : Valid B V) (hv' : Valid B' V') (hf : Fit F) (hb : b.length = 64) (h : putBE (codes B V) (codes B' V') prev b = 0) (hl : Lies F p (bitsOf (codes B V) (codes B' V') (allS prev b))) :
    blockF (codes B V) (codes B' V') (P ++ stuff F ++ T) (sh P.length (stAt F p)) prev = (sh P.length (stAt F (p + (bitsOf (codes B V) (codes B' V') (allS prev b)).length)), b, 0) := by
  have e := block_back hv hv' hf hb h hl
  have := block_sim P (stuff F) T (Ld := codes B V) (La := codes B' V') (s := stAt F p) (prev := prev) (by rw [e])
  rw [this, e]
theorem othersG_len (L : List En) (l : List Int) : ∀ (f i : Nat) (s : St) (b : List Int), (othersG L l f i s b).2.1.length = b.length
  | 0, i, s, b => rfl
  | f + 1, i, s, b => by
    rw [othersG]
    split
    · rfl
    · split
      · rfl
      · split
        · rfl
        · split
          · rfl
          · split
            · rfl
            · rw [othersG_len L l f]
              exact List.length_set
theorem blockF_len (Ld La : List En) (l : List Int) (s : St) (prev : Int) : (blockF Ld La l s prev).2.1.length = 64 := by
  unfold blockF
  split
  · split
    · split
      · split
        · show (othersG _ _ _ _ _ _).2.1.length = 64
          rw [othersG_len]
          simp
        · rfl
      · rfl
    · rfl
  · rfl
end Go.Proofs.YtdnjnbfmmgkpjaaDoor
