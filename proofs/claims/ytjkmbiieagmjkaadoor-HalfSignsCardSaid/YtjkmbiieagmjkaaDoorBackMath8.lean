/-
  What goes up and down again, and down and up again: mathematics, no code.
-/
import Derived.Test.YtjkmbiieagmjkaaDoorNeg
namespace Go.Proofs.YtjkmbiieagmjkaaDoor
open Go.RowKit

theorem rnd_times {q d : Int} (hq : -1023 ≤ q ∧ q ≤ 1023) (hd : 1 ≤ d ∧ d ≤ 255) : rnd (q * d) d = q := by
  have key : ∀ q, 0 ≤ q → q ≤ 1023 → rnd (q * d) d = q := by
    intro q h0 h1
    have hm := mul_small (n := q) (by omega) h1 hd.1 hd.2
    have hn : 0 ≤ q * d := Int.mul_nonneg h0 (by omega)
    rw [rnd_pos (by unfold Frac; omega) hn, Int.mul_comm, Int.add_comm, Int.add_mul_ediv_left _ _ (by omega), Int.ediv_eq_zero_of_lt (by omega) (by omega), Int.zero_add]
  by_cases h0 : 0 ≤ q
  · exact key q h0 hq.2
  · have h1 := key (-q) (by omega) (by omega)
    rw [Int.neg_mul, rnd_neg] at h1
    omega
theorem held_in {z : Int} (h : -1023 ≤ z ∧ z ≤ 1023) : held z (-1023) 1023 = z := by unfold held; rw [if_neg (by omega), if_neg (by omega)]
theorem wi_up {b s : List Int} (h : Wi b (-1023) 1023) (hs : Wi s 1 255) : Wi (upL b s) (-16777216) 16777216 := fun k hk => by
  have a1 := h k hk
  have a2 := hs k hk
  have := mul_small a1.1 a1.2 a2.1 a2.2
  unfold upL
  rw [tab_at _ hk]
  omega
/-- what goes up and down again is what it was -/
theorem up_down {b s : List Int} (hb : b.length = 64) (h : (upF b s).2 = 0) : downF (upF b s).1 s = (b, 0) := by
  have hc : checkF b s 1023 = 0 := by
    unfold upF at h
    split at h
    · assumption
    · exact h
  obtain ⟨hs, hw⟩ := checkF_zero hc
  unfold upF
  rw [if_pos hc]
  unfold downF
  rw [if_pos (checkF_yes hs (wi_up hw hs))]
  congr 1
  refine list_eq (downL_len _ _) hb fun k hk => ?_
  unfold downL upL
  rw [tab_at _ hk, tab_at _ hk]
  unfold dnOf
  rw [rnd_times (hw k hk) (hs k hk), held_in (hw k hk)]
theorem down_zero {b s : List Int} (h : (downF b s).2 ≠ 0) : (downF b s).1 = zeros64 := by
  unfold downF at *
  split at h
  · exact absurd rfl h
  · rw [if_neg (by assumption)]
theorem down_ok {b s : List Int} (h : (downF b s).2 = 0) : Wi s 1 255 ∧ Wi b (-16777216) 16777216 ∧ (downF b s).1 = downL b s := by
  have hc : checkF b s 16777216 = 0 := by
    unfold downF at h
    split at h
    · assumption
    · exact h
  obtain ⟨hs, hw⟩ := checkF_zero hc
  exact ⟨hs, hw, by unfold downF; rw [if_pos hc]⟩
theorem up_of_down {b s : List Int} (h : (downF b s).2 = 0) : upF (downF b s).1 s = (upL (downL b s) s, 0) := by
  obtain ⟨hs, hw, he⟩ := down_ok h
  rw [he]
  unfold upF
  rw [if_pos (checkF_yes hs (fun k hk => by unfold downL; rw [tab_at _ hk]; exact dnOf_small _ _))]
/-- a fraction rounded is off by half a step at most -/
theorem rnd_near {n d : Int} (hn : -16777216 ≤ n ∧ n ≤ 16777216) (hd : 1 ≤ d ∧ d ≤ 255) : 2 * (n - rnd n d * d) ≤ d ∧ -2 * (n - rnd n d * d) ≤ d := by
  have key : ∀ n, 0 ≤ n → n ≤ 16777216 → 2 * (n - rnd n d * d) ≤ d ∧ -2 * (n - rnd n d * d) ≤ d := by
    intro n h0 h1
    rw [rnd_pos (by unfold Frac; omega) h0]
    have e := Int.mul_ediv_add_emod (n + d / 2) d
    have r0 := Int.emod_nonneg (n + d / 2) (show d ≠ 0 by omega)
    have r1 := Int.emod_lt_of_pos (n + d / 2) (show 0 < d by omega)
    rw [Int.mul_comm] at e
    obtain ⟨Q, hQ⟩ : ∃ Q, Q = (n + d / 2) / d * d := ⟨_, rfl⟩
    rw [← hQ] at e ⊢
    omega
  by_cases h0 : 0 ≤ n
  · exact key n h0 hn.2
  · have h1 := key (-n) (by omega) (by omega)
    rw [rnd_neg, Int.neg_mul] at h1
    omega
theorem rnd_held {n d : Int} (hn : -16777216 ≤ n ∧ n ≤ 16777216) (hd : 1 ≤ d ∧ d ≤ 255) (h0 : n ≤ 1023 * d) (h1 : -1023 * d ≤ n) : held (rnd n d) (-1023) 1023 = rnd n d := by
  refine held_in ?_
  have key : ∀ n, 0 ≤ n → n ≤ 16777216 → n ≤ 1023 * d → 0 ≤ rnd n d ∧ rnd n d ≤ 1023 := by
    intro n g0 g1 g2
    rw [rnd_pos (by unfold Frac; omega) g0]
    refine ⟨Int.ediv_nonneg (by omega) (by omega), ?_⟩
    have : (n + d / 2) / d < 1024 := Int.ediv_lt_of_lt_mul (by omega) (by omega)
    omega
  by_cases g : 0 ≤ n
  · have := key n g hn.2 h0; omega
  · have := key (-n) (by omega) (by omega) (by omega)
    rw [rnd_neg] at this
    omega
theorem down_near {b s : List Int} (h : (downF b s).2 = 0) {k : Nat} (hk : k < 64) (h0 : b.getD k 0 ≤ 1023 * s.getD k 0) (h1 : -1023 * s.getD k 0 ≤ b.getD k 0) :
    2 * (b.getD k 0 - (upL (downL b s) s).getD k 0) ≤ s.getD k 0 ∧ -2 * (b.getD k 0 - (upL (downL b s) s).getD k 0) ≤ s.getD k 0 := by
  obtain ⟨hs, hw, _⟩ := down_ok h
  unfold upL downL
  rw [tab_at _ hk, tab_at _ hk]
  unfold dnOf
  rw [rnd_held (hw k hk) (hs k hk) h0 h1]
  exact rnd_near (hw k hk) (hs k hk)
theorem down_up_small {b s : List Int} (h : (downF b s).2 = 0) {k : Nat} (hk : k < 64) : -260865 ≤ (upL (downL b s) s).getD k 0 ∧ (upL (downL b s) s).getD k 0 ≤ 260865 := by
  obtain ⟨hs, _, _⟩ := down_ok h
  unfold upL downL
  rw [tab_at _ hk, tab_at _ hk]
  have a := dnOf_small (b.getD k 0) (s.getD k 0)
  have c := hs k hk
  exact mul_small a.1 a.2 c.1 c.2
end Go.Proofs.YtjkmbiieagmjkaaDoor
