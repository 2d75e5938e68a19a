/-
  The sweep over sorted extents: what lies between them is what is free.
-/
import Derived.Test.YtcgajomngcgchaaMath2
namespace Go.Proofs.Ytcgajomngcgchaa

/-- where one ends -/
def endOf (l : List X) : Int := match l.getLast? with
  | none => 0
  | some e => e.1 + e.2
theorem endOf_snoc (l : List X) (e : X) : endOf (l ++ [e]) = e.1 + e.2 := by simp [endOf]
/-- how things stand behind the extents of l, all of them apart -/
structure Sw (n : Int) (l fr : List X) : Prop where
  ok : ∀ e ∈ l, Ok n e
  dis : Dis l
  lo : 0 ≤ endOf l ∧ endOf l ≤ n
  ends : ∀ e ∈ l, e.1 + e.2 ≤ endOf l
  rise : Rise n 0 fr
  back : aft 0 fr ≤ endOf l
  mem : ∀ k : Int, 0 ≤ k → k < endOf l → (InE fr k ↔ ¬ InE l k)
  sum : sumS fr + sumS l = endOf l
  few : fr.length ≤ l.length
theorem Sw.nil_ {n : Int} (h : 0 ≤ n) : Sw n [] [] :=
  ⟨(fun e h => by cases h), List.Pairwise.nil, ⟨Int.le_refl _, h⟩, (fun e h => by cases h), trivial, Int.le_refl _, fun k h0 h1 => by have : endOf [] = 0 := rfl; omega, rfl, Nat.le_refl _⟩
theorem Sw.gap {n : Int} {l fr : List X} (h : Sw n l fr) {t : Int} (ht : endOf l ≤ t) (hn : t ≤ n) : Rise n 0 (if endOf l < t then fr ++ [(endOf l, t - endOf l)] else fr) ∧ (∀ k : Int, 0 ≤ k → k < t → (InE (if endOf l < t then fr ++ [(endOf l, t - endOf l)] else fr) k ↔ ¬ InE l k)) ∧
    aft 0 (if endOf l < t then fr ++ [(endOf l, t - endOf l)] else fr) ≤ t + 1 ∧ sumS (if endOf l < t then fr ++ [(endOf l, t - endOf l)] else fr) + sumS l = t ∧ (if endOf l < t then fr ++ [(endOf l, t - endOf l)] else fr).length ≤ l.length + 1 := by
  have h1 := h.back; have h2 := h.sum; have h3 := h.few; have h4 := h.lo
  by_cases hlt : endOf l < t
  · rw [if_pos hlt]
    refine ⟨rise_app.2 ⟨h.rise, h1, by simp only; omega, by simp only; omega, trivial⟩, fun k k0 k1 => ?_, ?_, ?_, by simp; omega⟩
    · rw [inE_app, inE_one]
      by_cases hk : k < endOf l
      · rw [h.mem k k0 hk]
        simp only
        constructor
        · rintro (h | h)
          · exact h
          · omega
        · exact fun h => .inl h
      · constructor
        · rintro _ ⟨e, he, e1, e2⟩
          have := h.ends e he
          omega
        · intro _
          exact .inr (by simp only; omega)
    · rw [aft_app]; simp only [aft]; omega
    · rw [sumS_app]; simp only [sumS]; omega
  · rw [if_neg hlt]
    exact ⟨h.rise, fun k k0 k1 => h.mem k k0 (by omega), by omega, by omega, by omega⟩
theorem Sw.step {n : Int} {l fr : List X} (h : Sw n l fr) {e : X} (ok : Ok n e) (hs : endOf l ≤ e.1) : Sw n (l ++ [e]) (if endOf l < e.1 then fr ++ [(endOf l, e.1 - endOf l)] else fr) := by
  obtain ⟨o1, o2, o3⟩ := ok
  obtain ⟨g1, g2, g3, g4, g5⟩ := h.gap hs (by omega)
  have hend := endOf_snoc l e
  refine ⟨?_, ?_, by rw [hend]; omega, ?_, g1, by rw [hend]; omega, ?_, ?_, by rw [List.length_append]; exact g5⟩
  · intro x hx
    rcases List.mem_append.1 hx with hx | hx
    · exact h.ok x hx
    · obtain rfl : x = e := by simpa using hx
      exact ⟨o1, o2, o3⟩
  · unfold Dis
    rw [List.pairwise_append]
    refine ⟨h.dis, List.pairwise_singleton _ _, fun a ha b hb => ?_⟩
    obtain rfl : b = e := by simpa using hb
    have := h.ends a ha
    exact .inl (by omega)
  · intro x hx
    rw [hend]
    rcases List.mem_append.1 hx with hx | hx
    · have := h.ends x hx; omega
    · obtain rfl : x = e := by simpa using hx
      exact Int.le_refl _
  · intro k k0 k1
    rw [hend] at k1
    rw [inE_app, inE_one]
    by_cases hk : k < e.1
    · rw [g2 k k0 hk]
      constructor
      · rintro hn (h | h)
        · exact hn h
        · omega
      · exact fun hn h => hn (.inl h)
    · constructor
      · rintro ⟨x, hx, x1, x2⟩ _
        by_cases hlt : endOf l < e.1
        · rw [if_pos hlt] at hx
          rcases List.mem_append.1 hx with hx | hx
          · have := h.rise.end_lt x hx; have := h.back; omega
          · obtain rfl : x = (endOf l, e.1 - endOf l) := by simpa using hx
            simp only at x2
            omega
        · rw [if_neg hlt] at hx
          have := h.rise.end_lt x hx; have := h.back; omega
      · intro hn
        exact absurd (.inr (by omega)) hn
  · rw [sumS_app, hend]; simp only [sumS]; omega
/-- behind all of them, and what is left of the disk -/
theorem Sw.fin {n : Int} {l fr : List X} (h : Sw n l fr) : Rise n 0 (if endOf l < n then fr ++ [(endOf l, n - endOf l)] else fr) ∧ (∀ k : Int, 0 ≤ k → k < n → (InE (if endOf l < n then fr ++ [(endOf l, n - endOf l)] else fr) k ↔ ¬ InE l k)) ∧ sumS (if endOf l < n then fr ++ [(endOf l, n - endOf l)] else fr) + sumS l = n ∧
    (if endOf l < n then fr ++ [(endOf l, n - endOf l)] else fr).length ≤ l.length + 1 := by
  obtain ⟨g1, g2, _, g4, g5⟩ := h.gap h.lo.2 (Int.le_refl _)
  exact ⟨g1, g2, g4, g5⟩
/-- one that begins ahead of where the one ahead of it ends -/
theorem sw_not {n : Int} {l r : List X} {e : X} (ok : Ok n e) (hs : e.1 < endOf l) (hp : (l ++ e :: r).Pairwise (fun a b => a.1 ≤ b.1)) : ¬ Dis (l ++ e :: r) := by
  intro hd
  unfold Dis at hd
  rw [List.pairwise_append] at hd hp
  rcases hl : l.getLast? with _ | x
  · have he : endOf l = 0 := by unfold endOf; rw [hl]
    have := ok.1
    omega
  · have he : endOf l = x.1 + x.2 := by unfold endOf; rw [hl]
    have hx : x ∈ l := List.mem_of_getLast? hl
    have h1 := hd.2.2 x hx e (by simp)
    have h2 := hp.2.2 x hx e (by simp)
    have h3 := ok.2.1
    unfold Apart at h1
    omega
end Go.Proofs.Ytcgajomngcgchaa
