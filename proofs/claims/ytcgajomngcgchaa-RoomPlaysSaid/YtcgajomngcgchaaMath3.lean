/-
  The free extents sector by sector; how many sectors they are.
-/
import Derived.Test.YtcgajomngcgchaaMath2
namespace Go.Proofs.Ytcgajomngcgchaa

/-- fs is the free extents of the first i sectors, found one by one -/
structure Ft (u : List Bool) (i : Nat) (fs : List X) : Prop where
  can : CanTo u i fs
  last : 0 < i → u.getD (i - 1) true = false → ∃ (a : List X) (e : X), fs = a ++ [e] ∧ e.1 + e.2 = (i : Int)
  sum : sumS fs = ((u.take i).count false : Nat)
  few : fs.length ≤ i
theorem count_take (u : List Bool) (i : Nat) (hi : i < u.length) : (u.take (i + 1)).count false = (u.take i).count false + (if u.getD i true = false then 1 else 0) := by
  rw [List.take_succ_eq_append_getElem hi, List.count_append, List.getD_eq_getElem?_getD, List.getElem?_eq_getElem hi]
  simp [List.count_singleton]
section
variable {u : List Bool} {i : Nat} {fs : List X}
theorem Ft.nil_ (u : List Bool) : Ft u 0 [] := ⟨⟨trivial, fun k hk => by omega⟩, fun h => by omega, by simp [sumS], by simp⟩
theorem inE_lt {hi lo : Int} {l : List X} (h : Rise hi lo l) {k : Int} (hk : InE l k) : k < hi := by
  obtain ⟨e, he, h1, h2⟩ := hk
  have := (h.at_ e he).2.2
  omega
theorem Ft.used (h : Ft u i fs) (hi : i < u.length) (hu : u.getD i true = true) : Ft u (i + 1) fs := by
  refine ⟨⟨h.can.rise.upto (by omega), fun k hk => ?_⟩, fun _ h2 => ?_, ?_, by have := h.few; omega⟩
  · by_cases he : k = i
    · subst he
      rw [hu]
      exact ⟨(fun h => by cases h), fun hk => by have := inE_lt h.can.rise hk; omega⟩
    · exact h.can.mem k (by omega)
  · rw [Nat.add_sub_cancel, hu] at h2; cases h2
  · rw [count_take u i hi, hu]; simp [h.sum]
theorem Ft.more {a : List X} {e : X} (h : Ft u i (a ++ [e])) (hi : i < u.length) (hu : u.getD i true = false) (he : e.1 + e.2 = i) : Ft u (i + 1) (a ++ [(e.1, e.2 + 1)]) := by
  obtain ⟨r1, r2⟩ := rise_app.1 h.can.rise
  refine ⟨⟨rise_app.2 ⟨r1.upto (by omega), r2.1, by have := r2.2.1; simp only; omega, by simp only; omega, trivial⟩, fun k hk => ?_⟩, fun _ _ => ⟨a, _, rfl, by simp only; omega⟩, ?_, by have := h.few; simp at this ⊢; omega⟩
  · rw [inE_app, inE_one]
    by_cases hk2 : k = i
    · subst hk2
      rw [hu]
      simp only [true_iff]
      exact .inr (by have := r2.2.1; omega)
    · rw [h.can.mem k (by omega), inE_app, inE_one]
      simp only
      constructor
      · rintro (h | h)
        · exact .inl h
        · exact .inr (by omega)
      · rintro (h | h)
        · exact .inl h
        · exact .inr (by omega)
  · have := h.sum
    rw [sumS_app] at this
    rw [count_take u i hi, hu, sumS_app]
    simp only [sumS, if_true] at this ⊢
    omega
theorem Ft.fresh (h : Ft u i fs) (hi : i < u.length) (hu : u.getD i true = false) (hp : i = 0 ∨ u.getD (i - 1) true = true) : Ft u (i + 1) (fs ++ [((i : Int), 1)]) := by
  have haft : aft 0 fs ≤ i := by
    rcases List.eq_nil_or_concat fs with rfl | ⟨a, e, rfl⟩
    · simp [aft]
    · rw [List.concat_eq_append] at h ⊢
      have he := h.can.rise.at_ e (by simp)
      have : aft 0 (a ++ [e]) = e.1 + e.2 + 1 := by rw [aft_app]; rfl
      rw [this]
      by_cases hend : e.1 + e.2 = i
      · rcases hp with rfl | hp
        · omega
        · have := (h.can.mem (i - 1) (by omega)).2 ⟨e, by simp, by omega, by omega⟩
          rw [hp] at this; cases this
      · omega
  refine ⟨⟨rise_app.2 ⟨h.can.rise.upto (by omega), haft, by simp, by simp, trivial⟩, fun k hk => ?_⟩, fun _ _ => ⟨fs, _, rfl, by simp⟩, ?_, by have := h.few; simp; omega⟩
  · rw [inE_app, inE_one]
    by_cases hk2 : k = i
    · subst hk2
      rw [hu]
      simp only [true_iff]
      exact .inr (by omega)
    · rw [h.can.mem k (by omega)]
      simp only
      constructor
      · exact .inl
      · rintro (h | h)
        · exact h
        · omega
  · rw [count_take u i hi, hu, sumS_app, h.sum]; simp [sumS]
theorem ft_exists (u : List Bool) : ∀ i, i ≤ u.length → ∃ fs, Ft u i fs
  | 0, _ => ⟨[], Ft.nil_ u⟩
  | i + 1, hi => by
    obtain ⟨fs, h⟩ := ft_exists u i (by omega)
    cases hu : u.getD i true with
    | true => exact ⟨fs, h.used (by omega) hu⟩
    | false =>
      by_cases h0 : i = 0
      · exact ⟨_, h.fresh (by omega) hu (.inl h0)⟩
      · cases hp : u.getD (i - 1) true with
        | true => exact ⟨_, h.fresh (by omega) hu (.inr hp)⟩
        | false =>
          obtain ⟨a, e, rfl, he⟩ := h.last (by omega) hp
          exact ⟨_, h.more (by omega) hu he⟩
theorem Can.sum (h : Can u fs) : sumS fs = (u.count false : Nat) := by
  obtain ⟨g, hg⟩ := ft_exists u u.length (Nat.le_refl _)
  have : fs = g := h.only hg.can
  rw [this, hg.sum, List.take_of_length_le (Nat.le_refl _)]
/-- where the used sectors end, sector by sector -/
structure Et (u : List Bool) (i z : Nat) : Prop where
  le : z ≤ i
  last : z = 0 ∨ u.getD (z - 1) true = true
  free : ∀ k, z ≤ k → k < i → u.getD k true = false
theorem et_used (hu : u.getD i true = true) : Et u (i + 1) (i + 1) := ⟨Nat.le_refl _, .inr (by rw [Nat.add_sub_cancel]; exact hu), fun k h1 h2 => by omega⟩
theorem Et.free_ {z : Nat} (h : Et u i z) (hu : u.getD i true = false) : Et u (i + 1) z := ⟨by have := h.le; omega, h.last, fun k h1 h2 => by
  by_cases he : k = i
  · subst he; exact hu
  · exact h.free k h1 (by omega)⟩
end
end Go.Proofs.Ytcgajomngcgchaa
