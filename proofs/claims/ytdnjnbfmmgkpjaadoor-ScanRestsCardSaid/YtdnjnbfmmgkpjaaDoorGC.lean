/-
  Tables that are tuned to a tile have codes for all that the tile's put meets: mathematics, no code.
-/
import Derived.Test.YtdnjnbfmmgkpjaaDoorGB
import Derived.Test.YtdnjnbfmmgkpjaaDoorMG
namespace Go.Proofs.YtdnjnbfmmgkpjaaDoor
open Go.RowKit

section
variable {C B V : List Int}
theorem SpecOf.valid (h : SpecOf C B V) (hg : Good C) (ha : Any C C.length) : Valid B V := by
  obtain ⟨fin, m, h1, h2, h3, _, hV⟩ := h
  rw [hV]
  exact h1.valid hg.counted (usF_ne ha) h2 h3
theorem SpecOf.code (h : SpecOf C B V) (hg : Good C) (ha : Any C C.length) {k : Nat} (hk : k < C.length) (h0 : 0 < C.getD k 0) : (fnd (codes B V) (k : Int)).isSome = true := by
  obtain ⟨fin, m, h1, h2, h3, _, hV⟩ := h
  rw [hV]
  have hf := (h1.found hg.counted (usF_ne ha) h2 h3 (k : Int)).2 ⟨k, mem_usF.2 ⟨hk, h0⟩, rfl⟩
  exact Option.isSome_iff_ne_none.2 hf
end
/-- the symbols that a tile's blocks have, those of brightness and of colour -/
structure TS where
  prev : List Int
  s0 : List Sym
  s1 : List Sym
def symE (tl : List (List (List Int))) (s : TS) (p a : Nat) : List Sym := allS (s.prev.getD p 0) (blkAt tl p a)
def stepT (tl : List (List (List Int))) (s : TS) : Ev → TS
  | none => ⟨[0, 0, 0], s.s0, s.s1⟩
  | some (p, a) => ⟨s.prev.set p ((blkAt tl p a).getD 0 0), if min p 1 = 0 then s.s0 ++ symE tl s p a else s.s0, if min p 1 = 0 then s.s1 else s.s1 ++ symE tl s p a⟩
def runT (tl : List (List (List Int))) (es : List Ev) : TS := es.foldl (stepT tl) ⟨[0, 0, 0], [], []⟩
def sy (s : TS) (c : Nat) : List Sym := if c = 0 then s.s0 else s.s1
section
variable {T : Tbs} {tl : List (List (List Int))}
theorem runT_snoc (es : List Ev) (e : Ev) : runT tl (es ++ [e]) = stepT tl (runT tl es) e := by simp [runT]
theorem sy_see (s : TS) (p a c : Nat) (hc : c ≤ 1) : sy (stepT tl s (some (p, a))) c = if c = min p 1 then sy s c ++ symE tl s p a else sy s c := by
  have hm : min p 1 ≤ 1 := Nat.min_le_right _ _
  show (if c = 0 then (if min p 1 = 0 then s.s0 ++ symE tl s p a else s.s0) else (if min p 1 = 0 then s.s1 else s.s1 ++ symE tl s p a)) = if c = min p 1 then (if c = 0 then s.s0 else s.s1) ++ symE tl s p a else (if c = 0 then s.s0 else s.s1)
  by_cases h0 : c = 0
  · subst h0
    by_cases h1 : min p 1 = 0
    · rw [if_pos rfl, if_pos h1, if_pos h1.symm, if_pos rfl]
    · rw [if_pos rfl, if_neg h1, if_neg (fun e => h1 e.symm), if_pos rfl]
  · by_cases h1 : min p 1 = 0
    · rw [if_neg h0, if_pos h1, if_neg (by omega), if_neg h0]
    · rw [if_neg h0, if_neg h1, if_pos (by omega), if_neg h0]
theorem sy_rest (s : TS) (c : Nat) : sy (stepT tl s none) c = sy s c := rfl
/-- every symbol that is met has a code -/
def Covers (T : Tbs) (s : TS) : Prop := ∀ c, c ≤ 1 → ∀ x ∈ sy s c, foundS (codes (T.B c) (T.V c)) (codes (T.B (c + 2)) (T.V (c + 2))) x = true
theorem run_covered (es : List Ev) : (∀ p a, some (p, a) ∈ es → p < 3 ∧ RightB (blkAt tl p a)) → Covers T (runT tl es) →
    (runP T tl es).err = 0 ∧ (runP T tl es).prev = (runT tl es).prev ∧ (∀ i, In ((runT tl es).prev.getD i 0)) ∧ (runT tl es).prev.length = 3 := by
  refine snoc_ind (Q := fun es => (∀ p a, some (p, a) ∈ es → p < 3 ∧ RightB (blkAt tl p a)) → Covers T (runT tl es) → (runP T tl es).err = 0 ∧ (runP T tl es).prev = (runT tl es).prev ∧ (∀ i, In ((runT tl es).prev.getD i 0)) ∧ (runT tl es).prev.length = 3) ?_ ?_ es
  · intro _ _
    refine ⟨rfl, rfl, fun i => ?_, rfl⟩
    show In (([0, 0, 0] : List Int).getD i 0)
    match i with
    | 0 => decide
    | 1 => decide
    | 2 => decide
    | i + 3 => show In (Option.getD none 0); decide
  · intro es e ih hb hcov
    have hcov' : Covers T (runT tl es) := by
      intro c hc x hx
      refine hcov c hc x ?_
      rw [runT_snoc]
      cases e with
      | none => exact hx
      | some y =>
        obtain ⟨p, a⟩ := y
        rw [sy_see _ _ _ _ hc]
        split
        · exact List.mem_append_left _ hx
        · exact hx
    obtain ⟨h0, h1, h2, h3⟩ := ih (fun p a hm => hb p a (List.mem_append_left _ hm)) hcov'
    cases e with
    | none =>
      rw [runP_rest h0, runT_snoc]
      refine ⟨h0, rfl, fun i => ?_, rfl⟩
      show In (([0, 0, 0] : List Int).getD i 0)
      match i with
      | 0 => decide
      | 1 => decide
      | 2 => decide
      | i + 3 => show In (Option.getD none 0); decide
    | some y =>
      obtain ⟨p, a⟩ := y
      obtain ⟨hp, hr⟩ := hb p a (by simp)
      rw [runP_see h0, runT_snoc]
      have hE : seeE T tl (runP T tl es) p a = 0 := by
        unfold seeE putBE
        rw [h1, if_pos ⟨h2 p, hr⟩, if_pos]
        rw [List.all_eq_true]
        intro x hx
        refine hcov (min p 1) (Nat.min_le_right _ _) x ?_
        rw [runT_snoc, sy_see _ _ _ _ (Nat.min_le_right _ _), if_pos rfl]
        exact List.mem_append_right _ hx
      rw [seeP_eq hE]
      refine ⟨h0, by rw [h1]; rfl, fun i => ?_, by show (List.set _ _ _).length = 3; rw [List.length_set]; exact h3⟩
      show In (((runT tl es).prev.set p ((blkAt tl p a).getD 0 0)).getD i 0)
      by_cases hi : i = p
      · subst hi
        rw [List.getD_eq_getElem?_getD, List.getElem?_set_self (by omega)]
        exact hr 0 (by omega)
      · rw [List.getD_eq_getElem?_getD, List.getElem?_set_ne (fun e => hi e.symm), ← List.getD_eq_getElem?_getD]
        exact h2 i
/-- few symbols -/
theorem sy_len (es : List Ev) (c : Nat) (hc : c ≤ 1) : (sy (runT tl es) c).length ≤ 64 * places es := by
  refine snoc_ind (Q := fun es => (sy (runT tl es) c).length ≤ 64 * places es) ?_ ?_ es
  · unfold sy runT
    split <;> exact Nat.zero_le _
  · intro es e ih
    rw [runT_snoc]
    cases e with
    | none =>
      rw [sy_rest, places_app]
      omega
    | some y =>
      obtain ⟨p, a⟩ := y
      have e1 : places (es ++ [some (p, a)]) = places es + 1 := by rw [places_app]; rfl
      rw [sy_see _ _ _ _ hc, e1]
      split
      · rw [List.length_append]
        have := allS_len ((runT tl es).prev.getD p 0) (blkAt tl p a)
        unfold symE
        omega
      · omega
/-- symbols that may be -/
theorem sy_ok (es : List Ev) (hb : ∀ p a, some (p, a) ∈ es → p < 3 ∧ RightB (blkAt tl p a)) : (∀ c, c ≤ 1 → ∀ x ∈ sy (runT tl es) c, SymOk x) ∧ (∀ i, In ((runT tl es).prev.getD i 0)) ∧ (runT tl es).prev.length = 3 := by
  revert hb
  refine snoc_ind (Q := fun es => (∀ p a, some (p, a) ∈ es → p < 3 ∧ RightB (blkAt tl p a)) → (∀ c, c ≤ 1 → ∀ x ∈ sy (runT tl es) c, SymOk x) ∧ (∀ i, In ((runT tl es).prev.getD i 0)) ∧ (runT tl es).prev.length = 3) ?_ ?_ es
  · intro _
    refine ⟨fun c _ x hx => ?_, fun i => ?_, rfl⟩
    · unfold sy runT at hx
      split at hx <;> cases hx
    · show In (([0, 0, 0] : List Int).getD i 0)
      match i with
      | 0 => decide
      | 1 => decide
      | 2 => decide
      | i + 3 => show In (Option.getD none 0); decide
  · intro es e ih hb
    obtain ⟨h1, h2, h3⟩ := ih (fun p a hm => hb p a (List.mem_append_left _ hm))
    rw [runT_snoc]
    cases e with
    | none =>
      refine ⟨fun c hc x hx => h1 c hc x hx, fun i => ?_, rfl⟩
      show In (([0, 0, 0] : List Int).getD i 0)
      match i with
      | 0 => decide
      | 1 => decide
      | 2 => decide
      | i + 3 => show In (Option.getD none 0); decide
    | some y =>
      obtain ⟨p, a⟩ := y
      obtain ⟨hp, hr⟩ := hb p a (by simp)
      refine ⟨fun c hc x hx => ?_, fun i => ?_, by show (List.set _ _ _).length = 3; rw [List.length_set]; exact h3⟩
      · rw [sy_see _ _ _ _ hc] at hx
        split at hx
        · rcases List.mem_append.1 hx with hx | hx
          · exact h1 c hc x hx
          · exact allS_ok hr (h2 p) x hx
        · exact h1 c hc x hx
      · show In (((runT tl es).prev.set p ((blkAt tl p a).getD 0 0)).getD i 0)
        by_cases hi : i = p
        · subst hi
          rw [List.getD_eq_getElem?_getD, List.getElem?_set_self (by omega)]
          exact hr 0 (by omega)
        · rw [List.getD_eq_getElem?_getD, List.getElem?_set_ne (fun e => hi e.symm), ← List.getD_eq_getElem?_getD]
          exact h2 i
end
/-- counts of symbols -/
def cntS (t : Nat) (l : List Sym) : List Int := cntL (List.replicate 256 0) t l
theorem occ_le (t v : Nat) (l : List Sym) : occ t v l ≤ l.length := List.countP_le_length
theorem cntS_at (t : Nat) (l : List Sym) (hl : l.length ≤ 1000000) {i : Nat} (hi : i < 256) : (cntS t l).getD i 0 = (occ t i l : Int) := by
  unfold cntS
  rw [cntL_at _ _ _ hi]
  have h1 : (List.replicate 256 (0 : Int)).getD i 0 = 0 := by rw [List.getD_eq_getElem?_getD, List.getElem?_replicate_of_lt hi]; rfl
  have h2 := occ_le t i l
  rw [h1]
  unfold wrap64
  omega
theorem cntS_int (t : Nat) (l : List Sym) (hl : l.length ≤ 1000000) (i : Nat) : isInt ((cntS t l).getD i 0) := by
  by_cases hi : i < 256
  · rw [cntS_at t l hl hi]
    have h2 := occ_le t i l
    unfold isInt
    omega
  · rw [List.getD_eq_getElem?_getD, List.getElem?_eq_none (by unfold cntS; rw [cntL_len]; omega)]
    unfold isInt
    simp
theorem occ_app (t v : Nat) (a b : List Sym) : occ t v (a ++ b) = occ t v a + occ t v b := by unfold occ; rw [List.countP_append]
theorem cntS_more (t : Nat) (l r : List Sym) (hl : l.length + r.length ≤ 1000000) : cntL (cntS t l) t r = cntS t (l ++ r) := by
  apply List.ext_getElem?
  intro i
  by_cases hi : i < 256
  · have h1 : (cntL (cntS t l) t r).getD i 0 = (cntS t (l ++ r)).getD i 0 := by
      rw [cntL_at _ _ _ hi, cntS_at t l (by omega) hi, cntS_at t (l ++ r) (by rw [List.length_append]; omega) hi, occ_app]
      have h2 := occ_le t i l
      have h3 := occ_le t i r
      unfold wrap64
      omega
    have e1 : (cntL (cntS t l) t r).length = 256 := cntL_len _ _ _
    have e2 : (cntS t (l ++ r)).length = 256 := cntL_len _ _ _
    rw [List.getD_eq_getElem?_getD, List.getD_eq_getElem?_getD, List.getElem?_eq_getElem (by omega), List.getElem?_eq_getElem (by omega)] at h1
    rw [List.getElem?_eq_getElem (by omega), List.getElem?_eq_getElem (by omega)]
    exact congrArg some h1
  · rw [List.getElem?_eq_none (by rw [cntL_len]; omega), List.getElem?_eq_none (by unfold cntS; rw [cntL_len]; omega)]
theorem cntS_nil (t : Nat) : cntS t [] = List.replicate 256 0 := by
  apply List.ext_getElem?
  intro i
  by_cases hi : i < 256
  · have h1 := cntS_at t [] (by simp) hi
    have e2 : (cntS t []).length = 256 := cntL_len _ _ _
    rw [List.getD_eq_getElem?_getD, List.getElem?_eq_getElem (by omega)] at h1
    rw [List.getElem?_eq_getElem (by omega), List.getElem?_replicate_of_lt hi]
    exact congrArg some h1
  · rw [List.getElem?_eq_none (by unfold cntS; rw [cntL_len]; omega), List.getElem?_eq_none (by rw [List.length_replicate]; omega)]
theorem cntS_good (t : Nat) (l : List Sym) (hl : l.length ≤ 1000000) : Good (cntS t l) := by
  have e : (cntS t l).length = 256 := cntL_len _ _ _
  refine ⟨fun j hj => ?_, by omega, by omega⟩
  rw [e] at hj
  rw [cntS_at t l hl hj]
  have h2 := occ_le t j l
  omega
theorem one_good : Good [1] := ⟨fun j hj => by
  have : j = 0 := by simp at hj; omega
  subst this
  decide, by decide, by decide⟩
theorem one_any : Any [1] ([1] : List Int).length := ⟨0, by decide, by decide⟩
/-- a table that suits counts -/
def Suits (C B V : List Int) : Prop := (Any C C.length ∧ SpecOf C B V) ∨ (¬ Any C C.length ∧ SpecOf [1] B V)
theorem Suits.valid {C B V : List Int} (h : Suits C B V) (hg : Good C) : Valid B V := by
  rcases h with ⟨h1, h2⟩ | ⟨_, h2⟩
  · exact h2.valid hg h1
  · exact h2.valid one_good one_any
theorem Suits.code {C B V : List Int} (h : Suits C B V) (hg : Good C) {k : Nat} (hk : k < C.length) (h0 : 0 < C.getD k 0) : (fnd (codes B V) (k : Int)).isSome = true := by
  rcases h with ⟨h1, h2⟩ | ⟨h1, _⟩
  · exact h2.code hg h1 hk h0
  · exact absurd ⟨k, hk, h0⟩ h1
/-- tables that suit what a tile counts -/
def Tuned (T : Tbs) (s : TS) : Prop := ∀ c, c ≤ 1 → Suits (cntS 0 (sy s c)) (T.B c) (T.V c) ∧ Suits (cntS 1 (sy s c)) (T.B (c + 2)) (T.V (c + 2))
theorem Tuned.valid {T : Tbs} {s : TS} (h : Tuned T s) (hl : ∀ c, c ≤ 1 → (sy s c).length ≤ 1000000) {c : Nat} (hc : c ≤ 1) : Valid (T.B c) (T.V c) ∧ Valid (T.B (c + 2)) (T.V (c + 2)) :=
  ⟨(h c hc).1.valid (cntS_good _ _ (hl c hc)), (h c hc).2.valid (cntS_good _ _ (hl c hc))⟩
theorem Tuned.covers {T : Tbs} {s : TS} (h : Tuned T s) (hl : ∀ c, c ≤ 1 → (sy s c).length ≤ 1000000) (hok : ∀ c, c ≤ 1 → ∀ x ∈ sy s c, SymOk x) : Covers T s := by
  intro c hc x hx
  have ho := hok c hc x hx
  have ht : x.1 = 0 ∨ x.1 = 1 := by have := ho.tab; omega
  have hv : x.2.1 < 256 := by have := ho.val; omega
  have hpos : ∀ t, x.1 = t → 0 < (cntS t (sy s c)).getD x.2.1 0 := by
    intro t e
    rw [cntS_at t _ (hl c hc) hv]
    have : 0 < occ t x.2.1 (sy s c) := by
      unfold occ
      rw [List.countP_pos_iff]
      exact ⟨x, hx, by simp [e]⟩
    omega
  have e256 : ∀ t, (cntS t (sy s c)).length = 256 := fun t => cntL_len _ _ _
  unfold foundS
  rcases ht with e | e
  · rw [if_pos e]
    exact (h c hc).1.code (cntS_good _ _ (hl c hc)) (by rw [e256]; exact hv) (hpos 0 e)
  · rw [if_neg (by omega)]
    exact (h c hc).2.code (cntS_good _ _ (hl c hc)) (by rw [e256]; exact hv) (hpos 1 e)
end Go.Proofs.YtdnjnbfmmgkpjaaDoor
