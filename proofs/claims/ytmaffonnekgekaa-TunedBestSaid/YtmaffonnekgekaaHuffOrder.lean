/-
  Joining by counts, value 256 counted once: mathematics, no code.
-/
import Derived.Test.YtmaffonnekgekaaHuffRun
namespace Go.Proofs.Ytmaffonnekgekaa

/-- the greatest value -/
def top (T : List Nat) : Nat := T.foldr max 0
theorem top_ge : ∀ {T : List Nat} {v : Nat}, v ∈ T → v ≤ top T
  | x :: T, v, h => by
    show v ≤ max x (top T)
    rcases List.mem_cons.1 h with rfl | h
    · omega
    · have := top_ge h
      omega
theorem top_mem : ∀ {T : List Nat}, T ≠ [] → top T ∈ T
  | [], h => absurd rfl h
  | [x], _ => by
    show max x 0 ∈ [x]
    rw [Nat.max_eq_left (Nat.zero_le x)]
    exact List.mem_cons_self ..
  | x :: y :: T, _ => by
    have := top_mem (T := y :: T) (by simp)
    show max x (top (y :: T)) ∈ x :: y :: T
    rcases Nat.le_total x (top (y :: T)) with h | h
    · rw [Nat.max_eq_right h]
      exact List.mem_cons_of_mem _ this
    · rw [Nat.max_eq_left h]
      exact List.mem_cons_self ..

/-- does a tree go ahead of another one? -/
def Bef (cn : Nat → Nat) (A B : List Nat) : Prop := wOf cn A < wOf cn B ∨ (wOf cn A = wOf cn B ∧ top B < top A)
/-- trees joined as the document joins them -/
inductive RunB (cn : Nat → Nat) : List (List Nat) → (Nat → Nat) → (Nat → Nat) → Prop
  | done (T : List Nat) (out : Nat → Nat) : RunB cn [T] out out
  | join {ts rest : List (List Nat)} {A B C : List Nat} {out fin : Nat → Nat} (p : ts.Perm (A :: B :: rest)) (ha : ∀ T ∈ B :: rest, ¬ Bef cn T A) (hb : ∀ T ∈ rest, ¬ Bef cn T B) (c : C.Perm (A ++ B)) (s : C.Pairwise (· < ·)) (r : RunB cn (C :: rest) (inc C out) fin) : RunB cn ts out fin

/-- counts, with value 256 counted once -/
def cn256 (cn : Nat → Nat) (v : Nat) : Nat := if v = 256 then 1 else cn v
/-- weights: K a count, and 1 for value 256 -/
def wt256 (K : Nat) (cn : Nat → Nat) (v : Nat) : Nat := if v = 256 then 1 else K * cn v
theorem w_without (K : Nat) (cn : Nat → Nat) : ∀ {T : List Nat}, 256 ∉ T → wOf (wt256 K cn) T = K * wOf (cn256 cn) T
  | [], _ => rfl
  | v :: T, h => by
    have h1 : v ≠ 256 := fun e => h (e ▸ List.mem_cons_self ..)
    have h2 := w_without K cn (T := T) (fun h' => h (List.mem_cons_of_mem _ h'))
    unfold wOf at h2 ⊢
    rw [List.map_cons, List.map_cons, List.sum_cons, List.sum_cons, h2, wt256, if_neg h1, cn256, if_neg h1, Nat.mul_add]
theorem w_with (K : Nat) (cn : Nat → Nat) : ∀ {T : List Nat}, T.Nodup → 256 ∈ T → ∃ c, wOf (cn256 cn) T = c + 1 ∧ wOf (wt256 K cn) T = K * c + 1
  | v :: T, hn, h => by
    rw [List.nodup_cons] at hn
    by_cases h1 : v = 256
    · subst h1
      have h2 := w_without K cn hn.1
      refine ⟨wOf (cn256 cn) T, ?_, ?_⟩
      · show cn256 cn 256 + wOf (cn256 cn) T = _
        rw [cn256, if_pos rfl]
        omega
      · show wt256 K cn 256 + wOf (wt256 K cn) T = _
        rw [h2, wt256, if_pos rfl]
        omega
    · obtain ⟨c, h2, h3⟩ := w_with K cn hn.2 (by
        rcases List.mem_cons.1 h with h | h
        · exact absurd h.symm h1
        · exact h)
      refine ⟨cn v + c, ?_, ?_⟩
      · show cn256 cn v + wOf (cn256 cn) T = _
        rw [h2, cn256, if_neg h1]
        omega
      · show wt256 K cn v + wOf (wt256 K cn) T = _
        rw [h3, wt256, if_neg h1, Nat.mul_add]
        omega

/-- the order by counts is one by weights -/
theorem w_le {K : Nat} (hK : 1 ≤ K) {cn : Nat → Nat} {A T : List Nat} (hA : A.Nodup) (hT : T.Nodup) (hd : ∀ v, v ∈ A → v ∉ T) (hne : A ≠ []) (h256 : ∀ v ∈ A, v ≤ 256) (h : ¬ Bef (cn256 cn) T A) : wOf (wt256 K cn) A ≤ wOf (wt256 K cn) T := by
  have h1 : wOf (cn256 cn) A ≤ wOf (cn256 cn) T := by
    rcases Nat.lt_or_ge (wOf (cn256 cn) T) (wOf (cn256 cn) A) with h' | h'
    · exact absurd (.inl h') h
    · exact h'
  by_cases hA2 : 256 ∈ A
  · have hT2 := hd _ hA2
    obtain ⟨c, e1, e2⟩ := w_with K cn hA hA2
    rw [e2, w_without K cn hT2]
    have := Nat.mul_le_mul_left K (show c + 1 ≤ wOf (cn256 cn) T by omega)
    rw [Nat.mul_add] at this
    omega
  · rw [w_without K cn hA2]
    by_cases hT2 : 256 ∈ T
    · obtain ⟨c, e1, e2⟩ := w_with K cn hT hT2
      rw [e2]
      have hlt : wOf (cn256 cn) A ≠ wOf (cn256 cn) T := by
        intro e
        have g1 := top_ge hT2
        have g2 := h256 _ (top_mem hne)
        have g3 : top A ≠ 256 := fun e => hA2 (e ▸ top_mem hne)
        exact h (.inr ⟨e.symm, by omega⟩)
      have := Nat.mul_le_mul_left K (show wOf (cn256 cn) A ≤ c by omega)
      omega
    · rw [w_without K cn hT2]
      exact Nat.mul_le_mul_left K h1

/-- what all trees of a run are -/
structure Trees (ts : List (List Nat)) : Prop where
  nodup : ts.flatten.Nodup
  some_ : ∀ T ∈ ts, T ≠ []
  few : ∀ v ∈ ts.flatten, v ≤ 256
theorem Trees.perm {ts ts' : List (List Nat)} (h : Trees ts) (p : ts.Perm ts') : Trees ts' :=
  ⟨p.flatten.nodup_iff.1 h.nodup, fun T hT => h.some_ T (p.mem_iff.2 hT), fun v hv => h.few v (p.flatten.mem_iff.2 hv)⟩
theorem Trees.join {ts rest : List (List Nat)} {A B C : List Nat} (h : Trees ts) (p : ts.Perm (A :: B :: rest)) (c : C.Perm (A ++ B)) : Trees (C :: rest) := by
  have hf := flat_join p c
  refine ⟨hf.nodup_iff.2 h.nodup, fun T hT => ?_, fun v hv => h.few v (hf.mem_iff.1 hv)⟩
  rcases List.mem_cons.1 hT with rfl | hT
  · intro e
    rw [e] at c
    have hA := h.some_ A (p.mem_iff.2 (List.mem_cons_self ..))
    have := c.length_eq
    simp at this
    exact hA (List.eq_nil_of_length_eq_zero (by omega))
  · exact h.some_ T (p.mem_iff.2 (List.mem_cons_of_mem _ (List.mem_cons_of_mem _ hT)))
theorem nodup_in {ts : List (List Nat)} (h : ts.flatten.Nodup) {T : List Nat} (hT : T ∈ ts) : T.Nodup := by
  rw [List.Nodup, List.pairwise_flatten] at h
  exact h.1 T hT

theorem RunB.run {K : Nat} (hK : 1 ≤ K) {cn : Nat → Nat} {ts : List (List Nat)} {out fin : Nat → Nat} (r : RunB (cn256 cn) ts out fin) : Trees ts → Run (wt256 K cn) ts out fin := by
  induction r with
  | done T out => intro _; exact .done T out
  | @join ts rest A B C out fin p ha hb c s r ih =>
    intro ht
    have ht2 := ht.perm p
    have hn := ht2.nodup
    rw [List.flatten_cons, List.nodup_append] at hn
    have hn2 := hn.2.1
    rw [List.flatten_cons, List.nodup_append] at hn2
    refine .join p ?_ (fun T hT => ?_) c (ih (ht.join p c))
    · exact w_le hK hn.1 hn2.1 (fun v hv hv2 => hn.2.2 v hv v (List.mem_flatten.2 ⟨B, List.mem_cons_self .., hv2⟩) rfl) (ht2.some_ A (List.mem_cons_self ..)) (fun v hv => ht2.few v (List.mem_flatten.2 ⟨A, List.mem_cons_self .., hv⟩)) (ha B (List.mem_cons_self ..))
    · exact w_le hK hn2.1 (nodup_in ht2.nodup (List.mem_cons_of_mem _ (List.mem_cons_of_mem _ hT))) (fun v hv hv2 => hn2.2.2 v hv v (List.mem_flatten.2 ⟨T, hT, hv2⟩) rfl) (ht2.some_ B (List.mem_cons_of_mem _ (List.mem_cons_self ..))) (fun v hv => ht2.few v (List.mem_flatten.2 ⟨B, List.mem_cons_of_mem _ (List.mem_cons_self ..), hv⟩)) (hb T hT)

/-- trees with a value in common are one -/
theorem same_tree {ts : List (List Nat)} (h : ts.flatten.Nodup) {A B : List Nat} (hA : A ∈ ts) (hB : B ∈ ts) {v : Nat} (ha : v ∈ A) (hb : v ∈ B) : A = B := by
  rw [List.Nodup, List.pairwise_flatten] at h
  obtain ⟨i, hi, rfl⟩ := List.getElem_of_mem hA
  obtain ⟨j, hj, rfl⟩ := List.getElem_of_mem hB
  rcases Nat.lt_trichotomy i j with h1 | h1 | h1
  · exact absurd rfl (List.pairwise_iff_getElem.1 h.2 i j hi hj h1 v ha v hb)
  · subst h1; rfl
  · exact absurd rfl (List.pairwise_iff_getElem.1 h.2 j i hj hi h1 v hb v ha)
/-- one goes first, no other one -/
theorem first_one {cn : Nat → Nat} {ts : List (List Nat)} (h : Trees ts) {A B : List Nat} (hA : A ∈ ts) (hB : B ∈ ts) (h1 : ¬ Bef cn A B) (h2 : ¬ Bef cn B A) : A = B := by
  unfold Bef at h1 h2
  have hc : wOf cn A = wOf cn B := by omega
  have ht : top A = top B := by omega
  exact same_tree h.nodup hA hB (top_mem (h.some_ A hA)) (ht ▸ top_mem (h.some_ B hB))

theorem sorted_one : ∀ {A B : List Nat}, A.Perm B → A.Pairwise (· < ·) → B.Pairwise (· < ·) → A = B
  | [], B, p, _, _ => by rw [List.nil_perm.1 p]
  | a :: A, [], p, _, _ => by have := p.length_eq; simp at this
  | a :: A, b :: B, p, hA, hB => by
    rw [List.pairwise_cons] at hA hB
    have e : a = b := by
      rcases List.mem_cons.1 (p.mem_iff.1 (List.mem_cons_self ..)) with h | h
      · exact h
      · rcases List.mem_cons.1 (p.mem_iff.2 (List.mem_cons_self (a := b) (l := B))) with h2 | h2
        · exact h2.symm
        · have := hB.1 a h
          have := hA.1 b h2
          omega
    subst e
    rw [sorted_one p.cons_inv hA.2 hB.2]

/-- the lengths are told by the counts alone -/
theorem RunB.only {cn : Nat → Nat} {ts : List (List Nat)} {out fin : Nat → Nat} (r : RunB cn ts out fin) : Trees ts → ∀ {ts' : List (List Nat)} {fin' : Nat → Nat}, ts.Perm ts' → RunB cn ts' out fin' → fin = fin' := by
  induction r with
  | done T out =>
    intro _ ts' fin' p r'
    cases r' with
    | done T' _ => rfl
    | join p' =>
      have h1 := p.length_eq
      have h2 := p'.length_eq
      simp at h1 h2
      omega
  | @join ts rest A B C out fin p ha hb c s r ih =>
    intro ht ts' fin' pp r'
    cases r' with
    | done T' _ =>
      have h1 := pp.length_eq
      have h2 := p.length_eq
      simp at h1 h2
      omega
    | @join _ rest' A' B' C' _ _ p' ha' hb' c' s' r' =>
      have q : (A :: B :: rest).Perm (A' :: B' :: rest') := (p.symm.trans pp).trans p'
      have ht2 := ht.perm p
      have hself : ∀ X : List Nat, ¬ Bef cn X X := fun X h => by unfold Bef at h; omega
      have eA : A = A' := first_one ht2 (List.mem_cons_self ..) (q.mem_iff.2 (List.mem_cons_self ..)) (by
        rcases List.mem_cons.1 (q.mem_iff.1 (List.mem_cons_self (a := A) (l := B :: rest))) with h | h
        · rw [h]; exact hself _
        · exact ha' A h) (by
        rcases List.mem_cons.1 (q.mem_iff.2 (List.mem_cons_self (a := A') (l := B' :: rest'))) with h | h
        · rw [h]; exact hself _
        · exact ha A' h)
      subst eA
      have q2 := q.cons_inv
      have eB : B = B' := first_one ht2 (List.mem_cons_of_mem _ (List.mem_cons_self ..)) (List.mem_cons_of_mem _ (q2.mem_iff.2 (List.mem_cons_self ..))) (by
        rcases List.mem_cons.1 (q2.mem_iff.1 (List.mem_cons_self (a := B) (l := rest))) with h | h
        · rw [h]; exact hself _
        · exact hb' B h) (by
        rcases List.mem_cons.1 (q2.mem_iff.2 (List.mem_cons_self (a := B') (l := rest'))) with h | h
        · rw [h]; exact hself _
        · exact hb B' h)
      subst eB
      have eC : C = C' := sorted_one (c.trans c'.symm) s s'
      subst eC
      exact ih (ht.join p c) (q2.cons_inv.cons C) r'
end Go.Proofs.Ytmaffonnekgekaa
