/-
  Trees in three arrays: mathematics, no code.
-/
import Derived.Test.YtmaffonnekgekaaJoinT
import Derived.Test.YtmaffonnekgekaaHuffShort
namespace Go.Proofs.Ytmaffonnekgekaa

/-- what is counted -/
def cnF (C : List Int) (v : Nat) : Nat := (C.getD v 0).toNat
def usF (C : List Int) : List Nat := (List.range C.length).filter fun v => decide (0 < C.getD v 0)
theorem mem_usF {C : List Int} {v : Nat} : v ∈ usF C ↔ v < C.length ∧ 0 < C.getD v 0 := by simp [usF]
theorem usF_nodup (C : List Int) : (usF C).Nodup := List.Pairwise.filter _ List.nodup_range
theorem Good.counted {C : List Int} (h : Good C) : Counted (cnF C) (usF C) := by
  refine ⟨usF_nodup C, fun v hv => ?_, fun v hv => ?_⟩
  · have := (mem_usF.1 hv).1
    have := h.few
    omega
  · have := (mem_usF.1 hv).2
    unfold cnF
    omega
theorem usF_ne {C : List Int} (h : Any C C.length) : usF C ≠ [] := by
  obtain ⟨j, hj, hp⟩ := h
  exact List.ne_nil_of_mem (mem_usF.2 ⟨hj, hp⟩)

/-- the trees' sums in an array: at each tree's greatest value -/
structure Sums (cn : Nat → Nat) (ts : List (List Nat)) (S : List Int) : Prop where
  sum : ∀ A ∈ ts, S.getD (top A) 0 = (wOf cn A : Int)
  pos : ∀ A ∈ ts, 0 < wOf cn A
  none_ : ∀ v, (∀ A ∈ ts, v ≠ top A) → S.getD v 0 = 0
theorem Sums.perm {cn : Nat → Nat} {ts ts' : List (List Nat)} {S : List Int} (h : Sums cn ts S) (p : ts.Perm ts') : Sums cn ts' S :=
  ⟨fun A hA => h.sum A (p.mem_iff.2 hA), fun A hA => h.pos A (p.mem_iff.2 hA), fun v hv => h.none_ v (fun A hA => hv A (p.mem_iff.1 hA))⟩
theorem Trees.tops {ts : List (List Nat)} (h : Trees ts) {A : List Nat} (hA : A ∈ ts) : top A ≤ 256 := h.few _ (List.mem_flatten.2 ⟨A, hA, top_mem (h.some_ A hA)⟩)
theorem Trees.same {ts : List (List Nat)} (h : Trees ts) {A B : List Nat} (hA : A ∈ ts) (hB : B ∈ ts) (e : top A = top B) : A = B :=
  same_tree h.nodup hA hB (top_mem (h.some_ A hA)) (e ▸ top_mem (h.some_ B hB))
theorem Trees.rest {A : List Nat} {ts : List (List Nat)} (h : Trees (A :: ts)) : Trees ts := by
  have hn := h.nodup
  rw [List.flatten_cons, List.nodup_append] at hn
  exact ⟨hn.2.1, fun T hT => h.some_ T (List.mem_cons_of_mem _ hT), fun v hv => h.few v (by rw [List.flatten_cons]; exact List.mem_append_right _ hv)⟩
theorem Trees.apart {A : List Nat} {ts : List (List Nat)} (h : Trees (A :: ts)) {B : List Nat} (hB : B ∈ ts) : top B ≠ top A := by
  intro e
  have hn := h.nodup
  rw [List.flatten_cons, List.nodup_append] at hn
  exact hn.2.2 (top A) (top_mem (h.some_ A (List.mem_cons_self ..))) (top A) (List.mem_flatten.2 ⟨B, hB, e ▸ top_mem (h.some_ B (List.mem_cons_of_mem _ hB))⟩) rfl

/-- what is taken is the tree that goes first -/
theorem Sums.take {cn : Nat → Nat} {ts : List (List Nat)} {S : List Int} (h : Sums cn ts S) (ht : Trees ts) (hl : S.length = 257) {f : Nat} {s : Int} (hk : TakeIs S 257 (f : Int) s) :
    (ts = [] ∧ s = 0) ∨ ∃ A rest, ts.Perm (A :: rest) ∧ f = top A ∧ s = (wOf cn A : Int) ∧ 0 < s ∧ (∀ B ∈ rest, ¬ Bef cn B A) ∧ Sums cn rest (S.set f 0) := by
  by_cases he : ts = []
  · subst he
    rcases hk with ⟨e, _, _⟩ | ⟨m, _, hm, hs, h0, _⟩
    · exact .inl ⟨rfl, e⟩
    · have := h.none_ m (fun A hA => by cases hA)
      omega
  · obtain ⟨A0, hA0⟩ := List.exists_mem_of_ne_nil _ he
    rcases hk with ⟨_, _, hn⟩ | ⟨m, em, hm, hs, h0, hall⟩
    · have h1 := h.sum A0 hA0
      have h2 := h.pos A0 hA0
      have h3 := ht.tops hA0
      exact absurd (by rw [h1]; omega) (hn (top A0) (by omega))
    · obtain rfl : f = m := by omega
      have hA : ∃ A, A ∈ ts ∧ f = top A := by
        by_cases hx : ∃ A, A ∈ ts ∧ f = top A
        · exact hx
        · have := h.none_ f (fun A hA e => hx ⟨A, hA, e⟩)
          omega
      obtain ⟨A, hA, rfl⟩ := hA
      have p := List.perm_cons_erase hA
      have ht2 := ht.perm p
      have h2 := h.perm p
      refine .inr ⟨A, ts.erase A, p, rfl, by rw [← hs]; exact h.sum A hA, h0, fun B hB hb => ?_, fun B hB => ?_, fun B hB => h2.pos B (List.mem_cons_of_mem _ hB), fun v hv => ?_⟩
      · have hB2 := p.mem_iff.2 (List.mem_cons_of_mem _ hB)
        have h3 := h.sum B hB2
        have h4 := h.pos B hB2
        have h5 := ht.tops hB2
        have h6 := hall (top B) (by omega) (by rw [h3]; omega)
        have h7 := h.sum A hA
        rw [h3] at h6
        rw [h7] at hs
        unfold Bef at hb
        omega
      · rw [getD_set_ne _ (ht2.apart hB).symm]
        exact h2.sum B (List.mem_cons_of_mem _ hB)
      · by_cases e : top A = v
        · subst e
          rw [getD_set_same _ (by have := ht.tops hA; omega)]
        · rw [getD_set_ne _ e]
          exact h2.none_ v (fun B hB => by
            rcases List.mem_cons.1 hB with rfl | hB
            · exact fun e' => e e'.symm
            · exact hv B hB)

/-- two rising lists as one -/
def both (A B : List Nat) : List Nat := (List.range 257).filter fun v => decide (v ∈ A ++ B)
theorem mem_both {A B : List Nat} (hA : ∀ v ∈ A, v ≤ 256) (hB : ∀ v ∈ B, v ≤ 256) {v : Nat} : v ∈ both A B ↔ v ∈ A ++ B := by
  unfold both
  rw [List.mem_filter, List.mem_range]
  refine ⟨fun h => by simpa using h.2, fun h => ⟨?_, by simpa using h⟩⟩
  rcases List.mem_append.1 h with h | h
  · have := hA v h
    omega
  · have := hB v h
    omega
theorem both_rises (A B : List Nat) : (both A B).Pairwise (· < ·) := List.Pairwise.filter _ List.pairwise_lt_range
theorem both_perm {A B : List Nat} (hA : ∀ v ∈ A, v ≤ 256) (hB : ∀ v ∈ B, v ≤ 256) (hn : (A ++ B).Nodup) : (both A B).Perm (A ++ B) :=
  (List.perm_ext_iff_of_nodup (List.Pairwise.filter _ List.nodup_range) hn).2 fun _ => mem_both hA hB
theorem top_one (v : Nat) : top [v] = v := by simp [top]
theorem top_eq {T : List Nat} {m : Nat} (h1 : m ∈ T) (h2 : ∀ v ∈ T, v ≤ m) : top T = m := by
  have h3 := top_ge h1
  have h4 := h2 _ (top_mem (List.ne_nil_of_mem h1))
  omega
theorem top_perm {C A B : List Nat} (hA : A ≠ []) (hB : B ≠ []) (p : C.Perm (A ++ B)) : top C = max (top A) (top B) := by
  refine top_eq (p.mem_iff.2 ?_) (fun v hv => ?_)
  · rcases Nat.le_total (top A) (top B) with h | h
    · rw [Nat.max_eq_right h]; exact List.mem_append_right _ (top_mem hB)
    · rw [Nat.max_eq_left h]; exact List.mem_append_left _ (top_mem hA)
  · rcases List.mem_append.1 (p.mem_iff.1 hv) with h | h
    · have := top_ge h; omega
    · have := top_ge h; omega
theorem wOf_perm {cn : Nat → Nat} {C A B : List Nat} (p : C.Perm (A ++ B)) : wOf cn C = wOf cn A + wOf cn B := by
  unfold wOf
  rw [sum_map_perm p, sum_map_app]
theorem wOf_le {cn : Nat → Nat} : ∀ {ts : List (List Nat)} {A : List Nat}, A ∈ ts → wOf cn A ≤ wOf cn ts.flatten
  | B :: ts, A, h => by
    have e : wOf cn (B :: ts).flatten = wOf cn B + wOf cn ts.flatten := by
      unfold wOf
      rw [List.flatten_cons, sum_map_app]
    rw [e]
    rcases List.mem_cons.1 h with rfl | h
    · omega
    · have := wOf_le (cn := cn) h
      omega

/-- how the trees stand: all but the sums -/
structure Tops (ts : List (List Nat)) (T L : List Int) (out : Nat → Nat) : Prop where
  tops : ∀ A ∈ ts, ∀ v ∈ A, T.getD v 0 = (top A : Int)
  alone : ∀ v, v < 257 → v ∉ ts.flatten → T.getD v 0 = (v : Int)
  lens : ∀ v, v < 257 → L.getD v 0 = (out v : Int)
  few : ∀ v, out v + ts.length ≤ 257
theorem Tops.is {ts : List (List Nat)} {T L : List Int} {out : Nat → Nat} (h : Tops ts T L out) (ht : Trees ts) {A : List Nat} (hA : A ∈ ts) {v : Nat} (hv : v < 257) : T.getD v 0 = (top A : Int) ↔ v ∈ A := by
  refine ⟨fun e => ?_, fun hm => h.tops A hA v hm⟩
  by_cases hf : v ∈ ts.flatten
  · obtain ⟨D, hD, hd⟩ := List.mem_flatten.1 hf
    have h1 := h.tops D hD v hd
    have h2 : D = A := ht.same hD hA (by omega)
    exact h2 ▸ hd
  · have h1 := h.alone v hv hf
    have h2 : v = top A := by omega
    exact absurd (List.mem_flatten.2 ⟨A, hA, h2 ▸ top_mem (ht.some_ A hA)⟩) hf
theorem Tops.join {ts rest : List (List Nat)} {A B C : List Nat} {T L T2 L2 : List Int} {out : Nat → Nat} (h : Tops ts T L out) (ht : Trees ts) (p : ts.Perm (A :: B :: rest)) (c : C.Perm (A ++ B)) (hj : JoinTo T L T2 L2 (top A) (top B) (max (top A) (top B)) 257) : Tops (C :: rest) T2 L2 (inc C out) := by
  have hA : A ∈ ts := p.mem_iff.2 (List.mem_cons_self ..)
  have hB : B ∈ ts := p.mem_iff.2 (List.mem_cons_of_mem _ (List.mem_cons_self ..))
  have ht2 := ht.perm p
  have ht3 := ht2.join (List.Perm.refl _) c
  have hC := top_perm (ht.some_ A hA) (ht.some_ B hB) c
  have key : ∀ v, v < 257 → ((T.getD v 0 = (top A : Int) ∨ T.getD v 0 = (top B : Int)) ↔ v ∈ C) := fun v hv => by
    rw [h.is ht hA hv, h.is ht hB hv, c.mem_iff, List.mem_append]
  have hfl : ∀ v, v ∈ (C :: rest).flatten ↔ v ∈ ts.flatten := fun v => (flat_join p c).mem_iff
  refine ⟨fun D hD v hv => ?_, fun v hv hn => ?_, fun v hv => ?_, fun v => ?_⟩
  · have hv2 : v < 257 := by have := ht3.few v (List.mem_flatten.2 ⟨D, hD, hv⟩); omega
    rcases List.mem_cons.1 hD with rfl | hD
    · rw [((hj v hv2).1 (by omega) ((key v hv2).2 hv)).1, hC]
    · have hn : v ∉ C := fun hc => by
        have hn := ht3.nodup
        rw [List.flatten_cons, List.nodup_append] at hn
        exact hn.2.2 v hc v (List.mem_flatten.2 ⟨D, hD, hv⟩) rfl
      rw [((hj v hv2).2 (fun h => hn ((key v hv2).1 h.2))).1]
      exact h.tops D (p.mem_iff.2 (List.mem_cons_of_mem _ (List.mem_cons_of_mem _ hD))) v hv
  · have hn2 : v ∉ ts.flatten := fun h => hn ((hfl v).2 h)
    have hc : v ∉ C := fun hc => hn (by rw [List.flatten_cons]; exact List.mem_append_left _ hc)
    rw [((hj v hv).2 (fun h => hc ((key v hv).1 h.2))).1]
    exact h.alone v hv hn2
  · by_cases hc : v ∈ C
    · rw [((hj v hv).1 (by omega) ((key v hv).2 hc)).2, h.lens v hv, inc, if_pos hc]
      omega
    · rw [((hj v hv).2 (fun h => hc ((key v hv).1 h.2))).2, h.lens v hv, inc, if_neg hc]
  · have h1 := h.few v
    have h2 := p.length_eq
    rw [List.length_cons, List.length_cons] at h2
    rw [List.length_cons]
    unfold inc
    split <;> omega

/-- how the trees stand -/
structure Stand (C : List Int) (ts : List (List Nat)) (S T L : List Int) (out : Nat → Nat) : Prop where
  trees : Trees ts
  sums : Sums (cn256 (cnF C)) ts S
  tops : Tops ts T L out
  flat : ts.flatten.Perm (usF C ++ [256])
  goes : ∀ fin, RunB (cn256 (cnF C)) ts out fin → LengthsOf (cnF C) (usF C) fin
theorem sum_bound (f : Nat → Nat) (M : Nat) : ∀ l : List Nat, (∀ v ∈ l, f v ≤ M) → (l.map f).sum ≤ l.length * M
  | [], _ => Nat.zero_le _
  | v :: l, h => by
    have h1 := sum_bound f M l (fun x hx => h x (List.mem_cons_of_mem _ hx))
    have h2 := h v (List.mem_cons_self ..)
    rw [List.map_cons, List.sum_cons, List.length_cons, Nat.add_mul]
    omega
theorem Good.total {C : List Int} (h : Good C) : wOf (cn256 (cnF C)) (usF C ++ [256]) ≤ 282574488338432 := by
  have h1 := few_us h.counted.nodup h.counted.few
  have h2 := sum_bound (cn256 (cnF C)) 1099511627776 (usF C ++ [256]) (fun v hv => by
    unfold cn256
    split
    · omega
    · rcases List.mem_append.1 hv with h' | h'
      · have := h.rang v (mem_usF.1 h').1
        unfold cnF
        omega
      · simp at h'
        omega)
  have h3 : (usF C ++ [256]).length ≤ 257 := by simp; omega
  have h4 := Nat.mul_le_mul_right 1099511627776 h3
  unfold wOf
  omega
end Go.Proofs.Ytmaffonnekgekaa
