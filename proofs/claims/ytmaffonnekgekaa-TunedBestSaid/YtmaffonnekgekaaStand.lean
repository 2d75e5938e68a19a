/-
  How the trees stand at the start, and behind each joining: mathematics, no code.
-/
import Derived.Test.YtmaffonnekgekaaForest
namespace Go.Proofs.Ytmaffonnekgekaa

theorem getD_out {l : List Int} {i : Nat} (h : l.length ≤ i) : l.getD i 0 = 0 := by
  simp [List.getD_eq_getElem?_getD, List.getElem?_eq_none h]
theorem Stand.bound {C : List Int} {ts : List (List Nat)} {S T L : List Int} {out : Nat → Nat} (h : Stand C ts S T L out) (hg : Good C) (j : Nat) : S.getD j 0 ≤ 282574488338432 := by
  by_cases hx : ∃ A, A ∈ ts ∧ j = top A
  · obtain ⟨A, hA, rfl⟩ := hx
    rw [h.sums.sum A hA]
    have h1 := wOf_le (cn := cn256 (cnF C)) hA
    have h2 := hg.total
    have h3 : wOf (cn256 (cnF C)) ts.flatten = wOf (cn256 (cnF C)) (usF C ++ [256]) := sum_map_perm h.flat _
    omega
  · rw [h.sums.none_ j (fun A hA e => hx ⟨A, hA, e⟩)]
    omega
theorem Stand.small {C : List Int} {ts : List (List Nat)} {S T L : List Int} {out : Nat → Nat} (h : Stand C ts S T L out) (hl : L.length = 257) (j : Nat) : 0 ≤ L.getD j 0 ∧ L.getD j 0 ≤ 1000 := by
  rcases Nat.lt_or_ge j 257 with hj | hj
  · rw [h.tops.lens j hj]
    have := h.tops.few j
    omega
  · rw [getD_out (by omega)]
    omega
theorem Stand.ne {C : List Int} {ts : List (List Nat)} {S T L : List Int} {out : Nat → Nat} (h : Stand C ts S T L out) : ts ≠ [] := by
  rintro rfl
  have := h.flat.length_eq
  simp at this

section
variable {C : List Int} {ts : List (List Nat)} {S T L : List Int} {out : Nat → Nat} {f f2 : Nat} {s s2 : Int}
/-- where no second one is taken there is one tree -/
theorem Stand.ends (h : Stand C ts S T L out) (hl : S.length = 257) (k1 : TakeIs S 257 (f : Int) s) (k2 : TakeIs (S.set f 0) 257 (f2 : Int) s2) (h0 : s2 = 0) : LengthsOf (cnF C) (usF C) out := by
  rcases h.sums.take h.trees hl k1 with ⟨e, _⟩ | ⟨A, rest, p, rfl, _, _, _, hs⟩
  · exact absurd e h.ne
  · have ht := h.trees.perm p
    rcases hs.take ht.rest (by rw [List.length_set]; exact hl) k2 with ⟨rfl, _⟩ | ⟨B, rest2, p2, _, _, h3, _⟩
    · have e : ts = [A] := List.perm_singleton.1 p
      subst e
      exact h.goes out (.done A out)
    · omega
theorem Stand.joins (h : Stand C ts S T L out) (hl : S.length = 257) (k1 : TakeIs S 257 (f : Int) s) (k2 : TakeIs (S.set f 0) 257 (f2 : Int) s2) (h0 : s2 ≠ 0) {T2 L2 : List Int} (hj : JoinTo T L T2 L2 f f2 (max f f2) 257) :
    ∃ ts2 out2, Stand C ts2 (((S.set f 0).set f2 0).set (max f f2) (s + s2)) T2 L2 out2 ∧ ts2.length < ts.length := by
  rcases h.sums.take h.trees hl k1 with ⟨e, _⟩ | ⟨A, rest, p, rfl, es, _, hA, hs⟩
  · exact absurd e h.ne
  · have ht := h.trees.perm p
    rcases hs.take ht.rest (by rw [List.length_set]; exact hl) k2 with ⟨_, e⟩ | ⟨B, rest2, p2, rfl, es2, _, hB, hs2⟩
    · exact absurd e h0
    · have pp : ts.Perm (A :: B :: rest2) := p.trans (p2.cons A)
      have ht2 := h.trees.perm pp
      have hAm : A ∈ ts := pp.mem_iff.2 (List.mem_cons_self ..)
      have hBm : B ∈ ts := pp.mem_iff.2 (List.mem_cons_of_mem _ (List.mem_cons_self ..))
      have fA : ∀ v ∈ A, v ≤ 256 := fun v hv => h.trees.few v (List.mem_flatten.2 ⟨A, hAm, hv⟩)
      have fB : ∀ v ∈ B, v ≤ 256 := fun v hv => h.trees.few v (List.mem_flatten.2 ⟨B, hBm, hv⟩)
      have hn : (A ++ B).Nodup := by
        have hn := ht2.nodup
        rw [List.flatten_cons, List.flatten_cons, ← List.append_assoc, List.nodup_append] at hn
        exact hn.1
      have c := both_perm fA fB hn
      have hC := top_perm (h.trees.some_ A hAm) (h.trees.some_ B hBm) c
      have ht3 := ht2.join (List.Perm.refl _) c
      have hw : wOf (cn256 (cnF C)) (both A B) = wOf (cn256 (cnF C)) A + wOf (cn256 (cnF C)) B := wOf_perm c
      refine ⟨both A B :: rest2, inc (both A B) out, ⟨ht3, ⟨fun D hD => ?_, fun D hD => ?_, fun v hv => ?_⟩, h.tops.join h.trees pp c hj, (flat_join pp c).trans h.flat, fun fin r => h.goes fin (.join pp ?_ hB c (both_rises A B) r)⟩, ?_⟩
      · rw [← hC]
        rcases List.mem_cons.1 hD with rfl | hD
        · have := ht3.tops (List.mem_cons_self (a := both A B) (l := rest2))
          rw [getD_set_same _ (by simp; omega), es, es2, hw]
          omega
        · rw [getD_set_ne _ (fun e => ht3.apart hD e.symm)]
          exact hs2.sum D hD
      · rcases List.mem_cons.1 hD with rfl | hD
        · have := h.sums.pos A hAm
          omega
        · exact hs2.pos D hD
      · rw [← hC, getD_set_ne _ (fun e => hv (both A B) (List.mem_cons_self ..) e.symm)]
        exact hs2.none_ v (fun D hD => hv D (List.mem_cons_of_mem _ hD))
      · intro D hD
        exact hA D (p2.mem_iff.2 hD)
      · have := pp.length_eq
        simp only [List.length_cons] at this ⊢
        omega
end

/-- at the start -/
theorem stand_start {C S T L : List Int} (hg : Good C) (h256 : S.getD 256 0 = 1) (hS : ∀ j, j ≠ 256 → S.getD j 0 = C.getD j 0) (hT : ∀ v, v < 257 → T.getD v 0 = (v : Int)) (hL : ∀ v, v < 257 → L.getD v 0 = 0) :
    Stand C ((usF C ++ [256]).map fun v => [v]) S T L (fun _ => 0) := by
  have hc := hg.counted
  have hl := few_us hc.nodup hc.few
  have hw : ∀ v, wOf (cn256 (cnF C)) [v] = cn256 (cnF C) v := fun v => by simp [wOf]
  have hr : ∀ v, 0 ≤ C.getD v 0 := fun v => by
    rcases Nat.lt_or_ge v C.length with h | h
    · exact (hg.rang v h).1
    · rw [getD_out h]; omega
  refine ⟨hc.trees, ⟨fun A hA => ?_, fun A hA => ?_, fun v hv => ?_⟩, ⟨fun A hA v hv => ?_, fun v hv _ => hT v hv, fun v hv => by rw [hL v hv]; rfl, fun v => ?_⟩, by rw [flat_ones], fun fin r => r⟩
  · obtain ⟨v, hv, rfl⟩ := List.mem_map.1 hA
    rw [top_one, hw]
    unfold cn256
    split
    · next e => rw [e, h256]; rfl
    · next e =>
      rw [hS v e]
      have := hr v
      unfold cnF
      omega
  · obtain ⟨v, hv, rfl⟩ := List.mem_map.1 hA
    rw [hw]
    unfold cn256
    split
    · omega
    · next e =>
      rcases List.mem_append.1 hv with h | h
      · exact hc.pos v h
      · simp at h
        exact absurd h e
  · have h1 : v ≠ 256 := fun e => hv [256] (List.mem_map.2 ⟨256, by simp, rfl⟩) (by rw [top_one]; exact e)
    rw [hS v h1]
    have h2 : v ∉ usF C := fun h => hv [v] (List.mem_map.2 ⟨v, List.mem_append_left _ h, rfl⟩) (by rw [top_one])
    have h3 := hr v
    rcases Nat.lt_or_ge v C.length with h | h
    · have h4 : ¬ 0 < C.getD v 0 := fun h5 => h2 (mem_usF.2 ⟨h, h5⟩)
      omega
    · exact getD_out h
  · obtain ⟨u, hu, rfl⟩ := List.mem_map.1 hA
    simp at hv
    subst hv
    rw [top_one]
    refine hT v ?_
    rcases List.mem_append.1 hu with h | h
    · have := hc.few v h
      omega
    · simp at h
      omega
  · simp
    omega
end Go.Proofs.Ytmaffonnekgekaa
