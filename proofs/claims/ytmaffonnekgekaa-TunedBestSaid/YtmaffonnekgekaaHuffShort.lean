/-
  Which values have codes; where no code has 16 bits nothing was limited: mathematics, no code.
-/
import Derived.Test.YtmaffonnekgekaaHuffCost
namespace Go.Proofs.Ytmaffonnekgekaa

section
variable {cn : Nat → Nat} {us : List Nat} {fin m : Nat → Nat} {B : List Int}
theorem LengthsOf.short (h : LengthsOf cn us fin) (hc : Counted cn us) (hne : us ≠ []) (hm : Lim (cntOf fin (us ++ [256])) 299 m) (h0 : lessOne m 16 = 0) {v : Nat} (hv : v ∈ us ++ [256]) : fin v ≤ 15 := by
  rcases Nat.lt_or_ge 15 (fin v) with h1 | h1
  · exfalso
    have hle := h.le hc hv
    have hf := hm.full (by omega) (h.full hc hne)
    have h16 := hm.sixteen (N := us.length + 1) (by omega) (h.full hc hne) ⟨fin v, by omega, by omega, by
      unfold cntOf
      intro e
      rw [List.countP_eq_zero] at e
      exact e v hv (by simp)⟩
    have hev := hf.even (by omega) (by omega)
    unfold lessOne at h0
    by_cases g : 16 = jof m 16
    · rw [← g, upd_same] at h0
      omega
    · rw [upd_other _ _ g] at h0
      exact h16 h0
  · exact h1
/-- just what is counted has a code -/
theorem LengthsOf.found (h : LengthsOf cn us fin) (hc : Counted cn us) (hne : us ≠ []) (hm : Lim (cntOf fin (us ++ [256])) 299 m) (hB : BitsOf B m) (v : Int) : fnd (codes B ((valsTo fin 299).map Int.ofNat)) v ≠ none ↔ ∃ u ∈ us, v = (u : Int) := by
  have hv := h.valid hc hne hm hB
  have hp := h.vals hc hne (show 256 ≤ 299 by omega)
  constructor
  · intro hs
    cases ho : fnd (codes B ((valsTo fin 299).map Int.ofNat)) v with
    | none => exact absurd ho hs
    | some e =>
      obtain ⟨g1, g2⟩ := fnd_some ho
      obtain ⟨u, hu, hu2⟩ := List.mem_map.1 (mem_ents g1).1
      exact ⟨u, hp.mem_iff.1 hu, by rw [← g2, ← hu2]; rfl⟩
  · rintro ⟨u, hu, rfl⟩ ho
    have huv := hp.mem_iff.2 hu
    obtain ⟨i, hi, hi2⟩ := List.getElem_of_mem huv
    have hl := hv.lens
    rw [List.length_map] at hl
    obtain ⟨x, hx⟩ : ∃ x, (pre (Go.Proofs.Ytmaffonnekgekaa.cnt B) 16)[i]? = some x := ⟨_, List.getElem?_eq_getElem (by omega)⟩
    have hmem : ((u : Int), x) ∈ codes B ((valsTo fin 299).map Int.ofNat) := by
      refine List.mem_of_getElem? (i := i) (ents_at.2 ⟨?_, hx⟩)
      rw [List.getElem?_map, List.getElem?_eq_getElem hi, hi2]
      rfl
    unfold fnd at ho
    have := (List.find?_eq_none.1 ho) _ hmem
    simp at this
end
end Go.Proofs.Ytmaffonnekgekaa
