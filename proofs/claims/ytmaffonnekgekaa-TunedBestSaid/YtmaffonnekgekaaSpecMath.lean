/-
  The specification of counts: mathematics, no code.
-/
import Derived.Test.YtmaffonnekgekaaOrderT
namespace Go.Proofs.Ytmaffonnekgekaa
open Go.RowKit

/-- the specification of counts -/
def SpecOf (C B V : List Int) : Prop := ∃ fin m, LengthsOf (cnF C) (usF C) fin ∧ Lim (cntOf fin (usF C ++ [256])) 299 m ∧ BitsOf B m ∧ B.length = 16 ∧ V = ints (valsTo fin 299)
theorem list_ext16 {B B' : List Int} (hB : B.length = 16) (hB' : B'.length = 16) (h : ∀ i, i < 16 → B.getD i 0 = B'.getD i 0) : B = B' := by
  apply List.ext_getElem (by omega)
  intro i h1 h2
  have := h i (by omega)
  simpa [List.getD_eq_getElem?_getD, List.getElem?_eq_getElem h1, List.getElem?_eq_getElem h2] using this
theorem SpecOf.only {C B V B' V' : List Int} (hg : Good C) (h : SpecOf C B V) (h' : SpecOf C B' V') : B = B' ∧ V = V' := by
  obtain ⟨fin, m, h1, h2, h3, h4, h5⟩ := h
  obtain ⟨fin', m', k1, k2, k3, k4, k5⟩ := h'
  obtain rfl := h1.only hg.counted k1
  obtain rfl := h2.only k2
  exact ⟨list_ext16 h4 k4 (fun i hi => by rw [h3 i hi, k3 i hi]), by rw [h5, k5]⟩

theorem Lim.downs {n m : Nat → Nat} {i : Nat} (h16 : 16 ≤ i) : ∀ k, (∀ s, i < s → n s = 0) → Lim n i m → Lim n (i + k) m
  | 0, _, r => r
  | k + 1, hz, r => by
    rw [← Nat.add_assoc]
    exact .down (by omega) (hz _ (by omega)) (Lim.downs h16 k hz r)
theorem cntOf_app (fin : Nat → Nat) (a b : List Nat) (s : Nat) : cntOf fin (a ++ b) s = cntOf fin a s + cntOf fin b s := by unfold cntOf; rw [List.countP_append]
theorem cntOf_one (fin : Nat → Nat) (v s : Nat) : cntOf fin [v] s = if fin v = s then 1 else 0 := by
  unfold cntOf
  by_cases h : fin v = s <;> simp [h]
theorem cntOf_more (fin : Nat → Nat) (k s : Nat) : cntOf fin (List.range (k + 1)) s = cntOf fin (List.range k) s + if fin k = s then 1 else 0 := by
  rw [List.range_succ, cntOf_app, cntOf_one]
theorem cntOf_le (fin : Nat → Nat) (vs : List Nat) (s : Nat) : cntOf fin vs s ≤ vs.length := List.countP_le_length
section
variable {C : List Int} {fin : Nat → Nat}
theorem LensOf.few {L : List Int} (h : LensOf C L fin) (hg : Good C) (v : Nat) : fin v ≤ 256 := by
  by_cases hv : v ∈ usF C ++ [256]
  · exact h.fin.le hg.counted hv
  · rw [(h.fin.share hg.counted (M := (usF C).length) (Nat.le_refl _)).2.2 v hv]
    omega
/-- of a length above 0 are as many of all values as of those that are counted -/
theorem cnt_all (h : LengthsOf (cnF C) (usF C) fin) (hg : Good C) (hne : usF C ≠ []) {s : Nat} (hs : 1 ≤ s) : cntOf fin (List.range 257) s = cntOf fin (usF C ++ [256]) s := by
  rw [h.seg_len hg.counted hne hs, cntOf_more]
  congr 1
  unfold cntOf seg
  rw [List.countP_eq_length_filter]
theorem full256 (h : LengthsOf (cnF C) (usF C) fin) (hg : Good C) (hne : usF C ≠ []) : Full (cntOf fin (usF C ++ [256])) 256 ((usF C).length + 1) := by
  have hf := h.full hg.counted hne
  refine ⟨hf.zero, fun s hs => ?_, hf.room, hf.all, hf.few⟩
  unfold cntOf
  rw [List.countP_eq_zero]
  intro v hv
  have := h.le hg.counted hv
  simp
  omega
theorem lim299 (h : LengthsOf (cnF C) (usF C) fin) (hg : Good C) (hne : usF C ≠ []) {m : Nat → Nat} (r : Lim (cntOf fin (usF C ++ [256])) 256 m) : Lim (cntOf fin (usF C ++ [256])) 299 m :=
  Lim.downs (i := 256) (by omega) 43 (full256 h hg hne).above r
theorem valsTo_256 (h : ∀ v, fin v ≤ 256) : ∀ k, valsTo fin (256 + k) = valsTo fin 256
  | 0 => rfl
  | k + 1 => by
    rw [← Nat.add_assoc, valsTo, valsTo_256 h k]
    have : seg fin (256 + k + 1) = [] := by
      rw [List.eq_nil_iff_forall_not_mem]
      intro v hv
      have h1 := (mem_seg.1 hv).2
      have h2 := h v
      omega
    rw [this, List.append_nil]
theorem specOf_made {L B V : List Int} {m : Nat → Nat} (h : LensOf C L fin) (hg : Good C) (hne : usF C ≠ []) (r : Lim (cntOf fin (usF C ++ [256])) 256 m) (hB : B.length = 16) (hb : BitsOf B m) (hV : V = ints (valsTo fin 256)) : SpecOf C B V := by
  refine ⟨fin, m, h.fin, lim299 h.fin hg hne r, hb, hB, ?_⟩
  rw [hV, ← valsTo_256 (h.few hg) 43]
end

/-- what Spec tells -/
def SpecGot (w : World) (C : List Int) (e : Ending) (w' : World) : Prop := Below w.heap.size w w' ∧
  ((¬ (Good C ∧ Any C C.length) ∧ e = .returned (.tuple #[specV (List.replicate 16 0) (.slice none 0 0), .int .i64 2])) ∨
   (Good C ∧ Any C C.length ∧ ∃ B V A n c, e = .returned (.tuple #[specV B (.slice A n c), .int .i64 0]) ∧ Il w' A n c V ∧ SpecOf C B V ∧ n ≤ 256 ∧ B.length = 16))
/-- results of a specification and an error -/
theorem results_spec {fn : Func} (h : fn.results = #[.cell 2 26, .tmp 3]) (tmps : Array Value) (w : World) (g : Nat) (B : List Int) (v e : Value) (hp : tmps.getD 2 undef = .pointer (some ⟨g, 0, none⟩)) (he : tmps.getD 3 undef = e) (hb : Box w g 26 (specC B v)) (hB : B.length = 16) :
    (results fn tmps).run Try.prog w = .ok (.tuple #[specV B v, e]) w := by
  have hp' : tmps[2]?.getD undef = .pointer (some ⟨g, 0, none⟩) := by simpa using hp
  have he' : tmps[3]?.getD undef = e := by simpa using he
  have hl := run_loadVar_row (P := Try.prog) w g 26 26 (specC B v) (0, 0) _ hb Try.underlying26 rfl (by rw [spec_size, specC_size hB])
  simp [results, h, hp', he', asAddr, hl, specV]
end Go.Proofs.Ytmaffonnekgekaa
