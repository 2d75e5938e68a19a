/-
  The specification by counts: mathematics, no code. It may be.
-/
import Derived.Test.YtmaffonnekgekaaHuffLimit
namespace Go.Proofs.Ytmaffonnekgekaa

/-- the values of a length -/
def seg (fin : Nat → Nat) (s : Nat) : List Nat := (List.range 256).filter fun v => fin v == s
/-- the values of lengths 1 to k -/
def valsTo (fin : Nat → Nat) : Nat → List Nat
  | 0 => []
  | k + 1 => valsTo fin k ++ seg fin (k + 1)
theorem mem_seg {fin : Nat → Nat} {s v : Nat} : v ∈ seg fin s ↔ v < 256 ∧ fin v = s := by simp [seg]
theorem mem_valsTo {fin : Nat → Nat} {v : Nat} : ∀ {k : Nat}, v ∈ valsTo fin k ↔ v < 256 ∧ 1 ≤ fin v ∧ fin v ≤ k
  | 0 => by simp [valsTo]; omega
  | k + 1 => by
    rw [valsTo, List.mem_append, mem_valsTo, mem_seg]
    omega
theorem seg_nodup (fin : Nat → Nat) (s : Nat) : (seg fin s).Nodup := List.Pairwise.filter _ List.nodup_range
theorem valsTo_nodup (fin : Nat → Nat) : ∀ k, (valsTo fin k).Nodup
  | 0 => by simp [valsTo]
  | k + 1 => by
    rw [valsTo, List.nodup_append]
    refine ⟨valsTo_nodup fin k, seg_nodup fin _, fun a ha b hb e => ?_⟩
    have h1 := mem_valsTo.1 ha
    have h2 := mem_seg.1 hb
    rw [e] at h1
    omega

/-- how many have each length -/
def cntOf (fin : Nat → Nat) (vs : List Nat) (s : Nat) : Nat := vs.countP fun v => fin v == s
theorem sumW_one (w n : Nat → Nat) (i : Nat) : ∀ k, sumW w (fun s => n s + if i = s then 1 else 0) k = sumW w n k + if i < k then w i else 0
  | 0 => by simp [sumW]
  | k + 1 => by
    rw [sumW, sumW, sumW_one w n i k, Nat.add_mul]
    by_cases h1 : i = k
    · subst h1
      simp
      omega
    · by_cases h2 : i < k
      · simp [h1, h2, show i < k + 1 by omega]
        omega
      · simp [h1, h2, show ¬ i < k + 1 by omega]
theorem sumW_cnt (w fin : Nat → Nat) : ∀ vs : List Nat, (∀ v ∈ vs, fin v < 300) → sumW w (cntOf fin vs) 300 = (vs.map fun v => w (fin v)).sum
  | [], _ => sumW_zero _ _ _ (fun _ _ => rfl)
  | v :: vs, h => by
    have e : cntOf fin (v :: vs) = fun s => cntOf fin vs s + if fin v = s then 1 else 0 := by
      funext s
      simp [cntOf, List.countP_cons]
    rw [e, sumW_one, if_pos (h v (List.mem_cons_self ..)), sumW_cnt w fin vs (fun x hx => h x (List.mem_cons_of_mem _ hx)), List.map_cons, List.sum_cons]
    omega

theorem few_us {us : List Nat} (hn : us.Nodup) (hf : ∀ v ∈ us, v < 256) : us.length ≤ 256 := by
  have := nodup_few 256 (us.map Int.ofNat) (by
    rw [List.Nodup, List.pairwise_map]
    exact hn.imp (fun h e => h (Int.ofNat.inj e))) (fun v hv => by
    obtain ⟨x, hx, rfl⟩ := List.mem_map.1 hv
    have := hf x hx
    exact ⟨Int.natCast_nonneg x, by show (x : Int) < ((256 : Nat) : Int); omega⟩)
  simpa using this
theorem sum_ones : ∀ l : List Nat, (l.map fun _ => 1).sum = l.length
  | [] => rfl
  | x :: l => by rw [List.map_cons, List.sum_cons, sum_ones l, List.length_cons, Nat.add_comm]

theorem le_sum {α : Type} (f : α → Nat) : ∀ {l : List α} {x : α}, x ∈ l → f x ≤ (l.map f).sum
  | y :: l, x, h => by
    rw [List.map_cons, List.sum_cons]
    rcases List.mem_cons.1 h with rfl | h
    · omega
    · have := le_sum f h
      omega

section
variable {cn : Nat → Nat} {us : List Nat} {fin : Nat → Nat}
theorem LengthsOf.pos (h : LengthsOf cn us fin) (hc : Counted cn us) (hne : us ≠ []) {v : Nat} (hv : v ∈ us ++ [256]) : 1 ≤ fin v := by
  obtain ⟨h1, h2, _⟩ := h.share hc (M := us.length) (Nat.le_refl _)
  obtain ⟨M, hM⟩ : ∃ M, M = us.length := ⟨_, rfl⟩
  rw [← hM] at h1 h2
  rcases Nat.eq_zero_or_pos (fin v) with h0 | h0
  · exfalso
    obtain ⟨u, hu, huv⟩ : ∃ u, u ∈ us ++ [256] ∧ v ≠ u := by
      rcases List.mem_append.1 hv with h3 | h3
      · exact ⟨256, by simp, fun e => by have := hc.few v h3; omega⟩
      · obtain ⟨u, hu⟩ := List.exists_mem_of_ne_nil _ hne
        simp at h3
        exact ⟨u, List.mem_append_left _ hu, fun e => by have := hc.few u hu; omega⟩
    obtain ⟨rest, p⟩ := two_first hv hu huv
    unfold shareOf at h1
    rw [sum_map_perm p] at h1
    simp only [List.map_cons, List.sum_cons] at h1
    rw [h0, Nat.sub_zero] at h1
    have : 0 < 2 ^ (M - fin u) := Nat.pow_pos (by omega)
    omega
  · exact h0
theorem LengthsOf.le (h : LengthsOf cn us fin) (hc : Counted cn us) {v : Nat} (hv : v ∈ us ++ [256]) : fin v ≤ 256 := by
  have := (h.share hc (M := us.length) (Nat.le_refl _)).2.1 v hv
  have := few_us hc.nodup hc.few
  omega
theorem LengthsOf.full (h : LengthsOf cn us fin) (hc : Counted cn us) (hne : us ≠ []) : Full (cntOf fin (us ++ [256])) 299 (us.length + 1) := by
  have hl := few_us hc.nodup hc.few
  obtain ⟨h1, _, _⟩ := h.share hc (M := 300) (by omega)
  have hlt : ∀ v ∈ us ++ [256], fin v < 300 := fun v hv => by have := h.le hc hv; omega
  refine ⟨?_, fun s hs => ?_, ?_, ?_, by omega⟩
  · unfold cntOf
    rw [List.countP_eq_zero]
    intro v hv
    have := h.pos hc hne hv
    simp
    omega
  · unfold cntOf
    rw [List.countP_eq_zero]
    intro v hv
    have := hlt v hv
    simp
    omega
  · rw [sumW_cnt wS fin _ hlt, ← h1]
    rfl
  · rw [sumW_cnt _ fin _ hlt, sum_ones]
    simp
theorem LengthsOf.mem (h : LengthsOf cn us fin) (hc : Counted cn us) (hne : us ≠ []) {v : Nat} (hv : v < 256) : v ∈ us ↔ 1 ≤ fin v := by
  refine ⟨fun hu => h.pos hc hne (List.mem_append_left _ hu), fun h1 => ?_⟩
  have h3 := (h.share hc (M := us.length) (Nat.le_refl _)).2.2 v
  by_cases hu : v ∈ us
  · exact hu
  · have := h3 (fun e => by
      rcases List.mem_append.1 e with e | e
      · exact hu e
      · simp at e
        omega)
    omega
theorem LengthsOf.vals (h : LengthsOf cn us fin) (hc : Counted cn us) (hne : us ≠ []) {k : Nat} (hk : 256 ≤ k) : (valsTo fin k).Perm us := by
  refine (List.perm_ext_iff_of_nodup (valsTo_nodup fin k) hc.nodup).2 fun v => ?_
  rw [mem_valsTo]
  constructor
  · rintro ⟨h1, h2, _⟩
    exact (h.mem hc hne h1).2 h2
  · intro hv
    have h1 := hc.few v hv
    exact ⟨h1, (h.mem hc hne h1).1 hv, Nat.le_trans (h.le hc (List.mem_append_left _ hv)) hk⟩
/-- as many values of a length as there are, but for 256 -/
theorem LengthsOf.seg_len (h : LengthsOf cn us fin) (hc : Counted cn us) (hne : us ≠ []) {s : Nat} (hs : 1 ≤ s) : cntOf fin (us ++ [256]) s = (seg fin s).length + if fin 256 = s then 1 else 0 := by
  have p : (us.filter fun v => fin v == s).Perm (seg fin s) := by
    refine (List.perm_ext_iff_of_nodup (List.Pairwise.filter _ hc.nodup) (seg_nodup fin s)).2 fun v => ?_
    rw [mem_seg, List.mem_filter]
    constructor
    · rintro ⟨h1, h2⟩
      exact ⟨hc.few v h1, by simpa using h2⟩
    · rintro ⟨h1, h2⟩
      exact ⟨(h.mem hc hne h1).2 (by omega), by simpa using h2⟩
  unfold cntOf
  rw [List.countP_append, List.countP_eq_length_filter, p.length_eq, List.countP_cons, List.countP_nil]
  simp
end
end Go.Proofs.Ytmaffonnekgekaa
