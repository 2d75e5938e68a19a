/-
  Lengths by counts are best: mathematics, no code.
-/
import Derived.Test.YtmaffonnekgekaaHuffOrder
namespace Go.Proofs.Ytmaffonnekgekaa

theorem two_first {vs : List Nat} {u v : Nat} (hu : u ∈ vs) (hv : v ∈ vs) (h : u ≠ v) : ∃ rest, vs.Perm (u :: v :: rest) := by
  have h1 := List.perm_cons_erase hu
  have h2 : v ∈ vs.erase u := by
    rcases List.mem_cons.1 (h1.mem_iff.1 hv) with e | e
    · exact absurd e.symm h
    · exact e
  exact ⟨_, h1.trans ((List.perm_cons_erase h2).cons u)⟩

/-- the greater weight has no greater length -/
theorem Run.mono {wt : Nat → Nat} {vs : List Nat} {fin : Nat → Nat} (r : Run wt (vs.map fun v => [v]) (fun _ => 0) fin) (hn : vs.Nodup) {u v : Nat} (hu : u ∈ vs) (hv : v ∈ vs) (hw : wt u < wt v) : fin v ≤ fin u := by
  have huv : u ≠ v := fun e => by rw [e] at hw; omega
  obtain ⟨h1, h2, _, h4⟩ := r.single hn vs.length (by omega)
  obtain ⟨rest, p⟩ := two_first hu hv huv
  have hn2 := p.nodup_iff.1 hn
  rw [List.nodup_cons, List.nodup_cons] at hn2
  obtain ⟨n1, n2, _⟩ := hn2
  rcases Nat.lt_or_ge (fin u) (fin v) with hlt | hge
  · exfalso
    obtain ⟨l, hl⟩ : ∃ l : Nat → Nat, l = fun x => if x = u then fin v else if x = v then fin u else fin x := ⟨_, rfl⟩
    have lu : l u = fin v := by rw [hl]; simp
    have lv : l v = fin u := by rw [hl]; simp [huv.symm]
    have lx : ∀ x ∈ rest, l x = fin x := fun x hx => by
      have a1 : x ≠ u := fun e => n1 (e ▸ List.mem_cons_of_mem _ hx)
      have a2 : x ≠ v := fun e => n2 (e ▸ hx)
      rw [hl]
      simp [a1, a2]
    have key := h4 l (fun x hx => by
      rcases List.mem_cons.1 (p.mem_iff.1 hx) with rfl | hx
      · rw [lu]; exact h2 v hv
      · rcases List.mem_cons.1 hx with rfl | hx
        · rw [lv]; exact h2 u hu
        · rw [lx x hx]
          exact h2 x (p.mem_iff.2 (List.mem_cons_of_mem _ (List.mem_cons_of_mem _ hx)))) (by
      have e : shareOf vs.length vs l = shareOf vs.length vs fin := by
        unfold shareOf
        rw [sum_map_perm p, sum_map_perm p]
        simp only [List.map_cons, List.sum_cons]
        rw [lu, lv, sum_map_congr (g := fun x => 2 ^ (vs.length - fin x)) (fun x hx => by rw [lx x hx])]
        omega
      rw [e, h1]
      exact Nat.le_refl _)
    rw [sum_map_perm p, sum_map_perm p] at key
    simp only [List.map_cons, List.sum_cons] at key
    rw [lu, lv, sum_map_congr (f := fun x => wt x * l x) (g := fun x => wt x * fin x) (fun x hx => by rw [lx x hx])] at key
    obtain ⟨d, hd⟩ : ∃ d, wt v = wt u + d := ⟨wt v - wt u, by omega⟩
    obtain ⟨f, hf⟩ : ∃ f, fin v = fin u + f := ⟨fin v - fin u, by omega⟩
    have hdf : 0 < d * f := Nat.mul_pos (by omega) (by omega)
    rw [hd, hf] at key
    simp only [Nat.mul_add, Nat.add_mul] at key
    omega
  · exact hge

/-- what is counted, and 256 -/
structure Counted (cn : Nat → Nat) (us : List Nat) : Prop where
  nodup : us.Nodup
  few : ∀ v ∈ us, v < 256
  pos : ∀ v ∈ us, 1 ≤ cn v
theorem Counted.all {cn : Nat → Nat} {us : List Nat} (h : Counted cn us) : (us ++ [256]).Nodup := by
  rw [List.nodup_append]
  refine ⟨h.nodup, by simp, fun a ha b hb e => ?_⟩
  have := h.few a ha
  simp at hb
  omega
theorem Counted.trees {cn : Nat → Nat} {us : List Nat} (h : Counted cn us) : Trees ((us ++ [256]).map fun v => [v]) := by
  refine ⟨by rw [flat_ones]; exact h.all, fun T hT => ?_, fun v hv => ?_⟩
  · obtain ⟨v, _, rfl⟩ := List.mem_map.1 hT
    simp
  · rw [flat_ones] at hv
    rcases List.mem_append.1 hv with h1 | h1
    · have := h.few v h1
      omega
    · simp at h1
      omega

/-- lengths by counts -/
def LengthsOf (cn : Nat → Nat) (us : List Nat) (fin : Nat → Nat) : Prop := RunB (cn256 cn) ((us ++ [256]).map fun v => [v]) (fun _ => 0) fin

theorem wt_us (K : Nat) (cn : Nat → Nat) {us : List Nat} (h : ∀ v ∈ us, v < 256) (l : Nat → Nat) : ((us ++ [256]).map fun v => wt256 K cn v * l v).sum = K * (us.map fun v => cn v * l v).sum + l 256 := by
  rw [sum_map_app, ← sum_map_mul]
  have e1 : (us.map fun v => wt256 K cn v * l v).sum = (us.map fun v => K * (cn v * l v)).sum := sum_map_congr fun v hv => by
    have := h v hv
    rw [wt256, if_neg (by omega), Nat.mul_assoc]
  rw [e1]
  simp [wt256]

section
variable {cn : Nat → Nat} {us : List Nat} {fin : Nat → Nat}
theorem LengthsOf.run (h : LengthsOf cn us fin) (hc : Counted cn us) {K : Nat} (hK : 1 ≤ K) : Run (wt256 K cn) ((us ++ [256]).map fun v => [v]) (fun _ => 0) fin := RunB.run hK h hc.trees
theorem LengthsOf.only (h : LengthsOf cn us fin) (hc : Counted cn us) {fin' : Nat → Nat} (h' : LengthsOf cn us fin') : fin = fin' := RunB.only h hc.trees (List.Perm.refl _) h'
theorem LengthsOf.share (h : LengthsOf cn us fin) (hc : Counted cn us) {M : Nat} (hM : us.length ≤ M) : shareOf M (us ++ [256]) fin = 2 ^ M ∧ (∀ v ∈ us ++ [256], fin v ≤ M) ∧ ∀ v, v ∉ us ++ [256] → fin v = 0 := by
  obtain ⟨h1, h2, h3, _⟩ := (h.run hc (Nat.le_refl 1)).single hc.all M (by simp; omega)
  exact ⟨h1, h2, h3⟩
/-- value 256 has the greatest length -/
theorem LengthsOf.last (h : LengthsOf cn us fin) (hc : Counted cn us) {v : Nat} (hv : v ∈ us) : fin v ≤ fin 256 := by
  refine (h.run hc (K := 2) (by omega)).mono hc.all (u := 256) (v := v) (by simp) (List.mem_append_left _ hv) ?_
  have h1 := hc.few v hv
  have h2 := hc.pos v hv
  rw [wt256, if_pos rfl, wt256, if_neg (by omega)]
  omega
/-- what is counted more often has no greater length -/
theorem LengthsOf.order (h : LengthsOf cn us fin) (hc : Counted cn us) {u v : Nat} (hu : u ∈ us) (hv : v ∈ us) (hw : cn u < cn v) : fin v ≤ fin u := by
  refine (h.run hc (K := 1) (by omega)).mono hc.all (u := u) (v := v) (List.mem_append_left _ hu) (List.mem_append_left _ hv) ?_
  have h1 := hc.few v hv
  have h2 := hc.few u hu
  rw [wt256, if_neg (by omega), wt256, if_neg (by omega)]
  omega
/-- no lengths that leave room for one of 16 bits cost less -/
theorem LengthsOf.best (h : LengthsOf cn us fin) (hc : Counted cn us) {M : Nat} (hM : us.length ≤ M) (h16 : 16 ≤ M) (l : Nat → Nat) (hl : ∀ v ∈ us, l v ≤ M) (hs : shareOf M us l + 2 ^ (M - 16) ≤ 2 ^ M) :
    (us.map fun v => cn v * fin v).sum ≤ (us.map fun v => cn v * l v).sum := by
  obtain ⟨_, _, _, h4⟩ := (h.run hc (K := 17) (by omega)).single hc.all M (by simp; omega)
  obtain ⟨l', hl'⟩ : ∃ l' : Nat → Nat, l' = fun v => if v = 256 then 16 else l v := ⟨_, rfl⟩
  have l256 : l' 256 = 16 := by rw [hl']; simp
  have lv : ∀ v ∈ us, l' v = l v := fun v hv => by
    have := hc.few v hv
    rw [hl']
    simp
    intro e
    omega
  have key := h4 l' (fun v hv => by
    rcases List.mem_append.1 hv with h1 | h1
    · rw [lv v h1]; exact hl v h1
    · simp at h1
      subst h1
      rw [l256]
      exact h16) (by
    unfold shareOf at hs ⊢
    rw [sum_map_app, sum_map_congr (g := fun v => 2 ^ (M - l v)) (fun v hv => by rw [lv v hv])]
    simp only [List.map_cons, List.map_nil, List.sum_cons, List.sum_nil, l256]
    omega)
  rw [wt_us 17 cn hc.few, wt_us 17 cn hc.few, l256, sum_map_congr (f := fun v => cn v * l' v) (g := fun v => cn v * l v) (fun v hv => by rw [lv v hv])] at key
  omega
end
end Go.Proofs.Ytmaffonnekgekaa
