/-
  A run of joins: mathematics, no code. What the lengths cost, and their share.
-/
import Derived.Test.YtmaffonnekgekaaHuffman
namespace Go.Proofs.Ytmaffonnekgekaa

/-- a tree's weight -/
def wOf (wt : Nat → Nat) (T : List Nat) : Nat := (T.map wt).sum
/-- one more for those of a list -/
def inc (T : List Nat) (out : Nat → Nat) (v : Nat) : Nat := if v ∈ T then out v + 1 else out v

/-- trees are joined by twos, the least ones first, and each value's length grows as often as it is joined -/
inductive Run (wt : Nat → Nat) : List (List Nat) → (Nat → Nat) → (Nat → Nat) → Prop
  | done (T : List Nat) (out : Nat → Nat) : Run wt [T] out out
  | join {ts rest : List (List Nat)} {A B C : List Nat} {out fin : Nat → Nat} (p : ts.Perm (A :: B :: rest)) (ab : wOf wt A ≤ wOf wt B) (br : ∀ T ∈ rest, wOf wt B ≤ wOf wt T) (c : C.Perm (A ++ B)) (r : Run wt (C :: rest) (inc C out) fin) : Run wt ts out fin

theorem sum_map_perm {α : Type} {a b : List α} (h : a.Perm b) (f : α → Nat) : (a.map f).sum = (b.map f).sum := (h.map f).sum_nat
theorem sum_map_app {α : Type} (a b : List α) (f : α → Nat) : ((a ++ b).map f).sum = (a.map f).sum + (b.map f).sum := by simp
theorem sum_map_add {α : Type} (a : List α) (f g : α → Nat) : (a.map fun x => f x + g x).sum = (a.map f).sum + (a.map g).sum := by
  induction a with
  | nil => rfl
  | cons x a ih => simp only [List.map_cons, List.sum_cons, ih]; omega
theorem sum_map_mul {α : Type} (a : List α) (c : Nat) (f : α → Nat) : (a.map fun x => c * f x).sum = c * (a.map f).sum := by
  induction a with
  | nil => rfl
  | cons x a ih => simp only [List.map_cons, List.sum_cons, ih, Nat.mul_add]
theorem sum_map_congr {α : Type} {a : List α} {f g : α → Nat} (h : ∀ x ∈ a, f x = g x) : (a.map f).sum = (a.map g).sum := by rw [List.map_congr_left h]

theorem flat_join {ts rest : List (List Nat)} {A B C : List Nat} (p : ts.Perm (A :: B :: rest)) (c : C.Perm (A ++ B)) : (C :: rest).flatten.Perm ts.flatten := by
  have h1 : ts.flatten.Perm (A :: B :: rest).flatten := p.flatten
  rw [List.flatten_cons, List.flatten_cons, ← List.append_assoc] at h1
  rw [List.flatten_cons]
  exact (c.append_right _).trans h1.symm

theorem Run.cost {wt : Nat → Nat} {ts : List (List Nat)} {out fin : Nat → Nat} (r : Run wt ts out fin) : ts.flatten.Nodup → ∃ H, Joins (ts.map (wOf wt)) H ∧ (ts.flatten.map fun v => wt v * fin v).sum = (ts.flatten.map fun v => wt v * out v).sum + H := by
  induction r with
  | done T out => intro _; exact ⟨0, .one _, rfl⟩
  | @join ts rest A B C out fin p ab br c r ih =>
    intro hn
    have hf := flat_join p c
    have hn2 : (C :: rest).flatten.Nodup := hf.nodup_iff.2 hn
    obtain ⟨H, h1, h2⟩ := ih hn2
    have hC : wOf wt C = wOf wt A + wOf wt B := by
      unfold wOf
      rw [sum_map_perm c, sum_map_app]
    refine ⟨wOf wt A + wOf wt B + H, .more (by simpa using p.map (wOf wt)) ab (fun x hx => ?_) (by simpa [hC] using h1), ?_⟩
    · obtain ⟨T, hT, rfl⟩ := List.mem_map.1 hx
      exact br T hT
    rw [← sum_map_perm hf, h2, ← sum_map_perm hf, List.flatten_cons, sum_map_app, sum_map_app]
    rw [List.flatten_cons, List.nodup_append] at hn2
    have e1 : (C.map fun v => wt v * inc C out v).sum = (C.map fun v => wt v * out v).sum + wOf wt C := by
      unfold wOf
      rw [← sum_map_add]
      exact sum_map_congr fun v hv => by rw [inc, if_pos hv, Nat.mul_succ]
    have e2 : (rest.flatten.map fun v => wt v * inc C out v).sum = (rest.flatten.map fun v => wt v * out v).sum :=
      sum_map_congr fun v hv => by rw [inc, if_neg (fun h => hn2.2.2 v h v hv rfl)]
    rw [e1, e2, hC]
    omega

/-- the share of a list of values -/
def shareOf (M : Nat) (T : List Nat) (l : Nat → Nat) : Nat := (T.map fun v => 2 ^ (M - l v)).sum
theorem Run.share {wt : Nat → Nat} (M : Nat) {ts : List (List Nat)} {out fin : Nat → Nat} (r : Run wt ts out fin) : ts.flatten.Nodup → (∀ T ∈ ts, shareOf M T out = 2 ^ M) → (∀ v ∈ ts.flatten, out v + ts.length ≤ M + 1) →
    shareOf M ts.flatten fin = 2 ^ M ∧ (∀ v ∈ ts.flatten, fin v ≤ M) ∧ ∀ v, v ∉ ts.flatten → fin v = out v := by
  induction r with
  | done T out =>
    intro _ h1 h2
    refine ⟨by simpa using h1 T (by simp), fun v hv => ?_, fun _ _ => rfl⟩
    have := h2 v hv
    simp at this
    exact this
  | @join ts rest A B C out fin p ab br c r ih =>
    intro hn h1 h2
    have hf := flat_join p c
    have hn2 : (C :: rest).flatten.Nodup := hf.nodup_iff.2 hn
    have hl : ts.length = rest.length + 2 := by rw [p.length_eq]; rfl
    have hn3 := hn2
    rw [List.flatten_cons, List.nodup_append] at hn3
    have hmem : ∀ v, v ∈ C → v ∈ ts.flatten := fun v hv => hf.mem_iff.1 (by rw [List.flatten_cons]; exact List.mem_append_left _ hv)
    have hin : ∀ v, v ∉ C → inc C out v = out v := fun v hv => by rw [inc, if_neg hv]
    obtain ⟨g1, g2, g3⟩ := ih hn2 (by
      intro T hT
      rcases List.mem_cons.1 hT with rfl | hT
      · have hA := h1 A (p.mem_iff.2 (List.mem_cons_self ..))
        have hB := h1 B (p.mem_iff.2 (List.mem_cons_of_mem _ (List.mem_cons_self ..)))
        have e1 : 2 * shareOf M T (inc T out) = shareOf M T out := by
          unfold shareOf
          rw [← sum_map_mul]
          refine sum_map_congr fun v hv => ?_
          have := h2 v (hmem v hv)
          rw [inc, if_pos hv, ← Nat.pow_succ', show (M - (out v + 1)).succ = M - out v by omega]
        have e2 : shareOf M T out = shareOf M A out + shareOf M B out := by
          unfold shareOf
          rw [sum_map_perm c, sum_map_app]
        omega
      · rw [← h1 T (p.mem_iff.2 (List.mem_cons_of_mem _ (List.mem_cons_of_mem _ hT)))]
        unfold shareOf
        refine sum_map_congr fun v hv => ?_
        rw [hin v (fun h => hn3.2.2 v h v (List.mem_flatten.2 ⟨T, hT, hv⟩) rfl)]) (by
      intro v hv
      have := h2 v (hf.mem_iff.1 hv)
      rw [List.length_cons]
      unfold inc
      split <;> omega)
    refine ⟨?_, fun v hv => g2 v (hf.mem_iff.2 hv), fun v hv => ?_⟩
    · rw [← g1]
      unfold shareOf
      exact (sum_map_perm hf _).symm
    · rw [g3 v (fun h => hv (hf.mem_iff.1 h)), hin v (fun h => hv (hmem v h))]

theorem flat_ones : ∀ vs : List Nat, (vs.map fun v => [v]).flatten = vs
  | [] => rfl
  | v :: vs => by rw [List.map_cons, List.flatten_cons, flat_ones vs]; rfl
theorem sum_zero (wt : Nat → Nat) : ∀ vs : List Nat, (vs.map fun v => wt v * (fun _ : Nat => 0) v).sum = 0
  | [] => rfl
  | v :: vs => by rw [List.map_cons, List.sum_cons, sum_zero wt vs, Nat.mul_zero]
/-- trees of one value each -/
theorem Run.single {wt : Nat → Nat} {vs : List Nat} {fin : Nat → Nat} (r : Run wt (vs.map fun v => [v]) (fun _ => 0) fin) (hn : vs.Nodup) (M : Nat) (hM : vs.length ≤ M + 1) :
    shareOf M vs fin = 2 ^ M ∧ (∀ v ∈ vs, fin v ≤ M) ∧ (∀ v, v ∉ vs → fin v = 0) ∧ ∀ l : Nat → Nat, (∀ v ∈ vs, l v ≤ M) → shareOf M vs l ≤ 2 ^ M → (vs.map fun v => wt v * fin v).sum ≤ (vs.map fun v => wt v * l v).sum := by
  have hfl := flat_ones vs
  obtain ⟨H, h1, h2⟩ := r.cost (by rw [hfl]; exact hn)
  obtain ⟨g1, g2, g3⟩ := r.share M (by rw [hfl]; exact hn) (fun T hT => by
    obtain ⟨v, _, rfl⟩ := List.mem_map.1 hT
    simp [shareOf]) (fun v _ => by rw [List.length_map]; omega)
  rw [hfl] at g1 g2 g3 h2
  refine ⟨g1, g2, g3, fun l hl hs => ?_⟩
  rw [h2]
  have h3 := joins_least h1 M (vs.map fun v => (wt v, l v)) (by
    rw [List.map_map, List.map_map]
    refine List.Perm.of_eq (List.map_congr_left fun v _ => ?_)
    simp [wOf]) (by
    intro p hp
    obtain ⟨v, hv, rfl⟩ := List.mem_map.1 hp
    exact hl v hv) (by
    rw [List.map_map]
    show ((vs.map fun v => l v).map fun l => 2 ^ (M - l)).sum ≤ 2 ^ M
    rw [List.map_map]
    exact hs)
  have e1 : costW (vs.map fun v => (wt v, l v)) = (vs.map fun v => wt v * l v).sum := by
    unfold costW
    rw [List.map_map]
    rfl
  have e2 := sum_zero wt vs
  rw [e2, Nat.zero_add, ← e1]
  exact h3
end Go.Proofs.Ytmaffonnekgekaa
