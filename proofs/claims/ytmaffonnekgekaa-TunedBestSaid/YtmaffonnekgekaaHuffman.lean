/-
  Joining the two least: mathematics, no code. No lengths are better.
-/
import Derived.Test.YtmaffonnekgekaaHMath
namespace Go.Proofs.Ytmaffonnekgekaa

/-- weights, joined by twos, the least ones first: how much that is in all -/
inductive Joins : List Nat → Nat → Prop
  | one (w : Nat) : Joins [w] 0
  | more {ws rest : List Nat} {a b h : Nat} (p : ws.Perm (a :: b :: rest)) (ab : a ≤ b) (br : ∀ x ∈ rest, b ≤ x) (j : Joins ((a + b) :: rest) h) : Joins ws (a + b + h)

/-- weights and lengths: what they cost -/
def costW (ps : List (Nat × Nat)) : Nat := (ps.map fun p => p.1 * p.2).sum
/-- the share of lengths, in parts of 2 ^ M -/
def share (M : Nat) (ls : List Nat) : Nat := (ls.map fun l => 2 ^ (M - l)).sum
theorem costW_cons (p : Nat × Nat) (ps : List (Nat × Nat)) : costW (p :: ps) = p.1 * p.2 + costW ps := by simp [costW]
theorem share_cons (M l : Nat) (ls : List Nat) : share M (l :: ls) = 2 ^ (M - l) + share M ls := by simp [share]
theorem costW_perm {a b : List (Nat × Nat)} (h : a.Perm b) : costW a = costW b := by
  unfold costW
  exact (h.map _).sum_nat
theorem share_perm {M : Nat} {a b : List Nat} (h : a.Perm b) : share M a = share M b := by
  unfold share
  exact (h.map _).sum_nat

/-- the least weight takes the greatest length -/
theorem swap_first (a : Nat) : ∀ (ps : List (Nat × Nat)) (x : Nat), (∀ p ∈ ps, a ≤ p.1) → ∃ y ps', ps'.map (·.1) = ps.map (·.1) ∧ (y :: ps'.map (·.2)).Perm (x :: ps.map (·.2)) ∧ (∀ p ∈ ps', p.2 ≤ y) ∧ a * y + costW ps' ≤ a * x + costW ps
  | [], x, _ => ⟨x, [], rfl, List.Perm.refl _, fun p hp => (by cases hp), Nat.le_refl _⟩
  | (w, z) :: ps, x, h => by
    have hw : a ≤ w := h _ (List.mem_cons_self ..)
    by_cases hz : z ≤ x
    · obtain ⟨y, ps', h1, h2, h3, h4⟩ := swap_first a ps x (fun p hp => h p (List.mem_cons_of_mem _ hp))
      refine ⟨y, (w, z) :: ps', by simp [h1], ?_, ?_, ?_⟩
      · simp only [List.map_cons]
        exact ((List.Perm.swap ..).trans (h2.cons z)).trans (List.Perm.swap ..)
      · intro p hp
        rcases List.mem_cons.1 hp with rfl | hp
        · have : x ∈ y :: ps'.map (·.2) := h2.mem_iff.2 (List.mem_cons_self ..)
          rcases List.mem_cons.1 this with h5 | h5
          · show z ≤ y
            omega
          · obtain ⟨q, hq, hq2⟩ := List.mem_map.1 h5
            have := h3 q hq
            show z ≤ y
            omega
        · exact h3 p hp
      · rw [costW_cons, costW_cons]
        omega
    · obtain ⟨y, ps', h1, h2, h3, h4⟩ := swap_first a ps z (fun p hp => h p (List.mem_cons_of_mem _ hp))
      refine ⟨y, (w, x) :: ps', by simp [h1], ?_, ?_, ?_⟩
      · simp only [List.map_cons]
        exact ((List.Perm.swap ..).trans (h2.cons x))
      · intro p hp
        rcases List.mem_cons.1 hp with rfl | hp
        · have : z ∈ y :: ps'.map (·.2) := h2.mem_iff.2 (List.mem_cons_self ..)
          rcases List.mem_cons.1 this with h5 | h5
          · show x ≤ y
            omega
          · obtain ⟨q, hq, hq2⟩ := List.mem_map.1 h5
            have := h3 q hq
            show x ≤ y
            omega
        · exact h3 p hp
      · rw [costW_cons, costW_cons]
        show a * y + (w * x + costW ps') ≤ a * x + (w * z + costW ps)
        obtain ⟨d, rfl⟩ : ∃ d, w = a + d := ⟨w - a, by omega⟩
        obtain ⟨f, rfl⟩ : ∃ f, z = x + f := ⟨z - x, by omega⟩
        rw [Nat.mul_add] at h4
        rw [Nat.add_mul, Nat.add_mul, Nat.mul_add a x f, Nat.mul_add d x f]
        omega

/-- one of the weights is taken out of a list of weights and lengths -/
theorem pick_first {a : Nat} {t : List Nat} {ps : List (Nat × Nat)} (h : (ps.map (·.1)).Perm (a :: t)) : ∃ x qs, ps.Perm ((a, x) :: qs) ∧ (qs.map (·.1)).Perm t := by
  have ha : a ∈ ps.map (·.1) := h.mem_iff.2 (List.mem_cons_self ..)
  obtain ⟨⟨a', x⟩, hp, rfl⟩ := List.mem_map.1 ha
  refine ⟨x, ps.erase (a', x), List.perm_cons_erase hp, ?_⟩
  have := (List.perm_cons_erase hp).map (·.1)
  simp only [List.map_cons] at this
  exact (this.symm.trans h).cons_inv

theorem share_div {M d : Nat} : ∀ {ls : List Nat}, (∀ l ∈ ls, l ≤ d) → d ≤ M → ∃ k, share M ls = k * 2 ^ (M - d)
  | [], _, _ => ⟨0, by simp [share]⟩
  | l :: ls, h, hd => by
    obtain ⟨k, hk⟩ := share_div (ls := ls) (fun x hx => h x (List.mem_cons_of_mem _ hx)) hd
    have hl := h l (List.mem_cons_self ..)
    refine ⟨2 ^ (d - l) + k, ?_⟩
    rw [share_cons, hk, Nat.add_mul, ← Nat.pow_add, show d - l + (M - d) = M - l by omega]

/-- no lengths whose share is one at most cost less -/
theorem joins_least {ws : List Nat} {h : Nat} (j : Joins ws h) (M : Nat) : ∀ ps : List (Nat × Nat), (ps.map (·.1)).Perm ws → (∀ p ∈ ps, p.2 ≤ M) → share M (ps.map (·.2)) ≤ 2 ^ M → h ≤ costW ps := by
  induction j with
  | one w => intro ps _ _ _; exact Nat.zero_le _
  | @more ws rest a b h p ab br j ih =>
    intro ps hp hM hs
    obtain ⟨x, q1, hx, hq1⟩ := pick_first (hp.trans p)
    obtain ⟨y, q2, hy, hq2⟩ := pick_first hq1
    have hb1 : ∀ r ∈ q1, a ≤ r.1 := by
      intro r hr
      have : r.1 ∈ b :: rest := hq1.mem_iff.1 (List.mem_map_of_mem hr)
      rcases List.mem_cons.1 this with h1 | h1
      · omega
      · exact Nat.le_trans ab (br _ h1)
    obtain ⟨L1, q3, e1, e2, e3, e4⟩ := swap_first a q1 x hb1
    have hq3 : (q3.map (·.1)).Perm (b :: rest) := by rw [e1]; exact hq1
    obtain ⟨y3, q4, hy3, hq4⟩ := pick_first hq3
    have hb2 : ∀ r ∈ q4, b ≤ r.1 := by
      intro r hr
      exact br _ (hq4.mem_iff.1 (List.mem_map_of_mem hr))
    obtain ⟨L2, q5, f1, f2, f3, f4⟩ := swap_first b q4 y3 hb2
    have hq5 : (q5.map (·.1)).Perm rest := by rw [f1]; exact hq4
    -- all lengths, and their order
    have hall : (L1 :: L2 :: q5.map (·.2)).Perm (ps.map (·.2)) := by
      have g1 := hx.map (·.2)
      have g2 := hy3.map (·.2)
      simp only [List.map_cons] at g1 g2
      exact (((f2.trans g2.symm).cons L1).trans e2).trans g1.symm
    have h21 : L2 ≤ L1 := by
      have : L2 ∈ q3.map (·.2) := by
        have g2 := hy3.map (·.2)
        simp only [List.map_cons] at g2
        exact (f2.trans g2.symm).mem_iff.1 (List.mem_cons_self ..)
      obtain ⟨r, hr, hr2⟩ := List.mem_map.1 this
      have := e3 r hr
      omega
    have hL1 : L1 ≤ M := by
      have : L1 ∈ ps.map (·.2) := hall.mem_iff.1 (List.mem_cons_self ..)
      obtain ⟨r, hr, hr2⟩ := List.mem_map.1 this
      have := hM r hr
      omega
    have hcost : a * L1 + (b * L2 + costW q5) ≤ costW ps := by
      have g1 := costW_perm hx
      have g2 := costW_perm hy3
      rw [costW_cons] at g1 g2
      dsimp only at g1 g2
      omega
    -- the share
    rw [← share_perm hall, share_cons, share_cons] at hs
    obtain ⟨k, hk⟩ := share_div (M := M) (d := L2) (ls := q5.map (·.2)) (fun l hl => by
      obtain ⟨r, hr, hr2⟩ := List.mem_map.1 hl
      have := f3 r hr
      omega) (by omega)
    obtain ⟨D, hD⟩ : ∃ D, D = 2 ^ (M - L2) := ⟨_, rfl⟩
    have hM2 : 2 ^ M = 2 ^ L2 * D := by rw [hD, ← Nat.pow_add, show L2 + (M - L2) = M by omega]
    have hpos : 0 < 2 ^ (M - L1) := Nat.pow_pos (by omega)
    rw [hk, ← hD, hM2] at hs
    have hlt : (1 + k) * D < 2 ^ L2 * D := by rw [Nat.add_mul, Nat.one_mul]; omega
    have hlt2 : 1 + k < 2 ^ L2 := Nat.lt_of_mul_lt_mul_right hlt
    have hL2 : 1 ≤ L2 := by
      rcases Nat.eq_zero_or_pos L2 with h0 | h0
      · rw [h0] at hlt2; omega
      · exact h0
    obtain ⟨L, rfl⟩ : ∃ L, L2 = L + 1 := ⟨L2 - 1, by omega⟩
    have hih := ih ((a + b, L) :: q5) (by simp only [List.map_cons]; exact hq5.cons _) (by
      intro r hr
      rcases List.mem_cons.1 hr with rfl | hr
      · show L ≤ M
        omega
      · have := f3 r hr
        omega) (by
      simp only [List.map_cons]
      rw [share_cons, hk, ← hD, hM2, show M - L = M - (L + 1) + 1 by omega, Nat.pow_succ, ← hD]
      have : (2 + k) * D ≤ 2 ^ (L + 1) * D := Nat.mul_le_mul_right D (by omega)
      rw [Nat.add_mul] at this
      omega)
    rw [costW_cons] at hih
    dsimp only at hih
    have e5 : (a + b) * L + (a + b) = a * (L + 1) + b * (L + 1) := by rw [Nat.mul_succ, Nat.mul_succ, Nat.add_mul]; omega
    have e6 : a * (L + 1) ≤ a * L1 := Nat.mul_le_mul_left a h21
    omega
end Go.Proofs.Ytmaffonnekgekaa
