/-
  The order of a scan: units, places, restarts. No code.
-/
import Derived.Test.YtdnjnbfmmgkpjaaDoorSA
namespace Go.Proofs.YtdnjnbfmmgkpjaaDoor

/-- an event of a scan: a restart, or a place: its component, and which block of it -/
abbrev Ev := Option (Nat × Nat)
/-- block i of component p in unit n -/
def plAt (X : Nat) (K : Int) (n p i : Nat) : Nat × Nat := (p, (n / X * uD K p + i / uA K p) * (X * uA K p) + (n % X * uA K p + i % uA K p))
def plOf (X : Nat) (K : Int) (n p : Nat) : List Ev := (List.range (uA K p * uD K p)).map fun i => some (plAt X K n p i)
def plTo (X : Nat) (K : Int) (n p : Nat) : List Ev := (List.range p).flatMap (plOf X K n)
def isRs (R n : Nat) : Prop := 0 < n ∧ 0 < R ∧ n % R = 0
instance (R n : Nat) : Decidable (isRs R n) := by unfold isRs; infer_instance
def rsOf (R n : Nat) : List Ev := if isRs R n then [none] else []
def evOf (X : Nat) (K : Int) (R n : Nat) : List Ev := rsOf R n ++ plTo X K n (nP K)
def evTo (X : Nat) (K : Int) (R n : Nat) : List Ev := (List.range n).flatMap (evOf X K R)
/-- how many restarts -/
def rests (l : List Ev) : Nat := l.countP (·.isNone)
theorem range_flat {α : Type} (f : Nat → List α) (n : Nat) : (List.range (n + 1)).flatMap f = (List.range n).flatMap f ++ f n := by rw [List.range_succ, List.flatMap_append]; simp
theorem evTo_more (X : Nat) (K : Int) (R n : Nat) : evTo X K R (n + 1) = evTo X K R n ++ (rsOf R n ++ plTo X K n (nP K)) := range_flat _ _
theorem plTo_more (X : Nat) (K : Int) (n p : Nat) : plTo X K n (p + 1) = plTo X K n p ++ plOf X K n p := range_flat _ _
/-- what lies ahead of n lies at the beginning of all -/
theorem range_pre {α : Type} (f : Nat → List α) {n N : Nat} (h : n < N) : ∃ q, (List.range n).flatMap f ++ f n ++ q = (List.range N).flatMap f := by
  obtain ⟨d, rfl⟩ : ∃ d, N = n + 1 + d := ⟨N - n - 1, by omega⟩
  induction d with
  | zero => exact ⟨[], by rw [List.append_nil, Nat.add_zero, range_flat]⟩
  | succ d ih =>
    obtain ⟨q, hq⟩ := ih (by omega)
    exact ⟨q ++ f (n + 1 + d), by rw [← Nat.add_assoc, range_flat, ← hq, List.append_assoc _ q]⟩
theorem map_pre {α : Type} (f : Nat → α) {n N : Nat} (h : n < N) : ∃ q, (List.range n).map f ++ [f n] ++ q = (List.range N).map f := by
  obtain ⟨q, hq⟩ := range_pre (fun n => [f n]) h
  refine ⟨q, ?_⟩
  have e : ∀ m, (List.range m).flatMap (fun n => [f n]) = (List.range m).map f := fun m => by induction (List.range m) with | nil => rfl | cons a r ih => rw [List.flatMap_cons, ih]; rfl
  rw [e, e] at hq
  exact hq
/-- a restart at the head of unit n -/
theorem pre_rest {X : Nat} {K : Int} {R n N : Nat} (h : n < N) (hr : isRs R n) : ∃ q, evTo X K R n ++ [none] ++ q = evTo X K R N := by
  obtain ⟨q, hq⟩ := range_pre (evOf X K R) h
  refine ⟨plTo X K n (nP K) ++ q, ?_⟩
  show _ = (List.range N).flatMap (evOf X K R)
  rw [← hq]
  simp [evTo, evOf, rsOf, if_pos hr]
/-- what has been seen ahead of block i of component p of unit n -/
def evAt (X : Nat) (K : Int) (R n p i : Nat) : List Ev := evTo X K R n ++ rsOf R n ++ plTo X K n p ++ (List.range i).map fun j => some (plAt X K n p j)
theorem pre_place {X : Nat} {K : Int} {R n N p i : Nat} (h : n < N) (hp : p < nP K) (hi : i < uA K p * uD K p) : ∃ q, evAt X K R n p i ++ [some (plAt X K n p i)] ++ q = evTo X K R N := by
  obtain ⟨q1, h1⟩ := range_pre (evOf X K R) h
  obtain ⟨q2, h2⟩ := range_pre (plOf X K n) hp
  obtain ⟨q3, h3⟩ := map_pre (fun j => (some (plAt X K n p j) : Ev)) hi
  refine ⟨q3 ++ (q2 ++ q1), ?_⟩
  have e2 : plTo X K n (nP K) = plTo X K n p ++ plOf X K n p ++ q2 := h2.symm
  have e3 : plOf X K n p = (List.range i).map (fun j => (some (plAt X K n p j) : Ev)) ++ [some (plAt X K n p i)] ++ q3 := h3.symm
  have e1 : evTo X K R N = evTo X K R n ++ evOf X K R n ++ q1 := h1.symm
  rw [e1, evOf, e2, e3, evAt]
  simp
theorem evAt_zero (X : Nat) (K : Int) (R n : Nat) : evAt X K R n 0 0 = evTo X K R n ++ rsOf R n := by simp [evAt, plTo]
theorem evAt_more (X : Nat) (K : Int) (R n p i : Nat) : evAt X K R n p (i + 1) = evAt X K R n p i ++ [some (plAt X K n p i)] := by
  rw [evAt, evAt, List.range_succ, List.map_append, ← List.append_assoc]
  rfl
theorem evAt_part (X : Nat) (K : Int) (R n p : Nat) : evAt X K R n p (uA K p * uD K p) = evAt X K R n (p + 1) 0 := by
  simp [evAt, plTo_more, plOf]
theorem evAt_unit (X : Nat) (K : Int) (R n : Nat) : evAt X K R n (nP K) 0 = evTo X K R (n + 1) := by
  rw [evTo_more]
  simp [evAt]
theorem rests_app (a b : List Ev) : rests (a ++ b) = rests a + rests b := List.countP_append
theorem rests_some (l : List (Nat × Nat)) : rests (l.map some) = 0 := by
  induction l with
  | nil => rfl
  | cons x r ih => simp [rests]
theorem rests_plOf (X : Nat) (K : Int) (n p : Nat) : rests (plOf X K n p) = 0 := by
  have : plOf X K n p = ((List.range (uA K p * uD K p)).map (plAt X K n p)).map some := by simp [plOf]
  rw [this, rests_some]
theorem rests_plTo (X : Nat) (K : Int) (n : Nat) : ∀ p, rests (plTo X K n p) = 0
  | 0 => rfl
  | p + 1 => by rw [plTo_more, rests_app, rests_plTo X K n p, rests_plOf]
theorem rests_evTo (X : Nat) (K : Int) (R : Nat) : ∀ n, rests (evTo X K R n) = if R = 0 then 0 else (n - 1) / R
  | 0 => by simp [evTo, rests]
  | n + 1 => by
    rw [evTo_more, rests_app, rests_app, rests_plTo, rests_evTo X K R n]
    unfold rsOf
    by_cases h0 : R = 0
    · have : ¬ isRs R n := fun h => by have := h.2.1; omega
      rw [if_pos h0, if_neg this, if_pos h0]
      rfl
    · rw [if_neg h0, if_neg h0]
      by_cases hr : isRs R n
      · rw [if_pos hr]
        obtain ⟨h1, h2, h3⟩ := hr
        obtain ⟨m, hm⟩ := Nat.dvd_of_mod_eq_zero h3
        subst hm
        have hm0 : 0 < m := by
          rcases Nat.eq_zero_or_pos m with h | h
          · subst h; simp at h1
          · exact h
        obtain ⟨m', rfl⟩ : ∃ m', m = m' + 1 := ⟨m - 1, by omega⟩
        have e1 : (R * (m' + 1) - 1) / R = m' := by
          rw [show R * (m' + 1) - 1 = R * m' + (R - 1) by rw [Nat.mul_add]; omega, Nat.mul_add_div (by omega), Nat.div_eq_of_lt (by omega)]
          rfl
        have e2 : (R * (m' + 1) + 1 - 1) / R = m' + 1 := by rw [Nat.add_sub_cancel, Nat.mul_div_cancel_left _ (by omega)]
        rw [e1, e2]
        rfl
      · rw [if_neg hr]
        show (n - 1) / R + (0 + 0) = _
        rcases Nat.eq_zero_or_pos n with h | h
        · subst h; simp
        · have hnm : n % R ≠ 0 := fun e => hr ⟨h, by omega, e⟩
          have hd := Nat.div_add_mod n R
          have hl := Nat.mod_lt n (show R > 0 by omega)
          have e : n - 1 = R * (n / R) + (n % R - 1) := by omega
          have e4 : (n % R - 1) / R = 0 := Nat.div_eq_of_lt (by omega)
          rw [show n + 1 - 1 = n by omega, e, Nat.mul_add_div (by omega), e4]
          rfl
theorem plAt_lt {X Y : Nat} {K : Int} {n p i : Nat} (hn : n < X * Y) (hi : i < uA K p * uD K p) : (plAt X K n p i).2 < (X * uA K p) * (Y * uD K p) := by
  have ha := (uA_le K p).1
  have hd := (uD_le K p).1
  show (n / X * uD K p + i / uA K p) * (X * uA K p) + (n % X * uA K p + i % uA K p) < (X * uA K p) * (Y * uD K p)
  generalize uA K p = a at *
  generalize uD K p = d at *
  have hX : 0 < X := by rcases Nat.eq_zero_or_pos X with h | h; (subst h; simp at hn); exact h
  have h1 : n / X < Y := Nat.div_lt_of_lt_mul hn
  have h2 : n % X < X := Nat.mod_lt _ hX
  have h3 : i / a < d := Nat.div_lt_of_lt_mul hi
  have h4 : i % a < a := Nat.mod_lt _ (by omega)
  have h5 : n / X * d + i / a + 1 ≤ Y * d := by
    have := Nat.mul_le_mul_right d (show n / X + 1 ≤ Y by omega)
    rw [Nat.add_mul] at this
    omega
  have h6 : n % X * a + i % a + 1 ≤ X * a := by
    have := Nat.mul_le_mul_right a (show n % X + 1 ≤ X by omega)
    rw [Nat.add_mul] at this
    omega
  have h7 := Nat.mul_le_mul_right (X * a) h5
  rw [Nat.add_mul, Nat.one_mul] at h7
  rw [Nat.mul_comm (X * a)]
  omega
end Go.Proofs.YtdnjnbfmmgkpjaaDoor
