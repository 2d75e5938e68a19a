/-
  Units, and the shapes of a kind's components: the contracts of cover, unit, units, which, Shape, and of the reference's Parts, Across, Down, Units, Shape.
-/
import Derived.Test.YtmadkpnkmkajoaaDoorSR
import Derived.BigRegion
namespace Go.Proofs.YtmadkpnkmkajoaaDoor
open Go.RowKit

/-- blocks of a component across and down in a unit; components of a kind -/
def uA (K : Int) (p : Nat) : Nat := if 2 ≤ K ∧ p = 0 then 2 else 1
def uD (K : Int) (p : Nat) : Nat := if K = 3 ∧ p = 0 then 2 else 1
def nP (K : Int) : Nat := if K = 0 then 1 else 3
/-- how many units a header has across and down -/
def uW (W K : Int) : Nat := (W.toNat + 8 * uA K 0 - 1) / (8 * uA K 0)
def uH (H K : Int) : Nat := (H.toNat + 8 * uD K 0 - 1) / (8 * uD K 0)
/-- pairs of numbers in memory, one behind the other -/
def cells2 (p : Nat × Nat) : List Value := [.int .i64 (p.1 : Int), .int .i64 (p.2 : Int)]
def cellsP2 (l : List (Nat × Nat)) : List Value := l.flatMap cells2
/-- a row of pairs -/
structure Ps (w : World) (lo : Nat) (A : Option Addr) (n : Nat) (l : List (Nat × Nat)) : Prop where
  len : l.length = n
  at_ : 0 < n → ∃ b off, A = some ⟨b, off, none⟩ ∧ lo ≤ b ∧ b < w.heap.size ∧ ∀ (i : Nat) (x : Nat × Nat), l[i]? = some x → w.cell? ⟨b, off + i * 2, none⟩ = some (.int .i64 (x.1 : Int)) ∧ w.cell? ⟨b, off + i * 2 + 1, none⟩ = some (.int .i64 (x.2 : Int))
theorem Ps.on {w w' : World} {lo : Nat} {A : Option Addr} {n : Nat} {l : List (Nat × Nat)} (h : Ps w lo A n l) (k : Below w.heap.size w w') : Ps w' lo A n l :=
  ⟨h.len, fun h0 => by
    obtain ⟨b, off, e, h1, h2, h3⟩ := h.at_ h0
    exact ⟨b, off, e, h1, Nat.lt_of_lt_of_le h2 k.size, fun i x hx => ⟨(k.cell h2).trans (h3 i x hx).1, (k.cell h2).trans (h3 i x hx).2⟩⟩⟩
def unitL (K : Int) : List (Nat × Nat) := (List.range (nP K)).map fun p => (uA K p, uD K p)
def shpL (W H K : Int) : List (Nat × Nat) := (List.range (nP K)).map fun p => (uW W K * uA K p, uH H K * uD K p)

theorem cover_any (w : World) (a b : Nat) (ha : a ≤ 1000) (hb : b ≤ 1000) (h0 : 0 < b) (ha0 : 0 < a) : Calls Tryd.prog 88 #[.int .i64 (a : Int), .int .i64 (b : Int)] w fun e w' => e = .returned (.int .i64 (((a + b - 1) / b : Nat) : Int)) ∧ w = w' := by
  have h1 : ((a : Int) + b - 1).tdiv b = (((a + b - 1) / b : Nat) : Int) := by
    rw [show (a : Int) + b - 1 = ((a + b - 1 : Nat) : Int) by omega, Int.tdiv_eq_ediv_of_nonneg (by omega)]
    rfl
  have h2 : (a + b - 1) / b ≤ 2000 := Nat.le_trans (Nat.div_le_self _ _) (by omega)
  obtain ⟨q, hq⟩ : ∃ q, q = (a + b - 1) / b := ⟨_, rfl⟩
  rw [← hq] at h1 h2 ⊢
  have h3 : (b : Int) ≠ 0 := by omega
  clear hq
  go_enter Tryd.func88, Tryd.ntmps88
  go_wp2_with fail
  go_ret
  exact ⟨rfl, rfl⟩

theorem unit_any (w : World) (K : Int) (h0 : 0 ≤ K) (h3 : K ≤ 3) : Calls Tryd.prog 53 #[.int .i64 K] w fun e w' => ∃ g, e = .returned (.slice (some ⟨g, 0, none⟩) (nP K) (nP K)) ∧ w.heap.size ≤ g ∧ Box w' g 60 (cellsP2 (unitL K)).toArray ∧ Below w.heap.size w w' := by
  rcases (show K = 0 ∨ K = 1 ∨ K = 2 ∨ K = 3 by omega) with rfl | rfl | rfl | rfl
  · go_enter Tryd.func53, Tryd.ntmps53
    go_wp2_with fail
    go_ret
    exact ⟨_, rfl, Nat.le_refl _, Box.made _ _ _, on_alloc _ _⟩
  all_goals
    go_enter Tryd.func53, Tryd.ntmps53
    go_wp2_with fail
    go_ret
    exact ⟨_, rfl, Nat.le_refl _, Box.made _ _ _, on_alloc _ _⟩

theorem parts_any (w : World) (K : Int) : Calls Tryd.prog 58 #[.int .i64 K] w fun e w' => e = .returned (.int .i64 (nP K : Int)) ∧ w = w' := by
  by_cases h : K = 0
  · subst h
    go_enter Tryd.func58, Tryd.ntmps58
    go_wp2_with fail
    go_ret
    exact ⟨rfl, rfl⟩
  · have e : nP K = 3 := if_neg h
    rw [e]
    go_enter Tryd.func58, Tryd.ntmps58
    go_wp2_with fail
    go_ret
    exact ⟨rfl, rfl⟩
theorem across_any (w : World) (K : Int) (p : Nat) : Calls Tryd.prog 56 #[.int .i64 K, .int .i64 (p : Int)] w fun e w' => e = .returned (.int .i64 (uA K p : Int)) ∧ w = w' := by
  by_cases h : 2 ≤ K
  · by_cases h0 : p = 0
    · subst h0
      have e : uA K 0 = 2 := if_pos ⟨h, rfl⟩
      rw [e]
      go_enter Tryd.func56, Tryd.ntmps56
      go_wp2_with fail
      go_ret
      exact ⟨rfl, rfl⟩
    · have e : uA K p = 1 := if_neg (by omega)
      have h1 : ¬ (p : Int) = 0 := by omega
      rw [e]
      go_enter Tryd.func56, Tryd.ntmps56
      go_wp2_with fail
      go_ret
      exact ⟨rfl, rfl⟩
  · have e : uA K p = 1 := if_neg (by omega)
    rw [e]
    go_enter Tryd.func56, Tryd.ntmps56
    go_wp2_with fail
    go_ret
    exact ⟨rfl, rfl⟩
theorem down_any (w : World) (K : Int) (p : Nat) : Calls Tryd.prog 57 #[.int .i64 K, .int .i64 (p : Int)] w fun e w' => e = .returned (.int .i64 (uD K p : Int)) ∧ w = w' := by
  by_cases h : K = 3
  · subst h
    by_cases h0 : p = 0
    · subst h0
      go_enter Tryd.func57, Tryd.ntmps57
      go_wp2_with fail
      go_ret
      exact ⟨rfl, rfl⟩
    · have e : uD 3 p = 1 := if_neg (by omega)
      have h1 : ¬ (p : Int) = 0 := by omega
      rw [e]
      go_enter Tryd.func57, Tryd.ntmps57
      go_wp2_with fail
      go_ret
      exact ⟨rfl, rfl⟩
  · have e : uD K p = 1 := if_neg (by omega)
    rw [e]
    go_enter Tryd.func57, Tryd.ntmps57
    go_wp2_with fail
    go_ret
    exact ⟨rfl, rfl⟩
theorem runits_any (w : World) (n m : Nat) (hn : n ≤ 1000) (h0 : 0 < m) (hm : m ≤ 2) : Calls Tryd.prog 55 #[.int .i64 (n : Int), .int .i64 (m : Int)] w fun e w' => e = .returned (.int .i64 (((n + 8 * m - 1) / (8 * m) : Nat) : Int)) ∧ w = w' := by
  obtain ⟨q, hq⟩ : ∃ q, q = (n + 8 * m - 1) / (8 * m) := ⟨_, rfl⟩
  have hq2 : ∀ k, 8 * m * k < n ↔ k < q := by
    intro k
    rcases (show m = 1 ∨ m = 2 by omega) with rfl | rfl <;> omega
  have hq1 : q ≤ 1000 := by rcases (show m = 1 ∨ m = 2 by omega) with rfl | rfl <;> omega
  rw [← hq]
  have HQ := Lib.hid hq2
  clear hq hq2
  go_enter Tryd.func55, Tryd.ntmps55
  go_wp2_with fail
  go_loopw [5] (fun i wr => ∃ k : Nat, k ≤ q ∧ i = .int .i64 (k : Int) ∧ w = wr) (fun i _ => q - (intOf i).toNat)
  case atStart => exact ⟨0, Nat.zero_le _, rfl, rfl⟩
  case round =>
    obtain ⟨k, hk, rfl, rfl⟩ := hrel
    have h1 := HQ.out k
    obtain ⟨z, hz⟩ : ∃ z, z = 8 * m * k := ⟨_, rfl⟩
    have hz2 : z ≤ 16000 := by rw [hz]; have : 8 * m * k ≤ 16 * 1000 := Nat.mul_le_mul (by omega) (by omega); omega
    have hc : 8 * (m : Int) * (k : Int) = (z : Int) := by rw [hz]; push_cast; rfl
    rw [← hz] at h1
    by_cases hlt : k < q
    · have h2 : (z : Int) < n := by omega
      clear h1 hz
      go_wp2
      exact ⟨⟨k + 1, by omega, by go_num, trivial⟩, by simp [intOf]; omega⟩
    · have h2 : ¬ (z : Int) < n := by omega
      obtain rfl : k = q := by omega
      clear h1 hz
      go_wp2
      go_ret
      exact ⟨rfl, rfl⟩
/-- a header's value -/
def scanV (W H K R : Int) : Value := .agg #[.int .i64 W, .int .i64 H, .int .i64 K, .int .i64 R]
theorem cells2_at : ∀ (l : List (Nat × Nat)) (i : Nat) (x : Nat × Nat), l[i]? = some x → (cellsP2 l)[i * 2]? = some (.int .i64 (x.1 : Int)) ∧ (cellsP2 l)[i * 2 + 1]? = some (.int .i64 (x.2 : Int))
  | [], i, x, h => by simp at h
  | y :: l, 0, x, h => by
    simp at h
    subst h
    simp [cellsP2, cells2]
  | y :: l, i + 1, x, h => by
    have ih := cells2_at l i x (by simpa using h)
    have e1 : (i + 1) * 2 = i * 2 + 2 := by omega
    rw [e1]
    simpa [cellsP2, cells2] using ih
theorem ps_of_box {w : World} {lo g : Nat} {l : List (Nat × Nat)} (h : Box w g 60 (cellsP2 l).toArray) (hg : lo ≤ g) : Ps w lo (some ⟨g, 0, none⟩) l.length l :=
  ⟨rfl, fun _ => ⟨g, 0, rfl, hg, h.lt, fun i x hx => by
    rw [Nat.zero_add, h.cell, h.cell]
    simpa using cells2_at l i x hx⟩⟩
theorem unitL_len (K : Int) : (unitL K).length = nP K := by simp [unitL]
theorem uA_le (K : Int) (p : Nat) : 1 ≤ uA K p ∧ uA K p ≤ 2 := by unfold uA; split <;> omega
theorem uD_le (K : Int) (p : Nat) : 1 ≤ uD K p ∧ uD K p ≤ 2 := by unfold uD; split <;> omega
theorem nP_le (K : Int) : 1 ≤ nP K ∧ nP K ≤ 3 := by unfold nP; split <;> omega
theorem unitL_0 (K : Int) : (unitL K)[0]? = some (uA K 0, uD K 0) := by
  have := nP_le K
  rw [unitL, List.getElem?_map, List.getElem?_range (by omega)]
  rfl
theorem uW_le {W H K R : Int} (h : RightS W H K R) : 1 ≤ uW W K ∧ uW W K ≤ 16 := by
  obtain ⟨⟨h1, h2⟩, _⟩ := h
  have := uA_le K 0
  unfold uW
  rcases (show uA K 0 = 1 ∨ uA K 0 = 2 by omega) with e | e <;> rw [e] <;> omega
theorem uH_le {W H K R : Int} (h : RightS W H K R) : 1 ≤ uH H K ∧ uH H K ≤ 16 := by
  obtain ⟨_, ⟨h1, h2⟩, _⟩ := h
  have := uD_le K 0
  unfold uH
  rcases (show uD K 0 = 1 ∨ uD K 0 = 2 by omega) with e | e <;> rw [e] <;> omega

set_option maxHeartbeats 800000 in
theorem units_any (w : World) (W H K R : Int) (h : RightS W H K R) : Calls Tryd.prog 52 #[scanV W H K R] w fun e w' => e = .returned (.tuple #[.int .i64 (uW W K : Int), .int .i64 (uH H K : Int)]) ∧ Below w.heap.size w w' := by
  obtain ⟨⟨h1, h2⟩, ⟨h3, h4⟩, ⟨h5, h6⟩, _⟩ := h
  obtain ⟨a, rfl⟩ : ∃ a : Nat, W = a := ⟨W.toNat, by omega⟩
  obtain ⟨b, rfl⟩ : ∃ b : Nat, H = b := ⟨H.toNat, by omega⟩
  obtain ⟨w1, hw1⟩ : ∃ w1, w.alloc (.cells #[.int .i64 (a : Int), .int .i64 (b : Int), .int .i64 K, .int .i64 R] 26) = w1 := ⟨_, rfl⟩
  have b1 : Box w1 w.heap.size 26 #[.int .i64 (a : Int), .int .i64 (b : Int), .int .i64 K, .int .i64 R] := by rw [← hw1]; exact Box.made _ _ _
  have k1 : Below w.heap.size w w1 := by rw [← hw1]; exact on_alloc _ _
  have HB := Lib.hid (And.intro b1 k1)
  have c2 : w1.cell? ⟨w.heap.size, 2, none⟩ = some (.int .i64 K) := b1.cell 2
  obtain ⟨A, hA⟩ : ∃ A, A = uA K 0 := ⟨_, rfl⟩
  obtain ⟨D, hD⟩ : ∃ D, D = uD K 0 := ⟨_, rfl⟩
  have hA1 := uA_le K 0
  have hD1 := uD_le K 0
  have eW : uW (a : Int) K = (a + 8 * A - 1) / (8 * A) := by rw [hA]; rfl
  have eH : uH (b : Int) K = (b + 8 * D - 1) / (8 * D) := by rw [hD]; rfl
  rw [← hA] at hA1
  rw [← hD] at hD1
  have HH := Lib.hid (And.intro hA hD)
  obtain ⟨q1, hq1⟩ : ∃ q1, q1 = (a + 8 * A - 1) / (8 * A) := ⟨_, rfl⟩
  obtain ⟨q2, hq2⟩ : ∃ q2, q2 = (b + 8 * D - 1) / (8 * D) := ⟨_, rfl⟩
  rw [eW, eH, ← hq1, ← hq2]
  have HQ := Lib.hid (And.intro hq1 hq2)
  clear b1 k1 hA hD eW eH hq1 hq2
  unfold scanV
  go_enter Tryd.func52, Tryd.ntmps52
  go_wp2_with fail
  clear hw1
  refine (unit_any w1 K h5 h6).mono ?_
  rintro e w2 ⟨g, rfl, hg, hb2, k2⟩
  have hps := (ps_of_box (lo := 0) hb2 (Nat.zero_le _)).at_ (by rw [unitL_len]; have := nP_le K; omega)
  obtain ⟨g2, off, e1, _, _, hc⟩ := hps
  cases e1
  have hx := hc 0 _ (unitL_0 K)
  rw [← HH.out.1, ← HH.out.2] at hx
  obtain ⟨x0, x1⟩ := hx
  obtain ⟨w3, hw3⟩ : ∃ w3, w2.alloc (.cells #[.int .i64 (A : Int), .int .i64 (D : Int)] 60) = w3 := ⟨_, rfl⟩
  have k3 : Below w2.heap.size w2 w3 := by rw [← hw3]; exact on_alloc _ _
  have b3 : Box w3 w2.heap.size 60 #[.int .i64 (A : Int), .int .i64 (D : Int)] := by rw [← hw3]; exact Box.made _ _ _
  have c0 : w3.cell? ⟨w.heap.size, 0, none⟩ = some (.int .i64 (a : Int)) := ((HB.out.1.on k2).on k3).cell 0
  have c1 : w3.cell? ⟨w.heap.size, 1, none⟩ = some (.int .i64 (b : Int)) := ((HB.out.1.on k2).on k3).cell 1
  have d0 : w3.cell? ⟨w2.heap.size, 0, none⟩ = some (.int .i64 (A : Int)) := b3.cell 0
  have d1 : w3.cell? ⟨w2.heap.size, 1, none⟩ = some (.int .i64 (D : Int)) := b3.cell 1
  have H2 := Lib.hid (on_trans (on_trans HB.out.2 k2) k3)
  clear k3 b3
  have hnp := nP_le K
  clear hc hb2 k2
  have y1 : ((A : Int) * 8) = ((8 * A : Nat) : Int) := by omega
  have y2 : ((D : Int) * 8) = ((8 * D : Nat) : Int) := by omega
  have HC := Lib.hid (And.intro (fun w' : World => (show Calls Tryd.prog 88 #[.int .i64 (a : Int), .int .i64 ((A : Int) * 8)] w' fun e w'' => e = .returned (.int .i64 (q1 : Int)) ∧ w'' = w' by rw [y1, HQ.out.1]; exact (cover_any w' a (8 * A) (by omega) (by omega) (by omega) (by omega)).mono fun _ _ ⟨a, b⟩ => ⟨a, b.symm⟩))
    (fun w' : World => (show Calls Tryd.prog 88 #[.int .i64 (b : Int), .int .i64 ((D : Int) * 8)] w' fun e w'' => e = .returned (.int .i64 (q2 : Int)) ∧ w'' = w' by rw [y2, HQ.out.2]; exact (cover_any w' b (8 * D) (by omega) (by omega) (by omega) (by omega)).mono fun _ _ ⟨a, b⟩ => ⟨a, b.symm⟩)))
  clear y1 y2
  go_wp2_with fail
  go_quiet ((go_at_call 88; first | (with_reducible exact Calls.quiet_of_same (HC.out.1 _)) | (with_reducible exact Calls.quiet_of_same (HC.out.2 _))))
  go_wp2_with fail
  go_ret2
  exact ⟨rfl, on_trans H2.out (below_drewN_refl _ _)⟩

end Go.Proofs.YtmadkpnkmkajoaaDoor
