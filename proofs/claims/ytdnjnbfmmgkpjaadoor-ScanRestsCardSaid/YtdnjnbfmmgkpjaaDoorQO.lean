/-
  The contract of the reference's Order: the places of a scan, one behind the other.
-/
import Derived.Test.YtdnjnbfmmgkpjaaDoorPA
import Derived.Test.YtdnjnbfmmgkpjaaDoorSC
import Derived.Test.YtdnjnbfmmgkpjaaDoorST
import Derived.Test.YtdnjnbfmmgkpjaaDoorEA
import Derived.Deep.DeepCutAuto
namespace Go.Proofs.YtdnjnbfmmgkpjaaDoor
open Go.RowKit

/-- a place: its part, which one it is, whether a restart stands ahead -/
abbrev Pl3 := Nat × Nat × Bool
def exp1 (x : Pl3) : List Ev := (if x.2.2 = true then [none] else []) ++ [some (x.1, x.2.1)]
def expD (D : List Pl3) : List Ev := D.flatMap exp1
def pend (f : Bool) : List Ev := if f = true then [none] else []
theorem expD_snoc (D : List Pl3) (p a : Nat) (f : Bool) : expD (D ++ [(p, a, f)]) = (expD D ++ pend f) ++ [some (p, a)] := by simp [expD, exp1, pend]
def cellsPl1 (x : Pl3) : List Value := [.int .i64 (x.1 : Int), .int .i64 (x.2.1 : Int), .bool x.2.2]
def cellsPl (D : List Pl3) : List Value := D.flatMap cellsPl1
theorem cellsPl_app (a b : List Pl3) : cellsPl (a ++ b) = cellsPl a ++ cellsPl b := by simp [cellsPl]
theorem cellsPl_len (D : List Pl3) : (cellsPl D).length = D.length * 3 := by
  induction D with
  | nil => rfl
  | cons x r ih => rw [show x :: r = [x] ++ r from rfl, cellsPl_app, List.length_append, ih]; simp [cellsPl, cellsPl1]; omega
theorem cellsPl_at : ∀ (l : List Pl3) (i : Nat) (x : Pl3), l[i]? = some x → (cellsPl l)[i * 3]? = some (.int .i64 (x.1 : Int)) ∧ (cellsPl l)[i * 3 + 1]? = some (.int .i64 (x.2.1 : Int)) ∧ (cellsPl l)[i * 3 + 2]? = some (.bool x.2.2)
  | [], i, x, h => by simp at h
  | y :: l, 0, x, h => by
    simp at h
    subst h
    simp [cellsPl, cellsPl1]
  | y :: l, i + 1, x, h => by
    have h1 : l[i]? = some x := by simpa using h
    have h2 := cellsPl_at l i x h1
    have e : cellsPl (y :: l) = cellsPl1 y ++ cellsPl l := rfl
    have hl : (cellsPl1 y).length = 3 := rfl
    rw [e]
    refine ⟨?_, ?_, ?_⟩
    · rw [List.getElem?_append_right (by rw [hl]; omega), hl, show (i + 1) * 3 - 3 = i * 3 by omega, h2.1]
    · rw [List.getElem?_append_right (by rw [hl]; omega), hl, show (i + 1) * 3 + 1 - 3 = i * 3 + 1 by omega, h2.2.1]
    · rw [List.getElem?_append_right (by rw [hl]; omega), hl, show (i + 1) * 3 + 2 - 3 = i * 3 + 2 by omega, h2.2.2]
/-- a row of places -/
structure Od (w : World) (A : Option Addr) (n : Nat) (D : List Pl3) : Prop where
  len : D.length = n
  at_ : 0 < n → ∃ b, A = some ⟨b, 0, none⟩ ∧ b < w.heap.size ∧ ∀ (i : Nat) (x : Pl3), D[i]? = some x → w.cell? ⟨b, i * 3, none⟩ = some (.int .i64 (x.1 : Int)) ∧ w.cell? ⟨b, i * 3 + 1, none⟩ = some (.int .i64 (x.2.1 : Int)) ∧ w.cell? ⟨b, i * 3 + 2, none⟩ = some (.bool x.2.2)
theorem Od.on {w w' : World} {A : Option Addr} {n : Nat} {D : List Pl3} (h : Od w A n D) (k : Below w.heap.size w w') : Od w' A n D :=
  ⟨h.len, fun h0 => by
    obtain ⟨b, e, h1, h2⟩ := h.at_ h0
    exact ⟨b, e, Nat.lt_of_lt_of_le h1 k.size, fun i x hx => ⟨(k.cell (p := ⟨b, i * 3, none⟩) h1).trans (h2 i x hx).1, (k.cell (p := ⟨b, i * 3 + 1, none⟩) h1).trans (h2 i x hx).2.1, (k.cell (p := ⟨b, i * 3 + 2, none⟩) h1).trans (h2 i x hx).2.2⟩⟩⟩
theorem od_of_own {w : World} {base : Nat} {v : Value} {n : Nat} {D : List Pl3} (h : w.ownsRow base 58 3 v n (cellsPl D)) : ∃ A c, v = .slice A n c ∧ Od w A n D ∧ ∀ b off, A = some ⟨b, off, none⟩ → base ≤ b := by
  have hl : D.length = n := by have := h.1; rw [cellsPl_len] at this; omega
  have hown := h
  rcases h.2 with ⟨rfl, rfl⟩ | ⟨g, cap, cur, rfl, hg, hh, hn, hm, _, _⟩
  · exact ⟨_, 0, rfl, ⟨hl, fun h0 => by omega⟩, fun b off e => by cases e⟩
  · refine ⟨some ⟨g, 0, none⟩, cap, rfl, ⟨hl, fun _ => ⟨g, rfl, (Array.getElem?_eq_some_iff.1 hh).1, fun i x hx => ?_⟩⟩, fun b off e => by cases e; exact hg⟩
    have hi : i < n := by have := (List.getElem?_eq_some_iff.1 hx).1; omega
    obtain ⟨h1, h2, h3⟩ := cellsPl_at D i x hx
    exact ⟨by rw [hown.cellAt (i * 3) (by omega), h1], by rw [hown.cellAt (i * 3 + 1) (by omega), h2], by rw [hown.cellAt (i * 3 + 2) (by omega), h3]⟩
/-- the walk through a unit: what has been laid, and whether a restart waits -/
structure OSt (w0 wr : World) (g1 gs base : Nat) (W H K : Int) (r : Nat) (v : Value) (D : List Pl3) (f : Bool) (n p i : Nat) : Prop where
  row : wr.ownsRow base 58 3 v D.length (cellsPl D)
  ev : expD D ++ pend f = evAt (uW W K) K r n p i
  fl : f = true → p = 0 ∧ i = 0
  bel : Below w0.heap.size w0 wr
  bx : Box wr g1 23 #[.int .i64 W, .int .i64 H, .int .i64 K, .int .i64 (r : Int)]
  sh : ∃ off, ∀ q, q < nP K → wr.cell? ⟨gs, off + q * 2, none⟩ = some (.int .i64 ((uW W K * uA K q : Nat) : Int))
  bs : base ≤ wr.heap.size
/-- between units -/
structure OB (w0 wr : World) (g1 gs so base a b : Nat) (K : Int) (r X : Nat) (v : Value) (D : List Pl3) (n : Nat) : Prop where
  row : wr.ownsRow base 58 3 v D.length (cellsPl D)
  ev : expD D = evTo X K r n
  bel : Below w0.heap.size w0 wr
  bx : Box wr g1 23 #[.int .i64 (a : Int), .int .i64 (b : Int), .int .i64 K, .int .i64 (r : Int)]
  sh : ∀ q, q < nP K → wr.cell? ⟨gs, so + q * 2, none⟩ = some (.int .i64 ((X * uA K q : Nat) : Int))
  bs : base ≤ wr.heap.size
  gs : gs < base
/-- within a unit -/
structure OS (w0 wr : World) (g1 gs so base a b : Nat) (K : Int) (r X : Nat) (v : Value) (D : List Pl3) (f : Bool) (n p i : Nat) : Prop where
  row : wr.ownsRow base 58 3 v D.length (cellsPl D)
  ev : expD D ++ pend f = evAt X K r n p i
  fl : f = true → p = 0 ∧ i = 0
  bel : Below w0.heap.size w0 wr
  bx : Box wr g1 23 #[.int .i64 (a : Int), .int .i64 (b : Int), .int .i64 K, .int .i64 (r : Int)]
  sh : ∀ q, q < nP K → wr.cell? ⟨gs, so + q * 2, none⟩ = some (.int .i64 ((X * uA K q : Nat) : Int))
  bs : base ≤ wr.heap.size
  gs : gs < base
theorem places_expD (D : List Pl3) : places (expD D) = D.length := by
  induction D with
  | nil => rfl
  | cons x r ih =>
    have e : expD (x :: r) = exp1 x ++ expD r := rfl
    rw [e, places_app, ih, List.length_cons, exp1, places_app]
    have h1 : places (if x.2.2 = true then [none] else []) = 0 := by split <;> rfl
    have h2 : places [some (x.1, x.2.1)] = 1 := rfl
    rw [h1, h2]
    omega
theorem places_pend (f : Bool) : places (pend f) = 0 := by unfold pend; split <;> rfl
theorem sumU_le (K : Int) : ∀ p, sumU K p ≤ 4 * p
  | 0 => Nat.le_refl _
  | p + 1 => by
    have h1 := sumU_le K p
    have h2 : uA K p * uD K p ≤ 2 * 2 := Nat.mul_le_mul (uA_le K p).2 (uD_le K p).2
    show sumU K p + uA K p * uD K p ≤ _
    omega
theorem places_evAt (X : Nat) (K : Int) (R n p i : Nat) : places (evAt X K R n p i) = n * sumU K (nP K) + sumU K p + i := by
  have h0 : places (rsOf R n) = 0 := by unfold rsOf; split <;> rfl
  have h1 : ((List.range i).map fun j => (some (plAt X K n p j) : Ev)) = ((List.range i).map fun j => plAt X K n p j).map some := by simp
  unfold evAt
  rw [places_app, places_app, places_app, places_evTo, h0, places_plTo, h1, places_map, List.length_map, List.length_range, Nat.add_zero]
theorem own_on' {w w' : World} {base e size n : Nat} {v : Value} {xs : List Value} (h : w.ownsRow base e size v n xs) (k : Below w.heap.size w w') : w'.ownsRow base e size v n xs :=
  ownsRow_block h fun g _ _ hb => k.block g (Array.getElem?_eq_some_iff.1 hb).1
theorem OB.os {w0 wr : World} {g1 gs so base a b : Nat} {K : Int} {r X : Nat} {v : Value} {D : List Pl3} {n : Nat} (h : OB w0 wr g1 gs so base a b K r X v D n) : OS w0 wr g1 gs so base a b K r X v D (decide (isRs r n)) n 0 0 :=
  ⟨h.row, by
    rw [h.ev, evAt_zero]
    unfold pend rsOf
    by_cases hi : isRs r n
    · rw [decide_eq_true hi, if_pos hi, if_pos rfl]
    · rw [decide_eq_false hi, if_neg hi]; simp, fun _ => ⟨rfl, rfl⟩, h.bel, h.bx, h.sh, h.bs, h.gs⟩
theorem OS.ob {w0 wr : World} {g1 gs so base a b : Nat} {K : Int} {r X : Nat} {v : Value} {D : List Pl3} {f : Bool} {n : Nat} (h : OS w0 wr g1 gs so base a b K r X v D f n (nP K) 0) : OB w0 wr g1 gs so base a b K r X v D (n + 1) := by
  have hf : f = false := by
    cases f with
    | false => rfl
    | true => have := (h.fl rfl).1; have := (nP_le K).1; omega
  subst hf
  have he := h.ev
  rw [evAt_unit] at he
  exact ⟨h.row, by rw [← he]; simp [pend], h.bel, h.bx, h.sh, h.bs, h.gs⟩
theorem OS.next {w0 wr : World} {g1 gs so base a b : Nat} {K : Int} {r X : Nat} {v : Value} {D : List Pl3} {f : Bool} {n p i : Nat} (h : OS w0 wr g1 gs so base a b K r X v D f n p i) (hi : i = uA K p * uD K p) : OS w0 wr g1 gs so base a b K r X v D f n (p + 1) 0 := by
  have hf : f = false := by
    cases f with
    | false => rfl
    | true =>
      have h1 := (h.fl rfl).2
      have h2 := Nat.mul_pos (show 0 < uA K p from (uA_le K p).1) (show 0 < uD K p from (uD_le K p).1)
      omega
  subst hf
  exact ⟨h.row, by rw [h.ev, hi, evAt_part], fun e => (by cases e), h.bel, h.bx, h.sh, h.bs, h.gs⟩
theorem OS.put {w0 wr w6 w9 : World} {g1 gs so base a b : Nat} {K : Int} {r X : Nat} {v v9 : Value} {D : List Pl3} {f : Bool} {n p i idx : Nat} (h : OS w0 wr g1 gs so base a b K r X v D f n p i) (hg : w0.heap.size ≤ base) (k6 : Below wr.heap.size wr w6) (hix : (plAt X K n p i) = (p, idx))
    (hown : w9.ownsRow base 58 3 v9 (D.length + 1) (cellsPl D ++ cellsPl1 (p, idx, f))) (k9 : Kept (fun i => v.ownBlock = some i) w6 w9) : OS w0 w9 g1 gs so base a b K r X v9 (D ++ [(p, idx, f)]) false n p (i + 1) := by
  have ge : ∀ i, v.ownBlock = some i → base ≤ i := fun i e => (own_block3 h.row e).1
  have b6 := h.bx.on k6
  refine ⟨?_, ?_, fun e => (by cases e), (on_trans h.bel k6).trans (k9.below (on_trans h.bel k6).size (fun i hi e => by have := ge i e; omega)), k9.box b6 (fun e => ?_), fun q hq => ?_, Nat.le_trans h.bs (Nat.le_trans k6.size k9.size), h.gs⟩
  · rw [List.length_append, cellsPl_app]
    have e1 : cellsPl [(p, idx, f)] = cellsPl1 (p, idx, f) := by simp [cellsPl]
    rw [e1]
    exact hown
  · rw [expD_snoc, h.ev, evAt_more, hix]
    simp [pend]
  · obtain ⟨_, cs, h2⟩ := own_block3 h.row e
    have h3 := (Array.getElem?_eq_some_iff.1 h2).1
    have h4 : w6.heap[g1]? = some (.cells cs 58 (0, 0)) := (k6.block g1 h3).trans h2
    exact b6.apart (show Box w6 g1 58 cs from h4) (by decide) rfl
  · have hlt : gs < wr.heap.size := Nat.lt_of_lt_of_le h.gs h.bs
    exact ((k9.cell (p := ⟨gs, so + q * 2, none⟩) (Nat.lt_of_lt_of_le hlt k6.size) (fun e => by have := ge gs e; have := h.gs; omega)).trans (k6.cell (p := ⟨gs, so + q * 2, none⟩) hlt)).trans (h.sh q hq)
def OrderY (w : World) (W H K : Int) (r : Nat) (e : Ending) (w' : World) : Prop := ∃ A n c D, e = .returned (.slice A n c) ∧ Od w' A n D ∧ expD D = evTo (uW W K) K r (uW W K * uH H K) ∧ Below w.heap.size w w' ∧ ∀ b off, A = some ⟨b, off, none⟩ → w.heap.size ≤ b
set_option maxRecDepth 10000 in
set_option maxHeartbeats 12800000 in
theorem order14_any (w : World) (W H K : Int) (r : Nat) (hr : RightS W H K (r : Int)) : Calls Tryd.prog 17 #[scanV W H K (r : Int)] w (OrderY w W H K r) := by
  obtain ⟨⟨h1, h2⟩, ⟨h3, h4⟩, ⟨h5, h6⟩, _, hR⟩ := (show RightS W H K (r : Int) from hr)
  obtain ⟨a, rfl⟩ : ∃ a : Nat, W = a := ⟨W.toNat, by omega⟩
  obtain ⟨b, rfl⟩ : ∃ b : Nat, H = b := ⟨H.toNat, by omega⟩
  obtain ⟨g1, hg1⟩ : ∃ g1, w.heap.size = g1 := ⟨_, rfl⟩
  obtain ⟨w1, hw1⟩ : ∃ w1, w.alloc (.cells #[.int .i64 (a : Int), .int .i64 (b : Int), .int .i64 K, .int .i64 (r : Int)] 23) = w1 := ⟨_, rfl⟩
  have b1 : Box w1 g1 23 #[.int .i64 (a : Int), .int .i64 (b : Int), .int .i64 K, .int .i64 (r : Int)] := by rw [← hw1, ← hg1]; exact Box.made _ _ _
  have k1 : Below w.heap.size w w1 := by rw [← hw1]; exact on_alloc _ _
  have q0 : w1.cell? ⟨g1, 0, none⟩ = some (.int .i64 (a : Int)) := b1.cell 0
  have q1 : w1.cell? ⟨g1, 1, none⟩ = some (.int .i64 (b : Int)) := b1.cell 1
  have q2 : w1.cell? ⟨g1, 2, none⟩ = some (.int .i64 K) := b1.cell 2
  have q3 : w1.cell? ⟨g1, 3, none⟩ = some (.int .i64 (r : Int)) := b1.cell 3
  have HB := Lib.hid (And.intro b1 (And.intro k1 (And.intro hr hg1)))
  have hsh := refShape_any w1 a b K (r : Int)
  unfold scanV ShapeY at hsh
  have HSh := Lib.hid hsh
  have hA := fun w' => across_any w' K 0
  have hD := fun w' => down_any w' K 0
  have HA0 := Lib.hid (And.intro hA hD)
  clear b1 k1 hsh hA hD hr
  unfold scanV
  go_enter Tryd.func17, Tryd.ntmps17
  go_wp2_with fail
  clear hw1
  refine Calls.mono HSh.out ?_
  rintro e w2 ⟨hs1, _, k2⟩
  obtain ⟨As, cs, rfl, hcs, hps⟩ := hs1 HB.out.2.2.1
  obtain ⟨np, hnp⟩ : ∃ np, np = nP K := ⟨_, rfl⟩
  have hnp3 := nP_le K
  rw [← hnp] at hnp3 hcs hps ⊢
  have HNP := Lib.hid hnp
  have H2 := Lib.hid (And.intro (HB.out.1.on k2) (And.intro (on_trans HB.out.2.1 k2) hps))
  clear hps k2 q0 q1 q2 q3 hs1 hnp HSh
  have q0 : w2.cell? ⟨g1, 0, none⟩ = some (.int .i64 (a : Int)) := H2.out.1.cell 0
  have q1 : w2.cell? ⟨g1, 1, none⟩ = some (.int .i64 (b : Int)) := H2.out.1.cell 1
  have q2 : w2.cell? ⟨g1, 2, none⟩ = some (.int .i64 K) := H2.out.1.cell 2
  have hnz : ((np : Int) == 0) = false := by simp; omega
  obtain ⟨A, hA⟩ : ∃ A, A = uA K 0 := ⟨_, rfl⟩
  obtain ⟨D, hD⟩ : ∃ D, D = uD K 0 := ⟨_, rfl⟩
  have hA1 := uA_le K 0
  have hD1 := uD_le K 0
  have eW : uW (a : Int) K = (a + 8 * A - 1) / (8 * A) := by rw [hA]; rfl
  have eH : uH (b : Int) K = (b + 8 * D - 1) / (8 * D) := by rw [hD]; rfl
  rw [← hA] at hA1
  rw [← hD] at hD1
  have hX1 := uW_le HB.out.2.2.1
  have hY1 := uH_le HB.out.2.2.1
  obtain ⟨X, hX⟩ : ∃ X, X = uW (a : Int) K := ⟨_, rfl⟩
  obtain ⟨Y, hY⟩ : ∃ Y, Y = uH (b : Int) K := ⟨_, rfl⟩
  rw [← hX] at hX1 eW
  rw [← hY] at hY1 eH
  have HA := Lib.hid (fun w' : World => (show Calls Tryd.prog 45 #[.int .i64 K, .int .i64 0] w' fun e w'' => e = .returned (.int .i64 (A : Int)) ∧ w'' = w' by rw [hA]; exact (across_any w' K 0).mono fun _ _ ⟨a, b⟩ => ⟨a, b.symm⟩))
  have HDn := Lib.hid (fun w' : World => (show Calls Tryd.prog 46 #[.int .i64 K, .int .i64 0] w' fun e w'' => e = .returned (.int .i64 (D : Int)) ∧ w'' = w' by rw [hD]; exact (down_any w' K 0).mono fun _ _ ⟨a, b⟩ => ⟨a, b.symm⟩))
  have HU := Lib.hid (And.intro (fun w' : World => (show Calls Tryd.prog 44 #[.int .i64 (a : Int), .int .i64 (A : Int)] w' fun e w'' => e = .returned (.int .i64 (X : Int)) ∧ w'' = w' by rw [eW]; exact (runits_any w' a A (by omega) (by omega) (by omega)).mono fun _ _ ⟨a, b⟩ => ⟨a, b.symm⟩))
    (fun w' : World => (show Calls Tryd.prog 44 #[.int .i64 (b : Int), .int .i64 (D : Int)] w' fun e w'' => e = .returned (.int .i64 (Y : Int)) ∧ w'' = w' by rw [eH]; exact (runits_any w' b D (by omega) (by omega) (by omega)).mono fun _ _ ⟨a, b⟩ => ⟨a, b.symm⟩)))
  have HXY := Lib.hid (And.intro hX (And.intro hY (And.intro hA hD)))
  clear eW eH hX hY hA hD
  go_wp2_with fail
  go_quiet (first
    | (go_at_call 45; with_reducible exact Calls.quiet_of_same (HA.out _))
    | (go_at_call 44; with_reducible exact Calls.quiet_of_same (HU.out.1 _)))
  obtain ⟨w3, hw3⟩ : ∃ w3, w3 = w2.drewN nq := ⟨_, rfl⟩
  have k3 : Below w2.heap.size w2 w3 := by rw [hw3]; exact below_drewN_refl _ _
  rw [← hw3]
  clear hw3 q0 q1 q2
  have q1' : w3.cell? ⟨g1, 1, none⟩ = some (.int .i64 (b : Int)) := (H2.out.1.on k3).cell 1
  have q2' : w3.cell? ⟨g1, 2, none⟩ = some (.int .i64 K) := (H2.out.1.on k3).cell 2
  have H3 := Lib.hid (And.intro (H2.out.1.on k3) (And.intro (on_trans H2.out.2.1 k3) k3))
  clear k3
  go_wp2_with fail
  go_quiet (first
    | (go_at_call 46; with_reducible exact Calls.quiet_of_same (HDn.out _))
    | (go_at_call 44; with_reducible exact Calls.quiet_of_same (HU.out.2 _)))
  obtain ⟨w4, hw4⟩ : ∃ w4, w4 = w3.drewN nq := ⟨_, rfl⟩
  have k4 : Below w3.heap.size w3 w4 := by rw [hw4]; exact below_drewN_refl _ _
  rw [← hw4]
  clear hw4 q1' q2'
  have H4 := Lib.hid (And.intro (H3.out.1.on k4) (And.intro (on_trans H3.out.2.1 k4) (on_trans H3.out.2.2 k4)))
  clear k4
  have hps4 := H2.out.2.2.on H4.out.2.2
  obtain ⟨gs, so, e5, _, hgs, hsh⟩ := hps4.at_ (by omega)
  cases e5
  have HSh := Lib.hid (And.intro hgs hsh)
  clear hps4 hgs hsh
  have hsh4 : ∀ q, q < nP K → w4.cell? ⟨gs, so + q * 2, none⟩ = some (.int .i64 ((X * uA K q : Nat) : Int)) := fun q hq => by
    have := (HSh.out.2 q _ (shpL_at (a : Int) (b : Int) K hq)).1
    rw [← HXY.out.1] at this
    exact this
  obtain ⟨base, hbase⟩ : ∃ base, base = w4.heap.size := ⟨_, rfl⟩
  have H5 := Lib.hid (show OB w w4 g1 gs so base a b K r X (.slice none 0 0) [] 0 from ⟨World.ownsRow_nil _ _ _ _, by simp [expD, evTo], H4.out.2.1, H4.out.1, hsh4, by rw [hbase]; exact Nat.le_refl _, by rw [hbase]; exact HSh.out.1⟩)
  have hRp := hR
  have hbase' := hbase
  clear hsh4 hbase
  have hbw : w.heap.size ≤ base := by rw [hbase']; exact H4.out.2.1.size
  have HBW := Lib.hid hbw
  clear hbw hbase'
  go_wp2_with fail
  go_loopw [6, 7, 8] (fun v u i wr => ∃ (uy : Nat) (DL : List Pl3), uy ≤ Y ∧ i = .int .i64 (uy : Int) ∧ u = .int .i64 ((uy * X : Nat) : Int) ∧ OB w wr g1 gs so base a b K r X v DL (uy * X)) (fun _ _ i _ => Y - (intOf i).toNat)
  case atStart => exact ⟨0, [], Nat.zero_le _, rfl, by rw [Nat.zero_mul]; rfl, by rw [Nat.zero_mul]; exact H5.out⟩
  case round =>
    obtain ⟨wo, rfl⟩ : ∃ wo, wo = wr := ⟨_, rfl⟩
    obtain ⟨uy, DL, huy, rfl, rfl, hob⟩ := hrel
    obtain ⟨Ao, co, hv0⟩ := own_slice hob.row
    subst hv0
    have HO := Lib.hid hob
    clear hob
    by_cases hly : uy < Y
    · have hlyi : (uy : Int) < (Y : Int) := by omega
      go_wp2_with fail
      go_loopw [6, 7, 9] (fun v u i wr => ∃ (ux n : Nat) (DL : List Pl3), ux ≤ X ∧ i = .int .i64 (ux : Int) ∧ n = uy * X + ux ∧ u = .int .i64 (n : Int) ∧ OB w wr g1 gs so base a b K r X v DL n) (fun _ _ i _ => X - (intOf i).toNat)
      case atStart => exact ⟨0, uy * X, DL, Nat.zero_le _, rfl, rfl, rfl, HO.out⟩
      case round =>
        obtain ⟨wm, rfl⟩ : ∃ wm, wm = wr := ⟨_, rfl⟩
        obtain ⟨ux, n, DM, hux, rfl, hn, rfl, hob⟩ := hrel
        obtain ⟨Am, cm, hv0⟩ := own_slice hob.row
        subst hv0
        have HM := Lib.hid hob
        have HN := Lib.hid hn
        have hn256 : n ≤ 16 * 16 + 16 := by
          have := Nat.mul_le_mul (Nat.le_trans huy hY1.2) hX1.2
          omega
        clear hob hn
        by_cases hlx : ux < X
        · have hlxi : (ux : Int) < (X : Int) := by omega
          have p3 : wm.cell? ⟨g1, 3, none⟩ = some (.int .i64 (r : Int)) := HM.out.bx.cell 3
          go_upto_region 14 with fail
          go_cut [10] (fun v wx => v = .bool (decide (isRs r n)) ∧ wx = wm)
          case first =>
            by_cases hr0 : 0 < r
            · have hr0i : (0 : Int) < (r : Int) := by omega
              have hrz : (r : Int) ≠ 0 := by omega
              by_cases hk0 : 0 < n
              · have hk0i : (0 : Int) < (n : Int) := by omega
                by_cases hq0 : n % r = 0
                · have HDd := Lib.hid (decide_eq_true (show isRs r n from ⟨hk0, hr0, hq0⟩))
                  have hq0i : (n : Int) % (r : Int) = 0 := by omega
                  clear hq0
                  go_wp2_with fail
                  go_meet
                  exact ⟨by rw [HDd.out], rfl⟩
                · have HDd := Lib.hid (decide_eq_false (show ¬ isRs r n from fun h => hq0 h.2.2))
                  have hq0i : ¬ (n : Int) % (r : Int) = 0 := by omega
                  clear hq0
                  go_wp2_with fail
                  go_meet
                  exact ⟨by rw [HDd.out]; simpa using hq0i, rfl⟩
              · have HDd := Lib.hid (decide_eq_false (show ¬ isRs r n from fun h => hk0 h.1))
                have hk0i : ¬ (0 : Int) < (n : Int) := by omega
                go_wp2_with fail
                go_meet
                exact ⟨by rw [HDd.out], rfl⟩
            · have HDd := Lib.hid (decide_eq_false (show ¬ isRs r n from fun h => hr0 h.2.1))
              have hr0i : ¬ (0 : Int) < (r : Int) := by omega
              go_wp2_with fail
              go_meet
              exact ⟨by rw [HDd.out], rfl⟩
          case rest =>
            obtain ⟨rfl, rfl⟩ := hcut
            clear p3
            go_wp2_with fail
            go_loopw [6, 10, 11] (fun v f i wr => ∃ (p : Nat) (DL : List Pl3) (fb : Bool), p ≤ np ∧ i = .int .i64 (p : Int) ∧ f = .bool fb ∧ OS w wr g1 gs so base a b K r X v DL fb n p 0) (fun _ _ i _ => np - (intOf i).toNat)
            case atStart => exact ⟨0, _, _, Nat.zero_le _, rfl, rfl, HM.out.os⟩
            case round =>
              obtain ⟨wp, rfl⟩ : ∃ wp, wp = wr := ⟨_, rfl⟩
              obtain ⟨p, DP, fb, hp, rfl, rfl, hos⟩ := hrel
              obtain ⟨Ap, cp, hv0⟩ := own_slice hos.row
              subst hv0
              have HP := Lib.hid hos
              clear hos
              by_cases hlp : p < np
              · have hlpi : (p : Int) < (np : Int) := by omega
                have p2 : wp.cell? ⟨g1, 2, none⟩ = some (.int .i64 K) := HP.out.bx.cell 2
                obtain ⟨ap, hap⟩ : ∃ ap, ap = uA K p := ⟨_, rfl⟩
                obtain ⟨dp, hdp⟩ : ∃ dp, dp = uD K p := ⟨_, rfl⟩
                have ha1 := uA_le K p
                have hd1 := uD_le K p
                rw [← hap] at ha1
                rw [← hdp] at hd1
                have HAp := Lib.hid (fun w' : World => (show Calls Tryd.prog 45 #[.int .i64 K, .int .i64 (p : Int)] w' fun e w'' => e = .returned (.int .i64 (ap : Int)) ∧ w' = w'' by rw [hap]; exact across_any w' K p))
                have HDp := Lib.hid (fun w' : World => (show Calls Tryd.prog 46 #[.int .i64 K, .int .i64 (p : Int)] w' fun e w'' => e = .returned (.int .i64 (dp : Int)) ∧ w' = w'' by rw [hdp]; exact down_any w' K p))
                have HAD := Lib.hid (And.intro hap hdp)
                clear hap hdp
                go_wp2_with (first
                  | (go_at_call 45; with_reducible refine (HAp.out _).mono ?_; rintro e w6 ⟨rfl, rfl⟩)
                  | (go_at_call 46; with_reducible refine (HDp.out _).mono ?_; rintro e w6 ⟨rfl, rfl⟩)
                  | fail)
                go_loopw [6, 10, 14] (fun v f i wr => ∃ (y i0 : Nat) (DL : List Pl3) (fb : Bool), y ≤ dp ∧ i = .int .i64 (y : Int) ∧ f = .bool fb ∧ i0 = y * ap ∧ OS w wr g1 gs so base a b K r X v DL fb n p i0) (fun _ _ i _ => dp - (intOf i).toNat)
                case atStart => exact ⟨0, 0, _, _, Nat.zero_le _, rfl, rfl, by rw [Nat.zero_mul], HP.out⟩
                case round =>
                  obtain ⟨wy, rfl⟩ : ∃ wy, wy = wr := ⟨_, rfl⟩
                  obtain ⟨y, i0, DY, fy, hy, rfl, rfl, hi0, hos⟩ := hrel
                  obtain ⟨Ay, cy, hv0⟩ := own_slice hos.row
                  subst hv0
                  have HY := Lib.hid hos
                  have HI0 := Lib.hid hi0
                  clear hos hi0 p2
                  by_cases hlyy : y < dp
                  · have hlyi' : (y : Int) < (dp : Int) := by omega
                    go_wp2_with fail
                    go_loopw [6, 10, 15] (fun v f i wr => ∃ (x i1 : Nat) (DL : List Pl3) (fb : Bool), x ≤ ap ∧ i = .int .i64 (x : Int) ∧ f = .bool fb ∧ i1 = y * ap + x ∧ OS w wr g1 gs so base a b K r X v DL fb n p i1) (fun _ _ i _ => ap - (intOf i).toNat)
                    case atStart => exact ⟨0, i0, _, _, Nat.zero_le _, rfl, rfl, HI0.out, HY.out⟩
                    case round =>
                      obtain ⟨wx, rfl⟩ : ∃ wx, wx = wr := ⟨_, rfl⟩
                      obtain ⟨x, i1, DX, fx, hx, rfl, rfl, hi1, hos⟩ := hrel
                      obtain ⟨Ax, cx, hv0⟩ := own_slice hos.row
                      subst hv0
                      have HX := Lib.hid hos
                      have HI1 := Lib.hid hi1
                      clear hos hi1
                      by_cases hlxx : x < ap
                      · have hlxi' : (x : Int) < (ap : Int) := by omega
                        have hsc := HX.out.sh p (by rw [← HNP.out]; exact hlp)
                        obtain ⟨xa, hxa⟩ : ∃ xa, xa = X * uA K p := ⟨_, rfl⟩
                        rw [← hxa] at hsc
                        have hxa32 : xa ≤ 16 * 2 := by rw [hxa, ← HAD.out.1]; exact Nat.mul_le_mul hX1.2 ha1.2
                        obtain ⟨y1, hy1⟩ : ∃ y1, y1 = uy * dp := ⟨_, rfl⟩
                        have hb1 : y1 ≤ 16 * 2 := by rw [hy1]; exact Nat.mul_le_mul (by omega) hd1.2
                        have hv1 : (uy : Int) * (dp : Int) = (y1 : Int) := by rw [hy1]; push_cast; rfl
                        obtain ⟨y2, hy2⟩ : ∃ y2, y2 = y1 + y := ⟨_, rfl⟩
                        have hb2 : y2 ≤ 34 := by omega
                        have hv2 : (y1 : Int) + (y : Int) = (y2 : Int) := by rw [hy2]; push_cast; rfl
                        obtain ⟨y3, hy3⟩ : ∃ y3, y3 = y2 * xa := ⟨_, rfl⟩
                        have hb3 : y3 ≤ 34 * 32 := by rw [hy3]; exact Nat.mul_le_mul hb2 hxa32
                        have hv3 : (y2 : Int) * (xa : Int) = (y3 : Int) := by rw [hy3]; push_cast; rfl
                        obtain ⟨y4, hy4⟩ : ∃ y4, y4 = ux * ap := ⟨_, rfl⟩
                        have hb4 : y4 ≤ 16 * 2 := by rw [hy4]; exact Nat.mul_le_mul (by omega) ha1.2
                        have hv4 : (ux : Int) * (ap : Int) = (y4 : Int) := by rw [hy4]; push_cast; rfl
                        obtain ⟨y5, hy5⟩ : ∃ y5, y5 = y3 + y4 := ⟨_, rfl⟩
                        have hb5 : y5 ≤ 2000 := by omega
                        have hv5 : (y3 : Int) + (y4 : Int) = (y5 : Int) := by rw [hy5]; push_cast; rfl
                        obtain ⟨idx, hidx⟩ : ∃ idx, idx = y5 + x := ⟨_, rfl⟩
                        have hv6 : (y5 : Int) + (x : Int) = (idx : Int) := by rw [hidx]; push_cast; rfl
                        have hplat : plAt X K n p i1 = (p, idx) := by
                          unfold plAt
                          have e1 : n / X = uy := by rw [HN.out, Nat.mul_comm, Nat.mul_add_div (by omega), Nat.div_eq_of_lt hlx]; rfl
                          have e2 : n % X = ux := by rw [HN.out, Nat.mul_comm, Nat.mul_add_mod, Nat.mod_eq_of_lt hlx]
                          have e3 : i1 / ap = y := by rw [HI1.out, Nat.mul_comm, Nat.mul_add_div (by omega), Nat.div_eq_of_lt hlxx]; rfl
                          have e4 : i1 % ap = x := by rw [HI1.out, Nat.mul_comm, Nat.mul_add_mod, Nat.mod_eq_of_lt hlxx]
                          rw [← HAD.out.1, ← HAD.out.2, e1, e2, e3, e4, hidx, hy5, hy4, hy3, hy2, hy1, hxa, ← HAD.out.1]
                          congr 1
                          omega
                        have HPL := Lib.hid hplat
                        obtain ⟨w6, hw6⟩ : ∃ w6, wx.alloc (.cells #[.int .i64 (p : Int), .int .i64 (idx : Int), .bool fx] 58) = w6 := ⟨_, rfl⟩
                        obtain ⟨g6, hg6⟩ : ∃ g6, wx.heap.size = g6 := ⟨_, rfl⟩
                        have b6 : Box w6 g6 58 #[.int .i64 (p : Int), .int .i64 (idx : Int), .bool fx] := by rw [← hw6, ← hg6]; exact Box.made _ _ _
                        have k6 : Below wx.heap.size wx w6 := by rw [← hw6]; exact on_alloc _ _
                        have H6 := Lib.hid (And.intro b6 (And.intro k6 (And.intro (own_on' HX.out.row k6) (Nat.le_trans HX.out.bs k6.size))))
                        have hb58 : ∀ w, (Instr.build 58 #[(0, .int .i64 (p : Int)), (1, .int .i64 (idx : Int)), (2, .bool fx)]).run Tryd.prog w = .ok (.agg #[.int .i64 (p : Int), .int .i64 (idx : Int), .bool fx]) w := fun w => run_build w 58 _ _ (by show Program.built _ _ _ = _; kernel_rfl)
                        clear hplat hxa hy1 hy2 hy3 hy4 hy5 hidx b6 k6
                        have hDX : DX.length ≤ 4000 := by
                          have h1 := congrArg places HX.out.ev
                          rw [places_app, places_expD, places_pend, places_evAt] at h1
                          have h2 := sumU_le K (nP K)
                          have h3 := sumU_le K p
                          have h4 := (nP_le K).2
                          have h5 : n * sumU K (nP K) ≤ 272 * 12 := Nat.mul_le_mul hn256 (by omega)
                          have h6 : y * ap ≤ 2 * 2 := Nat.mul_le_mul (by omega) ha1.2
                          have h7 := HI1.out
                          omega
                        go_wp2_with (first
                          | ((refine wpList_append_gk el_place rfl (.tmp 81) (.tmp 102) rfl base (.slice Ax DX.length cx) DX.length (cellsPl DX) rfl H6.out.2.2.1 ⟨g6, 0, none⟩ 1 1 [.int .i64 (p : Int), .int .i64 (idx : Int), .bool fx] rfl rfl (box_read H6.out.1) ?h1 (by omega) H6.out.2.2.2 ?_)
                             case h1 => intro u hu; simp at hu; rcases hu with rfl | rfl | rfl <;> rfl
                             intro v9 w9 hown9 k9
                             obtain ⟨A9, c9, hv9⟩ := own_slice hown9
                             subst hv9
                             have H9 := Lib.hid (And.intro hown9 k9)
                             clear hown9 k9)
                          | fail)
                        have hos9 := HX.out.put HBW.out H6.out.2.1 HPL.out (show w9.ownsRow base 58 3 (.slice A9 (DX.length + 1) c9) (DX.length + 1) (cellsPl DX ++ cellsPl1 (p, idx, fx)) from H9.out.1) H9.out.2
                        refine ⟨⟨x + 1, i1 + 1, _, false, hlxx, by push_cast; rfl, rfl, by have := HI1.out; omega, hos9⟩, ?_⟩
                        show ap - ((x : Int) + 1).toNat < ap - (x : Int).toNat
                        omega
                      · obtain rfl : x = ap := by omega
                        go_wp2_with fail
                        refine ⟨⟨y + 1, i1, DX, fx, hlyy, by push_cast; rfl, rfl, by have := HI1.out; rw [Nat.succ_mul]; omega, HX.out⟩, ?_⟩
                        show dp - ((y : Int) + 1).toNat < dp - (y : Int).toNat
                        omega
                  · have hyd : y = dp := by omega
                    have hii : i0 = uA K p * uD K p := by rw [← HAD.out.1, ← HAD.out.2, HI0.out, hyd, Nat.mul_comm]
                    have HII := Lib.hid hii
                    have hlyi' : ¬ (y : Int) < (dp : Int) := by omega
                    clear hyd hii
                    go_wp2_with fail
                    refine ⟨⟨p + 1, DY, fy, hlp, by push_cast; rfl, rfl, HY.out.next HII.out⟩, ?_⟩
                    show np - ((p : Int) + 1).toNat < np - (p : Int).toNat
                    omega
              · obtain rfl : p = np := by omega
                go_wp2_with fail
                have hob := HP.out
                rw [HNP.out] at hob
                refine ⟨⟨ux + 1, n + 1, DP, hlx, by push_cast; rfl, by have := HN.out; omega, by push_cast; rfl, hob.ob⟩, ?_⟩
                show X - ((ux : Int) + 1).toNat < X - (ux : Int).toNat
                omega
        · have hxx : ux = X := by omega
          have hnu : n = (uy + 1) * X := by have := HN.out; rw [Nat.succ_mul]; omega
          have hlxi : ¬ (ux : Int) < (X : Int) := by omega
          have HNU := Lib.hid hnu
          clear hxx hnu
          go_wp2_with fail
          refine ⟨⟨uy + 1, DM, hly, by push_cast; rfl, by rw [HNU.out], by rw [← HNU.out]; exact HM.out⟩, ?_⟩
          show Y - ((uy : Int) + 1).toNat < Y - (uy : Int).toNat
          omega
    · obtain rfl : uy = Y := by omega
      go_wp2_with fail
      go_ret
      obtain ⟨A9, c9, e9, h9, h10⟩ := od_of_own HO.out.row
      cases e9
      refine ⟨_, _, _, DL, rfl, h9, ?_, HO.out.bel, fun b off e => Nat.le_trans HBW.out (h10 b off e)⟩
      rw [HO.out.ev, HXY.out.1, HXY.out.2.1, Nat.mul_comm]
end Go.Proofs.YtdnjnbfmmgkpjaaDoor
