/-
  What lies in memory between two steps: the map, and the reference's.
-/
import Derived.Test.YtcgajomngcgchaaPlayMath
namespace Go.Proofs.Ytcgajomngcgchaa
open Go.RowKit

structure Pm (w wr : World) (g gb : Nat) (m : Int) (fs : List X) (A : Option Addr) (n c : Nat) (u : List Bool) (Au : Option Addr) (nu cu : Nat) : Prop where
  bel : Below w.heap.size w wr
  g0 : w.heap.size ≤ g
  b0 : w.heap.size ≤ gb
  map : Mm wr g m fs A n c
  box : Box wr gb 30 #[.slice Au nu cu]
  row : Bl (fun _ => True) wr Au nu cu u
section
variable {w wr w' : World} {g gb : Nat} {m : Int} {fs fs' : List X} {A A' Au Au' : Option Addr} {n c n' c' nu cu nu' cu' : Nat} {u u' : List Bool}
theorem Pm.ne (h : Pm w wr g gb m fs A n c u Au nu cu) : gb ≠ g := h.box.apart h.map.box (by decide)
theorem Pm.on (h : Pm w wr g gb m fs A n c u Au nu cu) (k : Below wr.heap.size wr w') : Pm w w' g gb m fs A n c u Au nu cu := ⟨on_trans h.bel k, h.g0, h.b0, h.map.on k, h.box.on k, h.row.on k⟩
theorem Pm.turn (h : Pm w wr g gb m fs A n c u Au nu cu) (k : Kept (fun i => i = g) wr w') (M : Mm w' g m fs' A' n' c') : Pm w w' g gb m fs' A' n' c' u Au nu cu :=
  ⟨h.bel.trans (k.below h.bel.size (fun i hi e => by have := h.g0; omega)), h.g0, h.b0, M, k.box h.box h.ne,
   ((rd_beside h.row h.map.box (by decide) (cellsB_ne (fun i b => by rcases i with _ | _ | i <;> simp))).kept k (fun _ hb => hb.2)).mono (fun _ _ _ => trivial)⟩
theorem Pm.put (h : Pm w wr g gb m fs A n c u Au nu cu) (hx : Bl (fun _ => True) wr Au' nu' cu' u') : Pm w (wr.setCell ⟨gb, 0, none⟩ (.slice Au' nu' cu')) g gb m fs A n c u' Au' nu' cu' := by
  have k : Kept (fun i => i = gb) wr (wr.setCell ⟨gb, 0, none⟩ (.slice Au' nu' cu')) := Kept.setCell (S := fun i => i = gb) (p := ⟨gb, 0, none⟩) (Kept.refl _ _) (fun _ => rfl) _
  refine ⟨Below.setCell (p := ⟨gb, 0, none⟩) h.bel h.b0 _, h.g0, h.b0, h.map.kept k (fun e => h.ne e.symm) (rd_beside h.map.row h.box (by decide) cellsX_ne), ?_, ?_⟩
  · have := h.box.put 0 (.slice Au' nu' cu')
    simpa using this
  · exact ((rd_beside hx h.box (by decide) (cellsB_ne (fun i b => by rcases i with _ | i <;> simp))).kept k (fun _ hb => hb.2)).mono (fun _ _ _ => trivial)
end
/-- how things stand between two steps -/
structure Pl (w wr : World) (g gb : Nat) (m : Int) : Prop where
  st : ∃ fs A n c u Au nu cu, Pm w wr g gb m fs A n c u Au nu cu ∧ Can u fs ∧ (u.length : Int) = m
/-- what the reference tells, in the map's words -/
theorem refLeft_sum (w : World) (K : Nat → Prop) (A : Option Addr) (n c : Nat) (u : List Bool) (fs : List X) (hc : Can u fs) (hx : Bl K w A n c u) (hn : n ≤ 4096) : Calls Try.prog 25 #[.agg #[.slice A n c]] w fun r w' => r = .returned (.int .i64 (sumS fs)) ∧ Below w.heap.size w w' :=
  (refLeft_any w K A n c u hx hn).mono fun r w' ⟨h, b⟩ => ⟨by rw [h, hc.sum], b⟩
theorem refEnd_end (w : World) (K : Nat → Prop) (A : Option Addr) (n c : Nat) (u : List Bool) (fs : List X) (hc : Can u fs) (hx : Bl K w A n c u) (hn : n ≤ 4096) (h0 : 0 < u.length) : Calls Try.prog 27 #[.agg #[.slice A n c]] w fun r w' => r = .returned (.int .i64 (endF u.length fs)) ∧ Below w.heap.size w w' :=
  (refEnd_any w K A n c u hx hn).mono fun r w' ⟨⟨z, h, he⟩, b⟩ => by
    obtain ⟨e1, e2, _⟩ := can_endF hc h0
    have e3 := he.only e1
    refine ⟨?_, b⟩
    rw [h, e3, Int.toNat_of_nonneg e2]
/-- the free extents, while their sizes are overwritten -/
structure Fr (w wr : World) (g n c j : Nat) (fs : List X) : Prop where
  bel : Below w.heap.size w wr
  own : ∃ fj : List X, fj.length = n ∧ (∀ i, j ≤ i → fj.getD i (0, 0) = fs.getD i (0, 0)) ∧ wr.ownsRow w.heap.size 42 2 (.slice (some ⟨g, 0, none⟩) n c) n (cellsX fj)
theorem cellsX_at1 (l : List X) (k : Nat) (z : Int) (hk : k < l.length) : (cellsX l).set (k * 2 + 1) (.int .i64 z) = cellsX (l.set k ((l.getD k (0, 0)).1, z)) := by
  induction l generalizing k with
  | nil => simp at hk
  | cons x r ih =>
    have e : ∀ y : X, cellsX (y :: r) = .int .i64 y.1 :: .int .i64 y.2 :: cellsX r := fun _ => rfl
    cases k with
    | zero => simp [e]
    | succ k =>
      have e2 : ∀ r' : List X, cellsX (x :: r') = .int .i64 x.1 :: .int .i64 x.2 :: cellsX r' := fun _ => rfl
      rw [e, show (k + 1) * 2 + 1 = k * 2 + 1 + 1 + 1 by omega, List.set_cons_succ, List.set_cons_succ, ih k (by simpa using hk), List.set_cons_succ, e2]
      simp
theorem Fr.step {w wr : World} {g n c j : Nat} {fs : List X} (h : Fr w wr g n c j fs) (hj : j < n) (z : Int) : Fr w (wr.setCell ⟨g, j * 2 + 1, none⟩ (.int .i64 z)) g n c (j + 1) fs := by
  obtain ⟨hb, fj, hl, he, ho⟩ := h
  have hg : w.heap.size ≤ g := own_lo ho rfl
  obtain ⟨s1, _⟩ := ho.stored (j * 2 + 1) (.int .i64 z)
  rw [cellsX_at1 fj j z (by omega)] at s1
  refine ⟨Below.setCell (p := ⟨g, j * 2 + 1, none⟩) hb (by simp only; omega) _, _, by simp [hl], fun i hi => ?_, s1⟩
  rw [← he i (by omega)]
  simp [List.getD_eq_getElem?_getD, List.getElem?_set_ne (show j ≠ i by omega)]
theorem Fr.get {w wr : World} {g n c j : Nat} {fs : List X} (h : Fr w wr g n c j fs) (hj : j < n) : wr.cell? ⟨g, j * 2 + 1, none⟩ = some (.int .i64 (fs.getD j (0, 0)).2) ∧ wr.frozen? ⟨g, j * 2 + 1, none⟩ = false := by
  obtain ⟨hb, fj, hl, he, ho⟩ := h
  refine ⟨?_, own_box ho _⟩
  rw [ho.cellAt _ (by omega), (cellsX_at fj j (by omega)).2, he j (Nat.le_refl _)]
end Go.Proofs.Ytcgajomngcgchaa
