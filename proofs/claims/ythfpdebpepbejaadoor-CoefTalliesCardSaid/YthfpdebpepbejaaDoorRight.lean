/-
  The contract of Right.
-/
import Derived.Test.YthfpdebpepbejaaDoorFits
namespace Go.Proofs.YthfpdebpepbejaaDoor
open Go.RowKit

/-- a load that is wanted, at a region's list -/
theorem wpList_load_when {ops : Array Oper} {rest : List Oper} {op : Oper} {a : Act} {w : World} {Q : Exit → Act → World → Prop} (hw : Region.wanted op (yielded ops a.tmps) = true) (ty : TypeId) (x : Operand) (ho : op.op = .load ty x)
    (u : Value) (hx : a.eval x = u) (v : Value) (hl : (Instr.loadAt ty u).run Tryd.prog w = .ok v w)
    (hK : wpList Tryd.prog ops Q rest (a.put op.dst v) w) : wpList Tryd.prog ops Q (op :: rest) a w :=
  wpList_step fun _ hQ => by
    rw [if_pos hw]
    unfold Oper.wp execOp
    simp only [ho, hx, Sem.run_bind, hl, Result.andThen_ok]
    exact hQ _ _ hK

theorem valid_of {B V : List Int} (h : Diff V) (h' : FitOk B V.length) : Valid B V :=
  ⟨h'.nn, h'.sum, h'.pos, nodup_few 256 V h.2 (fun v hv => by have := h.1 v hv; omega), h.1, h.2, h'.fits⟩
theorem Valid.diff {B V : List Int} (h : Valid B V) : Diff V := ⟨h.rng, h.dif⟩
theorem Valid.fit {B V : List Int} (h : Valid B V) : FitOk B V.length := ⟨h.nn, h.sum, h.pos, h.fits⟩
/-- what Right answers -/
def Righted (w : World) (B V : List Int) (e : Ending) (w' : World) : Prop := ∃ b, e = .returned (.bool b) ∧ (b = true ↔ Valid B V) ∧ Below w.heap.size w w'

set_option maxRecDepth 20000 in
set_option maxHeartbeats 1600000 in
theorem right_any (w : World) (B V : List Int) (A : Option Addr) (n c : Nat) (hB : B.length = 16) (h : Ia w A n c V) (hn : n ≤ 300) :
    Calls Tryd.prog 55 #[specV B (.slice A n c)] w (Righted w B V) := by
  obtain ⟨C, hC⟩ : ∃ C, C = specC B (.slice A n c) := ⟨_, rfl⟩
  unfold specV
  rw [← hC]
  obtain ⟨w1, hw1⟩ : ∃ w1, w1 = w.alloc (.cells C 42) := ⟨_, rfl⟩
  have hb : Box w1 w.heap.size 42 C := by rw [hw1]; exact Box.made _ _ _
  have bel : Below w.heap.size w w1 := by rw [hw1]; exact on_alloc _ _
  have c1 : w1.cell? ⟨w.heap.size, 16, none⟩ = some (.slice A n c) := by rw [hb.cell 16, hC]; exact specC_last hB
  have hi := h.on bel
  have hl := h.len
  rw [hw1] at c1
  have HH := Lib.hid (And.intro hb (And.intro bel (And.intro hi (And.intro hw1 (And.intro hC (And.intro hl hB))))))
  clear hb bel hi hw1 hC hl hB h
  go_enter Tryd.func55, Tryd.ntmps55
  go_wp2_with fail
  rw [← HH.out.2.2.2.1]
  rw [← HH.out.2.2.2.1] at c1
  refine (differ_any w1 A n c V HH.out.2.2.1 hn).mono ?_
  rintro e w2 ⟨d, rfl, hd, b2⟩
  have h2 : Box w2 w.heap.size 42 (specC B (.slice A n c)) := by rw [← HH.out.2.2.2.2.1]; exact HH.out.1.on b2
  have c2 : w2.cell? ⟨w.heap.size, 16, none⟩ = some (.slice A n c) := by rw [h2.cell 16]; exact specC_last HH.out.2.2.2.2.2.2
  have H2 := Lib.hid (And.intro h2 (And.intro hd (on_trans HH.out.2.1 b2)))
  clear h2 hd b2 c1
  cases d with
  | false =>
    go_wp2
    go_ret
    refine ⟨false, rfl, ⟨(fun e => by cases e), fun hv => ?_⟩, H2.out.2.2⟩
    exact absurd (H2.out.2.1.2 hv.diff) (by simp)
  | true =>
    go_wp2_with (first
      | (refine wpList_load_when (op := ⟨some 8, _, _, _, _, _⟩) (by rfl) 40 (.tmp 7) rfl (.pointer (some ⟨w.heap.size, 0, none⟩)) rfl (.agg (cellsI B).toArray) (load_bits H2.out.1 HH.out.2.2.2.2.2.2) ?_)
      | fail)
    refine (fit_any w2 B n HH.out.2.2.2.2.2.2 hn).mono ?_
    rintro e w3 ⟨f, rfl, hf, b3⟩
    have H3 := Lib.hid (And.intro hf (on_trans H2.out.2.2 b3))
    clear hf b3
    go_wp2
    go_ret
    have hl := HH.out.2.2.2.2.2.1
    refine ⟨f, rfl, ⟨fun e => valid_of (H2.out.2.1.1 trivial) (by rw [hl]; exact H3.out.1.1 e), fun hv => H3.out.1.2 (by rw [← hl]; exact hv.fit)⟩, H3.out.2⟩
end Go.Proofs.YthfpdebpepbejaaDoor
