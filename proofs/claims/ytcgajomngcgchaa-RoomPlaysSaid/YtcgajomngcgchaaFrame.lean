/-
  From an argument's reading to what the walks ask.
-/
import Derived.Test.YtcgajomngcgchaaFree
import Derived.ProofKit
import Derived.OpenShut
import Derived.ShutString
import Derived.ChangeOld
import Derived.ChangeArms
import Derived.Deep.SlicePairs
namespace Go.Proofs.Ytcgajomngcgchaa
open Go.ChangeShapes Go.WideShapes Go.ChangeAt Go.RowKit

theorem own_knob : ownKnob Try.prog.godebug = none := by kernel_rfl
theorem laid_out : laidOutB Try.prog = true := by kernel_rfl
theorem wf_i64 {n : Int} (h : (Lit.int .i64 n).wf = true) : I64 n := by
  unfold I64
  simpa [Lit.wf, IntKind.min, IntKind.max, IntKind.signed, IntKind.bits] using h

theorem rd_of_cells {K : Nat → Prop} {w : World} {A : Option Addr} {n c : Nat} {l : List X} (hl : l.length = n) (hc : n ≤ c) (hm : c ≤ maxLen) (hn : A = none → c = 0)
    (h : 0 < n → ∃ b off, A = some ⟨b, off, none⟩ ∧ b < w.heap.size ∧ K b ∧ ∀ i, i < n → w.cell? ⟨b, off + i * 2, none⟩ = some (.int .i64 (l.getD i (0, 0)).1) ∧ w.cell? ⟨b, off + (i * 2 + 1), none⟩ = some (.int .i64 (l.getD i (0, 0)).2)) : Xl K w A n c l := by
  refine ⟨by rw [cellsX_len, hl], hc, hm, hn, fun h0 => ?_⟩
  obtain ⟨b, off, e, hb, hk, hx⟩ := h h0
  refine ⟨b, off, e, hb, hk, fun i hi => ?_⟩
  obtain ⟨h1, h2⟩ := hx (i / 2) (by omega)
  obtain ⟨g1, g2⟩ := cellsX_at l (i / 2) (by omega)
  rcases (by omega : i % 2 = 0 ∨ i % 2 = 1) with hp | hp
  · rw [show i / 2 * 2 = i by omega] at h1 g1
    rw [h1, g1]
  · rw [show i / 2 * 2 + 1 = i by omega] at h2 g2
    rw [h2, g2]
theorem xl_of_trod {H : Type} {enc : TypeId × Value → H} {W : World} {a : Option Addr} {len cap : Nat} {d : DataW H} {p : List MemPlace} {b : Nat} {sp : Bool}
    (h : DataW.Trod enc Try.prog W b (fun _ => true) sp 22 (.slice a len cap) d p) : ∃ l, Xl (fun _ => True) W a len cap l ∧ W64 l := by
  obtain ⟨fuel, hf⟩ := h
  rcases Go.Deep.open_slice_pairs Try.underlying22 Try.underlying42 (by kernel_rfl) rfl rfl (by kernel_rfl) (by kernel_rfl) hf with ⟨hcs, _⟩ | ⟨x, len', cap', m, n, V0, V1, D0, D1, P0, P1, hcs, _, hl, hcap, hm, _, hc⟩
  · simp [Value.cells] at hcs
    obtain ⟨rfl, rfl, rfl⟩ := hcs
    exact ⟨[], Rd.nil_ W, fun e he => by cases he⟩
  · simp [Value.cells] at hcs
    obtain ⟨rfl, rfl, rfl⟩ := hcs
    simp at hm
    subst hm
    have each : ∀ i, i < m → ∃ q : Int × Int, (W.cell? (x.add (i * 2)) = some (.int .i64 q.1) ∧ W.cell? (x.add (i * 2 + 1)) = some (.int .i64 q.2)) ∧ I64 q.1 ∧ I64 q.2 := by
      intro i hi
      obtain ⟨c0, c1, t0, t1⟩ := hc i hi
      obtain ⟨n0, e0, _, w0⟩ := DataW.trod_int Try.underlying3 t0
      obtain ⟨n1, e1, _, w1⟩ := DataW.trod_int Try.underlying3 t1
      simp at e0 e1
      exact ⟨(n0, n1), ⟨by rw [c0, e0], by rw [c1, e1]⟩, wf_i64 w0, wf_i64 w1⟩
    obtain ⟨q, hq⟩ := Go.Deep.choose_lt each
    refine ⟨(List.range len).map q, rd_of_cells (by simp) hl hcap (fun e => by cases e) (fun h0 => ?_), fun e he => ?_⟩
    · obtain ⟨b, off, spot⟩ := x
      have h1 := (hq 0 (by omega)).1.1
      have hs : spot = none := by simpa [Addr.add] using World.cell?_spot h1
      subst hs
      refine ⟨b, off, rfl, ?_, trivial, fun i hi => ?_⟩
      · exact World.block_lt_of_cell? W ⟨b, off, none⟩ (by simpa [plain_add] using h1)
      · have h2 := (hq i (by omega)).1
        rw [plain_add, plain_add] at h2
        have hg : ((List.range len).map q).getD i (0, 0) = q i := by simp [List.getD_eq_getElem?_getD, hi]
        rw [hg]
        exact h2
    · obtain ⟨i, hi, rfl⟩ := List.mem_map.1 he
      have := List.mem_range.1 hi
      exact (hq i (by omega)).2
theorem cellsAt3 : Try.prog.cellsOf 3 = 1 := by kernel_rfl
theorem cellsAt42 : Try.prog.cellsOf 42 = 2 := by kernel_rfl

theorem ext_value {H : Type} {enc : TypeId × Value → H} {W : World} {b b0 : Nat} {r : Reach} {sp : Nat → Bool} {hl : Bool} {v : Value} {d : DataW H} {p : List MemPlace} (hv : Value.okWide Try.prog W r b0 42 v)
    (h : DataW.Trod enc Try.prog W b sp hl 42 v d p) : ∃ x y, v = .agg #[.int .i64 x, .int .i64 y] := by
  obtain ⟨cs, rfl, _⟩ := okWide_struct Try.underlying42 hv
  obtain ⟨fuel, hf⟩ := h
  obtain ⟨xs, n, _, _, hlen, hx, hg⟩ := DataW.trod_struct Try.underlying42 hf
  rw [cellsAt42] at hlen
  have hcs : (Value.agg cs).cells.toList = cs.toList := rfl
  rw [hcs] at hlen hg
  obtain ⟨L, hL⟩ : ∃ L, L = cs.toList := ⟨_, rfl⟩
  rw [← hL] at hlen hg
  match L, hlen, hL with
  | [c0, c1], _, hL =>
    match xs, hx with
    | [y0, y1], _ =>
      have g0 := hg 0 _ rfl
      have g1 := hg 1 _ rfl
      simp [cellsAt3] at g0 g1
      obtain ⟨n0, e0, _⟩ := DataW.trod_int Try.underlying3 g0
      obtain ⟨n1, e1, _⟩ := DataW.trod_int Try.underlying3 g1
      simp at e0 e1
      subst e0 e1
      refine ⟨n0, n1, ?_⟩
      congr 1
      apply Array.toList_inj.1
      exact hL.symm
end Go.Proofs.Ytcgajomngcgchaa
