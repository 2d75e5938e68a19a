/-
  From an argument's reading to what the walks ask.
-/
import Derived.Test.YtnakfdaneejcfaaRtD
import Derived.ProofKit
import Derived.OpenShut
import Derived.ShutString
import Derived.ChangeOld
import Derived.ChangeArms
import Derived.Deep.SlicePairs
namespace Go.Proofs.Ytnakfdaneejcfaa
open Go.ChangeShapes Go.WideShapes Go.ChangeAt Go.RowKit

theorem own_knob : ownKnob Try.prog.godebug = none := by kernel_rfl
theorem laid_out : laidOutB Try.prog = true := by kernel_rfl
def I64 (n : Int) : Prop := -9223372036854775808 ≤ n ∧ n ≤ 9223372036854775807
theorem wf_i64 {n : Int} (h : (Lit.int .i64 n).wf = true) : I64 n := by
  unfold I64
  simpa [Lit.wf, IntKind.min, IntKind.max, IntKind.signed, IntKind.bits] using h
theorem cellsAt3 : Try.prog.cellsOf 3 = 1 := by kernel_rfl
theorem cellsAt25 : Try.prog.cellsOf 25 = 1 := by kernel_rfl
theorem cellsAt48 : Try.prog.cellsOf 48 = 3 := by kernel_rfl
theorem il_of_trod {H : Type} {enc : TypeId × Value → H} {W : World} {v : Value} {d : DataW H × List MemPlace} {b fuel : Nat} {sp : Bool}
    (h : DataW.trod enc Try.prog W b (fun _ => true) sp fuel 25 [v] = some d) : ∃ A n c xs, v = .slice A n c ∧ Il W A n c xs := by
  rcases Go.Deep.open_slice Try.underlying25 h with ⟨hcs, _⟩ | ⟨x, len', cap', m, n, D, Pl, hcs, _, hl, hcap, hm, _, hc⟩
  · simp at hcs
    subst hcs
    exact ⟨none, 0, 0, [], rfl, Il.none W⟩
  · simp at hcs
    subst hcs
    simp at hm
    subst hm
    have each : ∀ i, i < m → ∃ q : Int, W.cell? (x.add i) = some (.int .i64 q) := by
      intro i hi
      obtain ⟨cs', h1, h2⟩ := hc i hi
      rw [cellsAt3] at h1
      obtain ⟨_, hlen, hcell⟩ := World.cells?_some h1
      match cs', hlen with
      | [v0], _ =>
        obtain ⟨z, e, _, _⟩ := DataW.trod_int Try.underlying3 h2
        simp at e
        subst e
        have c0 := hcell 0 (by omega)
        simp at c0
        exact ⟨z, by simpa [Addr.add] using c0⟩
    obtain ⟨q, hq⟩ := Go.Deep.choose_lt each
    refine ⟨some x, len', m, (List.range len').map q, rfl, ⟨by simp, hl, hcap, (fun e => by cases e), fun h0 => ?_⟩⟩
    obtain ⟨b, off, spot⟩ := x
    have h1 := hq 0 (by omega)
    have hs : spot = none := by simpa [Addr.add] using World.cell?_spot h1
    subst hs
    refine ⟨b, off, rfl, World.block_lt_of_cell? W ⟨b, off, none⟩ (by simpa [plain_add] using h1), fun i hi => ?_⟩
    have h2 := hq i (by omega)
    rw [plain_add] at h2
    rw [h2]
    simp [List.getD_eq_getElem?_getD, hi]
theorem fl_of_trod {H : Type} {enc : TypeId × Value → H} {W : World} {a : Option Addr} {len cap : Nat} {d : DataW H} {p : List MemPlace} {b : Nat} {sp : Bool}
    (h : DataW.Trod enc Try.prog W b (fun _ => true) sp 22 (.slice a len cap) d p) : ∃ l, Fl W a len cap l := by
  obtain ⟨fuel, hf⟩ := h
  rcases Go.Deep.open_slice Try.underlying22 hf with ⟨hcs, _⟩ | ⟨x, len', cap', m, n, D, Pl, hcs, _, hl, hcap, hm, _, hc⟩
  · simp [Value.cells] at hcs
    obtain ⟨rfl, rfl, rfl⟩ := hcs
    exact ⟨[], ⟨rfl, Nat.le_refl _, by simp [maxLen], fun i hi => by omega⟩⟩
  · simp [Value.cells] at hcs
    obtain ⟨rfl, rfl, rfl⟩ := hcs
    simp at hm
    subst hm
    have each : ∀ i, i < m → ∃ q : Fd, (W.cell? (x.add (i * 3)) = some (.int .i64 q.t) ∧ W.cell? ((x.add (i * 3)).add 1) = some (.int .i64 q.k) ∧ W.cell? ((x.add (i * 3)).add 2) = some (.slice q.A q.n q.c)) ∧ Il W q.A q.n q.c q.xs := by
      intro i hi
      obtain ⟨cs', h1, h2⟩ := hc i hi
      rw [cellsAt48] at h1
      obtain ⟨_, hlen, hcell⟩ := World.cells?_some h1
      obtain ⟨xs, k, _, _, _, hxl, hg⟩ := DataW.trod_struct Try.underlying48 h2
      match xs, hxl, cs', hlen with
      | [y0, y1, y2], _, [v0, v1, v2], _ =>
        have g0 := hg 0 _ rfl
        have g1 := hg 1 _ rfl
        have g2 := hg 2 _ rfl
        simp [cellsAt3, cellsAt25] at g0 g1 g2
        obtain ⟨z0, e0, _, _⟩ := DataW.trod_int Try.underlying3 g0
        obtain ⟨z1, e1, _, _⟩ := DataW.trod_int Try.underlying3 g1
        obtain ⟨A, n, c, ys, e2, hil⟩ := il_of_trod g2
        simp at e0 e1
        have c0 := hcell 0 (by omega)
        have c1 := hcell 1 (by omega)
        have c2 := hcell 2 (by omega)
        simp at c0 c1 c2
        subst e0 e1 e2
        refine ⟨⟨z0, z1, A, n, c, ys⟩, ⟨?_, c1, c2⟩, hil⟩
        simpa [Addr.add] using c0
    obtain ⟨q, hq⟩ := Go.Deep.choose_lt each
    have hg : ∀ i, i < len → ((List.range len).map q).getD i fd0 = q i := fun i hi => by simp [List.getD_eq_getElem?_getD, hi]
    refine ⟨(List.range len).map q, ⟨by simp, hl, hcap, fun i hi => ?_⟩⟩
    obtain ⟨b, off, spot⟩ := x
    have h1 := (hq 0 (by omega)).1.1
    have hs : spot = none := by simpa [Addr.add] using World.cell?_spot h1
    subst hs
    have h2 := (hq i (by omega)).1
    rw [plain_add, plain_add, plain_add] at h2
    rw [hg i hi]
    exact ⟨b, off, rfl, World.block_lt_of_cell? W ⟨b, off + i * 3, none⟩ h2.1, h2.1, h2.2.1, h2.2.2, (hq i (by omega)).2⟩
end Go.Proofs.Ytnakfdaneejcfaa
