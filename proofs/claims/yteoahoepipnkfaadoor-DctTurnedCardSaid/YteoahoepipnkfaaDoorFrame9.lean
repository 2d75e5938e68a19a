/-
  From what the listed variable reads as, and from an argument's reading, to what the walks of layer 9 ask.
-/
import Derived.Test.YteoahoepipnkfaaDoorAwake
import Derived.Test.YteoahoepipnkfaaDoorTie
import Derived.Test.YteoahoepipnkfaaDoorCards
import Derived.ProofKit
import Derived.OpenShut
import Derived.ChangeOld
import Derived.ChangeArms
import Derived.Deep.SlicePairs
import Derived.SizedLaws
import Derived.Carry
import Derived.LaidMore
import Derived.Stop.Joined
import Derived.Stop.LaidErr
import Derived.Lib.LaidTab
import Derived.SevenTiedAt
namespace Go.Proofs.YteoahoepipnkfaaDoor
open Go.ChangeShapes Go.WideShapes Go.ChangeAt Go.RowKit

theorem own_knob : ownKnob Tryd.prog.godebug = none := by kernel_rfl
theorem laid_out : laidOutB Tryd.prog = true := by kernel_rfl
theorem cells3' : Tryd.prog.cellsOf 3 = 1 := by kernel_rfl
theorem cells22' : Tryd.prog.cellsOf 22 = 64 := by kernel_rfl
theorem cells23' : Tryd.prog.cellsOf 23 = 64 := by kernel_rfl
/-- the variable that the rows list -/
def laid1 : List (String × DataW Unit) := [("clerestory/dct.basis", Rows.laid_clerestory_dct_basis)]
theorem g_basis : Tryd.prog.globalNamed "clerestory/dct.basis" = some 0 := by kernel_rfl
theorem t_basis : (Tryd.prog.globals[0]?).map (·.type) = some 22 := by kernel_rfl

theorem door_met (os : Os) (args : Array Value) : laidMetH Tryd.prog laid1 ((World.doorLaid Tryd.prog 19 os).forCall (fun _ _ => 0) ⟨#[], args, []⟩).memory :=
  laidMetH_of_parts3 (fuel := 8) (laidMet_of_run' 8 (by kernel_rfl) (by kernel_rfl)) (by kernel_rfl) (by kernel_rfl)

theorem range_of_tab {W : World} {name : String} {L : List Int} {g : Nat} (hg : Tryd.prog.globalNamed name = some g) (h : Lib.TabIs Tryd.prog W name .i64 L) : W.rangeAt g 0 (cellsI L) := by
  intro j u hu
  have hj : j < L.length := by
    have := (List.getElem?_eq_some_iff.1 hu).1
    rwa [cellsI_len] at this
  rw [Nat.zero_add, h.cell hg j hj, ← hu, cellsI_get _ _ hj]
theorem tab_of_laid {W : World} (h : laidMetH Tryd.prog laid1 W) : Tab W := by
  rw [MakeChecks.laidMetH_plain _ _ _ (by kernel_rfl)] at h
  have h0 : Lib.TabIs Tryd.prog W "clerestory/dct.basis" .i64 wz := Lib.tabIs_of_head (rest := []) g_basis t_basis Tryd.underlying22 Tryd.underlying3 cells3' cells22' h
  exact ⟨range_of_tab g_basis h0⟩

theorem wf_i64 {n : Int} (h : (Lit.int .i64 n).wf = true) : isInt n := by
  simpa [isInt, Lit.wf, IntKind.min, IntKind.max, IntKind.signed, IntKind.bits] using h

theorem okWide_array {P : Program} {w : World} {r : Reach} {base : Nat} {t : TypeId} {v : Value} {n : Nat} {e : TypeId} (ht : P.underlying t = some (.array n e)) (h : Value.okWide P w r base t v) : ∃ cs, v = .agg cs ∧ cs.size = P.cellsOf t := by
  simp only [Value.okWide, ht] at h
  obtain ⟨cs, h1, h2, _⟩ := h
  exact ⟨cs, h1, h2⟩

/-- a row of 64 cells that reads as a block -/
theorem block_cells {H : Type} {enc : TypeId × Value → H} {W : World} {b : Nat} {hl : Bool} {fuel : Nat} {L : List Value} {x : DataW H × List MemPlace}
    (h : DataW.trod enc Tryd.prog W b (fun _ => true) hl fuel 23 L = some x) : ∃ z : List Int, z.length = 64 ∧ L = cellsI z := by
  obtain ⟨ys, m, _, _, hlen, hyl, hy⟩ := DataW.trod_array Tryd.underlying23 h
  rw [cells23'] at hlen
  have each : ∀ i, i < 64 → ∃ q : Int, L[i]? = some (.int .i64 q) := by
    intro i hi
    have h1 := hy i hi
    rw [cells3', Nat.mul_one, List.getElem?_eq_getElem (show i < ys.length by omega)] at h1
    obtain ⟨q, e, _⟩ := DataW.trod_int Tryd.underlying3 h1
    refine ⟨q, ?_⟩
    have h2 : (L.drop i).take 1 = [L[i]'(by omega)] := by
      rw [List.drop_eq_getElem_cons (by omega), List.take_succ_cons, List.take_zero]
    rw [h2] at e
    rw [List.getElem?_eq_getElem (by omega)]
    exact congrArg some (List.cons.inj e).1
  obtain ⟨q, hq⟩ := Go.Deep.choose_lt each
  refine ⟨(List.range 64).map q, by simp, ?_⟩
  apply List.ext_getElem?
  intro i
  by_cases hi : i < 64
  · rw [hq i hi]
    simp [cellsI, hi]
  · rw [List.getElem?_eq_none (by omega), List.getElem?_eq_none (by simp [cellsI]; omega)]
set_option maxRecDepth 20000 in
theorem block_value {H : Type} {enc : TypeId × Value → H} {W : World} {b b0 : Nat} {r : Reach} {hl : Bool} {v : Value} {d : DataW H} {p : List MemPlace} (hv : Value.okWide Tryd.prog W r b0 23 v)
    (h : DataW.Trod enc Tryd.prog W b (fun _ => true) hl 23 v d p) : ∃ z : List Int, v = blkV z ∧ z.length = 64 := by
  obtain ⟨cs, rfl, _⟩ := okWide_array Tryd.underlying23 hv
  obtain ⟨fuel, hf⟩ := h
  obtain ⟨z, hz, e⟩ := block_cells hf
  refine ⟨z, ?_, hz⟩
  unfold blkV
  congr 1
  apply Array.toList_inj.1
  exact e
end Go.Proofs.YteoahoepipnkfaaDoor
