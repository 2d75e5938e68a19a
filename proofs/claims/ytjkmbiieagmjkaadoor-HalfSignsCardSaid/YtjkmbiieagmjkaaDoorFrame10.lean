/-
  From what the listed variable reads as, and from an argument's reading, to what the walks of layer 10 ask.
-/
import Derived.Test.YtjkmbiieagmjkaaDoorRefTold
import Derived.Test.YtjkmbiieagmjkaaDoorTie
import Derived.Test.YtjkmbiieagmjkaaDoorCards
import Derived.ProofKit
import Derived.OpenShut
import Derived.ChangeOld
import Derived.ChangeArms
import Derived.Deep.SlicePairs
import Derived.SizedLaws
import Derived.Carry
import Derived.LaidMore
import Derived.Stop.Joined
import Derived.Stop.LaidErr
import Derived.Lib.LaidTab
import Derived.SevenTiedAt
namespace Go.Proofs.YtjkmbiieagmjkaaDoor
open Go.ChangeShapes Go.WideShapes Go.ChangeAt Go.RowKit

theorem own_knob : ownKnob Tryd.prog.godebug = none := by kernel_rfl
theorem laid_out : laidOutB Tryd.prog = true := by kernel_rfl
theorem cells3' : Tryd.prog.cellsOf 3 = 1 := by kernel_rfl
theorem cells23' : Tryd.prog.cellsOf 23 = 64 := by kernel_rfl
theorem cells24' : Tryd.prog.cellsOf 24 = 256 := by kernel_rfl
theorem cells42' : Tryd.prog.cellsOf 42 = 4 := by kernel_rfl
theorem cells43' : Tryd.prog.cellsOf 43 = 32 := by kernel_rfl
/-- the variable that the rows list -/
def laid1 : List (String × DataW Unit) := [("clerestory/half.halves", Rows.laid_clerestory_half_halves)]
theorem g_halves : Tryd.prog.globalNamed "clerestory/half.halves" = some 0 := by kernel_rfl
theorem t_halves : (Tryd.prog.globals[0]?).map (·.type) = some 44 := by kernel_rfl

theorem door_met (os : Os) (args : Array Value) : laidMetH Tryd.prog laid1 ((World.doorLaid Tryd.prog 65 os).forCall (fun _ _ => 0) ⟨#[], args, []⟩).memory :=
  laidMetH_of_parts3 (fuel := 8) (laidMet_of_run' 8 (by kernel_rfl) (by kernel_rfl)) (by kernel_rfl) (by kernel_rfl)

/-- the variable's data: rows of rows of rows -/
theorem halves_data : (Rows.laid_clerestory_half_halves : DataW Unit) = .agg ((List.range 2).map fun p => .agg ((List.range 8).map fun u => Lib.tabData .i64 ((hz.drop (32 * p + 4 * u)).take 4))) := rfl
/-- a part of an array that reads -/
theorem trod_part {H : Type} {enc : TypeId × Value → H} {P : Program} {w : World} {base : Nat} {sp : Nat → Bool} {hl : Bool} {fuel : Nat} {t e : TypeId} {n : Nat} {cs : List Value} {ds : List (DataW H)} {p : List MemPlace}
    (ht : P.underlying t = some (.array n e)) (h : DataW.trod enc P w base sp hl fuel t cs = some (.agg ds, p)) {i : Nat} {d : DataW H} (hi : i < n) (hd : ds[i]? = some d) :
    ∃ m q, DataW.trod enc P w base sp hl m e ((cs.drop (i * P.cellsOf e)).take (P.cellsOf e)) = some (d, q) := by
  obtain ⟨xs, m, _, hx, _, _, hy⟩ := DataW.trod_array ht h
  have e1 : ds = xs.map (·.1) := by
    have := congrArg Prod.fst hx
    simpa using this
  rw [e1, List.getElem?_map] at hd
  obtain ⟨⟨d', q⟩, hq, rfl⟩ := Option.map_eq_some_iff.1 hd
  exact ⟨m, q, (hy i hi).trans hq⟩
theorem tab_of_laid {W : World} (h : laidMetH Tryd.prog laid1 W) : Tab W := by
  rw [MakeChecks.laidMetH_plain _ _ _ (by kernel_rfl)] at h
  obtain ⟨ps, ⟨g', t', cs, fuel, p, q, hg', ht', hvar, hd, _, _⟩, _⟩ := h
  obtain rfl := Option.some.inj (g_halves.symm.trans hg')
  obtain rfl := Option.some.inj (t_halves.symm.trans ht')
  rw [halves_data] at hd
  refine ⟨fun j u hu => ?_⟩
  have hj : j < 64 := by
    have := (List.getElem?_eq_some_iff.1 hu).1
    rwa [cellsI_len, hz_len] at this
  obtain ⟨m1, q1, h1⟩ := trod_part Tryd.underlying44 hd (i := j / 32) (by omega) (by rw [List.getElem?_map, List.getElem?_range (by omega)]; rfl)
  obtain ⟨m2, q2, h2⟩ := trod_part Tryd.underlying43 h1 (i := j % 32 / 4) (by omega) (by rw [List.getElem?_map, List.getElem?_range (by omega)]; rfl)
  have h3 := Lib.cells_of_tab Tryd.underlying42 Tryd.underlying3 cells3' cells42' h2
  rw [cells42', cells43'] at h3
  have h4 := congrArg (fun l => l[j % 4]?) h3
  simp only [List.getElem?_map] at h4
  rw [List.getElem?_take_of_lt (by omega), List.getElem?_drop, List.getElem?_take_of_lt (by omega), List.getElem?_drop, List.getElem?_take_of_lt (by omega), List.getElem?_drop,
    show j / 32 * 32 + (j % 32 / 4 * 4 + j % 4) = j by omega, show 32 * (j / 32) + 4 * (j % 32 / 4) + j % 4 = j by omega] at h4
  have h5 := World.var?_cell g_halves hvar (0 + j)
  rw [h5, Nat.zero_add]
  rw [show (cellsI hz)[j]? = Option.map (fun z => Value.int .i64 z) hz[j]? from List.getElem?_map] at hu
  rw [← hu, ← h4]
  simp

theorem wf_i64 {n : Int} (h : (Lit.int .i64 n).wf = true) : isInt n := by
  simpa [isInt, Lit.wf, IntKind.min, IntKind.max, IntKind.signed, IntKind.bits] using h
theorem wf_u8 {n : Int} (h : (Lit.int .u8 n).wf = true) : 0 ≤ n ∧ n ≤ 255 := by
  simpa [Lit.wf, IntKind.min, IntKind.max, IntKind.signed, IntKind.bits] using h

theorem okWide_array {P : Program} {w : World} {r : Reach} {base : Nat} {t : TypeId} {v : Value} {n : Nat} {e : TypeId} (ht : P.underlying t = some (.array n e)) (h : Value.okWide P w r base t v) : ∃ cs, v = .agg cs ∧ cs.size = P.cellsOf t := by
  simp only [Value.okWide, ht] at h
  obtain ⟨cs, h1, h2, _⟩ := h
  exact ⟨cs, h1, h2⟩

/-- a row of 64 cells that reads as a block -/
theorem block_cells {H : Type} {enc : TypeId × Value → H} {W : World} {b : Nat} {hl : Bool} {fuel : Nat} {L : List Value} {x : DataW H × List MemPlace}
    (h : DataW.trod enc Tryd.prog W b (fun _ => true) hl fuel 23 L = some x) : ∃ z : List Int, z.length = 64 ∧ L = cellsI z := by
  obtain ⟨ys, m, _, _, hlen, hyl, hy⟩ := DataW.trod_array Tryd.underlying23 h
  rw [cells23'] at hlen
  have each : ∀ i, i < 64 → ∃ q : Int, L[i]? = some (.int .i64 q) := by
    intro i hi
    have h1 := hy i hi
    rw [cells3', Nat.mul_one, List.getElem?_eq_getElem (show i < ys.length by omega)] at h1
    obtain ⟨q, e, _⟩ := DataW.trod_int Tryd.underlying3 h1
    refine ⟨q, ?_⟩
    have h2 : (L.drop i).take 1 = [L[i]'(by omega)] := by
      rw [List.drop_eq_getElem_cons (by omega), List.take_succ_cons, List.take_zero]
    rw [h2] at e
    rw [List.getElem?_eq_getElem (by omega)]
    exact congrArg some (List.cons.inj e).1
  obtain ⟨q, hq⟩ := Go.Deep.choose_lt each
  refine ⟨(List.range 64).map q, by simp, ?_⟩
  apply List.ext_getElem?
  intro i
  by_cases hi : i < 64
  · rw [hq i hi]
    simp [cellsI, hi]
  · rw [List.getElem?_eq_none (by omega), List.getElem?_eq_none (by simp [cellsI]; omega)]
set_option maxRecDepth 20000 in
theorem block_value {H : Type} {enc : TypeId × Value → H} {W : World} {b b0 : Nat} {r : Reach} {hl : Bool} {v : Value} {d : DataW H} {p : List MemPlace} (hv : Value.okWide Tryd.prog W r b0 23 v)
    (h : DataW.Trod enc Tryd.prog W b (fun _ => true) hl 23 v d p) : ∃ z : List Int, v = blkV z ∧ z.length = 64 := by
  obtain ⟨cs, rfl, _⟩ := okWide_array Tryd.underlying23 hv
  obtain ⟨fuel, hf⟩ := h
  obtain ⟨z, hz', e⟩ := block_cells hf
  refine ⟨z, ?_, hz'⟩
  unfold blkV
  congr 1
  apply Array.toList_inj.1
  exact e
/-- a row of 256 cells that reads as four blocks -/
theorem four_cells {H : Type} {enc : TypeId × Value → H} {W : World} {b : Nat} {hl : Bool} {fuel : Nat} {L : List Value} {x : DataW H × List MemPlace}
    (h : DataW.trod enc Tryd.prog W b (fun _ => true) hl fuel 24 L = some x) : ∃ z : List Int, z.length = 256 ∧ L = cellsI z := by
  obtain ⟨ys, m, _, _, hlen, hyl, hy⟩ := DataW.trod_array Tryd.underlying24 h
  rw [cells24'] at hlen
  have each : ∀ i, i < 4 → ∃ z : List Int, z.length = 64 ∧ (L.drop (i * 64)).take 64 = cellsI z := by
    intro i hi
    have h1 := hy i hi
    rw [cells23', List.getElem?_eq_getElem (show i < ys.length by omega)] at h1
    exact block_cells h1
  obtain ⟨q, hq⟩ := Go.Deep.choose_lt each
  refine ⟨(List.range 256).map fun j => (q (j / 64)).getD (j % 64) 0, by simp, ?_⟩
  apply List.ext_getElem?
  intro i
  by_cases hi : i < 256
  · have h1 := hq (i / 64) (by omega)
    have h2 := congrArg (fun l => l[i % 64]?) h1.2
    rw [List.getElem?_take_of_lt (by omega), List.getElem?_drop, show i / 64 * 64 + i % 64 = i by omega, cellsI_get _ _ (by omega)] at h2
    rw [h2]
    simp [cellsI, hi]
  · rw [List.getElem?_eq_none (by omega), List.getElem?_eq_none (by simp [cellsI]; omega)]
set_option maxRecDepth 20000 in
theorem four_value {H : Type} {enc : TypeId × Value → H} {W : World} {b b0 : Nat} {r : Reach} {hl : Bool} {v : Value} {d : DataW H} {p : List MemPlace} (hv : Value.okWide Tryd.prog W r b0 24 v)
    (h : DataW.Trod enc Tryd.prog W b (fun _ => true) hl 24 v d p) : ∃ z : List Int, v = fourV z ∧ z.length = 256 := by
  obtain ⟨cs, rfl, _⟩ := okWide_array Tryd.underlying24 hv
  obtain ⟨fuel, hf⟩ := h
  obtain ⟨z, hz', e⟩ := four_cells hf
  refine ⟨z, ?_, hz'⟩
  unfold fourV
  congr 1
  apply Array.toList_inj.1
  exact e
end Go.Proofs.YtjkmbiieagmjkaaDoor
