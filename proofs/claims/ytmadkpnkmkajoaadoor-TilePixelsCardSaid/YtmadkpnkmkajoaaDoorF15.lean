/-
  From what the listed variables read as, and from an argument's reading, to what the walks of layer 15 ask.
-/
import Derived.Test.YtmadkpnkmkajoaaDoorTK
import Derived.Test.YtmadkpnkmkajoaaDoorTie
import Derived.Test.YtmadkpnkmkajoaaDoorCards
import Derived.ProofKit
import Derived.OpenShut
import Derived.ChangeOld
import Derived.ChangeArms
import Derived.Deep.SlicePairs
import Derived.SizedLaws
import Derived.Carry
import Derived.LaidMore
import Derived.Stop.Joined
import Derived.Stop.LaidErr
import Derived.Lib.LaidTab
import Derived.SevenTiedAt
namespace Go.Proofs.YtmadkpnkmkajoaaDoor
open Go.ChangeShapes Go.WideShapes Go.ChangeAt Go.RowKit
set_option maxRecDepth 20000

theorem own_knob : ownKnob Tryd.prog.godebug = none := by kernel_rfl
theorem laid_out : laidOutB Tryd.prog = true := by kernel_rfl
theorem cells3' : Tryd.prog.cellsOf 3 = 1 := by kernel_rfl
theorem cells4' : Tryd.prog.cellsOf 4 = 1 := by kernel_rfl
theorem cells28' : Tryd.prog.cellsOf 28 = 64 := by kernel_rfl
theorem cells104' : Tryd.prog.cellsOf 104 = 3 := by kernel_rfl
theorem cells106' : Tryd.prog.cellsOf 106 = 9 := by kernel_rfl
theorem cells23' : Tryd.prog.cellsOf 23 = 6 := by kernel_rfl
/-- the variables that the rows list -/
def laid4 : List (String × DataW Unit) := [("clerestory/quant.brightSteps", Rows.laid_clerestory_quant_brightSteps), ("clerestory/quant.colourSteps", Rows.laid_clerestory_quant_colourSteps), ("clerestory/colour.toPixel", Rows.laid_clerestory_colour_toPixel), ("clerestory/dct.basis", Rows.laid_clerestory_dct_basis)]
theorem g_bright : Tryd.prog.globalNamed "clerestory/quant.brightSteps" = some 0 := by kernel_rfl
theorem g_colour : Tryd.prog.globalNamed "clerestory/quant.colourSteps" = some 1 := by kernel_rfl
theorem g_pix : Tryd.prog.globalNamed "clerestory/colour.toPixel" = some 2 := by kernel_rfl
theorem g_basis : Tryd.prog.globalNamed "clerestory/dct.basis" = some 3 := by kernel_rfl
theorem t_bright : (Tryd.prog.globals[0]?).map (·.type) = some 28 := by kernel_rfl
theorem t_colour : (Tryd.prog.globals[1]?).map (·.type) = some 28 := by kernel_rfl
theorem t_pix : (Tryd.prog.globals[2]?).map (·.type) = some 106 := by kernel_rfl
theorem t_basis : (Tryd.prog.globals[3]?).map (·.type) = some 28 := by kernel_rfl

theorem door_met (os : _root_.Go.Os) (args : Array Value) : laidMetH Tryd.prog laid4 ((World.doorLaid Tryd.prog 63 os).forCall (fun _ _ => 0) ⟨#[], args, []⟩).memory :=
  laidMetH_of_parts3 (fuel := 8) (laidMet_of_run' 8 (by kernel_rfl) (by kernel_rfl)) (by kernel_rfl) (by kernel_rfl)

/-- the variables' data: rows of rows -/
def rowsD (L : List Int) : DataW Unit := .agg ((List.range 3).map fun i => Lib.tabData .i64 ((L.drop (3 * i)).take 3))
theorem pix_data : (Rows.laid_clerestory_colour_toPixel : DataW Unit) = rowsD pixW := rfl
theorem trod_part {H : Type} {enc : TypeId × Value → H} {P : Program} {w : World} {base : Nat} {sp : Nat → Bool} {hl : Bool} {fuel : Nat} {t e : TypeId} {n : Nat} {cs : List Value} {ds : List (DataW H)} {p : List MemPlace}
    (ht : P.underlying t = some (.array n e)) (h : DataW.trod enc P w base sp hl fuel t cs = some (.agg ds, p)) {i : Nat} {d : DataW H} (hi : i < n) (hd : ds[i]? = some d) :
    ∃ m q, DataW.trod enc P w base sp hl m e ((cs.drop (i * P.cellsOf e)).take (P.cellsOf e)) = some (d, q) := by
  obtain ⟨xs, m, _, hx, _, _, hy⟩ := DataW.trod_array ht h
  have e1 : ds = xs.map (·.1) := by
    have := congrArg Prod.fst hx
    simpa using this
  rw [e1, List.getElem?_map] at hd
  obtain ⟨⟨d', q⟩, hq, rfl⟩ := Option.map_eq_some_iff.1 hd
  exact ⟨m, q, (hy i hi).trans hq⟩
theorem range_of_rows {W : World} {name : String} {g : Nat} (hg : Tryd.prog.globalNamed name = some g) (ht : (Tryd.prog.globals[g]?).map (·.type) = some 106) {L : List Int} (hL : L.length = 9) {rest : List (String × DataW Unit)}
    (h : laidMet Tryd.prog ((name, rowsD L) :: rest) W) : W.rangeAt g 0 (cellsI L) := by
  obtain ⟨ps, ⟨g', t', cs, fuel, p, q, hg', ht', hvar, hd, _, _⟩, _⟩ := h
  obtain rfl := Option.some.inj (hg.symm.trans hg')
  obtain rfl := Option.some.inj (ht.symm.trans ht')
  intro j u hu
  have hj : j < 9 := by
    have := (List.getElem?_eq_some_iff.1 hu).1
    rwa [cellsI_len, hL] at this
  obtain ⟨m1, q1, h1⟩ := trod_part Tryd.underlying106 hd (i := j / 3) (by omega) (by rw [List.getElem?_map, List.getElem?_range (by omega)]; rfl)
  have h3 := Lib.cells_of_tab Tryd.underlying104 Tryd.underlying3 cells3' cells104' h1
  rw [cells104'] at h3
  have h4 := congrArg (fun l => l[j % 3]?) h3
  simp only [List.getElem?_map] at h4
  rw [List.getElem?_take_of_lt (by omega), List.getElem?_drop, List.getElem?_take_of_lt (by omega), List.getElem?_drop,
    show j / 3 * 3 + j % 3 = j by omega, show 3 * (j / 3) + j % 3 = j by omega] at h4
  have h5 := World.var?_cell hg hvar (0 + j)
  rw [h5, Nat.zero_add]
  rw [show (cellsI L)[j]? = Option.map (fun z => Value.int .i64 z) L[j]? from List.getElem?_map] at hu
  rw [← hu, ← h4]
  simp
theorem range_of_tab {W : World} {name : String} {L : List Int} {g : Nat} (hg : Tryd.prog.globalNamed name = some g) (h : Lib.TabIs Tryd.prog W name .i64 L) : W.rangeAt g 0 (cellsI L) := by
  intro j u hu
  have hj : j < L.length := by
    have := (List.getElem?_eq_some_iff.1 hu).1
    rwa [cellsI_len] at this
  rw [Nat.zero_add, h.cell hg j hj, ← hu, cellsI_get _ _ hj]
theorem tab_of_laid {W : World} (h : laidMetH Tryd.prog laid4 W) : Tab W ∧ Tab9_ W ∧ TabP W := by
  rw [MakeChecks.laidMetH_plain _ _ _ (by kernel_rfl)] at h
  unfold laid4 at h
  rw [pix_data] at h
  have h0 : Lib.TabIs Tryd.prog W "clerestory/quant.brightSteps" .i64 brightL := Lib.tabIs_of_head g_bright t_bright Tryd.underlying28 Tryd.underlying3 cells3' cells28' h
  have h1 : Lib.TabIs Tryd.prog W "clerestory/quant.colourSteps" .i64 colourL := Lib.tabIs_of_head g_colour t_colour Tryd.underlying28 Tryd.underlying3 cells3' cells28' h.tail
  have h3 : Lib.TabIs Tryd.prog W "clerestory/dct.basis" .i64 wz := Lib.tabIs_of_head (rest := []) g_basis t_basis Tryd.underlying28 Tryd.underlying3 cells3' cells28' h.tail.tail.tail
  exact ⟨⟨range_of_tab g_bright h0, range_of_tab g_colour h1⟩, ⟨range_of_tab g_basis h3⟩, ⟨range_of_rows g_pix t_pix rfl h.tail.tail⟩⟩
theorem okWide_struct {P : Program} {w : World} {r : Reach} {base : Nat} {t : TypeId} {v : Value} {fs : Array Field} (ht : P.underlying t = some (.struct fs)) (h : Value.okWide P w r base t v) : ∃ cs, v = .agg cs ∧ cs.size = P.cellsOf t := by
  simp only [Value.okWide, ht] at h
  obtain ⟨cs, h1, h2, _⟩ := h
  exact ⟨cs, h1, h2⟩
/-- six cells that read as a geometry -/
theorem geo_cells {H : Type} {enc : TypeId × Value → H} {W : World} {b : Nat} {hl : Bool} {fuel : Nat} {L : List Value} {x : DataW H × List MemPlace}
    (h : DataW.trod enc Tryd.prog W b (fun _ => true) hl fuel 23 L = some x) : ∃ (w h t k q : Int) (g : Bool), L = [.int .i64 w, .int .i64 h, .int .i64 t, .int .i64 k, .int .i64 q, .bool g] := by
  obtain ⟨xs, n, _, _, hlen, hx, hg⟩ := DataW.trod_struct Tryd.underlying23 h
  rw [cells23'] at hlen
  match xs, hx with
  | [y0, y1, y2, y3, y4, y5], _ =>
    have g0 : DataW.trod enc Tryd.prog W b (fun _ => true) hl n 3 ((L.drop 0).take (Tryd.prog.cellsOf 3)) = some y0 := hg 0 _ rfl
    have g1 : DataW.trod enc Tryd.prog W b (fun _ => true) hl n 3 ((L.drop 1).take (Tryd.prog.cellsOf 3)) = some y1 := hg 1 _ rfl
    have g2 : DataW.trod enc Tryd.prog W b (fun _ => true) hl n 3 ((L.drop 2).take (Tryd.prog.cellsOf 3)) = some y2 := hg 2 _ rfl
    have g3 : DataW.trod enc Tryd.prog W b (fun _ => true) hl n 3 ((L.drop 3).take (Tryd.prog.cellsOf 3)) = some y3 := hg 3 _ rfl
    have g4 : DataW.trod enc Tryd.prog W b (fun _ => true) hl n 3 ((L.drop 4).take (Tryd.prog.cellsOf 3)) = some y4 := hg 4 _ rfl
    have g5 : DataW.trod enc Tryd.prog W b (fun _ => true) hl n 4 ((L.drop 5).take (Tryd.prog.cellsOf 4)) = some y5 := hg 5 _ rfl
    rw [cells3'] at g0 g1 g2 g3 g4
    rw [cells4'] at g5
    obtain ⟨a0, e0, _⟩ := DataW.trod_int Tryd.underlying3 g0
    obtain ⟨a1, e1, _⟩ := DataW.trod_int Tryd.underlying3 g1
    obtain ⟨a2, e2, _⟩ := DataW.trod_int Tryd.underlying3 g2
    obtain ⟨a3, e3, _⟩ := DataW.trod_int Tryd.underlying3 g3
    obtain ⟨a4, e4, _⟩ := DataW.trod_int Tryd.underlying3 g4
    obtain ⟨a5, e5, _⟩ := DataW.trod_bool Tryd.underlying4 g5
    match L, hlen with
    | [c0, c1, c2, c3, c4, c5], _ =>
      simp at e0 e1 e2 e3 e4 e5
      exact ⟨a0, a1, a2, a3, a4, a5, by rw [e0, e1, e2, e3, e4, e5]⟩
theorem geo_value {H : Type} {enc : TypeId × Value → H} {W : World} {b b0 : Nat} {r : Reach} {hl : Bool} {v : Value} {d : DataW H} {p : List MemPlace} (hv : Value.okWide Tryd.prog W r b0 23 v)
    (h : DataW.Trod enc Tryd.prog W b (fun _ => true) hl 23 v d p) : ∃ (w h t k q : Int) (g : Bool), v = geoV w h t k q g := by
  obtain ⟨cs, rfl, _⟩ := okWide_struct Tryd.underlying23 hv
  obtain ⟨fuel, hf⟩ := h
  obtain ⟨w, h, t, k, q, g, e⟩ := geo_cells hf
  refine ⟨w, h, t, k, q, g, ?_⟩
  have hcs : (Value.agg cs).cells.toList = cs.toList := rfl
  rw [hcs] at e
  unfold geoV
  congr 1
  apply Array.toList_inj.1
  rw [e]
end Go.Proofs.YtmadkpnkmkajoaaDoor
