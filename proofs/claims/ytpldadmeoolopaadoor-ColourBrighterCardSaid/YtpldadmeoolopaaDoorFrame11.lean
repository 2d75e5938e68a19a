/-
  From what the listed variables read as, and from an argument's reading, to what the walks of layer 11 ask.
-/
import Derived.Test.YtpldadmeoolopaaDoorRefs
import Derived.Test.YtpldadmeoolopaaDoorTie
import Derived.Test.YtpldadmeoolopaaDoorCards
import Derived.ProofKit
import Derived.OpenShut
import Derived.ChangeOld
import Derived.ChangeArms
import Derived.Deep.SlicePairs
import Derived.SizedLaws
import Derived.Carry
import Derived.LaidMore
import Derived.Stop.Joined
import Derived.Stop.LaidErr
import Derived.Lib.LaidTab
import Derived.SevenTiedAt
namespace Go.Proofs.YtpldadmeoolopaaDoor
open Go.ChangeShapes Go.WideShapes Go.ChangeAt Go.RowKit

theorem own_knob : ownKnob Tryd.prog.godebug = none := by kernel_rfl
theorem laid_out : laidOutB Tryd.prog = true := by kernel_rfl
theorem cells3' : Tryd.prog.cellsOf 3 = 1 := by kernel_rfl
theorem cells38' : Tryd.prog.cellsOf 38 = 3 := by kernel_rfl
theorem cells39' : Tryd.prog.cellsOf 39 = 3 := by kernel_rfl
theorem cells41' : Tryd.prog.cellsOf 41 = 9 := by kernel_rfl
theorem cells23' : Tryd.prog.cellsOf 23 = 3 := by kernel_rfl
theorem cells25' : Tryd.prog.cellsOf 25 = 3 := by kernel_rfl
/-- the variables that the rows list -/
def laid2 : List (String × DataW Unit) := [("clerestory/colour.toTone", Rows.laid_clerestory_colour_toTone), ("clerestory/colour.toPixel", Rows.laid_clerestory_colour_toPixel)]
def laid1 : List (String × DataW Unit) := [("clerestory/colour.toTone", Rows.laid_clerestory_colour_toTone)]
theorem g_tone : Tryd.prog.globalNamed "clerestory/colour.toTone" = some 1 := by kernel_rfl
theorem t_tone : (Tryd.prog.globals[1]?).map (·.type) = some 41 := by kernel_rfl
theorem g_pix : Tryd.prog.globalNamed "clerestory/colour.toPixel" = some 0 := by kernel_rfl
theorem t_pix : (Tryd.prog.globals[0]?).map (·.type) = some 41 := by kernel_rfl

theorem door_met (os : Os) (args : Array Value) : laidMetH Tryd.prog laid2 ((World.doorLaid Tryd.prog 25 os).forCall (fun _ _ => 0) ⟨#[], args, []⟩).memory :=
  laidMetH_of_parts3 (fuel := 8) (laidMet_of_run' 8 (by kernel_rfl) (by kernel_rfl)) (by kernel_rfl) (by kernel_rfl)
theorem door_met1 (os : Os) (args : Array Value) : laidMetH Tryd.prog laid1 ((World.doorLaid Tryd.prog 25 os).forCall (fun _ _ => 0) ⟨#[], args, []⟩).memory :=
  laidMetH_of_parts3 (fuel := 8) (laidMet_of_run' 8 (by kernel_rfl) (by kernel_rfl)) (by kernel_rfl) (by kernel_rfl)

/-- the variables' data: rows of rows -/
def rowsD (L : List Int) : DataW Unit := .agg ((List.range 3).map fun i => Lib.tabData .i64 ((L.drop (3 * i)).take 3))
theorem tone_data : (Rows.laid_clerestory_colour_toTone : DataW Unit) = rowsD toneW := rfl
theorem pix_data : (Rows.laid_clerestory_colour_toPixel : DataW Unit) = rowsD pixW := rfl
/-- a part of an array that reads -/
theorem trod_part {H : Type} {enc : TypeId × Value → H} {P : Program} {w : World} {base : Nat} {sp : Nat → Bool} {hl : Bool} {fuel : Nat} {t e : TypeId} {n : Nat} {cs : List Value} {ds : List (DataW H)} {p : List MemPlace}
    (ht : P.underlying t = some (.array n e)) (h : DataW.trod enc P w base sp hl fuel t cs = some (.agg ds, p)) {i : Nat} {d : DataW H} (hi : i < n) (hd : ds[i]? = some d) :
    ∃ m q, DataW.trod enc P w base sp hl m e ((cs.drop (i * P.cellsOf e)).take (P.cellsOf e)) = some (d, q) := by
  obtain ⟨xs, m, _, hx, _, _, hy⟩ := DataW.trod_array ht h
  have e1 : ds = xs.map (·.1) := by
    have := congrArg Prod.fst hx
    simpa using this
  rw [e1, List.getElem?_map] at hd
  obtain ⟨⟨d', q⟩, hq, rfl⟩ := Option.map_eq_some_iff.1 hd
  exact ⟨m, q, (hy i hi).trans hq⟩
/-- a variable that reads as rows of three lies so -/
theorem range_of_rows {W : World} {name : String} {g : Nat} (hg : Tryd.prog.globalNamed name = some g) (ht : (Tryd.prog.globals[g]?).map (·.type) = some 41) {L : List Int} (hL : L.length = 9) {rest : List (String × DataW Unit)}
    (h : laidMet Tryd.prog ((name, rowsD L) :: rest) W) : W.rangeAt g 0 (cellsI L) := by
  obtain ⟨ps, ⟨g', t', cs, fuel, p, q, hg', ht', hvar, hd, _, _⟩, _⟩ := h
  obtain rfl := Option.some.inj (hg.symm.trans hg')
  obtain rfl := Option.some.inj (ht.symm.trans ht')
  intro j u hu
  have hj : j < 9 := by
    have := (List.getElem?_eq_some_iff.1 hu).1
    rwa [cellsI_len, hL] at this
  obtain ⟨m1, q1, h1⟩ := trod_part Tryd.underlying41 hd (i := j / 3) (by omega) (by rw [List.getElem?_map, List.getElem?_range (by omega)]; rfl)
  have h3 := Lib.cells_of_tab Tryd.underlying39 Tryd.underlying3 cells3' cells39' h1
  rw [cells39'] at h3
  have h4 := congrArg (fun l => l[j % 3]?) h3
  simp only [List.getElem?_map] at h4
  rw [List.getElem?_take_of_lt (by omega), List.getElem?_drop, List.getElem?_take_of_lt (by omega), List.getElem?_drop,
    show j / 3 * 3 + j % 3 = j by omega, show 3 * (j / 3) + j % 3 = j by omega] at h4
  have h5 := World.var?_cell hg hvar (0 + j)
  rw [h5, Nat.zero_add]
  rw [show (cellsI L)[j]? = Option.map (fun z => Value.int .i64 z) L[j]? from List.getElem?_map] at hu
  rw [← hu, ← h4]
  simp
theorem tab_of_laid1 {W : World} (h : laidMetH Tryd.prog laid1 W) : TabT W := by
  rw [MakeChecks.laidMetH_plain _ _ _ (by kernel_rfl)] at h
  unfold laid1 at h
  rw [tone_data] at h
  exact ⟨range_of_rows g_tone t_tone rfl h⟩
theorem tab_of_laid2 {W : World} (h : laidMetH Tryd.prog laid2 W) : TabT W ∧ TabP W := by
  rw [MakeChecks.laidMetH_plain _ _ _ (by kernel_rfl)] at h
  unfold laid2 at h
  rw [tone_data, pix_data] at h
  exact ⟨⟨range_of_rows g_tone t_tone rfl h⟩, ⟨range_of_rows g_pix t_pix rfl h.tail⟩⟩

theorem wf_u8 {n : Int} (h : (Lit.int .u8 n).wf = true) : 0 ≤ n ∧ n ≤ 255 := by
  simpa [Lit.wf, IntKind.min, IntKind.max, IntKind.signed, IntKind.bits] using h
theorem okWide_struct {P : Program} {w : World} {r : Reach} {base : Nat} {t : TypeId} {v : Value} {fs : Array Field} (ht : P.underlying t = some (.struct fs)) (h : Value.okWide P w r base t v) : ∃ cs, v = .agg cs ∧ cs.size = P.cellsOf t := by
  simp only [Value.okWide, ht] at h
  obtain ⟨cs, h1, h2, _⟩ := h
  exact ⟨cs, h1, h2⟩
/-- a row of three cells that reads as a struct of three ints -/
theorem three_cells23 {H : Type} {enc : TypeId × Value → H} {W : World} {b : Nat} {hl : Bool} {fuel : Nat} {L : List Value} {x : DataW H × List MemPlace}
    (h : DataW.trod enc Tryd.prog W b (fun _ => true) hl fuel 23 L = some x) : ∃ p q s : Int, L = [.int .i64 p, .int .i64 q, .int .i64 s] := by
  obtain ⟨xs, n, _, _, hlen, hx, hg⟩ := DataW.trod_struct Tryd.underlying23 h
  rw [cells23'] at hlen
  match xs, hx with
  | [y0, y1, y2], _ =>
    have g0 : DataW.trod enc Tryd.prog W b (fun _ => true) hl n 3 ((L.drop 0).take (Tryd.prog.cellsOf 3)) = some y0 := hg 0 _ rfl
    have g1 : DataW.trod enc Tryd.prog W b (fun _ => true) hl n 3 ((L.drop 1).take (Tryd.prog.cellsOf 3)) = some y1 := hg 1 _ rfl
    have g2 : DataW.trod enc Tryd.prog W b (fun _ => true) hl n 3 ((L.drop 2).take (Tryd.prog.cellsOf 3)) = some y2 := hg 2 _ rfl
    rw [cells3'] at g0 g1 g2
    obtain ⟨p, e0, _⟩ := DataW.trod_int Tryd.underlying3 g0
    obtain ⟨q, e1, _⟩ := DataW.trod_int Tryd.underlying3 g1
    obtain ⟨s, e2, _⟩ := DataW.trod_int Tryd.underlying3 g2
    match L, hlen with
    | [a, b, c], _ => exact ⟨p, q, s, by rw [(List.cons.inj e0).1, (List.cons.inj e1).1, (List.cons.inj e2).1]⟩
theorem tone_value {H : Type} {enc : TypeId × Value → H} {W : World} {b b0 : Nat} {r : Reach} {hl : Bool} {v : Value} {d : DataW H} {p : List MemPlace} (hv : Value.okWide Tryd.prog W r b0 23 v)
    (h : DataW.Trod enc Tryd.prog W b (fun _ => true) hl 23 v d p) : ∃ p q s : Int, v = .agg #[.int .i64 p, .int .i64 q, .int .i64 s] := by
  obtain ⟨cs, rfl, _⟩ := okWide_struct Tryd.underlying23 hv
  obtain ⟨fuel, hf⟩ := h
  obtain ⟨p, q, s, e⟩ := three_cells23 hf
  refine ⟨p, q, s, ?_⟩
  congr 1
  apply Array.toList_inj.1
  exact e
/-- a row of three cells that reads as a struct of three ints -/
theorem three_cells25 {H : Type} {enc : TypeId × Value → H} {W : World} {b : Nat} {hl : Bool} {fuel : Nat} {L : List Value} {x : DataW H × List MemPlace}
    (h : DataW.trod enc Tryd.prog W b (fun _ => true) hl fuel 25 L = some x) : ∃ p q s : Int, L = [.int .i64 p, .int .i64 q, .int .i64 s] := by
  obtain ⟨xs, n, _, _, hlen, hx, hg⟩ := DataW.trod_struct Tryd.underlying25 h
  rw [cells25'] at hlen
  match xs, hx with
  | [y0, y1, y2], _ =>
    have g0 : DataW.trod enc Tryd.prog W b (fun _ => true) hl n 3 ((L.drop 0).take (Tryd.prog.cellsOf 3)) = some y0 := hg 0 _ rfl
    have g1 : DataW.trod enc Tryd.prog W b (fun _ => true) hl n 3 ((L.drop 1).take (Tryd.prog.cellsOf 3)) = some y1 := hg 1 _ rfl
    have g2 : DataW.trod enc Tryd.prog W b (fun _ => true) hl n 3 ((L.drop 2).take (Tryd.prog.cellsOf 3)) = some y2 := hg 2 _ rfl
    rw [cells3'] at g0 g1 g2
    obtain ⟨p, e0, _⟩ := DataW.trod_int Tryd.underlying3 g0
    obtain ⟨q, e1, _⟩ := DataW.trod_int Tryd.underlying3 g1
    obtain ⟨s, e2, _⟩ := DataW.trod_int Tryd.underlying3 g2
    match L, hlen with
    | [a, b, c], _ => exact ⟨p, q, s, by rw [(List.cons.inj e0).1, (List.cons.inj e1).1, (List.cons.inj e2).1]⟩
theorem pixel_value {H : Type} {enc : TypeId × Value → H} {W : World} {b b0 : Nat} {r : Reach} {hl : Bool} {v : Value} {d : DataW H} {p : List MemPlace} (hv : Value.okWide Tryd.prog W r b0 25 v)
    (h : DataW.Trod enc Tryd.prog W b (fun _ => true) hl 25 v d p) : ∃ p q s : Int, v = .agg #[.int .i64 p, .int .i64 q, .int .i64 s] := by
  obtain ⟨cs, rfl, _⟩ := okWide_struct Tryd.underlying25 hv
  obtain ⟨fuel, hf⟩ := h
  obtain ⟨p, q, s, e⟩ := three_cells25 hf
  refine ⟨p, q, s, ?_⟩
  congr 1
  apply Array.toList_inj.1
  exact e
end Go.Proofs.YtpldadmeoolopaaDoor
