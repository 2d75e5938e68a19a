/-
  From an argument's reading to what the walks of layer 14 ask: scans and tiles.
-/
import Derived.Test.YtdnjnbfmmgkpjaaDoorPH
import Derived.Test.YtdnjnbfmmgkpjaaDoorRows
import Derived.ProofKit
import Derived.OpenShut
import Derived.ShutString
import Derived.ChangeOld
import Derived.ChangeArms
import Derived.Deep.SlicePairs
import Derived.Deep.Slices
import Derived.SizedLaws
import Derived.Carry
import Derived.Test.YtdnjnbfmmgkpjaaDoorTie
import Derived.Test.YtdnjnbfmmgkpjaaDoorCards
import Derived.LaidMore
import Derived.Stop.Joined
import Derived.Lib.LaidTab
import Derived.SevenTiedAt
namespace Go.Proofs.YtdnjnbfmmgkpjaaDoor
open Go.ChangeShapes Go.WideShapes Go.ChangeAt Go.RowKit

theorem own_knob : ownKnob Tryd.prog.godebug = none := by kernel_rfl
theorem laid_out : laidOutB Tryd.prog = true := by kernel_rfl
theorem cells3' : Tryd.prog.cellsOf 3 = 1 := by kernel_rfl
theorem cells23' : Tryd.prog.cellsOf 23 = 4 := by kernel_rfl
theorem cells49' : Tryd.prog.cellsOf 25 = 64 := by kernel_rfl
theorem cells33b : Tryd.prog.cellsOf 61 = 1 := by kernel_rfl
theorem cells24b : Tryd.prog.cellsOf 34 = 1 := by kernel_rfl
theorem cells26b : Tryd.prog.cellsOf 36 = 1 := by kernel_rfl
theorem block_cells {H : Type} {enc : TypeId × Value → H} {W : World} {b : Nat} {hl : Bool} {fuel : Nat} {L : List Value} {x : DataW H × List MemPlace}
    (h : DataW.trod enc Tryd.prog W b (fun _ => true) hl fuel 25 L = some x) : ∃ z : List Int, z.length = 64 ∧ L = cellsI z := by
  obtain ⟨ys, m, _, _, hlen, hyl, hy⟩ := DataW.trod_array Tryd.underlying25 h
  rw [cells49'] at hlen
  have each : ∀ i, i < 64 → ∃ q : Int, L[i]? = some (.int .i64 q) := by
    intro i hi
    have h1 := hy i hi
    rw [cells3', Nat.mul_one, List.getElem?_eq_getElem (show i < ys.length by omega)] at h1
    obtain ⟨q, e, _⟩ := DataW.trod_int Tryd.underlying3 h1
    refine ⟨q, ?_⟩
    have h2 : (L.drop i).take 1 = [L[i]'(by omega)] := by
      rw [List.drop_eq_getElem_cons (by omega), List.take_succ_cons, List.take_zero]
    rw [h2] at e
    rw [List.getElem?_eq_getElem (by omega)]
    exact congrArg some (List.cons.inj e).1
  obtain ⟨q, hq⟩ := Go.Deep.choose_lt each
  refine ⟨(List.range 64).map q, by simp, ?_⟩
  apply List.ext_getElem?
  intro i
  by_cases hi : i < 64
  · rw [hq i hi]
    simp [cellsI, hi]
  · rw [List.getElem?_eq_none (by omega), List.getElem?_eq_none (by simp [cellsI]; omega)]
theorem okWide_struct {P : Program} {w : World} {r : Reach} {base : Nat} {t : TypeId} {v : Value} {fs : Array Field} (ht : P.underlying t = some (.struct fs)) (h : Value.okWide P w r base t v) : ∃ cs, v = .agg cs ∧ cs.size = P.cellsOf t := by
  simp only [Value.okWide, ht] at h
  obtain ⟨cs, h1, h2, _⟩ := h
  exact ⟨cs, h1, h2⟩
section
variable {H : Type} {enc : TypeId × Value → H} {W : World} {b : Nat} {hl : Bool} {fuel : Nat} {L : List Value} {x : DataW H × List MemPlace}
theorem part_one {L : List Value} {k : Nat} {v : Value} (h : (L.drop k).take 1 = [v]) : L[k]? = some v := by
  have := congrArg (fun l => l[0]?) h
  simp only [List.getElem?_cons_zero] at this
  rwa [List.getElem?_take_of_lt (by omega), List.getElem?_drop, Nat.add_zero] at this
theorem fld_part {t : TypeId} {fs : Array Field} (ht : Tryd.prog.underlying t = some (.struct fs)) (h : DataW.trod enc Tryd.prog W b (fun _ => true) hl fuel t L = some x) :
    L.length = Tryd.prog.cellsOf t ∧ ∀ (i : Nat) (f : Field), fs[i]? = some f → ∃ m y, DataW.trod enc Tryd.prog W b (fun _ => true) hl m f.type ((L.drop f.offset).take (Tryd.prog.cellsOf f.type)) = some y := by
  obtain ⟨xs, n, _, _, hlen, hx, hg⟩ := DataW.trod_struct ht h
  refine ⟨hlen, fun i f hf => ?_⟩
  have := (Array.getElem?_eq_some_iff.1 hf).1
  have hh := hg i f hf
  rw [List.getElem?_eq_getElem (show i < xs.length by omega)] at hh
  exact ⟨n, _, hh⟩
theorem int_part {k : Nat} (h : DataW.trod enc Tryd.prog W b (fun _ => true) hl fuel 3 ((L.drop k).take 1) = some x) : ∃ q : Int, L[k]? = some (.int .i64 q) := by
  obtain ⟨q, e, _⟩ := DataW.trod_int Tryd.underlying3 h
  exact ⟨q, part_one e⟩
end
/-- a row of four cells that reads as a scan -/
theorem four_cells {H : Type} {enc : TypeId × Value → H} {W : World} {b : Nat} {hl : Bool} {fuel : Nat} {L : List Value} {x : DataW H × List MemPlace} (h : DataW.trod enc Tryd.prog W b (fun _ => true) hl fuel 23 L = some x) :
    ∃ p : Nat → Int, L.length = 4 ∧ ∀ i, i < 4 → L[i]? = some (.int .i64 (p i)) := by
  obtain ⟨hlen, hg⟩ := fld_part Tryd.underlying23 h
  rw [cells23'] at hlen
  have each : ∀ i, i < 4 → ∃ q : Int, L[i]? = some (.int .i64 q) := by
    intro i hi
    rcases (show i = 0 ∨ i = 1 ∨ i = 2 ∨ i = 3 by omega) with rfl | rfl | rfl | rfl
    · obtain ⟨m, y, g⟩ := hg 0 _ rfl
      change DataW.trod enc Tryd.prog W b (fun _ => true) hl m 3 ((L.drop 0).take (Tryd.prog.cellsOf 3)) = some y at g
      rw [cells3'] at g
      exact int_part g
    · obtain ⟨m, y, g⟩ := hg 1 _ rfl
      change DataW.trod enc Tryd.prog W b (fun _ => true) hl m 3 ((L.drop 1).take (Tryd.prog.cellsOf 3)) = some y at g
      rw [cells3'] at g
      exact int_part g
    · obtain ⟨m, y, g⟩ := hg 2 _ rfl
      change DataW.trod enc Tryd.prog W b (fun _ => true) hl m 3 ((L.drop 2).take (Tryd.prog.cellsOf 3)) = some y at g
      rw [cells3'] at g
      exact int_part g
    · obtain ⟨m, y, g⟩ := hg 3 _ rfl
      change DataW.trod enc Tryd.prog W b (fun _ => true) hl m 3 ((L.drop 3).take (Tryd.prog.cellsOf 3)) = some y at g
      rw [cells3'] at g
      exact int_part g
  obtain ⟨q, hq⟩ := Go.Deep.choose_lt each
  exact ⟨q, hlen, hq⟩
set_option maxRecDepth 20000 in
theorem scan_value {H : Type} {enc : TypeId × Value → H} {W : World} {b b0 : Nat} {r : Reach} {hl : Bool} {v : Value} {d : DataW H} {p : List MemPlace} (hv : Value.okWide Tryd.prog W r b0 23 v)
    (h : DataW.Trod enc Tryd.prog W b (fun _ => true) hl 23 v d p) : ∃ p q s t : Int, v = .agg #[.int .i64 p, .int .i64 q, .int .i64 s, .int .i64 t] := by
  obtain ⟨cs, rfl, _⟩ := okWide_struct Tryd.underlying23 hv
  obtain ⟨fuel, hf⟩ := h
  obtain ⟨p, hl, hp⟩ := four_cells hf
  have hcs : (Value.agg cs).cells.toList = cs.toList := rfl
  rw [hcs] at hl hp
  refine ⟨p 0, p 1, p 2, p 3, ?_⟩
  congr 1
  apply Array.toList_inj.1
  apply List.ext_getElem?
  intro i
  by_cases hi : i < 4
  · rw [hp i hi]
    rcases (show i = 0 ∨ i = 1 ∨ i = 2 ∨ i = 3 by omega) with rfl | rfl | rfl | rfl <;> rfl
  · rw [List.getElem?_eq_none (by omega), List.getElem?_eq_none (by simp; omega)]

/-- a cell that reads as a slice of blocks -/
theorem bs_cells {H : Type} {enc : TypeId × Value → H} {W : World} {b : Nat} {hl : Bool} {fuel : Nat} {L : List Value} {x : DataW H × List MemPlace}
    (h : DataW.trod enc Tryd.prog W b (fun _ => true) hl fuel 61 L = some x) : ∃ (A : Option Addr) (n c : Nat) (t : List (List Int)), L = [.slice A n c] ∧ Bs W A n t ∧ n ≤ c ∧ c ≤ maxLen ∧ (A = none → c = 0) := by
  rcases Go.Deep.open_slice Tryd.underlying61 h with ⟨hcs, _⟩ | ⟨x, l, c, m, n, D, Pl, hcs, _, hl, hcap, hm, _, hx⟩
  · exact ⟨none, 0, 0, [], hcs, ⟨rfl, (fun x hx => by cases hx), fun h => absurd h (by omega)⟩, Nat.le_refl _, Nat.zero_le _, fun _ => rfl⟩
  · simp at hm
    obtain ⟨len, rfl⟩ : ∃ len, len = l := ⟨_, rfl⟩
    rcases Nat.eq_zero_or_pos len with h0 | h0
    · subst h0
      exact ⟨_, _, _, [], hcs, ⟨rfl, (fun x hx => by cases hx), fun h => absurd h (by omega)⟩, Nat.zero_le _, hcap, fun e => by cases e⟩
    · obtain ⟨b0, off, spot⟩ := x
      have each : ∀ i, i < len → ∃ z : List Int, z.length = 64 ∧ ∀ j, j < 64 → W.cell? (((⟨b0, off, spot⟩ : Addr).add (i * 64)).add j) = some (.int .i64 (z.getD j 0)) := by
        intro i hi
        obtain ⟨cs', h1, h2⟩ := hx i (by omega)
        rw [cells49'] at h1
        obtain ⟨z, hz, rfl⟩ := block_cells h2
        refine ⟨z, hz, fun j hj => ?_⟩
        obtain ⟨_, _, h3⟩ := World.cells?_some h1
        rw [h3 j hj, cellsI_get _ _ (by omega)]
      obtain ⟨z, hz⟩ := Go.Deep.choose_lt each
      have h1 := (hz 0 h0).2 0 (by omega)
      have hs : spot = none := by simpa [Addr.add] using World.cell?_spot h1
      subst hs
      refine ⟨_, _, _, (List.range len).map z, hcs, ⟨by simp, fun y hy => ?_, fun _ => ⟨b0, off, rfl, ?_, fun i y hy j hj => ?_⟩⟩, hl, hcap, fun e => by cases e⟩
      · obtain ⟨i, hi, rfl⟩ := List.mem_map.1 hy
        exact (hz i (List.mem_range.1 hi)).1
      · exact World.block_lt_of_cell? W ⟨b0, off, none⟩ (by simpa [Addr.add] using h1)
      · have hi : i < len := by
          have := (List.getElem?_eq_some_iff.1 hy).1
          simpa using this
        have hy2 : y = z i := by
          rw [List.getElem?_map, List.getElem?_range hi] at hy
          exact (Option.some.inj hy).symm
        have h2 := (hz i hi).2 j hj
        rw [plain_add, plain_add] at h2
        rw [h2, hy2]

set_option maxRecDepth 20000 in
theorem tile_value {H : Type} {enc : TypeId × Value → H} {W : World} {b b0 : Nat} {r : Reach} {hl : Bool} {v : Value} {d : DataW H} {p : List MemPlace} (hv : Value.okWide Tryd.prog W r b0 36 v)
    (h : DataW.Trod enc Tryd.prog W b (fun _ => true) hl 36 v d p) : ∃ A n c L T, v = tileV A n c ∧ Ti W A n L T := by
  obtain ⟨cs, rfl, _⟩ := okWide_struct Tryd.underlying36 hv
  obtain ⟨fuel, hf⟩ := h
  have hcs : (Value.agg cs).cells.toList = cs.toList := rfl
  rw [hcs] at hf
  obtain ⟨Lc, hL⟩ : ∃ L, L = cs.toList := ⟨_, rfl⟩
  rw [← hL] at hf
  obtain ⟨hlen, hg⟩ := fld_part Tryd.underlying36 hf
  rw [cells26b] at hlen
  obtain ⟨m0, y0, g0⟩ := hg 0 _ rfl
  change DataW.trod enc Tryd.prog W b (fun _ => true) hl m0 34 ((Lc.drop 0).take (Tryd.prog.cellsOf 34)) = some y0 at g0
  rw [cells24b] at g0
  have one : (Lc.drop 0).take 1 = Lc := by
    rw [List.drop_zero, List.take_of_length_le (by omega)]
  rw [one] at g0
  have fin : ∀ A n c, Lc = [.slice A n c] → Value.agg cs = tileV A n c := fun A n c e => by
    unfold tileV
    congr 1
    apply Array.toList_inj.1
    rw [← hL, e]
  rcases Go.Deep.open_slice Tryd.underlying34 g0 with ⟨hcs', _⟩ | ⟨x, l, c, m, n, D, Pl, hcs', _, hl', hcap, hm, _, hx⟩
  · exact ⟨none, 0, 0, [], [], fin _ _ _ hcs', ⟨rfl, fun h0 => absurd h0 (Nat.lt_irrefl _)⟩, rfl, fun p x t hx => by cases hx⟩
  · simp at hm
    rw [cells33b] at hx
    obtain ⟨b1, off, spot⟩ := x
    have each : ∀ i, i < l → ∃ z : (Option Addr × Nat × Nat) × List (List Int), W.cell? (((⟨b1, off, spot⟩ : Addr).add (i * 1)).add 0) = some (.slice z.1.1 z.1.2.1 z.1.2.2) ∧ Bs W z.1.1 z.1.2.1 z.2 ∧ z.1.2.1 ≤ z.1.2.2 ∧ z.1.2.2 ≤ maxLen ∧ (z.1.1 = none → z.1.2.2 = 0) := by
      intro i hi
      obtain ⟨cs2, h1, h2⟩ := hx i (by omega)
      obtain ⟨A, n', c', t, rfl, hbs, h3, h4, h5⟩ := bs_cells h2
      refine ⟨((A, n', c'), t), ?_, hbs, h3, h4, h5⟩
      obtain ⟨_, _, h6⟩ := World.cells?_some h1
      have := h6 0 (by omega)
      rw [this]
      rfl
    obtain ⟨z, hz⟩ := Go.Deep.choose_lt each
    refine ⟨some ⟨b1, off, spot⟩, l, c, (List.range l).map fun i => (z i).1, (List.range l).map fun i => (z i).2, fin _ _ _ hcs', ⟨by simp, fun h0 => ?_⟩, by simp, fun p x t hx ht => ?_⟩
    · have h1 := (hz 0 h0).1
      have hs : spot = none := by simpa [Addr.add] using World.cell?_spot h1
      subst hs
      rw [plain_add, plain_add] at h1
      refine ⟨b1, off, rfl, World.block_lt_of_cell? W _ h1, fun p x hx => ?_⟩
      have hp : p < l := by
        have := (List.getElem?_eq_some_iff.1 hx).1
        simpa using this
      rw [List.getElem?_map, List.getElem?_range hp] at hx
      cases hx
      have h2 := (hz p hp).1
      rw [plain_add, plain_add, Nat.mul_one, Nat.add_zero] at h2
      exact h2
    · have hp : p < l := by
        have := (List.getElem?_eq_some_iff.1 hx).1
        simpa using this
      rw [List.getElem?_map, List.getElem?_range hp] at hx ht
      cases hx
      cases ht
      exact (hz p hp).2
theorem okWide_array2 {P : Program} {w : World} {r : Reach} {base : Nat} {t : TypeId} {v : Value} {n : Nat} {e : TypeId} (ht : P.underlying t = some (.array n e)) (h : Value.okWide P w r base t v) : ∃ cs, v = .agg cs ∧ cs.size = P.cellsOf t := by
  simp only [Value.okWide, ht] at h
  obtain ⟨cs, h1, h2, _⟩ := h
  exact ⟨cs, h1, h2⟩

theorem cq3 : Tryd.prog.cellsOf 3 = 1 := by kernel_rfl
theorem cq4 : Tryd.prog.cellsOf 4 = 1 := by kernel_rfl
theorem cq24 : Tryd.prog.cellsOf 24 = 64 := by kernel_rfl
theorem cq25 : Tryd.prog.cellsOf 25 = 64 := by kernel_rfl
theorem cq26 : Tryd.prog.cellsOf 26 = 128 := by kernel_rfl
theorem cq27 : Tryd.prog.cellsOf 27 = 16 := by kernel_rfl
theorem cq28 : Tryd.prog.cellsOf 28 = 1 := by kernel_rfl
theorem cq30 : Tryd.prog.cellsOf 30 = 17 := by kernel_rfl
theorem cq31 : Tryd.prog.cellsOf 31 = 34 := by kernel_rfl
theorem cq33 : Tryd.prog.cellsOf 33 = 196 := by kernel_rfl
/-- the one variable that the rows list -/
def laid1 : List (String × DataW Unit) := [("clerestory/coef.zigzag", Rows.laid_clerestory_coef_zigzag)]
theorem g_zz : Tryd.prog.globalNamed "clerestory/coef.zigzag" = some 0 := by kernel_rfl
theorem t_zz : (Tryd.prog.globals[0]?).map (·.type) = some 24 := by kernel_rfl

theorem door_met (os : Os) (args : Array Value) : laidMetH Tryd.prog laid1 ((World.doorLaid Tryd.prog 14 os).forCall (fun _ _ => 0) ⟨#[], args, []⟩).memory :=
  laidMetH_of_parts3 (fuel := 8) (laidMet_of_run' 8 (by kernel_rfl) (by kernel_rfl)) (by kernel_rfl) (by kernel_rfl)

theorem tab_of_laid {W : World} (h : laidMetH Tryd.prog laid1 W) : Tab W := by
  rw [MakeChecks.laidMetH_plain _ _ _ (by kernel_rfl)] at h
  have hT : Lib.TabIs Tryd.prog W "clerestory/coef.zigzag" .i64 zz := Lib.tabIs_of_head (rest := []) g_zz t_zz Tryd.underlying24 Tryd.underlying3 cq3 cq24 h
  intro i hi
  rw [hT.cell g_zz i hi]

theorem fit_of_wf {zs : List Int} (h : ∀ n ∈ zs, (Lit.int .u8 n).wf = true) : Fit zs := by
  intro z hz
  have := h z hz
  simpa [Lit.wf, IntKind.min, IntKind.max, IntKind.signed, IntKind.bits] using this
theorem wf_u8 {n : Int} (h : (Lit.int .u8 n).wf = true) : 0 ≤ n ∧ n ≤ 255 := by
  simpa [Lit.wf, IntKind.min, IntKind.max, IntKind.signed, IntKind.bits] using h

theorem sl_of_row {W : World} {x : Addr} {len cap : Nat} {zs : List Int} (hl : len ≤ cap) (hm : cap ≤ maxLen) (hz : zs.length = cap) (hcell : ∀ i, i < zs.length → W.cell? (x.add i) = some (.int .u8 (zs.getD i 0)))
    (hwz : ∀ n ∈ zs, (Lit.int .u8 n).wf = true) : Sl W (fun _ => True) (some x) len cap (zs.take len) := by
  have hlen : (zs.take len).length = len := by rw [List.length_take]; omega
  refine ⟨⟨(fit_of_wf hwz).take len, fun h0 => ?_⟩, hlen, hl, hm, fun e => by cases e⟩
  rw [hlen] at h0
  obtain ⟨b, off, spot⟩ := x
  have h1 := hcell 0 (by omega)
  have hs : spot = none := by simpa [Addr.add] using World.cell?_spot h1
  subst hs
  refine ⟨b, off, rfl, ?_, trivial, fun i hi => ?_⟩
  · exact World.block_lt_of_cell? W ⟨b, off, none⟩ (by simpa [Addr.add] using h1)
  · have h2 := hcell i (by omega)
    rw [plain_add] at h2
    rw [h2]
    simp only [List.getD_eq_getElem?_getD]
    rw [List.getElem?_take_of_lt (by omega)]

theorem sl_of_trod {H : Type} {enc : TypeId × Value → H} {W : World} {a : Option Addr} {len cap : Nat} {d : DataW H} {p : List MemPlace} {b : Nat} {sp : Bool}
    (h : DataW.Trod enc Tryd.prog W b (fun _ => true) sp 41 (.slice a len cap) d p) : ∃ l, Sl W (fun _ => True) a len cap l := by
  obtain ⟨fuel, hf⟩ := h
  rcases open_ints Tryd.underlying41 Tryd.underlying5 (by kernel_rfl) hf with ⟨hcs, _⟩ | ⟨x, l, c, zs, hcs, _, hl, hm, hz, _, hcell, hwz⟩
  · simp [Value.cells] at hcs
    obtain ⟨rfl, rfl, rfl⟩ := hcs
    exact ⟨[], ⟨⟨(fun z hz => by cases hz), fun h0 => absurd h0 (by simp)⟩, rfl, Nat.le_refl _, Nat.zero_le _, fun _ => rfl⟩⟩
  · simp [Value.cells] at hcs
    obtain ⟨rfl, rfl, rfl⟩ := hcs
    exact ⟨_, sl_of_row hl hm (by simpa using hz) hcell hwz⟩

theorem il_of_row {W : World} {x : Addr} {len cap : Nat} {zs : List Int} (hl : len ≤ cap) (hm : cap ≤ maxLen) (hz : zs.length = cap) (h0 : 0 < len) (hcell : ∀ i, i < zs.length → W.cell? (x.add i) = some (.int .i64 (zs.getD i 0))) :
    Ia W (some x) len cap (zs.take len) := by
  obtain ⟨b, off, spot⟩ := x
  have h1 := hcell 0 (by omega)
  have hs : spot = none := by simpa [Addr.add] using World.cell?_spot h1
  subst hs
  refine ⟨by rw [List.length_take]; omega, hl, hm, (fun e => by cases e), fun _ => ⟨b, off, rfl, ?_, fun i hi => ?_⟩⟩
  · exact World.block_lt_of_cell? W ⟨b, off, none⟩ (by simpa [Addr.add] using h1)
  · have h2 := hcell i (by omega)
    rw [plain_add] at h2
    rw [h2]
    simp only [List.getD_eq_getElem?_getD]
    rw [List.getElem?_take_of_lt (by omega)]

theorem ia_nil (W : World) : Ia W none 0 0 [] := ⟨rfl, Nat.le_refl _, Nat.zero_le _, fun _ => rfl, fun h => absurd h (by omega)⟩
theorem ia_of_ints {H : Type} {enc : TypeId × Value → H} {W : World} {fuel : Nat} {cs : List Value} {x : DataW H × List MemPlace} {b : Nat} {sp : Bool}
    (h : DataW.trod enc Tryd.prog W b (fun _ => true) sp fuel 28 cs = some x) : ∃ A n c V, cs = [.slice A n c] ∧ Ia W A n c V := by
  rcases open_ints Tryd.underlying28 Tryd.underlying3 (by kernel_rfl) h with ⟨hcs, _⟩ | ⟨y, l, c, zs, hcs, _, hl, hm, hz, _, hcell, _⟩
  · exact ⟨_, _, _, [], hcs, ia_nil W⟩
  · rcases Nat.eq_zero_or_pos l with h0 | h0
    · subst h0
      exact ⟨_, _, _, [], hcs, rfl, Nat.zero_le _, hm, (fun e => by cases e), fun h => absurd h (by omega)⟩
    · exact ⟨_, _, _, _, hcs, il_of_row hl hm (by simpa using hz) h0 hcell⟩
section
variable {H : Type} {enc : TypeId × Value → H} {W : World} {b : Nat} {hl : Bool} {fuel : Nat} {L : List Value} {x : DataW H × List MemPlace}
/-- a part's cell -/
theorem part_at {L R : List Value} {k n i : Nat} (h : (L.drop k).take n = R) (hi : i < n) : L[k + i]? = R[i]? := by
  rw [← h, List.getElem?_take_of_lt hi, List.getElem?_drop]
theorem part_part (L : List Value) (k n j m : Nat) (h : j + m ≤ n) : (((L.drop k).take n).drop j).take m = (L.drop (k + j)).take m := by
  apply List.ext_getElem?
  intro i
  by_cases hi : i < m
  · rw [List.getElem?_take_of_lt hi, List.getElem?_drop, List.getElem?_take_of_lt (by omega), List.getElem?_drop, List.getElem?_take_of_lt hi, List.getElem?_drop, Nat.add_assoc]
  · rw [List.getElem?_eq_none (by rw [List.length_take]; omega), List.getElem?_eq_none (by rw [List.length_take]; omega)]
theorem arr_part {t e : TypeId} {n c : Nat} (ht : Tryd.prog.underlying t = some (.array n e)) (hc : Tryd.prog.cellsOf e = c) (h : DataW.trod enc Tryd.prog W b (fun _ => true) hl fuel t L = some x) {i : Nat} (hi : i < n) :
    ∃ m y, DataW.trod enc Tryd.prog W b (fun _ => true) hl m e ((L.drop (i * c)).take c) = some y := by
  obtain ⟨ys, m, _, _, _, hyl, hy⟩ := DataW.trod_array ht h
  have h1 := hy i hi
  rw [hc, List.getElem?_eq_getElem (show i < ys.length by omega)] at h1
  exact ⟨m, _, h1⟩
/-- a row of 17 cells that reads as a specification -/
theorem spec_cells (h : DataW.trod enc Tryd.prog W b (fun _ => true) hl fuel 30 L = some x) : ∃ s : List Int × List Int × Option Addr × Nat × Nat, L = cellsI s.1 ++ [.slice s.2.2.1 s.2.2.2.1 s.2.2.2.2] ∧ s.1.length = 16 ∧ Ia W s.2.2.1 s.2.2.2.1 s.2.2.2.2 s.2.1 := by
  obtain ⟨hlen, hg⟩ := fld_part Tryd.underlying30 h
  rw [cq30] at hlen
  obtain ⟨m0, y0, g0⟩ := hg 0 _ rfl
  obtain ⟨m1, y1, g1⟩ := hg 1 _ rfl
  change DataW.trod enc Tryd.prog W b (fun _ => true) hl m0 27 ((L.drop 0).take (Tryd.prog.cellsOf 27)) = some y0 at g0
  change DataW.trod enc Tryd.prog W b (fun _ => true) hl m1 28 ((L.drop 16).take (Tryd.prog.cellsOf 28)) = some y1 at g1
  rw [cq27] at g0
  rw [cq28] at g1
  obtain ⟨A, n, c, V, e1, hI⟩ := ia_of_ints g1
  have each : ∀ i, i < 16 → ∃ q : Int, L[i]? = some (.int .i64 q) := by
    intro i hi
    obtain ⟨m, y, g⟩ := arr_part Tryd.underlying27 cq3 g0 hi
    rw [part_part _ _ _ _ _ (by omega), Nat.mul_one, Nat.zero_add] at g
    exact int_part g
  obtain ⟨q, hq⟩ := Go.Deep.choose_lt each
  refine ⟨((List.range 16).map q, V, A, n, c), ?_, by simp, hI⟩
  apply List.ext_getElem?
  intro i
  dsimp only
  by_cases hi : i < 16
  · rw [hq i hi, List.getElem?_append_left (by simp [cellsI]; omega)]
    simp [cellsI, hi]
  · by_cases h17 : i = 16
    · subst h17
      rw [part_one e1, List.getElem?_append_right (by simp [cellsI])]
      simp [cellsI]
    · rw [List.getElem?_eq_none (by omega), List.getElem?_eq_none (by simp [cellsI]; omega)]
/-- a row of 196 cells that reads as tables -/
theorem tables_cells (h : DataW.trod enc Tryd.prog W b (fun _ => true) hl fuel 33 L = some x) :
    ∃ T X, L = tbC T X ∧ Wt T ∧ (∀ j, (X j).oneCell' = true) ∧ ∀ j, j < 4 → ∃ A n c, X j = .slice A n c ∧ Ia W A n c (T.V j) := by
  obtain ⟨hlen, hg⟩ := fld_part Tryd.underlying33 h
  rw [cq33] at hlen
  obtain ⟨m0, y0, g0⟩ := hg 0 _ rfl
  obtain ⟨m1, y1, g1⟩ := hg 1 _ rfl
  obtain ⟨m2, y2, g2⟩ := hg 2 _ rfl
  change DataW.trod enc Tryd.prog W b (fun _ => true) hl m0 26 ((L.drop 0).take (Tryd.prog.cellsOf 26)) = some y0 at g0
  change DataW.trod enc Tryd.prog W b (fun _ => true) hl m1 31 ((L.drop 128).take (Tryd.prog.cellsOf 31)) = some y1 at g1
  change DataW.trod enc Tryd.prog W b (fun _ => true) hl m2 31 ((L.drop 162).take (Tryd.prog.cellsOf 31)) = some y2 at g2
  rw [cq26] at g0
  rw [cq31] at g1 g2
  have st : ∀ i, i < 2 → ∃ z : List Int, z.length = 64 ∧ (L.drop (64 * i)).take 64 = cellsI z := by
    intro i hi
    obtain ⟨m, y, g⟩ := arr_part Tryd.underlying26 cq25 g0 hi
    rw [part_part _ _ _ _ _ (by omega), Nat.zero_add, Nat.mul_comm] at g
    exact block_cells g
  have sp : ∀ j, j < 4 → ∃ s : List Int × List Int × Option Addr × Nat × Nat, (L.drop (128 + 17 * j)).take 17 = cellsI s.1 ++ [.slice s.2.2.1 s.2.2.2.1 s.2.2.2.2] ∧ s.1.length = 16 ∧ Ia W s.2.2.1 s.2.2.2.1 s.2.2.2.2 s.2.1 := by
    intro j hj
    by_cases h2 : j < 2
    · obtain ⟨m, y, g⟩ := arr_part Tryd.underlying31 cq30 g1 h2
      rw [part_part _ _ _ _ _ (by omega), Nat.mul_comm j 17] at g
      exact spec_cells g
    · obtain ⟨m, y, g⟩ := arr_part Tryd.underlying31 cq30 g2 (show j - 2 < 2 by omega)
      rw [part_part _ _ _ _ _ (by omega), show 162 + (j - 2) * 17 = 128 + 17 * j by omega] at g
      exact spec_cells g
  obtain ⟨t, ht⟩ := Go.Deep.choose_lt st
  obtain ⟨s, hs⟩ := Go.Deep.choose_lt sp
  refine ⟨⟨t, fun j => (s j).1, fun j => (s j).2.1⟩, fun j => .slice (s j).2.2.1 (s j).2.2.2.1 (s j).2.2.2.2, ?_, ⟨fun i hi => (ht i hi).1, fun j hj => (hs j hj).2.1⟩, fun j => rfl, fun j hj => ⟨_, _, _, rfl, (hs j hj).2.2⟩⟩
  apply List.ext_getElem?
  intro k
  by_cases hk : k < 196
  · rw [tbC_get _ _ hk]
    unfold tbAt
    by_cases h1 : k < 128
    · rw [if_pos h1]
      have := part_at (ht (k / 64) (by omega)).2 (show k % 64 < 64 by omega)
      rw [show 64 * (k / 64) + k % 64 = k by omega] at this
      rw [this]
      have hl := (ht (k / 64) (by omega)).1
      simp [cellsI, List.getD_eq_getElem?_getD, List.getElem?_eq_getElem (show k % 64 < (t (k / 64)).length by omega)]
    · rw [if_neg h1]
      have hj : (k - 128) / 17 < 4 := by omega
      obtain ⟨e1, e2, _⟩ := hs _ hj
      have := part_at e1 (show (k - 128) % 17 < 17 by omega)
      rw [show 128 + 17 * ((k - 128) / 17) + (k - 128) % 17 = k by omega] at this
      rw [this]
      by_cases h16 : (k - 128) % 17 < 16
      · rw [if_pos h16, List.getElem?_append_left (by rw [cellsI_len]; omega)]
        simp [cellsI, List.getD_eq_getElem?_getD, List.getElem?_eq_getElem (show (k - 128) % 17 < (s ((k - 128) / 17)).1.length by omega)]
      · rw [if_neg h16, List.getElem?_append_right (by rw [cellsI_len]; omega), cellsI_len, e2, show (k - 128) % 17 - 16 = 0 by omega]
        rfl
  · rw [List.getElem?_eq_none (by omega), List.getElem?_eq_none (by rw [tbC_len]; omega)]
/-- a row of 128 cells that reads as two blocks -/
theorem two_cells (h : DataW.trod enc Tryd.prog W b (fun _ => true) hl fuel 26 L = some x) : ∃ s : Nat → List Int, L = twoC s ∧ ∀ i, i < 2 → (s i).length = 64 := by
  obtain ⟨ys, m0, _, _, hlen, _, _⟩ := DataW.trod_array Tryd.underlying26 h
  rw [cq26] at hlen
  have st : ∀ i, i < 2 → ∃ z : List Int, z.length = 64 ∧ (L.drop (64 * i)).take 64 = cellsI z := by
    intro i hi
    obtain ⟨m, y, g⟩ := arr_part Tryd.underlying26 cq25 h hi
    rw [Nat.mul_comm] at g
    exact block_cells g
  obtain ⟨t, ht⟩ := Go.Deep.choose_lt st
  refine ⟨t, ?_, fun i hi => (ht i hi).1⟩
  have h0 := (ht 0 (by omega)).2
  have h1 := (ht 1 (by omega)).2
  rw [Nat.mul_zero, List.drop_zero] at h0
  rw [Nat.mul_one] at h1
  have h2 : (L.drop 64).take 64 = L.drop 64 := List.take_of_length_le (by rw [List.length_drop]; omega)
  rw [h2] at h1
  unfold twoC
  rw [← h0, ← h1, List.take_append_drop]
end
set_option maxRecDepth 20000 in
theorem tables_value {H : Type} {enc : TypeId × Value → H} {W : World} {b b0 : Nat} {r : Reach} {hl : Bool} {v : Value} {d : DataW H} {p : List MemPlace} (hv : Value.okWide Tryd.prog W r b0 33 v)
    (h : DataW.Trod enc Tryd.prog W b (fun _ => true) hl 33 v d p) : ∃ T X, v = tbV T X ∧ Wt T ∧ (∀ j, (X j).oneCell' = true) ∧ ∀ j, j < 4 → ∃ A n c, X j = .slice A n c ∧ Ia W A n c (T.V j) := by
  obtain ⟨cs, rfl, _⟩ := okWide_struct Tryd.underlying33 hv
  obtain ⟨fuel, hf⟩ := h
  obtain ⟨T, X, e, h1, h2, h3⟩ := tables_cells hf
  refine ⟨T, X, ?_, h1, h2, h3⟩
  unfold tbV
  congr 1
  apply Array.toList_inj.1
  exact e

set_option maxRecDepth 20000 in
theorem two_value {H : Type} {enc : TypeId × Value → H} {W : World} {b b0 : Nat} {r : Reach} {hl : Bool} {v : Value} {d : DataW H} {p : List MemPlace} (hv : Value.okWide Tryd.prog W r b0 26 v)
    (h : DataW.Trod enc Tryd.prog W b (fun _ => true) hl 26 v d p) : ∃ s, v = .agg (twoC s).toArray ∧ ∀ i, i < 2 → (s i).length = 64 := by
  obtain ⟨cs, rfl, _⟩ := okWide_array2 Tryd.underlying26 hv
  obtain ⟨fuel, hf⟩ := h
  obtain ⟨s, e, hs⟩ := two_cells hf
  refine ⟨s, ?_, hs⟩
  congr 1
  apply Array.toList_inj.1
  exact e
/-- tables of noughts: a witness -/
def tz : Tbs := ⟨fun _ => List.replicate 64 0, fun _ => List.replicate 16 0, fun _ => []⟩
def xz : Nat → Value := fun _ => .slice none 0 0
end Go.Proofs.YtdnjnbfmmgkpjaaDoor
