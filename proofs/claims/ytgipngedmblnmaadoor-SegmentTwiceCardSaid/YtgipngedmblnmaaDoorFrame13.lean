/-
  From what the listed variable reads as, and from an argument's reading, to what the walks of layer 13 ask.
-/
import Derived.Test.YtgipngedmblnmaaDoorLAwake
import Derived.Test.YtgipngedmblnmaaDoorTie
import Derived.Test.YtgipngedmblnmaaDoorCards
import Derived.ProofKit
import Derived.OpenShut
import Derived.ShutString
import Derived.ChangeOld
import Derived.ChangeArms
import Derived.Deep.SlicePairs
import Derived.SizedLaws
import Derived.Carry
import Derived.LaidMore
import Derived.Stop.Joined
import Derived.Lib.LaidTab
import Derived.SevenTiedAt
namespace Go.Proofs.YtgipngedmblnmaaDoor
open Go.ChangeShapes Go.WideShapes Go.ChangeAt Go.RowKit

theorem own_knob : ownKnob Tryd.prog.godebug = none := by kernel_rfl
theorem laid_out : laidOutB Tryd.prog = true := by kernel_rfl
theorem cells3' : Tryd.prog.cellsOf 3 = 1 := by kernel_rfl
theorem cells4' : Tryd.prog.cellsOf 4 = 1 := by kernel_rfl
theorem cells22' : Tryd.prog.cellsOf 22 = 64 := by kernel_rfl
theorem cells23' : Tryd.prog.cellsOf 23 = 64 := by kernel_rfl
theorem cells24' : Tryd.prog.cellsOf 24 = 128 := by kernel_rfl
theorem cells25' : Tryd.prog.cellsOf 25 = 16 := by kernel_rfl
theorem cells26' : Tryd.prog.cellsOf 26 = 1 := by kernel_rfl
theorem cells28' : Tryd.prog.cellsOf 28 = 17 := by kernel_rfl
theorem cells29' : Tryd.prog.cellsOf 29 = 34 := by kernel_rfl
theorem cells31' : Tryd.prog.cellsOf 31 = 196 := by kernel_rfl
theorem cells33' : Tryd.prog.cellsOf 33 = 4 := by kernel_rfl
theorem cells44' : Tryd.prog.cellsOf 44 = 2 := by kernel_rfl
theorem cells46' : Tryd.prog.cellsOf 46 = 210 := by kernel_rfl
/-- the one variable that the rows list -/
def laid1 : List (String × DataW Unit) := [("clerestory/coef.zigzag", Rows.laid_clerestory_coef_zigzag)]
theorem g_zz : Tryd.prog.globalNamed "clerestory/coef.zigzag" = some 0 := by kernel_rfl
theorem t_zz : (Tryd.prog.globals[0]?).map (·.type) = some 22 := by kernel_rfl

theorem door_met (os : Os) (args : Array Value) : laidMetH Tryd.prog laid1 ((World.doorLaid Tryd.prog 14 os).forCall (fun _ _ => 0) ⟨#[], args, []⟩).memory :=
  laidMetH_of_parts3 (fuel := 8) (laidMet_of_run' 8 (by kernel_rfl) (by kernel_rfl)) (by kernel_rfl) (by kernel_rfl)

theorem tab_of_laid {W : World} (h : laidMetH Tryd.prog laid1 W) : Tab W := by
  rw [MakeChecks.laidMetH_plain _ _ _ (by kernel_rfl)] at h
  have hT : Lib.TabIs Tryd.prog W "clerestory/coef.zigzag" .i64 zz := Lib.tabIs_of_head (rest := []) g_zz t_zz Tryd.underlying22 Tryd.underlying3 cells3' cells22' h
  intro i hi
  rw [hT.cell g_zz i hi]

theorem fit_of_wf {zs : List Int} (h : ∀ n ∈ zs, (Lit.int .u8 n).wf = true) : Fit zs := by
  intro z hz
  have := h z hz
  simpa [Lit.wf, IntKind.min, IntKind.max, IntKind.signed, IntKind.bits] using this
theorem wf_u8 {n : Int} (h : (Lit.int .u8 n).wf = true) : 0 ≤ n ∧ n ≤ 255 := by
  simpa [Lit.wf, IntKind.min, IntKind.max, IntKind.signed, IntKind.bits] using h

theorem sl_of_row {W : World} {x : Addr} {len cap : Nat} {zs : List Int} (hl : len ≤ cap) (hm : cap ≤ maxLen) (hz : zs.length = cap) (hcell : ∀ i, i < zs.length → W.cell? (x.add i) = some (.int .u8 (zs.getD i 0)))
    (hwz : ∀ n ∈ zs, (Lit.int .u8 n).wf = true) : Sl W (fun _ => True) (some x) len cap (zs.take len) := by
  have hlen : (zs.take len).length = len := by rw [List.length_take]; omega
  refine ⟨⟨(fit_of_wf hwz).take len, fun h0 => ?_⟩, hlen, hl, hm, fun e => by cases e⟩
  rw [hlen] at h0
  obtain ⟨b, off, spot⟩ := x
  have h1 := hcell 0 (by omega)
  have hs : spot = none := by simpa [Addr.add] using World.cell?_spot h1
  subst hs
  refine ⟨b, off, rfl, ?_, trivial, fun i hi => ?_⟩
  · exact World.block_lt_of_cell? W ⟨b, off, none⟩ (by simpa [Addr.add] using h1)
  · have h2 := hcell i (by omega)
    rw [plain_add] at h2
    rw [h2]
    simp only [List.getD_eq_getElem?_getD]
    rw [List.getElem?_take_of_lt (by omega)]

theorem sl_of_trod {H : Type} {enc : TypeId × Value → H} {W : World} {a : Option Addr} {len cap : Nat} {d : DataW H} {p : List MemPlace} {b : Nat} {sp : Bool}
    (h : DataW.Trod enc Tryd.prog W b (fun _ => true) sp 37 (.slice a len cap) d p) : ∃ l, Sl W (fun _ => True) a len cap l := by
  obtain ⟨fuel, hf⟩ := h
  rcases open_ints Tryd.underlying37 Tryd.underlying5 (by kernel_rfl) hf with ⟨hcs, _⟩ | ⟨x, l, c, zs, hcs, _, hl, hm, hz, _, hcell, hwz⟩
  · simp [Value.cells] at hcs
    obtain ⟨rfl, rfl, rfl⟩ := hcs
    exact ⟨[], ⟨⟨(fun z hz => by cases hz), fun h0 => absurd h0 (by simp)⟩, rfl, Nat.le_refl _, Nat.zero_le _, fun _ => rfl⟩⟩
  · simp [Value.cells] at hcs
    obtain ⟨rfl, rfl, rfl⟩ := hcs
    exact ⟨_, sl_of_row hl hm (by simpa using hz) hcell hwz⟩

theorem il_of_row {W : World} {x : Addr} {len cap : Nat} {zs : List Int} (hl : len ≤ cap) (hm : cap ≤ maxLen) (hz : zs.length = cap) (h0 : 0 < len) (hcell : ∀ i, i < zs.length → W.cell? (x.add i) = some (.int .i64 (zs.getD i 0))) :
    Ia W (some x) len cap (zs.take len) := by
  obtain ⟨b, off, spot⟩ := x
  have h1 := hcell 0 (by omega)
  have hs : spot = none := by simpa [Addr.add] using World.cell?_spot h1
  subst hs
  refine ⟨by rw [List.length_take]; omega, hl, hm, (fun e => by cases e), fun _ => ⟨b, off, rfl, ?_, fun i hi => ?_⟩⟩
  · exact World.block_lt_of_cell? W ⟨b, off, none⟩ (by simpa [Addr.add] using h1)
  · have h2 := hcell i (by omega)
    rw [plain_add] at h2
    rw [h2]
    simp only [List.getD_eq_getElem?_getD]
    rw [List.getElem?_take_of_lt (by omega)]

theorem ia_nil (W : World) : Ia W none 0 0 [] := ⟨rfl, Nat.le_refl _, Nat.zero_le _, fun _ => rfl, fun h => absurd h (by omega)⟩
theorem ia_of_ints {H : Type} {enc : TypeId × Value → H} {W : World} {fuel : Nat} {cs : List Value} {x : DataW H × List MemPlace} {b : Nat} {sp : Bool}
    (h : DataW.trod enc Tryd.prog W b (fun _ => true) sp fuel 26 cs = some x) : ∃ A n c V, cs = [.slice A n c] ∧ Ia W A n c V := by
  rcases open_ints Tryd.underlying26 Tryd.underlying3 (by kernel_rfl) h with ⟨hcs, _⟩ | ⟨y, l, c, zs, hcs, _, hl, hm, hz, _, hcell, _⟩
  · exact ⟨_, _, _, [], hcs, ia_nil W⟩
  · rcases Nat.eq_zero_or_pos l with h0 | h0
    · subst h0
      exact ⟨_, _, _, [], hcs, rfl, Nat.zero_le _, hm, (fun e => by cases e), fun h => absurd h (by omega)⟩
    · exact ⟨_, _, _, _, hcs, il_of_row hl hm (by simpa using hz) h0 hcell⟩
theorem ia_of_trod {H : Type} {enc : TypeId × Value → H} {W : World} {a : Option Addr} {len cap : Nat} {d : DataW H} {p : List MemPlace} {b : Nat} {sp : Bool}
    (h : DataW.Trod enc Tryd.prog W b (fun _ => true) sp 26 (.slice a len cap) d p) : ∃ l, Ia W a len cap l := by
  obtain ⟨fuel, hf⟩ := h
  obtain ⟨A, n, c, V, hcs, hI⟩ := ia_of_ints hf
  simp [Value.cells] at hcs
  obtain ⟨rfl, rfl, rfl⟩ := hcs
  exact ⟨V, hI⟩

theorem okWide_array {P : Program} {w : World} {r : Reach} {base : Nat} {t : TypeId} {v : Value} {n : Nat} {e : TypeId} (ht : P.underlying t = some (.array n e)) (h : Value.okWide P w r base t v) : ∃ cs, v = .agg cs ∧ cs.size = P.cellsOf t := by
  simp only [Value.okWide, ht] at h
  obtain ⟨cs, h1, h2, _⟩ := h
  exact ⟨cs, h1, h2⟩

/-- a row of 64 cells that reads as a block -/
theorem block_cells {H : Type} {enc : TypeId × Value → H} {W : World} {b : Nat} {hl : Bool} {fuel : Nat} {L : List Value} {x : DataW H × List MemPlace}
    (h : DataW.trod enc Tryd.prog W b (fun _ => true) hl fuel 23 L = some x) : ∃ z : List Int, z.length = 64 ∧ L = cellsI z := by
  obtain ⟨ys, m, _, _, hlen, hyl, hy⟩ := DataW.trod_array Tryd.underlying23 h
  rw [cells23'] at hlen
  have each : ∀ i, i < 64 → ∃ q : Int, L[i]? = some (.int .i64 q) := by
    intro i hi
    have h1 := hy i hi
    rw [cells3', Nat.mul_one, List.getElem?_eq_getElem (show i < ys.length by omega)] at h1
    obtain ⟨q, e, _⟩ := DataW.trod_int Tryd.underlying3 h1
    refine ⟨q, ?_⟩
    have h2 : (L.drop i).take 1 = [L[i]'(by omega)] := by
      rw [List.drop_eq_getElem_cons (by omega), List.take_succ_cons, List.take_zero]
    rw [h2] at e
    rw [List.getElem?_eq_getElem (by omega)]
    exact congrArg some (List.cons.inj e).1
  obtain ⟨q, hq⟩ := Go.Deep.choose_lt each
  refine ⟨(List.range 64).map q, by simp, ?_⟩
  apply List.ext_getElem?
  intro i
  by_cases hi : i < 64
  · rw [hq i hi]
    simp [cellsI, hi]
  · rw [List.getElem?_eq_none (by omega), List.getElem?_eq_none (by simp [cellsI]; omega)]

theorem okWide_struct {P : Program} {w : World} {r : Reach} {base : Nat} {t : TypeId} {v : Value} {fs : Array Field} (ht : P.underlying t = some (.struct fs)) (h : Value.okWide P w r base t v) : ∃ cs, v = .agg cs ∧ cs.size = P.cellsOf t := by
  simp only [Value.okWide, ht] at h
  obtain ⟨cs, h1, h2, _⟩ := h
  exact ⟨cs, h1, h2⟩
section
variable {H : Type} {enc : TypeId × Value → H} {W : World} {b : Nat} {hl : Bool} {fuel : Nat} {L : List Value} {x : DataW H × List MemPlace}
/-- a part of one cell -/
theorem part_one {L : List Value} {k : Nat} {v : Value} (h : (L.drop k).take 1 = [v]) : L[k]? = some v := by
  have := congrArg (fun l => l[0]?) h
  simp only [List.getElem?_cons_zero] at this
  rwa [List.getElem?_take_of_lt (by omega), List.getElem?_drop, Nat.add_zero] at this
/-- a part's cell -/
theorem part_at {L R : List Value} {k n i : Nat} (h : (L.drop k).take n = R) (hi : i < n) : L[k + i]? = R[i]? := by
  rw [← h, List.getElem?_take_of_lt hi, List.getElem?_drop]
theorem part_part (L : List Value) (k n j m : Nat) (h : j + m ≤ n) : (((L.drop k).take n).drop j).take m = (L.drop (k + j)).take m := by
  apply List.ext_getElem?
  intro i
  by_cases hi : i < m
  · rw [List.getElem?_take_of_lt hi, List.getElem?_drop, List.getElem?_take_of_lt (by omega), List.getElem?_drop, List.getElem?_take_of_lt hi, List.getElem?_drop, Nat.add_assoc]
  · rw [List.getElem?_eq_none (by rw [List.length_take]; omega), List.getElem?_eq_none (by rw [List.length_take]; omega)]
theorem arr_part {t e : TypeId} {n c : Nat} (ht : Tryd.prog.underlying t = some (.array n e)) (hc : Tryd.prog.cellsOf e = c) (h : DataW.trod enc Tryd.prog W b (fun _ => true) hl fuel t L = some x) {i : Nat} (hi : i < n) :
    ∃ m y, DataW.trod enc Tryd.prog W b (fun _ => true) hl m e ((L.drop (i * c)).take c) = some y := by
  obtain ⟨ys, m, _, _, _, hyl, hy⟩ := DataW.trod_array ht h
  have h1 := hy i hi
  rw [hc, List.getElem?_eq_getElem (show i < ys.length by omega)] at h1
  exact ⟨m, _, h1⟩
theorem fld_part {t : TypeId} {fs : Array Field} (ht : Tryd.prog.underlying t = some (.struct fs)) (h : DataW.trod enc Tryd.prog W b (fun _ => true) hl fuel t L = some x) :
    L.length = Tryd.prog.cellsOf t ∧ ∀ (i : Nat) (f : Field), fs[i]? = some f → ∃ m y, DataW.trod enc Tryd.prog W b (fun _ => true) hl m f.type ((L.drop f.offset).take (Tryd.prog.cellsOf f.type)) = some y := by
  obtain ⟨xs, n, _, _, hlen, hx, hg⟩ := DataW.trod_struct ht h
  refine ⟨hlen, fun i f hf => ?_⟩
  have := (Array.getElem?_eq_some_iff.1 hf).1
  have hh := hg i f hf
  rw [List.getElem?_eq_getElem (show i < xs.length by omega)] at hh
  exact ⟨n, _, hh⟩
theorem int_part {k : Nat} (h : DataW.trod enc Tryd.prog W b (fun _ => true) hl fuel 3 ((L.drop k).take 1) = some x) : ∃ q : Int, L[k]? = some (.int .i64 q) := by
  obtain ⟨q, e, _⟩ := DataW.trod_int Tryd.underlying3 h
  exact ⟨q, part_one e⟩
theorem bool_part {k : Nat} (h : DataW.trod enc Tryd.prog W b (fun _ => true) hl fuel 4 ((L.drop k).take 1) = some x) : ∃ q : Bool, L[k]? = some (.bool q) := by
  obtain ⟨q, e, _⟩ := DataW.trod_bool Tryd.underlying4 h
  exact ⟨q, part_one e⟩
/-- a row of 17 cells that reads as a specification -/
theorem spec_cells (h : DataW.trod enc Tryd.prog W b (fun _ => true) hl fuel 28 L = some x) : ∃ s : List Int × List Int × Option Addr × Nat × Nat, L = cellsI s.1 ++ [.slice s.2.2.1 s.2.2.2.1 s.2.2.2.2] ∧ s.1.length = 16 ∧ Ia W s.2.2.1 s.2.2.2.1 s.2.2.2.2 s.2.1 := by
  obtain ⟨hlen, hg⟩ := fld_part Tryd.underlying28 h
  rw [cells28'] at hlen
  obtain ⟨m0, y0, g0⟩ := hg 0 _ rfl
  obtain ⟨m1, y1, g1⟩ := hg 1 _ rfl
  change DataW.trod enc Tryd.prog W b (fun _ => true) hl m0 25 ((L.drop 0).take (Tryd.prog.cellsOf 25)) = some y0 at g0
  change DataW.trod enc Tryd.prog W b (fun _ => true) hl m1 26 ((L.drop 16).take (Tryd.prog.cellsOf 26)) = some y1 at g1
  rw [cells25'] at g0
  rw [cells26'] at g1
  obtain ⟨A, n, c, V, e1, hI⟩ := ia_of_ints g1
  have each : ∀ i, i < 16 → ∃ q : Int, L[i]? = some (.int .i64 q) := by
    intro i hi
    obtain ⟨m, y, g⟩ := arr_part Tryd.underlying25 cells3' g0 hi
    rw [part_part _ _ _ _ _ (by omega), Nat.mul_one, Nat.zero_add] at g
    exact int_part g
  obtain ⟨q, hq⟩ := Go.Deep.choose_lt each
  refine ⟨((List.range 16).map q, V, A, n, c), ?_, by simp, hI⟩
  apply List.ext_getElem?
  intro i
  dsimp only
  by_cases hi : i < 16
  · rw [hq i hi, List.getElem?_append_left (by simp [cellsI]; omega)]
    simp [cellsI, hi]
  · by_cases h17 : i = 16
    · subst h17
      rw [part_one e1, List.getElem?_append_right (by simp [cellsI])]
      simp [cellsI]
    · rw [List.getElem?_eq_none (by omega), List.getElem?_eq_none (by simp [cellsI]; omega)]
/-- a row of 196 cells that reads as tables -/
theorem tables_cells (h : DataW.trod enc Tryd.prog W b (fun _ => true) hl fuel 31 L = some x) :
    ∃ T X, L = tbC T X ∧ Wt T ∧ (∀ j, (X j).oneCell' = true) ∧ ∀ j, j < 4 → ∃ A n c, X j = .slice A n c ∧ Ia W A n c (T.V j) := by
  obtain ⟨hlen, hg⟩ := fld_part Tryd.underlying31 h
  rw [cells31'] at hlen
  obtain ⟨m0, y0, g0⟩ := hg 0 _ rfl
  obtain ⟨m1, y1, g1⟩ := hg 1 _ rfl
  obtain ⟨m2, y2, g2⟩ := hg 2 _ rfl
  change DataW.trod enc Tryd.prog W b (fun _ => true) hl m0 24 ((L.drop 0).take (Tryd.prog.cellsOf 24)) = some y0 at g0
  change DataW.trod enc Tryd.prog W b (fun _ => true) hl m1 29 ((L.drop 128).take (Tryd.prog.cellsOf 29)) = some y1 at g1
  change DataW.trod enc Tryd.prog W b (fun _ => true) hl m2 29 ((L.drop 162).take (Tryd.prog.cellsOf 29)) = some y2 at g2
  rw [cells24'] at g0
  rw [cells29'] at g1 g2
  have st : ∀ i, i < 2 → ∃ z : List Int, z.length = 64 ∧ (L.drop (64 * i)).take 64 = cellsI z := by
    intro i hi
    obtain ⟨m, y, g⟩ := arr_part Tryd.underlying24 cells23' g0 hi
    rw [part_part _ _ _ _ _ (by omega), Nat.zero_add, Nat.mul_comm] at g
    exact block_cells g
  have sp : ∀ j, j < 4 → ∃ s : List Int × List Int × Option Addr × Nat × Nat, (L.drop (128 + 17 * j)).take 17 = cellsI s.1 ++ [.slice s.2.2.1 s.2.2.2.1 s.2.2.2.2] ∧ s.1.length = 16 ∧ Ia W s.2.2.1 s.2.2.2.1 s.2.2.2.2 s.2.1 := by
    intro j hj
    by_cases h2 : j < 2
    · obtain ⟨m, y, g⟩ := arr_part Tryd.underlying29 cells28' g1 h2
      rw [part_part _ _ _ _ _ (by omega), Nat.mul_comm j 17] at g
      exact spec_cells g
    · obtain ⟨m, y, g⟩ := arr_part Tryd.underlying29 cells28' g2 (show j - 2 < 2 by omega)
      rw [part_part _ _ _ _ _ (by omega), show 162 + (j - 2) * 17 = 128 + 17 * j by omega] at g
      exact spec_cells g
  obtain ⟨t, ht⟩ := Go.Deep.choose_lt st
  obtain ⟨s, hs⟩ := Go.Deep.choose_lt sp
  refine ⟨⟨t, fun j => (s j).1, fun j => (s j).2.1⟩, fun j => .slice (s j).2.2.1 (s j).2.2.2.1 (s j).2.2.2.2, ?_, ⟨fun i hi => (ht i hi).1, fun j hj => (hs j hj).2.1⟩, fun j => rfl, fun j hj => ⟨_, _, _, rfl, (hs j hj).2.2⟩⟩
  apply List.ext_getElem?
  intro k
  by_cases hk : k < 196
  · rw [tbC_get _ _ hk]
    unfold tbAt
    by_cases h1 : k < 128
    · rw [if_pos h1]
      have := part_at (ht (k / 64) (by omega)).2 (show k % 64 < 64 by omega)
      rw [show 64 * (k / 64) + k % 64 = k by omega] at this
      rw [this]
      have hl := (ht (k / 64) (by omega)).1
      simp [cellsI, List.getD_eq_getElem?_getD, List.getElem?_eq_getElem (show k % 64 < (t (k / 64)).length by omega)]
    · rw [if_neg h1]
      have hj : (k - 128) / 17 < 4 := by omega
      obtain ⟨e1, e2, _⟩ := hs _ hj
      have := part_at e1 (show (k - 128) % 17 < 17 by omega)
      rw [show 128 + 17 * ((k - 128) / 17) + (k - 128) % 17 = k by omega] at this
      rw [this]
      by_cases h16 : (k - 128) % 17 < 16
      · rw [if_pos h16, List.getElem?_append_left (by rw [cellsI_len]; omega)]
        simp [cellsI, List.getD_eq_getElem?_getD, List.getElem?_eq_getElem (show (k - 128) % 17 < (s ((k - 128) / 17)).1.length by omega)]
      · rw [if_neg h16, List.getElem?_append_right (by rw [cellsI_len]; omega), cellsI_len, e2, show (k - 128) % 17 - 16 = 0 by omega]
        rfl
  · rw [List.getElem?_eq_none (by omega), List.getElem?_eq_none (by rw [tbC_len]; omega)]
end
/-- a row of four cells that reads as a scan -/
theorem four_cells {H : Type} {enc : TypeId × Value → H} {W : World} {b : Nat} {hl : Bool} {fuel : Nat} {L : List Value} {x : DataW H × List MemPlace} (h : DataW.trod enc Tryd.prog W b (fun _ => true) hl fuel 33 L = some x) :
    ∃ p : Nat → Int, L.length = 4 ∧ ∀ i, i < 4 → L[i]? = some (.int .i64 (p i)) := by
  obtain ⟨hlen, hg⟩ := fld_part Tryd.underlying33 h
  rw [cells33'] at hlen
  have each : ∀ i, i < 4 → ∃ q : Int, L[i]? = some (.int .i64 q) := by
    intro i hi
    rcases (show i = 0 ∨ i = 1 ∨ i = 2 ∨ i = 3 by omega) with rfl | rfl | rfl | rfl
    · obtain ⟨m, y, g⟩ := hg 0 _ rfl
      change DataW.trod enc Tryd.prog W b (fun _ => true) hl m 3 ((L.drop 0).take (Tryd.prog.cellsOf 3)) = some y at g
      rw [cells3'] at g
      exact int_part g
    · obtain ⟨m, y, g⟩ := hg 1 _ rfl
      change DataW.trod enc Tryd.prog W b (fun _ => true) hl m 3 ((L.drop 1).take (Tryd.prog.cellsOf 3)) = some y at g
      rw [cells3'] at g
      exact int_part g
    · obtain ⟨m, y, g⟩ := hg 2 _ rfl
      change DataW.trod enc Tryd.prog W b (fun _ => true) hl m 3 ((L.drop 2).take (Tryd.prog.cellsOf 3)) = some y at g
      rw [cells3'] at g
      exact int_part g
    · obtain ⟨m, y, g⟩ := hg 3 _ rfl
      change DataW.trod enc Tryd.prog W b (fun _ => true) hl m 3 ((L.drop 3).take (Tryd.prog.cellsOf 3)) = some y at g
      rw [cells3'] at g
      exact int_part g
  obtain ⟨q, hq⟩ := Go.Deep.choose_lt each
  exact ⟨q, hlen, hq⟩
set_option maxRecDepth 20000 in
theorem scan_value {H : Type} {enc : TypeId × Value → H} {W : World} {b b0 : Nat} {r : Reach} {hl : Bool} {v : Value} {d : DataW H} {p : List MemPlace} (hv : Value.okWide Tryd.prog W r b0 33 v)
    (h : DataW.Trod enc Tryd.prog W b (fun _ => true) hl 33 v d p) : ∃ p q s t : Int, v = .agg #[.int .i64 p, .int .i64 q, .int .i64 s, .int .i64 t] := by
  obtain ⟨cs, rfl, _⟩ := okWide_struct Tryd.underlying33 hv
  obtain ⟨fuel, hf⟩ := h
  obtain ⟨p, hl, hp⟩ := four_cells hf
  have hcs : (Value.agg cs).cells.toList = cs.toList := rfl
  rw [hcs] at hl hp
  refine ⟨p 0, p 1, p 2, p 3, ?_⟩
  congr 1
  apply Array.toList_inj.1
  apply List.ext_getElem?
  intro i
  by_cases hi : i < 4
  · rw [hp i hi]
    rcases (show i = 0 ∨ i = 1 ∨ i = 2 ∨ i = 3 by omega) with rfl | rfl | rfl | rfl <;> rfl
  · rw [List.getElem?_eq_none (by omega), List.getElem?_eq_none (by simp; omega)]
set_option maxRecDepth 20000 in
theorem tables_value {H : Type} {enc : TypeId × Value → H} {W : World} {b b0 : Nat} {r : Reach} {hl : Bool} {v : Value} {d : DataW H} {p : List MemPlace} (hv : Value.okWide Tryd.prog W r b0 31 v)
    (h : DataW.Trod enc Tryd.prog W b (fun _ => true) hl 31 v d p) : ∃ T X, v = tbV T X ∧ Wt T ∧ (∀ j, (X j).oneCell' = true) ∧ ∀ j, j < 4 → ∃ A n c, X j = .slice A n c ∧ Ia W A n c (T.V j) := by
  obtain ⟨cs, rfl, _⟩ := okWide_struct Tryd.underlying31 hv
  obtain ⟨fuel, hf⟩ := h
  obtain ⟨T, X, e, h1, h2, h3⟩ := tables_cells hf
  refine ⟨T, X, ?_, h1, h2, h3⟩
  unfold tbV
  congr 1
  apply Array.toList_inj.1
  exact e
set_option maxRecDepth 20000 in
theorem known_value {H : Type} {enc : TypeId × Value → H} {W : World} {b b0 : Nat} {r : Reach} {hl : Bool} {v : Value} {d : DataW H} {p : List MemPlace} (hv : Value.okWide Tryd.prog W r b0 46 v)
    (h : DataW.Trod enc Tryd.prog W b (fun _ => true) hl 46 v d p) : ∃ K X, v = kvV K X ∧ KnR W K X := by
  obtain ⟨cs, rfl, _⟩ := okWide_struct Tryd.underlying46 hv
  obtain ⟨fuel, hf⟩ := h
  have hcs : (Value.agg cs).cells.toList = cs.toList := rfl
  rw [hcs] at hf
  obtain ⟨L, hL⟩ : ∃ L, L = cs.toList := ⟨_, rfl⟩
  rw [← hL] at hf
  obtain ⟨hlen, hg⟩ := fld_part Tryd.underlying46 hf
  rw [cells46'] at hlen
  obtain ⟨m0, y0, g0⟩ := hg 0 _ rfl
  change DataW.trod enc Tryd.prog W b (fun _ => true) hl m0 31 ((L.drop 0).take (Tryd.prog.cellsOf 31)) = some y0 at g0
  rw [cells31'] at g0
  obtain ⟨T, X, e0, h1, h2, h3⟩ := tables_cells g0
  have two : ∀ (i o : Nat) (f : Field), (i, o) ∈ [(1, 196), (2, 198), (3, 200)] → ∀ k, k < 2 → ∃ q : Bool, L[o + k]? = some (.bool q) := by
    intro i o _ hio k hk
    have g : ∃ m y, DataW.trod enc Tryd.prog W b (fun _ => true) hl m 44 ((L.drop o).take (Tryd.prog.cellsOf 44)) = some y := by
      simp only [List.mem_cons, Prod.mk.injEq, List.mem_nil_iff, or_false] at hio
      rcases hio with ⟨rfl, rfl⟩ | ⟨rfl, rfl⟩ | ⟨rfl, rfl⟩
      · exact hg 1 _ rfl
      · exact hg 2 _ rfl
      · exact hg 3 _ rfl
    obtain ⟨m, y, g⟩ := g
    rw [cells44'] at g
    obtain ⟨m', y', g'⟩ := arr_part Tryd.underlying44 cells4' g hk
    rw [part_part _ _ _ _ _ (by omega), Nat.mul_one] at g'
    exact bool_part g'
  have one : ∀ o, (o = 202 ∨ o = 203 ∨ o = 204) → ∃ q : Bool, L[o]? = some (.bool q) := by
    intro o ho
    have g : ∃ m y, DataW.trod enc Tryd.prog W b (fun _ => true) hl m 4 ((L.drop o).take (Tryd.prog.cellsOf 4)) = some y := by
      rcases ho with rfl | rfl | rfl
      · exact hg 4 _ rfl
      · exact hg 5 _ rfl
      · exact hg 6 _ rfl
    obtain ⟨m, y, g⟩ := g
    rw [cells4'] at g
    exact bool_part g
  have fl : ∀ k, k < 9 → ∃ q : Bool, L[196 + k]? = some (.bool q) := by
    intro k hk
    by_cases h6 : k < 6
    · rcases (show k / 2 = 0 ∨ k / 2 = 1 ∨ k / 2 = 2 by omega) with h | h | h
      · have := two 1 196 default (by simp) (k % 2) (by omega)
        rwa [show 196 + k % 2 = 196 + k by omega] at this
      · have := two 2 198 default (by simp) (k % 2) (by omega)
        rwa [show 198 + k % 2 = 196 + k by omega] at this
      · have := two 3 200 default (by simp) (k % 2) (by omega)
        rwa [show 200 + k % 2 = 196 + k by omega] at this
    · exact one _ (by omega)
  have nu : ∀ k, k < 5 → ∃ q : Int, L[205 + k]? = some (.int .i64 q) := by
    intro k hk
    by_cases h4 : k < 4
    · obtain ⟨m, y, g⟩ := hg 7 _ rfl
      change DataW.trod enc Tryd.prog W b (fun _ => true) hl m 33 ((L.drop 205).take (Tryd.prog.cellsOf 33)) = some y at g
      rw [cells33'] at g
      obtain ⟨p, _, hp⟩ := four_cells g
      refine ⟨p k, ?_⟩
      rw [← hp k h4]
      exact part_at rfl h4
    · obtain rfl : k = 4 := by omega
      obtain ⟨m, y, g⟩ := hg 8 _ rfl
      change DataW.trod enc Tryd.prog W b (fun _ => true) hl m 3 ((L.drop 209).take (Tryd.prog.cellsOf 3)) = some y at g
      rw [cells3'] at g
      exact int_part g
  obtain ⟨F, hF⟩ := Go.Deep.choose_lt fl
  obtain ⟨N, hN⟩ := Go.Deep.choose_lt nu
  refine ⟨⟨T, F, N⟩, X, ?_, h1, h2, h3⟩
  unfold kvV
  congr 1
  apply Array.toList_inj.1
  rw [← hL]
  show L = (kvC ⟨T, F, N⟩ X)
  apply List.ext_getElem?
  intro k
  by_cases hk : k < 210
  · rw [kvC_get _ _ hk]
    unfold kvAt
    by_cases h5 : k < 196
    · rw [if_pos h5, ← tbC_get T X h5, ← e0, List.drop_zero, List.getElem?_take_of_lt h5]
    · rw [if_neg h5]
      by_cases h6 : k < 205
      · rw [if_pos h6, ← hF (k - 196) (by omega), show 196 + (k - 196) = k by omega]
      · rw [if_neg h6, ← hN (k - 205) (by omega), show 205 + (k - 205) = k by omega]
  · rw [List.getElem?_eq_none (by omega), List.getElem?_eq_none (by rw [kvC_len]; omega)]
end Go.Proofs.YtgipngedmblnmaaDoor
