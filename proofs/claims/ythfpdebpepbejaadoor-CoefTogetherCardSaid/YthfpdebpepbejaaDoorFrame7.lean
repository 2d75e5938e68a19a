/-
  From what the listed variable reads as, and from an argument's reading, to what the walks of layer 7 ask.
-/
import Derived.Test.YthfpdebpepbejaaDoorAwake7
import Derived.Test.YthfpdebpepbejaaDoorFrame5
import Derived.Test.YthfpdebpepbejaaDoorTie
import Derived.Test.YthfpdebpepbejaaDoorCards
import Derived.Carry
import Derived.LaidMore
import Derived.Stop.Joined
import Derived.Lib.LaidTab
import Derived.SevenTiedAt
namespace Go.Proofs.YthfpdebpepbejaaDoor
open Go.ChangeShapes Go.WideShapes Go.ChangeAt Go.RowKit

/-- the one variable that the rows list -/
def laid1 : List (String × DataW Unit) := [("clerestory/coef.zigzag", Rows.laid_clerestory_coef_zigzag)]
theorem g_zz : Tryd.prog.globalNamed "clerestory/coef.zigzag" = some 0 := by kernel_rfl
theorem t_zz : (Tryd.prog.globals[0]?).map (·.type) = some 22 := by kernel_rfl
theorem cells22' : Tryd.prog.cellsOf 22 = 64 := by kernel_rfl
theorem cells23' : Tryd.prog.cellsOf 23 = 64 := by kernel_rfl

theorem door_met (os : Os) (args : Array Value) : laidMetH Tryd.prog laid1 ((World.doorLaid Tryd.prog 14 os).forCall (fun _ _ => 0) ⟨#[], args, []⟩).memory :=
  laidMetH_of_parts3 (fuel := 8) (laidMet_of_run' 8 (by kernel_rfl) (by kernel_rfl)) (by kernel_rfl) (by kernel_rfl)

theorem tab_of_laid {W : World} (h : laidMetH Tryd.prog laid1 W) : Tab W := by
  rw [MakeChecks.laidMetH_plain _ _ _ (by kernel_rfl)] at h
  have hT : Lib.TabIs Tryd.prog W "clerestory/coef.zigzag" .i64 zz := Lib.tabIs_of_head (rest := []) g_zz t_zz Tryd.underlying22 Tryd.underlying3 cells3' cells22' h
  intro i hi
  rw [hT.cell g_zz i hi]

theorem wf_i64 {n : Int} (h : (Lit.int .i64 n).wf = true) : isInt n := by
  simpa [isInt, Lit.wf, IntKind.min, IntKind.max, IntKind.signed, IntKind.bits] using h
theorem wf_i32 {n : Int} (h : (Lit.int .i32 n).wf = true) : -2147483648 ≤ n ∧ n ≤ 2147483647 := by
  simpa [Lit.wf, IntKind.min, IntKind.max, IntKind.signed, IntKind.bits] using h

theorem ints_of_trod {H : Type} {enc : TypeId × Value → H} {W : World} {a : Option Addr} {len cap : Nat} {d : DataW H} {p : List MemPlace} {b : Nat} {sp : Bool}
    (h : DataW.Trod enc Tryd.prog W b (fun _ => true) sp 24 (.slice a len cap) d p) : ∃ l, Ia W a len cap l ∧ ∀ i, isInt (l.getD i 0) := by
  obtain ⟨fuel, hf⟩ := h
  have z0 : isInt 0 := by unfold isInt; omega
  rcases open_ints Tryd.underlying24 Tryd.underlying3 (by kernel_rfl) hf with ⟨hcs, _⟩ | ⟨y, l, c, zs, hcs, _, hl, hm, hz, _, hcell, hw⟩
  · simp [Value.cells] at hcs
    obtain ⟨rfl, rfl, rfl⟩ := hcs
    exact ⟨[], ia_nil W, fun i => by simpa using z0⟩
  · simp [Value.cells] at hcs
    obtain ⟨rfl, rfl, rfl⟩ := hcs
    rcases Nat.eq_zero_or_pos len with h0 | h0
    · subst h0
      exact ⟨[], ⟨rfl, Nat.zero_le _, hm, (fun e => by cases e), fun h => absurd h (by omega)⟩, fun i => by simpa using z0⟩
    · refine ⟨_, il_of_row hl hm (by simpa using hz) h0 hcell, fun i => ?_⟩
      rw [List.getD_eq_getElem?_getD]
      by_cases hi : i < (zs.take len).length
      · rw [List.getElem?_eq_getElem hi]
        exact wf_i64 (hw _ (List.mem_of_mem_take (List.getElem_mem hi)))
      · rw [List.getElem?_eq_none (by omega)]
        exact z0

/-- a slice of numbers is no longer than what the form lets by -/
theorem sizedI_of_trod {H : Type} {enc : TypeId × Value → H} {W : World} {a : Option Addr} {len cap : Nat} {d : DataW H} {p : List MemPlace} {b j : Nat} {sp : Bool} {ts : List TypeId} {ds : List (DataW H)}
    (h : DataW.Trod enc Tryd.prog W b (fun _ => true) sp 24 (.slice a len cap) d p) (hs : (DataW.weightsEach Tryd.prog ts ds).all (· ≤ reachBytes) = true) (ht : ts[j]? = some 24) (hd : ds[j]? = some d) : len * 8 ≤ 140737488355328 := by
  obtain ⟨fuel, hf⟩ := h
  rcases open_ints Tryd.underlying24 Tryd.underlying3 (by kernel_rfl) hf with ⟨hcs, _⟩ | ⟨y, l, c, zs, hcs, _, hl, hm, hz, hx, _, _⟩
  · simp [Value.cells] at hcs
    omega
  · simp [Value.cells] at hcs
    obtain ⟨rfl, rfl, rfl⟩ := hcs
    simp at hx
    obtain ⟨rfl, _⟩ := hx
    have := sized_slice hs ht hd Tryd.underlying24
    have hb : Tryd.prog.bytesOf 3 = 8 := by kernel_rfl
    rw [hb] at this
    simp [lits] at this hz
    unfold reachBytes at this
    omega

theorem okWide_array {P : Program} {w : World} {r : Reach} {base : Nat} {t : TypeId} {v : Value} {n : Nat} {e : TypeId} (ht : P.underlying t = some (.array n e)) (h : Value.okWide P w r base t v) : ∃ cs, v = .agg cs ∧ cs.size = P.cellsOf t := by
  simp only [Value.okWide, ht] at h
  obtain ⟨cs, h1, h2, _⟩ := h
  exact ⟨cs, h1, h2⟩

/-- a row of 64 cells that reads as a block -/
theorem block_cells {H : Type} {enc : TypeId × Value → H} {W : World} {b : Nat} {hl : Bool} {fuel : Nat} {L : List Value} {x : DataW H × List MemPlace}
    (h : DataW.trod enc Tryd.prog W b (fun _ => true) hl fuel 23 L = some x) : ∃ z : List Int, z.length = 64 ∧ L = cellsI z := by
  obtain ⟨ys, m, _, _, hlen, hyl, hy⟩ := DataW.trod_array Tryd.underlying23 h
  rw [cells23'] at hlen
  have each : ∀ i, i < 64 → ∃ q : Int, L[i]? = some (.int .i64 q) := by
    intro i hi
    have h1 := hy i hi
    rw [cells3', Nat.mul_one, List.getElem?_eq_getElem (show i < ys.length by omega)] at h1
    obtain ⟨q, e, _⟩ := DataW.trod_int Tryd.underlying3 h1
    refine ⟨q, ?_⟩
    have h2 : (L.drop i).take 1 = [L[i]'(by omega)] := by
      rw [List.drop_eq_getElem_cons (by omega), List.take_succ_cons, List.take_zero]
    rw [h2] at e
    rw [List.getElem?_eq_getElem (by omega)]
    exact congrArg some (List.cons.inj e).1
  obtain ⟨q, hq⟩ := Go.Deep.choose_lt each
  refine ⟨(List.range 64).map q, by simp, ?_⟩
  apply List.ext_getElem?
  intro i
  by_cases hi : i < 64
  · rw [hq i hi]
    simp [cellsI, hi]
  · rw [List.getElem?_eq_none (by omega), List.getElem?_eq_none (by simp [cellsI]; omega)]
set_option maxRecDepth 20000 in
theorem block_value {H : Type} {enc : TypeId × Value → H} {W : World} {b b0 : Nat} {r : Reach} {hl : Bool} {v : Value} {d : DataW H} {p : List MemPlace} (hv : Value.okWide Tryd.prog W r b0 23 v)
    (h : DataW.Trod enc Tryd.prog W b (fun _ => true) hl 23 v d p) : ∃ z : List Int, v = blkV z ∧ z.length = 64 := by
  obtain ⟨cs, rfl, _⟩ := okWide_array Tryd.underlying23 hv
  obtain ⟨fuel, hf⟩ := h
  obtain ⟨z, hz, e⟩ := block_cells hf
  refine ⟨z, ?_, hz⟩
  unfold blkV
  congr 1
  apply Array.toList_inj.1
  exact e
end Go.Proofs.YthfpdebpepbejaaDoor
