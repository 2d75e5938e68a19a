/-
  From an argument's reading to a tile in memory.
-/
import Derived.Test.YtmadkpnkmkajoaaDoorF15
import Derived.ShutString
import Derived.Deep.Slices
namespace Go.Proofs.YtmadkpnkmkajoaaDoor
open Go.ChangeShapes Go.WideShapes Go.ChangeAt Go.RowKit
set_option maxRecDepth 20000

theorem cells29' : Tryd.prog.cellsOf 29 = 64 := by kernel_rfl
theorem cells54b : Tryd.prog.cellsOf 54 = 1 := by kernel_rfl
theorem cells33b : Tryd.prog.cellsOf 33 = 1 := by kernel_rfl
theorem cells35b : Tryd.prog.cellsOf 35 = 1 := by kernel_rfl
theorem block_cells {H : Type} {enc : TypeId × Value → H} {W : World} {b : Nat} {hl : Bool} {fuel : Nat} {L : List Value} {x : DataW H × List MemPlace}
    (h : DataW.trod enc Tryd.prog W b (fun _ => true) hl fuel 29 L = some x) : ∃ z : List Int, z.length = 64 ∧ L = cellsI z := by
  obtain ⟨ys, m, _, _, hlen, hyl, hy⟩ := DataW.trod_array Tryd.underlying29 h
  rw [cells29'] at hlen
  have each : ∀ i, i < 64 → ∃ q : Int, L[i]? = some (.int .i64 q) := by
    intro i hi
    have h1 := hy i hi
    rw [cells3', Nat.mul_one, List.getElem?_eq_getElem (show i < ys.length by omega)] at h1
    obtain ⟨q, e, _⟩ := DataW.trod_int Tryd.underlying3 h1
    refine ⟨q, ?_⟩
    have h2 : (L.drop i).take 1 = [L[i]'(by omega)] := by
      rw [List.drop_eq_getElem_cons (by omega), List.take_succ_cons, List.take_zero]
    rw [h2] at e
    rw [List.getElem?_eq_getElem (by omega)]
    exact congrArg some (List.cons.inj e).1
  obtain ⟨q, hq⟩ := Go.Deep.choose_lt each
  refine ⟨(List.range 64).map q, by simp, ?_⟩
  apply List.ext_getElem?
  intro i
  by_cases hi : i < 64
  · rw [hq i hi]
    simp [cellsI, hi]
  · rw [List.getElem?_eq_none (by omega), List.getElem?_eq_none (by simp [cellsI]; omega)]
section
variable {H : Type} {enc : TypeId × Value → H} {W : World} {b : Nat} {hl : Bool} {fuel : Nat} {L : List Value} {x : DataW H × List MemPlace}
theorem part_one {L : List Value} {k : Nat} {v : Value} (h : (L.drop k).take 1 = [v]) : L[k]? = some v := by
  have := congrArg (fun l => l[0]?) h
  simp only [List.getElem?_cons_zero] at this
  rwa [List.getElem?_take_of_lt (by omega), List.getElem?_drop, Nat.add_zero] at this
theorem fld_part {t : TypeId} {fs : Array Field} (ht : Tryd.prog.underlying t = some (.struct fs)) (h : DataW.trod enc Tryd.prog W b (fun _ => true) hl fuel t L = some x) :
    L.length = Tryd.prog.cellsOf t ∧ ∀ (i : Nat) (f : Field), fs[i]? = some f → ∃ m y, DataW.trod enc Tryd.prog W b (fun _ => true) hl m f.type ((L.drop f.offset).take (Tryd.prog.cellsOf f.type)) = some y := by
  obtain ⟨xs, n, _, _, hlen, hx, hg⟩ := DataW.trod_struct ht h
  refine ⟨hlen, fun i f hf => ?_⟩
  have := (Array.getElem?_eq_some_iff.1 hf).1
  have hh := hg i f hf
  rw [List.getElem?_eq_getElem (show i < xs.length by omega)] at hh
  exact ⟨n, _, hh⟩
theorem int_part {k : Nat} (h : DataW.trod enc Tryd.prog W b (fun _ => true) hl fuel 3 ((L.drop k).take 1) = some x) : ∃ q : Int, L[k]? = some (.int .i64 q) := by
  obtain ⟨q, e, _⟩ := DataW.trod_int Tryd.underlying3 h
  exact ⟨q, part_one e⟩
end
/-- a cell that reads as a slice of blocks -/
theorem bs_cells {H : Type} {enc : TypeId × Value → H} {W : World} {b : Nat} {hl : Bool} {fuel : Nat} {L : List Value} {x : DataW H × List MemPlace}
    (h : DataW.trod enc Tryd.prog W b (fun _ => true) hl fuel 54 L = some x) : ∃ (A : Option Addr) (n c : Nat) (t : List (List Int)), L = [.slice A n c] ∧ Bs W A n t ∧ n ≤ c ∧ c ≤ maxLen ∧ (A = none → c = 0) := by
  rcases Go.Deep.open_slice Tryd.underlying54 h with ⟨hcs, _⟩ | ⟨x, l, c, m, n, D, Pl, hcs, _, hl, hcap, hm, _, hx⟩
  · exact ⟨none, 0, 0, [], hcs, ⟨rfl, (fun x hx => by cases hx), fun h => absurd h (by omega)⟩, Nat.le_refl _, Nat.zero_le _, fun _ => rfl⟩
  · simp at hm
    obtain ⟨len, rfl⟩ : ∃ len, len = l := ⟨_, rfl⟩
    rcases Nat.eq_zero_or_pos len with h0 | h0
    · subst h0
      exact ⟨_, _, _, [], hcs, ⟨rfl, (fun x hx => by cases hx), fun h => absurd h (by omega)⟩, Nat.zero_le _, hcap, fun e => by cases e⟩
    · obtain ⟨b0, off, spot⟩ := x
      have each : ∀ i, i < len → ∃ z : List Int, z.length = 64 ∧ ∀ j, j < 64 → W.cell? (((⟨b0, off, spot⟩ : Addr).add (i * 64)).add j) = some (.int .i64 (z.getD j 0)) := by
        intro i hi
        obtain ⟨cs', h1, h2⟩ := hx i (by omega)
        rw [cells29'] at h1
        obtain ⟨z, hz, rfl⟩ := block_cells h2
        refine ⟨z, hz, fun j hj => ?_⟩
        obtain ⟨_, _, h3⟩ := World.cells?_some h1
        rw [h3 j hj, cellsI_get _ _ (by omega)]
      obtain ⟨z, hz⟩ := Go.Deep.choose_lt each
      have h1 := (hz 0 h0).2 0 (by omega)
      have hs : spot = none := by simpa [Addr.add] using World.cell?_spot h1
      subst hs
      refine ⟨_, _, _, (List.range len).map z, hcs, ⟨by simp, fun y hy => ?_, fun _ => ⟨b0, off, rfl, ?_, fun i y hy j hj => ?_⟩⟩, hl, hcap, fun e => by cases e⟩
      · obtain ⟨i, hi, rfl⟩ := List.mem_map.1 hy
        exact (hz i (List.mem_range.1 hi)).1
      · exact World.block_lt_of_cell? W ⟨b0, off, none⟩ (by simpa [Addr.add] using h1)
      · have hi : i < len := by
          have := (List.getElem?_eq_some_iff.1 hy).1
          simpa using this
        have hy2 : y = z i := by
          rw [List.getElem?_map, List.getElem?_range hi] at hy
          exact (Option.some.inj hy).symm
        have h2 := (hz i hi).2 j hj
        rw [plain_add, plain_add] at h2
        rw [h2, hy2]

set_option maxRecDepth 20000 in
theorem tile_value {H : Type} {enc : TypeId × Value → H} {W : World} {b b0 : Nat} {r : Reach} {hl : Bool} {v : Value} {d : DataW H} {p : List MemPlace} (hv : Value.okWide Tryd.prog W r b0 35 v)
    (h : DataW.Trod enc Tryd.prog W b (fun _ => true) hl 35 v d p) : ∃ A n c L T, v = tileV A n c ∧ Ti W A n L T := by
  obtain ⟨cs, rfl, _⟩ := okWide_struct Tryd.underlying35 hv
  obtain ⟨fuel, hf⟩ := h
  have hcs : (Value.agg cs).cells.toList = cs.toList := rfl
  rw [hcs] at hf
  obtain ⟨Lc, hL⟩ : ∃ L, L = cs.toList := ⟨_, rfl⟩
  rw [← hL] at hf
  obtain ⟨hlen, hg⟩ := fld_part Tryd.underlying35 hf
  rw [cells35b] at hlen
  obtain ⟨m0, y0, g0⟩ := hg 0 _ rfl
  change DataW.trod enc Tryd.prog W b (fun _ => true) hl m0 33 ((Lc.drop 0).take (Tryd.prog.cellsOf 33)) = some y0 at g0
  rw [cells33b] at g0
  have one : (Lc.drop 0).take 1 = Lc := by
    rw [List.drop_zero, List.take_of_length_le (by omega)]
  rw [one] at g0
  have fin : ∀ A n c, Lc = [.slice A n c] → Value.agg cs = tileV A n c := fun A n c e => by
    unfold tileV
    congr 1
    apply Array.toList_inj.1
    rw [← hL, e]
  rcases Go.Deep.open_slice Tryd.underlying33 g0 with ⟨hcs', _⟩ | ⟨x, l, c, m, n, D, Pl, hcs', _, hl', hcap, hm, _, hx⟩
  · exact ⟨none, 0, 0, [], [], fin _ _ _ hcs', ⟨rfl, fun h0 => absurd h0 (Nat.lt_irrefl _)⟩, rfl, fun p x t hx => by cases hx⟩
  · simp at hm
    rw [cells54b] at hx
    obtain ⟨b1, off, spot⟩ := x
    have each : ∀ i, i < l → ∃ z : (Option Addr × Nat × Nat) × List (List Int), W.cell? (((⟨b1, off, spot⟩ : Addr).add (i * 1)).add 0) = some (.slice z.1.1 z.1.2.1 z.1.2.2) ∧ Bs W z.1.1 z.1.2.1 z.2 ∧ z.1.2.1 ≤ z.1.2.2 ∧ z.1.2.2 ≤ maxLen ∧ (z.1.1 = none → z.1.2.2 = 0) := by
      intro i hi
      obtain ⟨cs2, h1, h2⟩ := hx i (by omega)
      obtain ⟨A, n', c', t, rfl, hbs, h3, h4, h5⟩ := bs_cells h2
      refine ⟨((A, n', c'), t), ?_, hbs, h3, h4, h5⟩
      obtain ⟨_, _, h6⟩ := World.cells?_some h1
      have := h6 0 (by omega)
      rw [this]
      rfl
    obtain ⟨z, hz⟩ := Go.Deep.choose_lt each
    refine ⟨some ⟨b1, off, spot⟩, l, c, (List.range l).map fun i => (z i).1, (List.range l).map fun i => (z i).2, fin _ _ _ hcs', ⟨by simp, fun h0 => ?_⟩, by simp, fun p x t hx ht => ?_⟩
    · have h1 := (hz 0 h0).1
      have hs : spot = none := by simpa [Addr.add] using World.cell?_spot h1
      subst hs
      rw [plain_add, plain_add] at h1
      refine ⟨b1, off, rfl, World.block_lt_of_cell? W _ h1, fun p x hx => ?_⟩
      have hp : p < l := by
        have := (List.getElem?_eq_some_iff.1 hx).1
        simpa using this
      rw [List.getElem?_map, List.getElem?_range hp] at hx
      cases hx
      have h2 := (hz p hp).1
      rw [plain_add, plain_add, Nat.mul_one, Nat.add_zero] at h2
      exact h2
    · have hp : p < l := by
        have := (List.getElem?_eq_some_iff.1 hx).1
        simpa using this
      rw [List.getElem?_map, List.getElem?_range hp] at hx ht
      cases hx
      cases ht
      exact (hz p hp).2
end Go.Proofs.YtmadkpnkmkajoaaDoor
