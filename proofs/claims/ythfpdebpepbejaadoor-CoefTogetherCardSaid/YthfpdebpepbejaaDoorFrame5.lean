/-
  From an argument's reading to what the walks ask. From an argument's reading to what the walks ask: specifications, slices of numbers, how long a slice of bytes is.
-/
import Derived.Test.YthfpdebpepbejaaDoorOwn
import Derived.ProofKit
import Derived.OpenShut
import Derived.ShutString
import Derived.ChangeOld
import Derived.ChangeArms
import Derived.Deep.SlicePairs
import Derived.Test.YthfpdebpepbejaaDoorSpec
import Derived.SizedLaws
namespace Go.Proofs.YthfpdebpepbejaaDoor
open Go.ChangeShapes Go.WideShapes Go.ChangeAt Go.RowKit

theorem own_knob : ownKnob Tryd.prog.godebug = none := by kernel_rfl
theorem laid_out : laidOutB Tryd.prog = true := by kernel_rfl

theorem fit_of_wf {zs : List Int} (h : ∀ n ∈ zs, (Lit.int .u8 n).wf = true) : Fit zs := by
  intro z hz
  have := h z hz
  simpa [Lit.wf, IntKind.min, IntKind.max, IntKind.signed, IntKind.bits] using this
theorem wf_u8 {n : Int} (h : (Lit.int .u8 n).wf = true) : 0 ≤ n ∧ n ≤ 255 := by
  simpa [Lit.wf, IntKind.min, IntKind.max, IntKind.signed, IntKind.bits] using h

theorem sl_of_row {W : World} {x : Addr} {len cap : Nat} {zs : List Int} (hl : len ≤ cap) (hm : cap ≤ maxLen) (hz : zs.length = cap) (hcell : ∀ i, i < zs.length → W.cell? (x.add i) = some (.int .u8 (zs.getD i 0)))
    (hwz : ∀ n ∈ zs, (Lit.int .u8 n).wf = true) : Sl W (fun _ => True) (some x) len cap (zs.take len) := by
  have hlen : (zs.take len).length = len := by rw [List.length_take]; omega
  refine ⟨⟨(fit_of_wf hwz).take len, fun h0 => ?_⟩, hlen, hl, hm, fun e => by cases e⟩
  rw [hlen] at h0
  obtain ⟨b, off, spot⟩ := x
  have h1 := hcell 0 (by omega)
  have hs : spot = none := by simpa [Addr.add] using World.cell?_spot h1
  subst hs
  refine ⟨b, off, rfl, ?_, trivial, fun i hi => ?_⟩
  · exact World.block_lt_of_cell? W ⟨b, off, none⟩ (by simpa [Addr.add] using h1)
  · have h2 := hcell i (by omega)
    rw [plain_add] at h2
    rw [h2]
    simp only [List.getD_eq_getElem?_getD]
    rw [List.getElem?_take_of_lt (by omega)]

theorem sl_of_trod {H : Type} {enc : TypeId × Value → H} {W : World} {a : Option Addr} {len cap : Nat} {d : DataW H} {p : List MemPlace} {b : Nat} {sp : Bool}
    (h : DataW.Trod enc Tryd.prog W b (fun _ => true) sp 54 (.slice a len cap) d p) : ∃ l, Sl W (fun _ => True) a len cap l := by
  obtain ⟨fuel, hf⟩ := h
  rcases open_ints Tryd.underlying54 Tryd.underlying5 (by kernel_rfl) hf with ⟨hcs, _⟩ | ⟨x, l, c, zs, hcs, _, hl, hm, hz, _, hcell, hwz⟩
  · simp [Value.cells] at hcs
    obtain ⟨rfl, rfl, rfl⟩ := hcs
    exact ⟨[], ⟨⟨(fun z hz => by cases hz), fun h0 => absurd h0 (by simp)⟩, rfl, Nat.le_refl _, Nat.zero_le _, fun _ => rfl⟩⟩
  · simp [Value.cells] at hcs
    obtain ⟨rfl, rfl, rfl⟩ := hcs
    exact ⟨_, sl_of_row hl hm (by simpa using hz) hcell hwz⟩

theorem cellsAt3 : Tryd.prog.cellsOf 3 = 1 := by kernel_rfl
end Go.Proofs.YthfpdebpepbejaaDoor

namespace Go.Proofs.YthfpdebpepbejaaDoor
open Go.ChangeShapes Go.WideShapes Go.ChangeAt Go.RowKit

theorem cells25 : Tryd.prog.cellsOf 42 = 17 := by kernel_rfl
theorem cells22 : Tryd.prog.cellsOf 40 = 16 := by kernel_rfl
theorem cells3' : Tryd.prog.cellsOf 3 = 1 := by kernel_rfl
theorem cells23 : Tryd.prog.cellsOf 24 = 1 := by kernel_rfl

theorem il_of_row {W : World} {x : Addr} {len cap : Nat} {zs : List Int} (hl : len ≤ cap) (hm : cap ≤ maxLen) (hz : zs.length = cap) (h0 : 0 < len) (hcell : ∀ i, i < zs.length → W.cell? (x.add i) = some (.int .i64 (zs.getD i 0))) :
    Ia W (some x) len cap (zs.take len) := by
  obtain ⟨b, off, spot⟩ := x
  have h1 := hcell 0 (by omega)
  have hs : spot = none := by simpa [Addr.add] using World.cell?_spot h1
  subst hs
  refine ⟨by rw [List.length_take]; omega, hl, hm, (fun e => by cases e), fun _ => ⟨b, off, rfl, ?_, fun i hi => ?_⟩⟩
  · exact World.block_lt_of_cell? W ⟨b, off, none⟩ (by simpa [Addr.add] using h1)
  · have h2 := hcell i (by omega)
    rw [plain_add] at h2
    rw [h2]
    simp only [List.getD_eq_getElem?_getD]
    rw [List.getElem?_take_of_lt (by omega)]

theorem ia_nil (W : World) : Ia W none 0 0 [] := ⟨rfl, Nat.le_refl _, Nat.zero_le _, fun _ => rfl, fun h => absurd h (by omega)⟩
theorem ia_of_ints {H : Type} {enc : TypeId × Value → H} {W : World} {fuel : Nat} {cs : List Value} {x : DataW H × List MemPlace} {b : Nat} {sp : Bool}
    (h : DataW.trod enc Tryd.prog W b (fun _ => true) sp fuel 24 cs = some x) : ∃ A n c V, cs = [.slice A n c] ∧ Ia W A n c V := by
  rcases open_ints Tryd.underlying24 Tryd.underlying3 (by kernel_rfl) h with ⟨hcs, _⟩ | ⟨y, l, c, zs, hcs, _, hl, hm, hz, _, hcell, _⟩
  · exact ⟨_, _, _, [], hcs, ia_nil W⟩
  · rcases Nat.eq_zero_or_pos l with h0 | h0
    · subst h0
      exact ⟨_, _, _, [], hcs, rfl, Nat.zero_le _, hm, (fun e => by cases e), fun h => absurd h (by omega)⟩
    · exact ⟨_, _, _, _, hcs, il_of_row hl hm (by simpa using hz) h0 hcell⟩
theorem ia_of_trod {H : Type} {enc : TypeId × Value → H} {W : World} {a : Option Addr} {len cap : Nat} {d : DataW H} {p : List MemPlace} {b : Nat} {sp : Bool}
    (h : DataW.Trod enc Tryd.prog W b (fun _ => true) sp 24 (.slice a len cap) d p) : ∃ l, Ia W a len cap l := by
  obtain ⟨fuel, hf⟩ := h
  obtain ⟨A, n, c, V, hcs, hI⟩ := ia_of_ints hf
  simp [Value.cells] at hcs
  obtain ⟨rfl, rfl, rfl⟩ := hcs
  exact ⟨V, hI⟩
/-- a slice of bytes is no longer than what the form lets by -/
theorem sized_of_trod {H : Type} {enc : TypeId × Value → H} {W : World} {a : Option Addr} {len cap : Nat} {d : DataW H} {p : List MemPlace} {b j : Nat} {sp : Bool} {ts : List TypeId} {ds : List (DataW H)}
    (h : DataW.Trod enc Tryd.prog W b (fun _ => true) sp 54 (.slice a len cap) d p) (hs : (DataW.weightsEach Tryd.prog ts ds).all (· ≤ reachBytes) = true) (ht : ts[j]? = some 54) (hd : ds[j]? = some d) : len ≤ 140737488355328 := by
  obtain ⟨fuel, hf⟩ := h
  rcases open_ints Tryd.underlying54 Tryd.underlying5 (by kernel_rfl) hf with ⟨hcs, _⟩ | ⟨y, l, c, zs, hcs, _, hl, hm, hz, hx, _, _⟩
  · simp [Value.cells] at hcs
    omega
  · simp [Value.cells] at hcs
    obtain ⟨rfl, rfl, rfl⟩ := hcs
    simp at hx
    obtain ⟨rfl, _⟩ := hx
    have := sized_slice hs ht hd Tryd.underlying54
    have hb : Tryd.prog.bytesOf 5 = 1 := by kernel_rfl
    rw [hb] at this
    simp [lits] at this hz
    unfold reachBytes at this
    omega

set_option maxRecDepth 20000 in
theorem spec_value {H : Type} {enc : TypeId × Value → H} {W : World} {b b0 : Nat} {r : Reach} {hl : Bool} {v : Value} {d : DataW H} {p : List MemPlace} (hv : Value.okWide Tryd.prog W r b0 42 v)
    (h : DataW.Trod enc Tryd.prog W b (fun _ => true) hl 42 v d p) : ∃ B A n c V, v = specV B (.slice A n c) ∧ B.length = 16 ∧ Ia W A n c V := by
  obtain ⟨cs, rfl, _⟩ := okWide_struct Tryd.underlying42 hv
  obtain ⟨fuel, hf⟩ := h
  obtain ⟨xs, n, _, _, hlen, hx, hg⟩ := DataW.trod_struct Tryd.underlying42 hf
  rw [cells25] at hlen
  have hcs : (Value.agg cs).cells.toList = cs.toList := rfl
  rw [hcs] at hlen hg
  obtain ⟨L, hL⟩ : ∃ L, L = cs.toList := ⟨_, rfl⟩
  rw [← hL] at hlen hg
  match xs, hx with
  | [y0, y1], _ =>
    have g0 : DataW.trod enc Tryd.prog W b (fun _ => true) hl n 40 ((L.drop 0).take (Tryd.prog.cellsOf 40)) = some y0 := hg 0 _ rfl
    have g1 : DataW.trod enc Tryd.prog W b (fun _ => true) hl n 24 ((L.drop 16).take (Tryd.prog.cellsOf 24)) = some y1 := hg 1 _ rfl
    rw [cells22, List.drop_zero] at g0
    rw [cells23] at g1
    obtain ⟨ys, m, _, _, _, hyl, hy⟩ := DataW.trod_array Tryd.underlying40 g0
    obtain ⟨A, k, c, V, e1, hI⟩ := ia_of_ints g1
    have each : ∀ i, i < 16 → ∃ q : Int, L[i]? = some (.int .i64 q) := by
      intro i hi
      have h1 := hy i hi
      rw [cells3', Nat.mul_one, List.getElem?_eq_getElem (show i < ys.length by omega)] at h1
      obtain ⟨q, e, _⟩ := DataW.trod_int Tryd.underlying3 h1
      refine ⟨q, ?_⟩
      have h2 : ((L.take 16).drop i).take 1 = [L[i]'(by omega)] := by
        rw [List.drop_eq_getElem_cons (by rw [List.length_take]; omega), List.take_succ_cons, List.take_zero, List.getElem_take]
      rw [h2] at e
      rw [List.getElem?_eq_getElem (by omega)]
      exact congrArg some (List.cons.inj e).1
    obtain ⟨q, hq⟩ := Go.Deep.choose_lt each
    refine ⟨(List.range 16).map q, A, k, c, V, ?_, by simp, hI⟩
    have h16 : L[16]? = some (.slice A k c) := by
      have h2 : (L.drop 16).take 1 = [L[16]'(by omega)] := by rw [List.drop_eq_getElem_cons (by omega), List.take_succ_cons, List.take_zero]
      rw [h2] at e1
      rw [List.getElem?_eq_getElem (by omega)]
      exact congrArg some (List.cons.inj e1).1
    unfold specV specC
    congr 1
    apply Array.toList_inj.1
    rw [← hL]
    apply List.ext_getElem?
    intro i
    by_cases hi : i < 16
    · rw [hq i hi, List.getElem?_append_left (by simp [cellsI]; omega)]
      simp [cellsI, hi]
    · by_cases h17 : i = 16
      · subst h17
        rw [h16, List.getElem?_append_right (by simp [cellsI])]
        simp [cellsI]
      · rw [List.getElem?_eq_none (by omega), List.getElem?_eq_none (by simp [cellsI]; omega)]
end Go.Proofs.YthfpdebpepbejaaDoor
