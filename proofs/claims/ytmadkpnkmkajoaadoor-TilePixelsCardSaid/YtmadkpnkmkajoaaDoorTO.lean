/-
  The pixels of a tile: the contract of the reference's Pixels.
-/
import Derived.Test.YtmadkpnkmkajoaaDoorTN
import Derived.Test.YtmadkpnkmkajoaaDoorTJ
import Derived.Test.YtmadkpnkmkajoaaDoorP9B
namespace Go.Proofs.YtmadkpnkmkajoaaDoor
open Go.RowKit
set_option maxRecDepth 20000

/-- what lies in memory -/
structure RfE (w wr : World) (g1 gS gN : Nat) (P : Array Value) (V : Value) (ss : List Int) : Prop where
  geo : Box wr g1 23 P
  tile : Box wr (g1 + 1) 35 #[V]
  stp : Box wr gS 30 (cellsI ss).toArray
  bel : Below w.heap.size w wr
  o1 : w.heap.size ≤ g1
  o2 : g1 + 1 < gS
  o3 : gS < gN
section
variable {w wr w' : World} {g1 gS gN : Nat} {P : Array Value} {V : Value} {ss : List Int}
theorem RfE.on (h : RfE w wr g1 gS gN P V ss) (k : Below wr.heap.size wr w') : RfE w w' g1 gS gN P V ss := ⟨h.geo.on k, h.tile.on k, h.stp.on k, on_trans h.bel k, h.o1, h.o2, h.o3⟩
theorem RfE.kept (h : RfE w wr g1 gS gN P V ss) (k : Kept (fun i => i = gN) wr w') : RfE w w' g1 gS gN P V ss :=
  ⟨k.box h.geo (by have := h.o2; have := h.o3; omega), k.box h.tile (by have := h.o2; have := h.o3; omega), k.box h.stp (by have := h.o3; omega), h.bel.trans (k.below h.bel.size (fun i hi e => by have := h.o1; have := h.o2; have := h.o3; omega)), h.o1, h.o2, h.o3⟩
end
/-- the first p of three slices are filled -/
structure Tns (wr : World) (gN N : Nat) (vs : Nat → Value) (pl : Nat → List Int) (p : Nat) : Prop where
  box : Box wr gN 76 #[vs 0, vs 1, vs 2]
  done : ∀ q, q < p → ∃ A c, vs q = .slice A N c ∧ Os wr (gN + 1) A N c (pl q)
section
variable {wr w' : World} {gN N p : Nat} {vs : Nat → Value} {pl : Nat → List Int}
theorem Tns.on (h : Tns wr gN N vs pl p) (k : Below wr.heap.size wr w') : Tns w' gN N vs pl p := ⟨h.box.on k, fun q hq => by
  obtain ⟨A, c, e, ho⟩ := h.done q hq
  exact ⟨A, c, e, ho.on k⟩⟩
theorem Tns.put (h : Tns wr gN N vs pl p) (hp : p < 3) {A : Option Addr} {c : Nat} (ho : Os wr (gN + 1) A N c (pl p)) : Tns (wr.setCell ⟨gN, p, none⟩ (.slice A N c)) gN N (fun q => if q = p then .slice A N c else vs q) pl (p + 1) := by
  have hK : Kept (fun i => i = gN) wr (wr.setCell ⟨gN, p, none⟩ (.slice A N c)) := (Kept.refl (fun i => i = gN) wr).setCell (p := ⟨gN, p, none⟩) (fun _ => rfl) _
  refine ⟨?_, fun q hq => ?_⟩
  · have hb := h.box.put p (.slice A N c)
    rcases (show p = 0 ∨ p = 1 ∨ p = 2 by omega) with rfl | rfl | rfl <;> exact hb
  · by_cases e : q = p
    · subst e
      exact ⟨A, c, if_pos rfl, ho.kept hK (fun b off e => by have := (ho.new b off e).1; omega)⟩
    · obtain ⟨A', c', e', ho'⟩ := h.done q (by omega)
      exact ⟨A', c', by rw [← e']; exact if_neg e, ho'.kept hK (fun b off e => by have := (ho'.new b off e).1; omega)⟩
end
theorem load_one (w : World) {g m : Nat} {a b : List Int} (h : Box w g 30 (cellsI (a ++ b)).toArray) (ha : a.length = 64) (hb : b.length = 64) (hm : m < 2) : (Instr.loadAt 29 (.pointer (some ⟨g, m * 64, none⟩))).run Tryd.prog w = .ok (blkV (if m = 0 then a else b)) w := by
  refine run_loadAt_mid w g (m * 64) 29 (cellsI (if m = 0 then a else b)) _ (fun j u hu => ?_) Tryd.underlying29 rfl (by rw [arr26_size, cellsI_len]; split <;> simp [ha, hb])
  rw [h.cell]
  have hj : j < 64 := by
    have := (List.getElem?_eq_some_iff.1 hu).1
    rw [cellsI_len] at this
    split at this <;> omega
  rw [← hu]
  rcases (show m = 0 ∨ m = 1 by omega) with rfl | rfl
  · simp only [if_true, Nat.zero_mul, Nat.zero_add]
    unfold cellsI
    rw [List.map_append]
    simp
    rw [List.getElem?_append_left (by simp [ha]; exact hj)]
    simp
  · simp only [if_neg (show ¬ 1 = 0 by omega), Nat.one_mul]
    unfold cellsI
    rw [List.map_append]
    simp
    rw [List.getElem?_append_right (by simp [ha])]
    simp [ha]
theorem load_step {w : World} {g m p : Nat} {Q : Int} (h : Box w g 30 (cellsI (stQ Q 0 ++ stQ Q 1)).toArray) (hm : m = if p = 0 then 0 else 1) : (Instr.loadAt 29 (.pointer (some ⟨g, m * 64, none⟩))).run Tryd.prog w = .ok (blkV (stQ Q p)) w := by
  have h1 := load_one w h (stQ_len Q 0) (stQ_len Q 1) (m := m) (by rw [hm]; split <;> omega)
  have e : (if m = 0 then stQ Q 0 else stQ Q 1) = stQ Q p := by
    by_cases e : p = 0
    · rw [if_pos e] at hm
      rw [if_pos hm, e]
    · rw [if_neg e] at hm
      rw [if_neg (by omega)]
      unfold stQ
      rw [decide_eq_true (show 0 < 1 by omega), decide_eq_true (show 0 < p by omega)]
  rw [e] at h1
  exact h1
theorem el_pix : Elems 40 52 (.agg #[.int .i64 0, .int .i64 0, .int .i64 0]) 3 24 := ⟨Tryd.underlying40, pix_info, rfl, by omega, by omega⟩
end Go.Proofs.YtmadkpnkmkajoaaDoor
