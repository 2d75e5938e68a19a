/-
  A table in memory; the contracts of add, Code and Spec.
-/
import Derived.Test.YthfpdebpepbejaaDoorKeys
import Derived.Test.YthfpdebpepbejaaDoorPut
namespace Go.Proofs.YthfpdebpepbejaaDoor
open Go.RowKit

/-- the number in place j of the codes -/
def numAt (L : List En) (j : Nat) : Nat := if j % 2 = 0 then (codeOf L ((j / 2 : Nat) : Int)).1 else (codeOf L ((j / 2 : Nat) : Int)).2
/-- the cells of a table -/
def tabL (B : List Int) (v : Value) (L : List En) (m : Nat) : List Value := cellsI B ++ (v :: (((List.range 512).map fun j => Value.int .i64 (numAt L j : Int)) ++ [.map (some m)]))
def tabC (B : List Int) (v : Value) (L : List En) (m : Nat) : Array Value := (tabL B v L m).toArray

section
variable {B : List Int} {v : Value} {L : List En} {m : Nat}
theorem tabC_size (h : B.length = 16) : (tabC B v L m).size = 530 := by simp [tabC, tabL, cellsI_len, h]
theorem tabC_bits (h : B.length = 16) {i : Nat} (hi : i < 16) : (tabC B v L m)[i]? = some (.int .i64 (B.getD i 0)) := by
  simp only [tabC, tabL, List.getElem?_toArray]
  rw [List.getElem?_append_left (by rw [cellsI_len, h]; omega)]
  simp [cellsI, List.getD_eq_getElem?_getD, List.getElem?_eq_getElem (show i < B.length by omega)]
theorem tabC_vals (h : B.length = 16) : (tabC B v L m)[16]? = some v := by
  simp only [tabC, tabL, List.getElem?_toArray]
  rw [List.getElem?_append_right (by rw [cellsI_len, h]; omega), cellsI_len, h]
  rfl
theorem tabC_num (h : B.length = 16) {j : Nat} (hj : j < 512) : (tabC B v L m)[17 + j]? = some (.int .i64 (numAt L j : Int)) := by
  simp only [tabC, tabL, List.getElem?_toArray]
  rw [List.getElem?_append_right (by rw [cellsI_len, h]; omega), cellsI_len, h, show 17 + j - 16 = j + 1 by omega, List.getElem?_cons_succ, List.getElem?_append_left (by simp; omega)]
  simp [hj]
theorem tabC_map (h : B.length = 16) : (tabC B v L m)[529]? = some (.map (some m)) := by
  simp only [tabC, tabL, List.getElem?_toArray]
  rw [List.getElem?_append_right (by rw [cellsI_len, h]; omega), cellsI_len, h, show 529 - 16 = 512 + 1 by omega, List.getElem?_cons_succ, List.getElem?_append_right (by simp)]
  simp
theorem tabC_ext (h : B.length = 16) {X : Array Value} (hs : X.size = 530) (h1 : ∀ i, i < 17 → X[i]? = (tabC B v L m)[i]?) (h2 : ∀ j, j < 512 → X[17 + j]? = some (.int .i64 (numAt L j : Int))) (h3 : X[529]? = some (.map (some m))) : X = tabC B v L m := by
  apply Array.ext_getElem?
  intro i
  by_cases a : i < 17
  · exact h1 i a
  by_cases b : i < 529
  · obtain ⟨j, rfl⟩ : ∃ j, i = 17 + j := ⟨i - 17, by omega⟩
    rw [h2 j (by omega), tabC_num h (by omega)]
  by_cases c : i = 529
  · subst c; rw [h3, tabC_map h]
  · rw [Array.getElem?_eq_none (by omega), Array.getElem?_eq_none (by rw [tabC_size h]; omega)]
end
theorem codeOf_more {L : List En} {e : En} (h : ∀ y ∈ L, y.1 ≠ e.1) (v : Int) : codeOf (L ++ [e]) v = if v = e.1 then e.2 else codeOf L v := by
  unfold codeOf
  rw [fnd_more h]
  split <;> rfl
/-- an entry is written -/
theorem tabC_put {B : List Int} {v : Value} {L : List En} {m : Nat} (hB : B.length = 16) (z b s : Nat) (hz : z < 256) (hn : ∀ y ∈ L, y.1 ≠ (z : Int)) :
    ((tabC B v L m).setIfInBounds (17 + z * 2) (.int .i64 (b : Int))).setIfInBounds (17 + z * 2 + 1) (.int .i64 (s : Int)) = tabC B v (L ++ [((z : Int), b, s)]) m := by
  have hnum : ∀ j, numAt (L ++ [((z : Int), b, s)]) j = if j = z * 2 then b else if j = z * 2 + 1 then s else numAt L j := by
    intro j
    unfold numAt
    rw [codeOf_more (e := ((z : Int), b, s)) hn]
    by_cases h2 : j / 2 = z
    · rw [if_pos (show ((j / 2 : Nat) : Int) = (z : Int) by omega)]
      by_cases h1 : j % 2 = 0
      · rw [if_pos h1, if_pos (by omega)]
      · rw [if_neg h1, if_neg (by omega), if_pos (by omega)]
    · rw [if_neg (show ¬ ((j / 2 : Nat) : Int) = (z : Int) by omega), if_neg (show ¬ j = z * 2 by omega), if_neg (show ¬ j = z * 2 + 1 by omega)]
  refine tabC_ext hB (by simp [tabC_size hB]) (fun i hi => ?_) (fun j hj => ?_) ?_
  · rw [Array.getElem?_setIfInBounds_ne (by omega), Array.getElem?_setIfInBounds_ne (by omega)]
    by_cases h16 : i < 16
    · rw [tabC_bits hB h16, tabC_bits hB h16]
    · obtain rfl : i = 16 := by omega
      rw [tabC_vals hB, tabC_vals hB]
  · rw [hnum]
    by_cases h1 : j = z * 2
    · subst h1
      rw [if_pos rfl, Array.getElem?_setIfInBounds_ne (by omega), Array.getElem?_setIfInBounds_self_of_lt (by rw [tabC_size hB]; omega)]
    by_cases h2 : j = z * 2 + 1
    · subst h2
      rw [if_neg h1, if_pos rfl, show 17 + (z * 2 + 1) = 17 + z * 2 + 1 by omega, Array.getElem?_setIfInBounds_self_of_lt (by simp [tabC_size hB]; omega)]
    · rw [if_neg h1, if_neg h2, Array.getElem?_setIfInBounds_ne (by omega), Array.getElem?_setIfInBounds_ne (by omega), tabC_num hB hj]
  · rw [Array.getElem?_setIfInBounds_ne (by omega), Array.getElem?_setIfInBounds_ne (by omega), tabC_map hB]

/-- a table is built -/
theorem build_tab (w : World) {B : List Int} (A : Option Addr) (n c m : Nat) (hB : B.length = 16) : (Instr.build 119 #[(0, specV B (.slice A n c)), (2, .map (some m))]).run Tryd.prog w = .ok (.agg (tabC B (.slice A n c) [] m)) w := by
  refine run_build w 119 _ _ ?_
  match B, hB with
  | [b0, b1, b2, b3, b4, b5, b6, b7, b8, b9, b10, b11, b12, b13, b14, b15], _ =>
    show Program.built _ _ _ = _
    kernel_rfl

/-- block t is a table of a specification whose codes L are in it; its blocks lie from lo on and ahead of hi -/
structure TbAt (w : World) (lo hi t : Nat) (B V : List Int) (L : List En) (A : Option Addr) (n c m : Nat) : Prop where
  box : Box w t 119 (tabC B (.slice A n c) L m)
  vals : Il w A n c V
  map : Mq w m L
  tin : lo ≤ t ∧ t < hi
  min : lo ≤ m ∧ m < hi
  ain : ∀ b off, A = some ⟨b, off, none⟩ → lo ≤ b ∧ b < hi
  len : B.length = 16
  few : n ≤ 300
def Tb (w : World) (lo hi t : Nat) (B V : List Int) (L : List En) : Prop := ∃ A n c m, TbAt w lo hi t B V L A n c m
theorem TbAt.kept {S : Nat → Prop} {w w' : World} {lo hi t : Nat} {B V : List Int} {L : List En} {A : Option Addr} {n c m : Nat} (h : TbAt w lo hi t B V L A n c m) (k : Kept S w w') (hS : ∀ b, lo ≤ b → b < hi → ¬ S b) : TbAt w' lo hi t B V L A n c m :=
  ⟨k.box h.box (hS _ h.tin.1 h.tin.2), h.vals.kept k (fun b off e => hS b (h.ain b off e).1 (h.ain b off e).2), h.map.block (k.block m h.map.lt (hS _ h.min.1 h.min.2)), h.tin, h.min, h.ain, h.len, h.few⟩
theorem Tb.kept {S : Nat → Prop} {w w' : World} {lo hi t : Nat} {B V : List Int} {L : List En} (h : Tb w lo hi t B V L) (k : Kept S w w') (hS : ∀ b, lo ≤ b → b < hi → ¬ S b) : Tb w' lo hi t B V L := by
  obtain ⟨A, n, c, m, h⟩ := h
  exact ⟨A, n, c, m, h.kept k hS⟩
theorem Tb.on {w w' : World} {lo hi t : Nat} {B V : List Int} {L : List En} (h : Tb w lo hi t B V L) (k : Below w.heap.size w w') : Tb w' lo hi t B V L := h.kept (Kept.of_below k (fun _ => False)) (fun _ _ _ h => h)

/-- what add leaves -/
def CodeAdded (w : World) (g b s x : Nat) (e : Ending) (w' : World) : Prop := e = .returned (.tuple #[]) ∧ Box w' g 116 #[.int .i64 ((2 * b + x : Nat) : Int), .int .i64 ((s + 1 : Nat) : Int)] ∧ Kept (fun i => i = g) w w'

set_option maxHeartbeats 800000 in
theorem codeAdd_any (w : World) (g b s x : Nat) (hb : Box w g 116 #[.int .i64 (b : Int), .int .i64 (s : Int)]) (hx : x < 2) (hb2 : b < 1048576) (hs : s < 1000) :
    Calls Tryd.prog 57 #[.pointer (some ⟨g, 0, none⟩), .int .i64 (x : Int)] w (CodeAdded w g b s x) := by
  have c0 : w.cell? ⟨g, 0, none⟩ = some (.int .i64 (b : Int)) := hb.cell 0
  have c1 : w.cell? ⟨g, 1, none⟩ = some (.int .i64 (s : Int)) := hb.cell 1
  have f0 := hb.free 0
  have f1 := hb.free 1
  have hor : bits .or .i64 ((b : Int) * 2) (x : Int) = 2 * (b : Int) + x := by
    have := or_i64 (b * 2) x (by omega) (by omega)
    rw [show (((b * 2 : Nat)) : Int) = (b : Int) * 2 by omega] at this
    rw [this]
    have h2 : b * 2 ||| x = b * 2 + x := by
      have := or_join b x 1 (by omega)
      rw [Nat.pow_one] at this
      exact this
    rw [h2]
    omega
  have HB := Lib.hid hb
  clear hb
  go_enter Tryd.func57, Tryd.ntmps57
  go_wp2
  go_end0
  refine ⟨rfl, ?_, ?_⟩
  · have := (HB.out.put 0 (.int .i64 ((2 * b + x : Nat) : Int))).put 1 (.int .i64 ((s + 1 : Nat) : Int))
    exact this
  · exact ((Kept.refl (fun i => i = g) w).setCell (p := ⟨g, 0, none⟩) (fun _ => rfl) _).setCell (p := ⟨g, 1, none⟩) (fun _ => rfl) _
end Go.Proofs.YthfpdebpepbejaaDoor
