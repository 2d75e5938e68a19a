/-
  The contracts of Code and Spec.
-/
import Derived.Test.YthfpdebpepbejaaDoorTable
namespace Go.Proofs.YthfpdebpepbejaaDoor
open Go.RowKit

/-- what Code tells -/
def Coded (w : World) (x : Nat × Nat) (e : Ending) (w' : World) : Prop := e = .returned (.tuple #[.int .i64 (x.1 : Int), .int .i64 (x.2 : Int), .bool (decide (0 < x.2))]) ∧ Below w.heap.size w w'

set_option maxHeartbeats 400000 in
theorem code_nil (w : World) (v : Int) : Calls Tryd.prog 42 #[.pointer none, .int .i64 v] w (Coded w (0, 0)) := by
  go_enter Tryd.func42, Tryd.ntmps42
  go_wp2
  go_ret3
  exact ⟨rfl, Below.refl _ _⟩

theorem codeOf_out {L : List En} {v : Int} (hL : ∀ e ∈ L, e.1 ≠ v) : codeOf L v = (0, 0) := by
  have : fnd L v = none := List.find?_eq_none.2 (fun y hy => by simpa using hL y hy)
  unfold codeOf
  rw [this]
  rfl
theorem numAt_even (L : List En) (z : Nat) : numAt L (z * 2) = (codeOf L (z : Int)).1 := by
  unfold numAt
  rw [if_pos (by omega), show z * 2 / 2 = z by omega]
theorem numAt_odd (L : List En) (z : Nat) : numAt L (z * 2 + 1) = (codeOf L (z : Int)).2 := by
  unfold numAt
  rw [if_neg (by omega), show (z * 2 + 1) / 2 = z by omega]

set_option maxRecDepth 20000 in
set_option maxHeartbeats 800000 in
theorem code_any (w : World) (lo hi t : Nat) (B V : List Int) (L : List En) (v : Int) (h : Tb w lo hi t B V L) (hL : ∀ e ∈ L, 0 ≤ e.1 ∧ e.1 ≤ 255) :
    Calls Tryd.prog 42 #[.pointer (some ⟨t, 0, none⟩), .int .i64 v] w (Coded w (codeOf L v)) := by
  obtain ⟨A, n, c, m, h⟩ := h
  by_cases h0 : v < 0
  · rw [codeOf_out (fun e he e' => by have := hL e he; omega)]
    clear h hL
    go_enter Tryd.func42, Tryd.ntmps42
    go_wp2
    go_ret3
    exact ⟨rfl, Below.refl _ _⟩
  by_cases h1 : 256 ≤ v
  · rw [codeOf_out (fun e he e' => by have := hL e he; omega)]
    clear h hL
    go_enter Tryd.func42, Tryd.ntmps42
    go_wp2
    go_ret3
    exact ⟨rfl, Below.refl _ _⟩
  obtain ⟨z, rfl⟩ := Int.eq_ofNat_of_zero_le (show 0 ≤ v by omega)
  have hz : z < 256 := by omega
  have c0 := (h.box.cell (17 + z * 2)).trans (tabC_num h.len (show z * 2 < 512 by omega))
  have c1 := (h.box.cell (17 + (z * 2 + 1))).trans (tabC_num h.len (show z * 2 + 1 < 512 by omega))
  rw [numAt_even] at c0
  rw [numAt_odd, ← Nat.add_assoc] at c1
  obtain ⟨x, hx⟩ : ∃ x, x = codeOf L (z : Int) := ⟨_, rfl⟩
  rw [← hx] at c0 c1 ⊢
  obtain ⟨b, s⟩ := x
  dsimp only at c0 c1
  have ht := h.box.lt
  have hne : t ≠ w.heap.size := by omega
  have hz63 : ∀ w, (zeroValue 116).run Tryd.prog w = .ok (.agg #[.int .i64 0, .int .i64 0]) w := fun w => by kernel_rfl
  clear h hL hx
  go_enter Tryd.func42, Tryd.ntmps42
  go_wp2_with fail
  go_quiet (fail)
  go_wp2
  go_ret3
  exact ⟨by simp, on_trans (on_alloc _ _) (below_drewN_refl _ _)⟩

/-- a table's specification is read -/
theorem load_tab {w : World} {t m : Nat} {B : List Int} {v : Value} {L : List En} (h : Box w t 119 (tabC B v L m)) (hB : B.length = 16) : (Instr.loadAt 42 (.pointer (some ⟨t, 0, none⟩))).run Tryd.prog w = .ok (specV B v) w := by
  refine run_loadAt_mid w t 0 42 (cellsI B ++ [v]) _ ?_ Tryd.underlying42 rfl (by rw [spec_size]; simp [cellsI_len, hB])
  intro j u hu
  have hj : j < (cellsI B ++ [v]).length := (List.getElem?_eq_some_iff.1 hu).1
  rw [Nat.zero_add, h.cell j]
  have e : (cellsI B ++ [v])[j]? = (specC B v)[j]? := by simp [specC]
  rw [← hu, e]
  rw [List.length_append, cellsI_len, hB] at hj
  by_cases h16 : j < 16
  · rw [tabC_bits hB h16, specC_at hB h16]
  · obtain rfl : j = 16 := by simp at hj; omega
    rw [tabC_vals hB, specC_last hB]

end Go.Proofs.YthfpdebpepbejaaDoor
