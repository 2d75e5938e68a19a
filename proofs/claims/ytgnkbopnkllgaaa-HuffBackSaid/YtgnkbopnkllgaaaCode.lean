/-
  The contracts of Code and Spec.
-/
import Derived.Test.YtgnkbopnkllgaaaTable
namespace Go.Proofs.Ytgnkbopnkllgaaa
open Go.RowKit

/-- what Code tells -/
def Coded (w : World) (x : Nat × Nat) (e : Ending) (w' : World) : Prop := e = .returned (.tuple #[.int .i64 (x.1 : Int), .int .i64 (x.2 : Int), .bool (decide (0 < x.2))]) ∧ Below w.heap.size w w'

set_option maxHeartbeats 400000 in
theorem code_nil (w : World) (v : Int) : Calls Try.prog 15 #[.pointer none, .int .i64 v] w (Coded w (0, 0)) := by
  go_enter Try.func15, Try.ntmps15
  go_wp2
  go_ret3
  exact ⟨rfl, Below.refl _ _⟩

theorem codeOf_out {L : List En} {v : Int} (hL : ∀ e ∈ L, e.1 ≠ v) : codeOf L v = (0, 0) := by
  have : fnd L v = none := List.find?_eq_none.2 (fun y hy => by simpa using hL y hy)
  unfold codeOf
  rw [this]
  rfl
theorem numAt_even (L : List En) (z : Nat) : numAt L (z * 2) = (codeOf L (z : Int)).1 := by
  unfold numAt
  rw [if_pos (by omega), show z * 2 / 2 = z by omega]
theorem numAt_odd (L : List En) (z : Nat) : numAt L (z * 2 + 1) = (codeOf L (z : Int)).2 := by
  unfold numAt
  rw [if_neg (by omega), show (z * 2 + 1) / 2 = z by omega]

set_option maxRecDepth 20000 in
set_option maxHeartbeats 800000 in
theorem code_any (w : World) (lo hi t : Nat) (B V : List Int) (L : List En) (v : Int) (h : Tb w lo hi t B V L) (hL : ∀ e ∈ L, 0 ≤ e.1 ∧ e.1 ≤ 255) :
    Calls Try.prog 15 #[.pointer (some ⟨t, 0, none⟩), .int .i64 v] w (Coded w (codeOf L v)) := by
  obtain ⟨A, n, c, m, h⟩ := h
  by_cases h0 : v < 0
  · rw [codeOf_out (fun e he e' => by have := hL e he; omega)]
    clear h hL
    go_enter Try.func15, Try.ntmps15
    go_wp2
    go_ret3
    exact ⟨rfl, Below.refl _ _⟩
  by_cases h1 : 256 ≤ v
  · rw [codeOf_out (fun e he e' => by have := hL e he; omega)]
    clear h hL
    go_enter Try.func15, Try.ntmps15
    go_wp2
    go_ret3
    exact ⟨rfl, Below.refl _ _⟩
  obtain ⟨z, rfl⟩ := Int.eq_ofNat_of_zero_le (show 0 ≤ v by omega)
  have hz : z < 256 := by omega
  have c0 := (h.box.cell (17 + z * 2)).trans (tabC_num h.len (show z * 2 < 512 by omega))
  have c1 := (h.box.cell (17 + (z * 2 + 1))).trans (tabC_num h.len (show z * 2 + 1 < 512 by omega))
  rw [numAt_even] at c0
  rw [numAt_odd, ← Nat.add_assoc] at c1
  obtain ⟨x, hx⟩ : ∃ x, x = codeOf L (z : Int) := ⟨_, rfl⟩
  rw [← hx] at c0 c1 ⊢
  obtain ⟨b, s⟩ := x
  dsimp only at c0 c1
  have ht := h.box.lt
  have hne : t ≠ w.heap.size := by omega
  have hz63 : ∀ w, (zeroValue 63).run Try.prog w = .ok (.agg #[.int .i64 0, .int .i64 0]) w := fun w => by kernel_rfl
  clear h hL hx
  go_enter Try.func15, Try.ntmps15
  go_wp2_with fail
  go_quiet (fail)
  go_wp2
  go_ret3
  exact ⟨by simp, on_trans (on_alloc _ _) (below_drewN_refl _ _)⟩

set_option maxHeartbeats 800000 in
theorem spec_nil (w : World) : Calls Try.prog 17 #[.pointer none] w (OwnSpec w (List.replicate 16 0) 0 []) := by
  have hz := zero25
  have hbz : ∀ w, (Instr.build 25 #[]).run Try.prog w = .ok (.agg zeroC) w := fun w => run_build w 25 _ _ (by kernel_rfl)
  go_enter Try.func17, Try.ntmps17
  go_wp2_with (first
    | (with_reducible refine wpList_build_to (op := ⟨some 5, _, _, _, _, _⟩) rfl 25 _ rfl (specV (List.replicate 16 0) (.slice none 0 0)) _ rfl (hbz _) ?_)
    | ((with_reducible refine wpList_store_spec (o := ⟨none, _, _, _, _, _⟩) rfl (.tmp 2) (.tmp 5) rfl rfl w.heap.size (List.replicate 16 0) (.slice none 0 0) rfl rfl zeroC ?hb rfl rfl rfl ?_)
       case hb => exact Box.made _ _ _
       intro w4 b4 k4
       have H6 := Lib.hid (And.intro b4 k4)
       clear b4 k4)
    | fail)
  refine bodyPost_ret (v := specV (List.replicate 16 0) (.slice none 0 0)) (results_cell_row (fn := Try.f17) Try.results17 _ _ w.heap.size 25 _ (0, 0) _ rfl H6.out.1 Try.underlying25 rfl (by rw [spec_size, specC_size rfl])) rfl ?_
  exact ⟨none, 0, rfl, Il.none _, (fun b off e => by cases e), (on_alloc _ _).trans (H6.out.2.below (by simp) (fun i hi e => by omega))⟩

/-- a table's specification is read -/
theorem load_tab {w : World} {t m : Nat} {B : List Int} {v : Value} {L : List En} (h : Box w t 66 (tabC B v L m)) (hB : B.length = 16) : (Instr.loadAt 25 (.pointer (some ⟨t, 0, none⟩))).run Try.prog w = .ok (specV B v) w := by
  refine run_loadAt_mid w t 0 25 (cellsI B ++ [v]) _ ?_ Try.underlying25 rfl (by rw [spec_size]; simp [cellsI_len, hB])
  intro j u hu
  have hj : j < (cellsI B ++ [v]).length := (List.getElem?_eq_some_iff.1 hu).1
  rw [Nat.zero_add, h.cell j]
  have e : (cellsI B ++ [v])[j]? = (specC B v)[j]? := by simp [specC]
  rw [← hu, e]
  rw [List.length_append, cellsI_len, hB] at hj
  by_cases h16 : j < 16
  · rw [tabC_bits hB h16, specC_at hB h16]
  · obtain rfl : j = 16 := by simp at hj; omega
    rw [tabC_vals hB, specC_last hB]

set_option maxRecDepth 20000 in
set_option maxHeartbeats 800000 in
theorem spec_at (w : World) (lo hi t : Nat) (B V : List Int) (L : List En) (A : Option Addr) (n c m : Nat) (h : TbAt w lo hi t B V L A n c m) :
    Calls Try.prog 17 #[.pointer (some ⟨t, 0, none⟩)] w (OwnSpec w B n V) := by
  have hz := zero25
  have h1 := h.box.alloc (.cells zeroC 25)
  have HL := Lib.hid (load_tab h1 h.len)
  have HC := Lib.hid (copied_any (w.alloc (.cells zeroC 25)) B V A n c h.len (h.vals.alloc _) h.few)
  have HB := Lib.hid (And.intro h.len (Box.made w 25 zeroC))
  clear h h1
  go_enter Try.func17, Try.ntmps17
  go_wp2_with (first
    | (refine wpList_load_to (op := ⟨some 9, _, _, _, _, _⟩) rfl 25 (.tmp 8) rfl (.pointer (some ⟨t, 0, none⟩)) rfl (specV B (.slice A n c)) HL.out ?_)
    | ((with_reducible refine wpList_store_spec (o := ⟨none, _, _, _, _, _⟩) rfl (.tmp 2) (.tmp 10) rfl rfl w.heap.size B (.slice A3 n c3) rfl rfl zeroC H3.out.2.2.1 rfl HB.out.1 rfl ?_)
       intro w4 b4 k4
       have H6 := Lib.hid (And.intro b4 k4)
       clear b4 k4)
    | (go_at_call 26
       refine HC.out.mono ?_
       rintro e w3 ⟨A3, c3, rfl, hi3, hlo3, b3⟩
       have H3 := Lib.hid (And.intro hi3 (And.intro hlo3 (And.intro (HB.out.2.on b3) b3)))
       clear hi3 hlo3 b3)
    | fail)
  refine bodyPost_ret (v := specV B (.slice A3 n c3)) (results_cell_row (fn := Try.f17) Try.results17 _ _ w.heap.size 25 _ (0, 0) _ rfl H6.out.1 Try.underlying25 rfl (by rw [spec_size, specC_size HB.out.1])) rfl ?_
  obtain ⟨hi3, hlo3, hb3, b3⟩ := H3.out
  refine ⟨A3, c3, rfl, hi3.kept H6.out.2 (fun b off e hb => ?_), (fun b off e => ?_), ?_⟩
  · have := (hlo3 b off e).1
    simp at this
    omega
  · obtain ⟨h1, h2⟩ := hlo3 b off e
    simp at h1
    obtain ⟨cs, fr, hh⟩ := hi3.typ b off e
    exact ⟨by omega, fun i => (H6.out.2.frozen (Array.getElem?_eq_some_iff.1 hh).1 (by omega)).trans (h2 i)⟩
  · have h1 := on_trans (on_alloc w (.cells zeroC 25)) b3
    exact h1.trans (H6.out.2.below (by have := h1.size; omega) (fun i hi e => by omega))
end Go.Proofs.Ytgnkbopnkllgaaa
