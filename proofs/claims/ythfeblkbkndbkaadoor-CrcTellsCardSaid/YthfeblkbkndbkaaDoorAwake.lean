/-
  The contracts of Check where the bytes are too few, and of the laws' awake.
-/
import Derived.Test.YthfeblkbkndbkaaDoorSeal
import Derived.Lib.SlBytesConst
namespace Go.Proofs.YthfeblkbkndbkaaDoor
open Go.RowKit

set_option maxHeartbeats 400000 in
theorem check_short (w : World) (A : Option Addr) (n c : Nat) (hn : n < 4) :
    Calls Tryd.prog 14 #[.slice A n c] w fun e w' => e = .returned (.tuple #[.slice none 0 0, .int .i64 3]) ∧ w = w' := by
  have hn2 : (n : Int) < 4 := by omega
  go_enter Tryd.func14, Tryd.ntmps14
  go_wp2
  go_ret2
  exact ⟨rfl, rfl⟩

def nine : List Int := [49, 50, 51, 52, 53, 54, 55, 56, 57]
theorem sum_nine : sum nine = 3421780262 := by decide +kernel
theorem nine_fit : Fit nine := by intro z hz; simp [nine] at hz; omega
/-- the row of a constant text bears a mark behind its last cell -/
theorem nine_sl (w : World) : Sl (w.alloc (.cells #[.int .u8 49, .int .u8 50, .int .u8 51, .int .u8 52, .int .u8 53, .int .u8 54, .int .u8 55, .int .u8 56, .int .u8 57] 5 (9, 10))) (fun _ => True) (some ⟨w.heap.size, 0, none⟩) 9 9 nine := by
  refine ⟨⟨nine_fit, fun _ => ⟨w.heap.size, 0, rfl, by simp, trivial, fun i hi => ?_⟩⟩, rfl, Nat.le_refl _, by simp [maxLen], fun e => by cases e⟩
  rw [Nat.zero_add, cell_of_row _ w.heap.size i _ 5 (9, 10) (heap_alloc_new w _)]
  have h9 : i < 9 := hi
  match i, h9 with
  | 0, _ => rfl
  | 1, _ => rfl
  | 2, _ => rfl
  | 3, _ => rfl
  | 4, _ => rfl
  | 5, _ => rfl
  | 6, _ => rfl
  | 7, _ => rfl
  | 8, _ => rfl

set_option maxHeartbeats 400000 in
theorem awake_any (w : World) (hT : Tab w) : Calls Tryd.prog 9 #[] w fun e w' => e = .returned (.bool true) ∧ Below w.heap.size w w' := by
  have HT := Lib.hid hT
  have kc := fun (w : World) (C : Array Value) (n c : Nat) => Lib.run_convert_bytes_const (P := Tryd.prog) w 22 5 C n c Tryd.underlying22 Tryd.underlying5
  clear hT
  go_enter Tryd.func9, Tryd.ntmps9
  go_wp2_with fail
  refine (check_short w none 0 0 (by omega)).mono ?_
  rintro e w1 ⟨rfl, rfl⟩
  go_wp2_with fail
  refine (sum_one _ (w.heap.size + 1) (by simp) (HT.out.alloc _) (nine_sl w)).mono ?_
  rw [sum_nine]
  rintro e w1 ⟨rfl, rfl⟩
  go_wp2_with fail
  refine (sum_nothing _).mono ?_
  rintro e w1 ⟨rfl, rfl⟩
  go_wp2
  go_ret
  exact ⟨rfl, ((Below.refl _ _).alloc (Nat.le_refl _) _).alloc (by simp) _⟩

end Go.Proofs.YthfeblkbkndbkaaDoor
