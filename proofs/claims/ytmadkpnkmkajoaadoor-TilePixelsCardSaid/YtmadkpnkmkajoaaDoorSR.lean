/-
  Headers that may be: the contracts of both functions Right.
-/
import Derived.Test.YtmadkpnkmkajoaaDoorMA
namespace Go.Proofs.YtmadkpnkmkajoaaDoor
open Go.RowKit

def RightS (W H K R : Int) : Prop := (1 ≤ W ∧ W ≤ 128) ∧ (1 ≤ H ∧ H ≤ 128) ∧ (0 ≤ K ∧ K ≤ 3) ∧ 0 ≤ R ∧ R ≤ 65535
instance (W H K R : Int) : Decidable (RightS W H K R) := by unfold RightS; infer_instance
set_option maxHeartbeats 1600000 in
theorem rightS_any (w : World) (W H K R : Int) : Calls Tryd.prog 51 #[.agg #[.int .i64 W, .int .i64 H, .int .i64 K, .int .i64 R]] w fun e w' => e = .returned (.bool (decide (RightS W H K R))) ∧ Below w.heap.size w w' := by
  by_cases hr : RightS W H K R
  · have E := Lib.hid (decide_eq_true hr)
    obtain ⟨⟨a, b⟩, ⟨c, d⟩, ⟨e, f⟩, g, h⟩ := hr
    go_enter Tryd.func51, Tryd.ntmps51
    go_wp2_with fail
    go_ret
    exact ⟨by rw [E.out]; rfl, on_alloc _ _⟩
  · have E := Lib.hid (decide_eq_false hr)
    have hc : W < 1 ∨ (1 ≤ W ∧ 128 < W) ∨ (1 ≤ W ∧ W ≤ 128 ∧ H < 1) ∨ (1 ≤ W ∧ W ≤ 128 ∧ 1 ≤ H ∧ 128 < H) ∨ (1 ≤ W ∧ W ≤ 128 ∧ 1 ≤ H ∧ H ≤ 128 ∧ K < 0) ∨ (1 ≤ W ∧ W ≤ 128 ∧ 1 ≤ H ∧ H ≤ 128 ∧ 0 ≤ K ∧ 3 < K) ∨
      (1 ≤ W ∧ W ≤ 128 ∧ 1 ≤ H ∧ H ≤ 128 ∧ 0 ≤ K ∧ K ≤ 3 ∧ R < 0) ∨ (1 ≤ W ∧ W ≤ 128 ∧ 1 ≤ H ∧ H ≤ 128 ∧ 0 ≤ K ∧ K ≤ 3 ∧ 0 ≤ R ∧ 65535 < R) := by unfold RightS at hr; omega
    clear hr
    rcases hc with a | ⟨a, b⟩ | ⟨a, b, c⟩ | ⟨a, b, c, d⟩ | ⟨a, b, c, d, e⟩ | ⟨a, b, c, d, e, f⟩ | ⟨a, b, c, d, e, f, g⟩ | ⟨a, b, c, d, e, f, g, h⟩
    case inr.inr.inr.inr.inr.inr.inr =>
      have D := Lib.hid (decide_eq_false (show ¬ R ≤ 65535 by omega))
      go_enter Tryd.func51, Tryd.ntmps51
      go_wp2_with fail
      go_ret
      exact ⟨by rw [E.out, ← D.out]; rfl, on_alloc _ _⟩
    all_goals
      go_enter Tryd.func51, Tryd.ntmps51
      go_wp2_with fail
      go_ret
      exact ⟨by rw [E.out]; rfl, on_alloc _ _⟩


set_option maxHeartbeats 1600000 in
theorem refRightS_any (w : World) (W H K R : Int) : Calls Tryd.prog 54 #[.agg #[.int .i64 W, .int .i64 H, .int .i64 K, .int .i64 R]] w fun e w' => e = .returned (.bool (decide (RightS W H K R))) ∧ Below w.heap.size w w' := by
  by_cases hr : RightS W H K R
  · have E := Lib.hid (decide_eq_true hr)
    obtain ⟨⟨a, b⟩, ⟨c, d⟩, ⟨e, f⟩, g, h⟩ := hr
    go_enter Tryd.func54, Tryd.ntmps54
    go_wp2_with fail
    go_ret
    exact ⟨by rw [E.out]; rfl, on_alloc _ _⟩
  · have E := Lib.hid (decide_eq_false hr)
    have hc : W < 1 ∨ (1 ≤ W ∧ 128 < W) ∨ (1 ≤ W ∧ W ≤ 128 ∧ H < 1) ∨ (1 ≤ W ∧ W ≤ 128 ∧ 1 ≤ H ∧ 128 < H) ∨ (1 ≤ W ∧ W ≤ 128 ∧ 1 ≤ H ∧ H ≤ 128 ∧ K < 0) ∨ (1 ≤ W ∧ W ≤ 128 ∧ 1 ≤ H ∧ H ≤ 128 ∧ 0 ≤ K ∧ 3 < K) ∨
      (1 ≤ W ∧ W ≤ 128 ∧ 1 ≤ H ∧ H ≤ 128 ∧ 0 ≤ K ∧ K ≤ 3 ∧ R < 0) ∨ (1 ≤ W ∧ W ≤ 128 ∧ 1 ≤ H ∧ H ≤ 128 ∧ 0 ≤ K ∧ K ≤ 3 ∧ 0 ≤ R ∧ 65535 < R) := by unfold RightS at hr; omega
    clear hr
    rcases hc with a | ⟨a, b⟩ | ⟨a, b, c⟩ | ⟨a, b, c, d⟩ | ⟨a, b, c, d, e⟩ | ⟨a, b, c, d, e, f⟩ | ⟨a, b, c, d, e, f, g⟩ | ⟨a, b, c, d, e, f, g, h⟩
    case inr.inr.inr.inr.inr.inr.inr =>
      have D := Lib.hid (decide_eq_false (show ¬ R ≤ 65535 by omega))
      go_enter Tryd.func54, Tryd.ntmps54
      go_wp2_with fail
      go_ret
      exact ⟨by rw [E.out, ← D.out]; rfl, on_alloc _ _⟩
    all_goals
      go_enter Tryd.func54, Tryd.ntmps54
      go_wp2_with fail
      go_ret
      exact ⟨by rw [E.out]; rfl, on_alloc _ _⟩
/-- bytes and no error -/
def TellsY (w : World) (l : List Int) (f : Int) (e : Ending) (w' : World) : Prop := ∃ A c, e = .returned (.tuple #[.slice A l.length c, .int .i64 f]) ∧ Sl w' (fun b => w.heap.size ≤ b) A l.length c l ∧ Below w.heap.size w w'
end Go.Proofs.YtmadkpnkmkajoaaDoor
