/-
  The contracts of which, halved, side.
-/
import Derived.Test.YtmadkpnkmkajoaaDoorTM
import Derived.Test.YtmadkpnkmkajoaaDoorTB
namespace Go.Proofs.YtmadkpnkmkajoaaDoor
open Go.RowKit
set_option maxRecDepth 20000

theorem which_any (w : World) (p : Nat) (hp : p < 3) : Calls Tryd.prog 44 #[.int .i64 (p : Int)] w fun e w' => e = .returned (.int .i64 ((if p = 0 then 0 else 1 : Nat) : Int)) ∧ w = w' := by
  rcases (show p = 0 ∨ p = 1 ∨ p = 2 by omega) with rfl | rfl | rfl
  all_goals
    go_enter Tryd.func44, Tryd.ntmps44
    go_wp2_with fail
    go_ret
    exact ⟨rfl, rfl⟩
theorem halved_any (w : World) (K : Int) (p : Nat) (h0 : 0 ≤ K) (h3 : K ≤ 3) (hp : p < 3) : Calls Tryd.prog 65 #[.int .i64 K, .int .i64 (p : Int)] w fun e w' => e = .returned (.tuple #[.bool (aH K p), .bool (dH K p)]) ∧ w = w' := by
  rcases (show K = 0 ∨ K = 1 ∨ K = 2 ∨ K = 3 by omega) with rfl | rfl | rfl | rfl <;> rcases (show p = 0 ∨ p = 1 ∨ p = 2 by omega) with rfl | rfl | rfl
  all_goals
    go_enter Tryd.func65, Tryd.ntmps65
    go_wp2_with fail
    go_ret2
    exact ⟨rfl, rfl⟩
set_option maxHeartbeats 1600000 in
theorem side_any (w : World) (W H : Int) (T : Nat) (K Q : Int) (B b : Bool) (hT : T = 16 ∨ T = 32) : Calls Tryd.prog 67 #[geoV W H T K Q B, .bool b] w fun e w' => e = .returned (.int .i64 ((sideN T b : Nat) : Int)) ∧ Below w.heap.size w w' := by
  unfold geoV
  rcases hT with rfl | rfl <;> cases b
  all_goals
    go_enter Tryd.func67, Tryd.ntmps67
    go_wp2_with fail
    go_ret
    exact ⟨rfl, on_alloc _ _⟩
end Go.Proofs.YtmadkpnkmkajoaaDoor
