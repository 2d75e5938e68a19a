/-
  QuantRounds: the walk.
-/
import Derived.Test.YtambeekkgbbfnaaDoorAwake
namespace Go.Proofs.YtambeekkgbbfnaaDoor
open Go.RowKit

set_option maxHeartbeats 800000 in
theorem rounds_calls (w : World) (n d : Int) (hT : Tab w) (hn : isInt n) (hd : isInt d) : Calls Tryd.prog 3 #[.int .i64 n, .int .i64 d] w (Law w) := by
  have H := Lib.hid (And.intro hT (And.intro hn hd))
  clear hT hn hd
  obtain ⟨x, hx⟩ : ∃ x, x = rnd n d := ⟨_, rfl⟩
  have HX := Lib.hid hx
  clear hx
  go_enter Tryd.func3, Tryd.ntmps3
  go_wp2_with fail
  refine (round_any w n d H.out.2.1 H.out.2.2).mono ?_
  rintro e w2 ⟨rfl, rfl⟩
  rw [← HX.out]
  go_wp2_with fail
  refine (refRound_any w n d H.out.2.1 H.out.2.2).mono ?_
  rintro e w2 ⟨rfl, rfl⟩
  rw [← HX.out]
  go_wp2_with fail
  refine (awake_any w H.out.1).mono ?_
  rintro e w3 ⟨rfl, b3⟩
  have H3 := Lib.hid b3
  clear b3
  go_wp2
  go_ret
  exact ⟨rfl, H3.out⟩
end Go.Proofs.YtambeekkgbbfnaaDoor
