/-
  BitsNobody: the walk.
-/
import Derived.Test.YtdoelehfeiegeaaAwake
namespace Go.Proofs.Ytdoelehfeiegeaa
open Go.RowKit

/-- what nobody answers: no number, and an error -/
def NoNum (w : World) (e : Ending) (w' : World) : Prop := e = .returned (.tuple #[.int .i64 0, .int .i64 3]) ∧ Below w.heap.size w w'

set_option maxHeartbeats 400000 in
theorem get_nil (w : World) (c : Int) : Calls Try.prog 20 #[.pointer none, .int .i64 c] w (NoNum w) := by
  go_enter Try.func20, Try.ntmps20
  go_wp2
  go_step3
  go_wp2
  try rw [Exit.noGoto_ret]
  go_ret2
  exact ⟨rfl, Below.refl _ _⟩
set_option maxHeartbeats 400000 in
theorem bit_nil (w : World) : Calls Try.prog 18 #[.pointer none] w (NoNum w) := by
  go_enter Try.func18, Try.ntmps18
  go_wp2_with fail
  refine (get_nil w 1).mono ?_
  rintro e w1 ⟨rfl, b1⟩
  have H1 := Lib.hid b1
  clear b1
  go_wp2
  go_ret2
  exact ⟨rfl, H1.out⟩
set_option maxHeartbeats 400000 in
theorem skip_nil (w : World) : Calls Try.prog 22 #[.pointer none] w fun e w' => e = .returned (.int .i64 0) ∧ Below w.heap.size w w' := by
  go_enter Try.func22, Try.ntmps22
  go_wp2
  go_ret
  exact ⟨rfl, Below.refl _ _⟩
set_option maxHeartbeats 400000 in
theorem at_nil (w : World) : Calls Try.prog 26 #[.pointer none] w fun e w' => e = .returned (.int .i64 0) ∧ Below w.heap.size w w' := by
  go_enter Try.func26, Try.ntmps26
  go_wp2
  go_ret
  exact ⟨rfl, Below.refl _ _⟩
set_option maxHeartbeats 400000 in
theorem marker_nil (w : World) : Calls Try.prog 24 #[.pointer none] w (NoNum w) := by
  go_enter Try.func24, Try.ntmps24
  go_wp2_with fail
  go_quiet (fail)
  go_wp2
  go_ret2
  exact ⟨rfl, below_drewN_refl _ _⟩

set_option maxHeartbeats 1600000 in
theorem nobody_calls (w : World) (a b : Int) : Calls Try.prog 7 #[.agg #[.int .i64 a, .int .i64 b]] w (Law w) := by
  obtain ⟨w0, hw0⟩ : ∃ w0, w0 = w.alloc (.cells #[.int .i64 a, .int .i64 b] 28) := ⟨_, rfl⟩
  obtain ⟨g, hg⟩ : ∃ g, g = w.heap.size := ⟨_, rfl⟩
  have hb : Box w0 g 28 #[.int .i64 a, .int .i64 b] := by rw [hw0, hg]; exact Box.made _ _ _
  have b0 : Below w.heap.size w w0 := by rw [hw0]; exact on_alloc _ _
  have HH := Lib.hid (And.intro hb (And.intro b0 (And.intro hw0 hg)))
  clear hb b0 hw0 hg
  go_enter Try.func7, Try.ntmps7
  go_wp2_with fail
  rw [← HH.out.2.2.1, ← HH.out.2.2.2]
  refine (bit_nil w0).mono ?_
  rintro e w1 ⟨rfl, b1⟩
  have H1 := Lib.hid (And.intro (HH.out.1.on b1) (on_trans HH.out.2.1 b1))
  clear b1
  have c1 : w1.cell? ⟨g, 1, none⟩ = some (.int .i64 b) := H1.out.1.cell 1
  go_wp2_with fail
  refine (get_nil w1 b).mono ?_
  rintro e w2 ⟨rfl, b2⟩
  have H2 := Lib.hid (And.intro (H1.out.1.on b2) (on_trans H1.out.2 b2))
  clear b2 c1
  go_wp2_with fail
  refine (marker_nil w2).mono ?_
  rintro e w3 ⟨rfl, b3⟩
  have H3 := Lib.hid (And.intro (H2.out.1.on b3) (on_trans H2.out.2 b3))
  clear b3
  have c1 : w3.cell? ⟨g, 1, none⟩ = some (.int .i64 b) := H3.out.1.cell 1
  have c0 : w3.cell? ⟨g, 0, none⟩ = some (.int .i64 a) := H3.out.1.cell 0
  go_wp2_with fail
  refine (put_nil w3 a b).mono ?_
  rintro e w3' ⟨rfl, rfl⟩
  clear c0 c1
  go_wp2_with fail
  refine (count_nil w3).mono ?_
  rintro e w3' ⟨rfl, rfl⟩
  go_wp2_with fail
  refine (bytes_nil w3).mono ?_
  rintro e w3' ⟨rfl, rfl⟩
  go_wp2_with fail
  refine (skip_nil w3).mono ?_
  rintro e w4 ⟨rfl, b4⟩
  have H4 := Lib.hid (on_trans H3.out.2 b4)
  clear b4
  go_wp2_with fail
  refine (at_nil w4).mono ?_
  rintro e w5 ⟨rfl, b5⟩
  have H5 := Lib.hid (on_trans H4.out b5)
  clear b5
  go_wp2_with fail
  refine (awake_any w5).mono ?_
  rintro e w6 ⟨rfl, b6⟩
  have H6 := Lib.hid (on_trans H5.out b6)
  clear b6
  go_wp2
  go_ret
  exact ⟨rfl, H6.out⟩
end Go.Proofs.Ytdoelehfeiegeaa
