/-
  RoomNobody: a map that is not there has no room.
-/
import Derived.Test.YtcgajomngcgchaaAwake
namespace Go.Proofs.Ytcgajomngcgchaa
open Go.RowKit

set_option maxHeartbeats 3200000 in
theorem nobody_calls (w : World) (x y : Int) : Calls Try.prog 7 #[.agg #[.int .i64 x, .int .i64 y]] w (Law w) := by
  obtain ⟨w1, hw1⟩ : ∃ w1, w.alloc (.cells #[.int .i64 x, .int .i64 y] 42) = w1 := ⟨_, rfl⟩
  have k1 : Below w.heap.size w w1 := by rw [← hw1]; exact on_alloc _ _
  have be : Box w1 w.heap.size 42 #[.int .i64 x, .int .i64 y] := by rw [← hw1]; exact Box.made _ _ _
  have q0 : w1.cell? ⟨w.heap.size, 0, none⟩ = some (.int .i64 x) := be.cell 0
  have q1 : w1.cell? ⟨w.heap.size, 1, none⟩ = some (.int .i64 y) := be.cell 1
  have H1 := Lib.hid (And.intro k1 be)
  clear k1 be
  go_enter Try.func7, Try.ntmps7
  go_wp2_with fail
  refine Calls.mono (nilTake_any _ _) ?_
  rintro e w2 ⟨rfl, b2⟩
  unfold extV
  obtain ⟨w3, hw3⟩ : ∃ w3, w2.alloc (.cells #[.int .i64 0, .int .i64 0] 42) = w3 := ⟨_, rfl⟩
  have b3 : Below w2.heap.size w2 w3 := by rw [← hw3]; exact on_alloc _ _
  have bz : Box w3 w2.heap.size 42 #[.int .i64 0, .int .i64 0] := by rw [← hw3]; exact Box.made _ _ _
  have z0 : w3.cell? ⟨w2.heap.size, 0, none⟩ = some (.int .i64 0) := bz.cell 0
  have z1 : w3.cell? ⟨w2.heap.size, 1, none⟩ = some (.int .i64 0) := bz.cell 1
  have z2 := bz.free 0
  have z3 := bz.free 1
  obtain ⟨w4, hw4⟩ : ∃ w4, (w3.setCell ⟨w2.heap.size, 0, none⟩ (.int .i64 0)).setCell ⟨w2.heap.size, 1, none⟩ (.int .i64 0) = w4 := ⟨_, rfl⟩
  have hlo : w.heap.size < w2.heap.size := by have := H1.out.2.lt; have := b2.size; omega
  have b4 : Below w2.heap.size w2 w4 := by
    rw [← hw4]
    exact Below.setCell (p := ⟨w2.heap.size, 1, none⟩) (Below.setCell (p := ⟨w2.heap.size, 0, none⟩) b3 (Nat.le_refl _) _) (Nat.le_refl _) _
  have bz4 : Box w4 w2.heap.size 42 #[.int .i64 0, .int .i64 0] := by
    rw [← hw4]
    have := (bz.put 0 (.int .i64 0)).put 1 (.int .i64 0)
    simpa using this
  have x0 : w4.cell? ⟨w2.heap.size, 0, none⟩ = some (.int .i64 0) := bz4.cell 0
  have x1 : w4.cell? ⟨w2.heap.size, 1, none⟩ = some (.int .i64 0) := bz4.cell 1
  have y0 := on_cell (on_cell q0 b2) b4
  have y1 := on_cell (on_cell q1 b2) b4
  have H3 := Lib.hid (on_trans (on_trans H1.out.1 b2) b4)
  clear b2 b3 bz b4 bz4 hlo
  go_wp2_with (first
    | (go_at_call 19
       refine Calls.mono (nilGive_any _ _ _) ?_
       rintro e w5 ⟨rfl, b5⟩
       have H5 := Lib.hid b5
       clear b5)
    | (go_at_call 23
       refine Calls.mono (nilFree_any _) ?_
       rintro e w6 ⟨rfl, rfl⟩)
    | (go_at_call 24
       refine Calls.mono (nilLeft_any _) ?_
       rintro e w7 ⟨rfl, rfl⟩)
    | (go_at_call 26
       refine Calls.mono (nilEnd_any _) ?_
       rintro e w8 ⟨rfl, b8⟩
       have H8 := Lib.hid b8
       clear b8)
    | (go_at_call 28
       refine Calls.mono (nilCopy_any _) ?_
       rintro e w9 ⟨rfl, rfl⟩)
    | (go_at_call 11
       refine Calls.mono (awake_any _) ?_
       rintro e w10 ⟨rfl, b10⟩
       have H10 := Lib.hid b10
       clear b10))
  go_ret
  exact ⟨rfl, on_trans (on_trans (on_trans H3.out H5.out) H8.out) H10.out⟩
end Go.Proofs.Ytcgajomngcgchaa
