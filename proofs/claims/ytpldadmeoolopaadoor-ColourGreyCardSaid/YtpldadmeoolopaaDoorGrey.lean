/-
  ColourGrey: the walk.
-/
import Derived.Test.YtpldadmeoolopaaDoorPixels
namespace Go.Proofs.YtpldadmeoolopaaDoor
open Go.RowKit

set_option maxHeartbeats 3200000 in
theorem grey_calls (w : World) (n : Int) (hT : TabT w) (hP : TabP w) (hn : 0 ≤ n ∧ n ≤ 255) : Calls Tryd.prog 4 #[.int .u8 n] w (Law w) := by
  obtain ⟨w1, hw1⟩ : ∃ w1, w.alloc (.cells #[.int .i64 n, .int .i64 n, .int .i64 n] 25) = w1 := ⟨_, rfl⟩
  have hb1 : Box w1 w.heap.size 25 (cellsI [n, n, n]).toArray := by rw [← hw1]; exact Box.made _ _ _
  have k1 : Below w.heap.size w w1 := by rw [← hw1]; exact on_alloc _ _
  have HP : ∀ w, TabT w → Calls Tryd.prog 10 #[.agg #[.int .i64 n, .int .i64 n, .int .i64 n]] w (fun r w' => r = .returned (.tuple #[.agg #[.int .i64 n, .int .i64 128, .int .i64 128], .int .i64 0]) ∧ Below w.heap.size w w') := fun w h => by have := of_any w n n n h; rw [of_grey hn] at this; exact this
  have HQ : ∀ w, TabP w → Calls Tryd.prog 7 #[.agg #[.int .i64 n, .int .i64 128, .int .i64 128]] w (fun r w' => r = .returned (.tuple #[.agg #[.int .i64 n, .int .i64 n, .int .i64 n], .int .i64 0]) ∧ Below w.heap.size w w') := fun w h => by have := pix_any w n 128 128 h; rw [pix_grey hn] at this; exact this
  have H := Lib.hid (And.intro hb1 (And.intro k1 (And.intro (hT.on k1) (hP.on k1))))
  have HW := Lib.hid hw1
  have HP := Lib.hid HP
  have HQ := Lib.hid HQ
  obtain ⟨n0, n1⟩ := hn
  clear hw1 hb1 k1 hT hP
  go_enter Tryd.func4, Tryd.ntmps4
  go_wp2_with fail
  rw [HW.out]
  refine Calls.mono (HP.out w1 H.out.2.2.1) ?_
  rintro r w2 ⟨rfl, b2⟩
  obtain ⟨w3, hw3⟩ : ∃ w3, w2.alloc (.cells #[.int .i64 n, .int .i64 128, .int .i64 128] 23) = w3 := ⟨_, rfl⟩
  have k3 : Below w2.heap.size w2 w3 := by rw [← hw3]; exact on_alloc _ _
  have hb3 : Box w3 w2.heap.size 23 (cellsI [n, 128, 128]).toArray := by rw [← hw3]; exact Box.made _ _ _
  have k03 := on_trans b2 k3
  have H3 := Lib.hid (And.intro hb3 (And.intro (H.out.1.on k03) (And.intro (on_trans H.out.2.1 k03) (And.intro (H.out.2.2.1.on k03) (H.out.2.2.2.on k03)))))
  have HW3 := Lib.hid hw3
  clear hw3 k3 hb3 b2 k03
  go_wp2_with fail
  rw [HW3.out]
  obtain ⟨g3, hg3⟩ : ∃ g, g = w2.heap.size := ⟨_, rfl⟩
  rw [← hg3] at H3 ⊢
  clear hg3
  refine Calls.mono (HQ.out w3 H3.out.2.2.2.2) ?_
  rintro r w4 ⟨rfl, b4⟩
  obtain ⟨w5, hw5⟩ : ∃ w5, w4.alloc (.cells #[.int .i64 n, .int .i64 n, .int .i64 n] 25) = w5 := ⟨_, rfl⟩
  have k5 : Below w4.heap.size w4 w5 := by rw [← hw5]; exact on_alloc _ _
  have k05 := on_trans b4 k5
  have hc := cells_on H3.out.1 k05
  have hd := cells_on H3.out.2.1 k05
  rw [← hw5] at hc hd
  obtain ⟨c0, c1, c2⟩ := hc
  obtain ⟨d0, d1, d2⟩ := hd
  have H5 := Lib.hid (And.intro (on_trans H3.out.2.2.1 k05) (H3.out.2.2.2.1.on k05))
  have HW5 := Lib.hid hw5
  clear hw5 k5 b4 k05
  go_wp2_with fail
  rw [HW5.out]
  refine (awake_any w5 H5.out.2).mono ?_
  rintro r w6 ⟨rfl, b6⟩
  have H6 := Lib.hid (on_trans H5.out.1 b6)
  clear b6 c0 c1 c2 d0 d1 d2
  go_wp2
  go_ret
  exact ⟨rfl, H6.out⟩
end Go.Proofs.YtpldadmeoolopaaDoor
