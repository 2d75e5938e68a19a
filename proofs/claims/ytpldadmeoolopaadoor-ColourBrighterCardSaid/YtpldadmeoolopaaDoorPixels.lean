/-
  ColourPixels: the walk.
-/
import Derived.Test.YtpldadmeoolopaaDoorRefs
namespace Go.Proofs.YtpldadmeoolopaaDoor
open Go.RowKit

/-- the cells of three numbers, behind an alloc -/
theorem cells_on {w w' : World} {g : Nat} {t : TypeId} {a b c : Int} (h : Box w g t (cellsI [a, b, c]).toArray) (k : Below w.heap.size w w') :
    w'.cell? ⟨g, 0, none⟩ = some (.int .i64 a) ∧ w'.cell? ⟨g, 1, none⟩ = some (.int .i64 b) ∧ w'.cell? ⟨g, 2, none⟩ = some (.int .i64 c) :=
  ⟨(h.on k).cell 0, (h.on k).cell 1, (h.on k).cell 2⟩

set_option maxHeartbeats 3200000 in
theorem pixels_calls (w : World) (y cb cr : Int) (hT : TabT w) (hP : TabP w) : Calls Tryd.prog 3 #[.agg #[.int .i64 y, .int .i64 cb, .int .i64 cr]] w (Law w) := by
  obtain ⟨w1, hw1⟩ : ∃ w1, w.alloc (.cells #[.int .i64 y, .int .i64 cb, .int .i64 cr] 23) = w1 := ⟨_, rfl⟩
  have hb1 : Box w1 w.heap.size 23 (cellsI [y, cb, cr]).toArray := by rw [← hw1]; exact Box.made _ _ _
  have k1 : Below w.heap.size w w1 := by rw [← hw1]; exact on_alloc _ _
  obtain ⟨⟨⟨p, q, s⟩, e⟩, hR⟩ : ∃ R, R = pixF y cb cr := ⟨_, rfl⟩
  have HP : ∀ w, TabP w → Calls Tryd.prog 7 #[.agg #[.int .i64 y, .int .i64 cb, .int .i64 cr]] w (fun r w' => r = .returned (.tuple #[.agg #[.int .i64 p, .int .i64 q, .int .i64 s], .int .i64 e]) ∧ Below w.heap.size w w') := fun w h => by have := pix_any w y cb cr h; rw [← hR] at this; exact this
  have HQ : ∀ w, Calls Tryd.prog 8 #[.int .i64 y, .int .i64 cb, .int .i64 cr] w (fun r w' => r = .returned (.tuple #[.agg #[.int .i64 p, .int .i64 q, .int .i64 s], .int .i64 e]) ∧ Below w.heap.size w w') := fun w => by have := refPix_any w y cb cr; rw [← hR] at this; exact this
  have H := Lib.hid (And.intro hb1 (And.intro k1 (And.intro (hT.on k1) (hP.on k1))))
  have HW := Lib.hid hw1
  have HP := Lib.hid HP
  have HQ := Lib.hid HQ
  clear hw1 hb1 k1 hT hP hR
  go_enter Tryd.func3, Tryd.ntmps3
  go_wp2_with fail
  rw [HW.out]
  refine Calls.mono (HP.out w1 H.out.2.2.2) ?_
  rintro r w2 ⟨rfl, b2⟩
  obtain ⟨w3, hw3⟩ : ∃ w3, w2.alloc (.cells #[.int .i64 p, .int .i64 q, .int .i64 s] 25) = w3 := ⟨_, rfl⟩
  have k3 : Below w2.heap.size w2 w3 := by rw [← hw3]; exact on_alloc _ _
  have hb3 : Box w3 w2.heap.size 25 (cellsI [p, q, s]).toArray := by rw [← hw3]; exact Box.made _ _ _
  have hc := cells_on H.out.1 (on_trans b2 k3)
  rw [← hw3] at hc
  obtain ⟨c0, c1, c2⟩ := hc
  have H3 := Lib.hid (And.intro hb3 (And.intro (on_trans H.out.2.1 (on_trans b2 k3)) (H.out.2.2.1.on (on_trans b2 k3))))
  have HW3 := Lib.hid hw3
  clear hw3 k3 hb3 b2
  go_wp2_with fail
  clear c0 c1 c2
  rw [HW3.out]
  obtain ⟨g3, hg3⟩ : ∃ g, g = w2.heap.size := ⟨_, rfl⟩
  rw [← hg3] at H3 ⊢
  clear hg3
  refine Calls.mono (HQ.out w3) ?_
  rintro r w4 ⟨rfl, b4⟩
  obtain ⟨w5, hw5⟩ : ∃ w5, w4.alloc (.cells #[.int .i64 p, .int .i64 q, .int .i64 s] 25) = w5 := ⟨_, rfl⟩
  have k5 : Below w4.heap.size w4 w5 := by rw [← hw5]; exact on_alloc _ _
  have hc := cells_on H3.out.1 (on_trans b4 k5)
  rw [← hw5] at hc
  obtain ⟨c0, c1, c2⟩ := hc
  have H5 := Lib.hid (And.intro (on_trans H3.out.2.1 (on_trans b4 k5)) (H3.out.2.2.on (on_trans b4 k5)))
  have HW5 := Lib.hid hw5
  clear hw5 k5 b4
  go_wp2_with fail
  rw [HW5.out]
  refine (awake_any w5 H5.out.2).mono ?_
  rintro r w6 ⟨rfl, b6⟩
  have H6 := Lib.hid (on_trans H5.out.1 b6)
  clear b6 c0 c1 c2
  go_wp2
  go_ret
  exact ⟨rfl, H6.out⟩
end Go.Proofs.YtpldadmeoolopaaDoor
