/-
  ColourBounds: the walk.
-/
import Derived.Test.YtpldadmeoolopaaDoorPixels
namespace Go.Proofs.YtpldadmeoolopaaDoor
open Go.RowKit

set_option maxHeartbeats 6400000 in
theorem bounds_calls (w : World) (a b c a' b' c' : Int) (hT : TabT w) (hP : TabP w) : Calls Tryd.prog 5 #[.agg #[.int .i64 a, .int .i64 b, .int .i64 c], .agg #[.int .i64 a', .int .i64 b', .int .i64 c']] w (Law w) := by
  obtain ⟨w1, hw1⟩ : ∃ w1, (w.alloc (.cells #[.int .i64 a, .int .i64 b, .int .i64 c] 25)).alloc (.cells #[.int .i64 a', .int .i64 b', .int .i64 c'] 23) = w1 := ⟨_, rfl⟩
  have hb2 : Box w1 (w.heap.size + 1) 23 (cellsI [a', b', c']).toArray := by
    rw [← hw1, show w.heap.size + 1 = (w.alloc (.cells #[.int .i64 a, .int .i64 b, .int .i64 c] 25)).heap.size by simp]
    exact Box.made _ _ _
  have k1 : Below w.heap.size w w1 := by rw [← hw1]; exact on_trans (on_alloc _ _) (on_alloc _ _)
  have hE := ofF_err a b c
  have hE' := pixF_err a' b' c'
  have hB := ofF_bounds a b c
  have hB' := pixF_bounds a' b' c'
  obtain ⟨⟨⟨p, q, s⟩, e⟩, hR⟩ : ∃ R, R = ofF a b c := ⟨_, rfl⟩
  obtain ⟨⟨⟨p', q', s'⟩, e'⟩, hR'⟩ : ∃ R, R = pixF a' b' c' := ⟨_, rfl⟩
  have HP : ∀ w, TabT w → Calls Tryd.prog 10 #[.agg #[.int .i64 a, .int .i64 b, .int .i64 c]] w (fun r w' => r = .returned (.tuple #[.agg #[.int .i64 p, .int .i64 q, .int .i64 s], .int .i64 e]) ∧ Below w.heap.size w w') := fun w h => by have := of_any w a b c h; rw [← hR] at this; exact this
  have HQ : ∀ w, TabP w → Calls Tryd.prog 7 #[.agg #[.int .i64 a', .int .i64 b', .int .i64 c']] w (fun r w' => r = .returned (.tuple #[.agg #[.int .i64 p', .int .i64 q', .int .i64 s'], .int .i64 e']) ∧ Below w.heap.size w w') := fun w h => by have := pix_any w a' b' c' h; rw [← hR'] at this; exact this
  rw [← hR] at hE hB
  rw [← hR'] at hE' hB'
  dsimp only at hB hB'
  have hX := pixF_ok hB
  have hX' := ofF_ok hB'
  obtain ⟨⟨⟨x, y, z⟩, f⟩, hS⟩ : ∃ R, R = pixF p q s := ⟨_, rfl⟩
  obtain ⟨⟨⟨x', y', z'⟩, f'⟩, hS'⟩ : ∃ R, R = ofF p' q' s' := ⟨_, rfl⟩
  rw [← hS] at hX
  rw [← hS'] at hX'
  obtain rfl : f = 0 := hX
  obtain rfl : f' = 0 := hX'
  have HU : ∀ w, TabP w → Calls Tryd.prog 7 #[.agg #[.int .i64 p, .int .i64 q, .int .i64 s]] w (fun r w' => r = .returned (.tuple #[.agg #[.int .i64 x, .int .i64 y, .int .i64 z], .int .i64 0]) ∧ Below w.heap.size w w') := fun w h => by have := pix_any w p q s h; rw [← hS] at this; exact this
  have HV : ∀ w, TabT w → Calls Tryd.prog 10 #[.agg #[.int .i64 p', .int .i64 q', .int .i64 s']] w (fun r w' => r = .returned (.tuple #[.agg #[.int .i64 x', .int .i64 y', .int .i64 z'], .int .i64 0]) ∧ Below w.heap.size w w') := fun w h => by have := of_any w p' q' s' h; rw [← hS'] at this; exact this
  have I0 := Lib.hid (fun w => in_any w p)
  have I1 := Lib.hid (fun w => in_any w q)
  have I2 := Lib.hid (fun w => in_any w s)
  have I3 := Lib.hid (fun w => in_any w p')
  have I4 := Lib.hid (fun w => in_any w q')
  have I5 := Lib.hid (fun w => in_any w s')
  unfold Ind at I0 I1 I2 I3 I4 I5
  rw [decide_eq_true hB.1] at I0
  rw [decide_eq_true hB.2.1] at I1
  rw [decide_eq_true hB.2.2] at I2
  rw [decide_eq_true hB'.1] at I3
  rw [decide_eq_true hB'.2.1] at I4
  rw [decide_eq_true hB'.2.2] at I5
  have hcase : (e = 0 ∨ (p = 0 ∧ q = 0 ∧ s = 0 ∧ e = 2)) ∧ (e' = 0 ∨ (p' = 0 ∧ q' = 0 ∧ s' = 0 ∧ e' = 2)) := by
    refine ⟨hE.imp id fun h => ?_, hE'.imp id fun h => ?_⟩
    · cases h; exact ⟨rfl, rfl, rfl, rfl⟩
    · cases h; exact ⟨rfl, rfl, rfl, rfl⟩
  have H := Lib.hid (And.intro hb2 (And.intro k1 (And.intro (hT.on k1) (hP.on k1))))
  have HW := Lib.hid hw1
  have HP := Lib.hid HP
  have HQ := Lib.hid HQ
  have HU := Lib.hid HU
  have HV := Lib.hid HV
  have HC := Lib.hid hcase
  clear hw1 hb2 k1 hT hP hR hR' hE hE' hB hB' hS hS' hcase
  go_enter Tryd.func5, Tryd.ntmps5
  go_wp2_with fail
  rw [HW.out]
  refine Calls.mono (HP.out w1 H.out.2.2.1) ?_
  rintro r w2 ⟨rfl, b2⟩
  obtain ⟨w3, hw3⟩ : ∃ w3, w2.alloc (.cells #[.int .i64 p, .int .i64 q, .int .i64 s] 23) = w3 := ⟨_, rfl⟩
  have k3 : Below w2.heap.size w2 w3 := by rw [← hw3]; exact on_alloc _ _
  have hb3 : Box w3 w2.heap.size 23 (cellsI [p, q, s]).toArray := by rw [← hw3]; exact Box.made _ _ _
  have k03 := on_trans b2 k3
  have hc := cells_on H.out.1 k03
  rw [← hw3] at hc
  obtain ⟨c0, c1, c2⟩ := hc
  have H3 := Lib.hid (And.intro hb3 (And.intro (on_trans H.out.2.1 k03) (And.intro (H.out.2.2.1.on k03) (H.out.2.2.2.on k03))))
  have HW3 := Lib.hid hw3
  clear hw3 k3 hb3 b2 k03
  go_wp2_with fail
  clear c0 c1 c2
  rw [HW3.out]
  obtain ⟨g3, hg3⟩ : ∃ g, g = w2.heap.size := ⟨_, rfl⟩
  rw [← hg3] at H3 ⊢
  clear hg3
  refine Calls.mono (HQ.out w3 H3.out.2.2.2) ?_
  rintro r w4 ⟨rfl, b4⟩
  obtain ⟨w5, hw5⟩ : ∃ w5, w4.alloc (.cells #[.int .i64 p', .int .i64 q', .int .i64 s'] 25) = w5 := ⟨_, rfl⟩
  have k5 : Below w4.heap.size w4 w5 := by rw [← hw5]; exact on_alloc _ _
  have hb5 : Box w5 w4.heap.size 25 (cellsI [p', q', s']).toArray := by rw [← hw5]; exact Box.made _ _ _
  have k05 := on_trans b4 k5
  have hc := cells_on H3.out.1 k05
  rw [← hw5] at hc
  obtain ⟨c0, c1, c2⟩ := hc
  have H5 := Lib.hid (And.intro hb5 (And.intro (H3.out.1.on k05) (And.intro (on_trans H3.out.2.1 k05) (And.intro (H3.out.2.2.1.on k05) (H3.out.2.2.2.on k05)))))
  have HW5 := Lib.hid hw5
  clear hw5 k5 b4 k05 hb5
  go_wp2_with fail
  refine Calls.mono (I0.out _) ?_
  rintro r wz ⟨rfl, rfl⟩
  go_wp2_with fail
  refine Calls.mono (I1.out _) ?_
  rintro r wz ⟨rfl, rfl⟩
  go_wp2_with fail
  refine Calls.mono (I2.out _) ?_
  rintro r wz ⟨rfl, rfl⟩
  go_wp2_with fail
  refine Calls.mono (I3.out _) ?_
  rintro r wz ⟨rfl, rfl⟩
  go_wp2_with fail
  refine Calls.mono (I4.out _) ?_
  rintro r wz ⟨rfl, rfl⟩
  go_wp2_with fail
  refine Calls.mono (I5.out _) ?_
  rintro r wz ⟨rfl, rfl⟩
  go_wp2_with fail
  clear c0 c1 c2
  rw [HW5.out]
  obtain ⟨g5, hg5⟩ : ∃ g, g = w4.heap.size := ⟨_, rfl⟩
  rw [← hg5] at H5 ⊢
  clear hg5
  refine Calls.mono (HU.out w5 H5.out.2.2.2.2) ?_
  rintro r w6 ⟨rfl, b6⟩
  obtain ⟨w7, hw7⟩ : ∃ w7, w6.alloc (.cells #[.int .i64 x, .int .i64 y, .int .i64 z] 25) = w7 := ⟨_, rfl⟩
  have k7 : Below w6.heap.size w6 w7 := by rw [← hw7]; exact on_alloc _ _
  have k07 := on_trans b6 k7
  have hc := cells_on H5.out.1 k07
  rw [← hw7] at hc
  obtain ⟨c0, c1, c2⟩ := hc
  have H7 := Lib.hid (And.intro (H5.out.1.on k07) (And.intro (H5.out.2.1.on k07) (And.intro (on_trans H5.out.2.2.1 k07) (H5.out.2.2.2.1.on k07))))
  have HW7 := Lib.hid hw7
  clear hw7 k7 b6 k07
  go_wp2_with fail
  clear c0 c1 c2
  rw [HW7.out]
  refine Calls.mono (HV.out w7 H7.out.2.2.2) ?_
  rintro r w8 ⟨rfl, b8⟩
  obtain ⟨w9, hw9⟩ : ∃ w9, w8.alloc (.cells #[.int .i64 x', .int .i64 y', .int .i64 z'] 23) = w9 := ⟨_, rfl⟩
  have k9 : Below w8.heap.size w8 w9 := by rw [← hw9]; exact on_alloc _ _
  have k09 := on_trans b8 k9
  have hc := cells_on H7.out.1 k09
  have hd := cells_on H7.out.2.1 k09
  rw [← hw9] at hc hd
  obtain ⟨c0, c1, c2⟩ := hc
  obtain ⟨d0, d1, d2⟩ := hd
  have H9 := Lib.hid (And.intro (on_trans H7.out.2.2.1 k09) (H7.out.2.2.2.on k09))
  have HW9 := Lib.hid hw9
  clear hw9 k9 b8 k09
  obtain ⟨ha, hb⟩ := HC.out
  rcases ha with rfl | ⟨rfl, rfl, rfl, rfl⟩ <;> rcases hb with rfl | ⟨rfl, rfl, rfl, rfl⟩
  all_goals
    clear HC
    go_wp2_with fail
    rw [HW9.out]
    refine (awake_any w9 H9.out.2).mono ?_
    rintro r wz ⟨rfl, bz⟩
    have HZ := Lib.hid (on_trans H9.out.1 bz)
    clear bz
    go_wp2
    go_ret
    exact ⟨rfl, HZ.out⟩
end Go.Proofs.YtpldadmeoolopaaDoor
