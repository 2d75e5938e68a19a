/-
  ColourBrighter: the walk.
-/
import Derived.Test.YtpldadmeoolopaaDoorPixels
namespace Go.Proofs.YtpldadmeoolopaaDoor
open Go.RowKit

set_option maxHeartbeats 3200000 in
theorem brighter_calls (w : World) (a b c a' b' c' : Int) (hT : TabT w) : Calls Tryd.prog 6 #[.agg #[.int .i64 a, .int .i64 b, .int .i64 c], .agg #[.int .i64 a', .int .i64 b', .int .i64 c']] w (Law w) := by
  obtain ⟨w1, hw1⟩ : ∃ w1, (w.alloc (.cells #[.int .i64 a, .int .i64 b, .int .i64 c] 25)).alloc (.cells #[.int .i64 a', .int .i64 b', .int .i64 c'] 25) = w1 := ⟨_, rfl⟩
  have hb1 : Box w1 w.heap.size 25 (cellsI [a, b, c]).toArray := by rw [← hw1]; exact Box.alloc (Box.made _ _ _) _
  have hb2 : Box w1 (w.heap.size + 1) 25 (cellsI [a', b', c']).toArray := by
    rw [← hw1, show w.heap.size + 1 = (w.alloc (.cells #[.int .i64 a, .int .i64 b, .int .i64 c] 25)).heap.size by simp]
    exact Box.made _ _ _
  have k1 : Below w.heap.size w w1 := by rw [← hw1]; exact on_trans (on_alloc _ _) (on_alloc _ _)
  have hE := ofF_err a b c
  have hE' := ofF_err a' b' c'
  have hB := fun h h' => brighter (r := a) (g := b) (b := c) (r' := a') (g' := b') (b' := c') (ofF_in h) (ofF_in h')
  obtain ⟨⟨⟨p, q, s⟩, e⟩, hR⟩ : ∃ R, R = ofF a b c := ⟨_, rfl⟩
  obtain ⟨⟨⟨p', q', s'⟩, e'⟩, hR'⟩ : ∃ R, R = ofF a' b' c' := ⟨_, rfl⟩
  have HP : ∀ w, TabT w → Calls Tryd.prog 10 #[.agg #[.int .i64 a, .int .i64 b, .int .i64 c]] w (fun r w' => r = .returned (.tuple #[.agg #[.int .i64 p, .int .i64 q, .int .i64 s], .int .i64 e]) ∧ Below w.heap.size w w') := fun w h => by have := of_any w a b c h; rw [← hR] at this; exact this
  have HQ : ∀ w, TabT w → Calls Tryd.prog 10 #[.agg #[.int .i64 a', .int .i64 b', .int .i64 c']] w (fun r w' => r = .returned (.tuple #[.agg #[.int .i64 p', .int .i64 q', .int .i64 s'], .int .i64 e']) ∧ Below w.heap.size w w') := fun w h => by have := of_any w a' b' c' h; rw [← hR'] at this; exact this
  rw [← hR] at hE hB
  rw [← hR'] at hE' hB
  have H := Lib.hid (And.intro hb1 (And.intro hb2 (And.intro k1 (hT.on k1))))
  have HW := Lib.hid hw1
  have HP := Lib.hid HP
  have HQ := Lib.hid HQ
  have HB := Lib.hid (And.intro hE (And.intro hE' hB))
  clear hw1 hb1 hb2 k1 hT hR hR' hE hE' hB
  go_enter Tryd.func6, Tryd.ntmps6
  go_wp2_with fail
  rw [HW.out]
  refine Calls.mono (HP.out w1 H.out.2.2.2) ?_
  rintro r w2 ⟨rfl, b2⟩
  obtain ⟨w3, hw3⟩ : ∃ w3, w2.alloc (.cells #[.int .i64 p, .int .i64 q, .int .i64 s] 23) = w3 := ⟨_, rfl⟩
  have k3 : Below w2.heap.size w2 w3 := by rw [← hw3]; exact on_alloc _ _
  have hb3 : Box w3 w2.heap.size 23 (cellsI [p, q, s]).toArray := by rw [← hw3]; exact Box.made _ _ _
  have k03 := on_trans b2 k3
  have hc := cells_on H.out.2.1 k03
  rw [← hw3] at hc
  obtain ⟨c0, c1, c2⟩ := hc
  have H3 := Lib.hid (And.intro hb3 (And.intro (H.out.1.on k03) (And.intro (H.out.2.1.on k03) (And.intro (on_trans H.out.2.2.1 k03) (H.out.2.2.2.on k03)))))
  have HW3 := Lib.hid hw3
  clear hw3 k3 hb3 b2 k03
  go_wp2_with fail
  clear c0 c1 c2
  rw [HW3.out]
  obtain ⟨g3, hg3⟩ : ∃ g, g = w2.heap.size := ⟨_, rfl⟩
  rw [← hg3] at H3 ⊢
  clear hg3
  refine Calls.mono (HQ.out w3 H3.out.2.2.2.2) ?_
  rintro r w4 ⟨rfl, b4⟩
  obtain ⟨w5, hw5⟩ : ∃ w5, w4.alloc (.cells #[.int .i64 p', .int .i64 q', .int .i64 s'] 23) = w5 := ⟨_, rfl⟩
  have k5 : Below w4.heap.size w4 w5 := by rw [← hw5]; exact on_alloc _ _
  have k05 := on_trans b4 k5
  have hc := cells_on H3.out.1 k05
  have hd := cells_on H3.out.2.1 k05
  have hf := cells_on H3.out.2.2.1 k05
  rw [← hw5] at hc hd hf
  obtain ⟨c0, c1, c2⟩ := hc
  obtain ⟨d0, d1, d2⟩ := hd
  obtain ⟨f0, f1, f2⟩ := hf
  have H5 := Lib.hid (And.intro (on_trans H3.out.2.2.2.1 k05) (H3.out.2.2.2.2.on k05))
  have HW5 := Lib.hid hw5
  clear hw5 k5 b4 k05
  have hcase : (e = 2) ∨ (e = 0 ∧ e' = 2) ∨ (e = 0 ∧ e' = 0 ∧ a' < a) ∨ (e = 0 ∧ e' = 0 ∧ a ≤ a' ∧ b' < b) ∨ (e = 0 ∧ e' = 0 ∧ a ≤ a' ∧ b ≤ b' ∧ c' < c) ∨ (e = 0 ∧ e' = 0 ∧ a ≤ a' ∧ b ≤ b' ∧ c ≤ c' ∧ p ≤ p') := by
    rcases HB.out.1 with h | h
    · rcases HB.out.2.1 with h' | h'
      · have h : e = 0 := h
        have h' : e' = 0 := h'
        by_cases x : a ≤ a'
        · by_cases y : b ≤ b'
          · by_cases z : c ≤ c'
            · have := HB.out.2.2 h h' x y z
              exact .inr (.inr (.inr (.inr (.inr ⟨h, h', x, y, z, this⟩))))
            · exact .inr (.inr (.inr (.inr (.inl ⟨h, h', x, y, by omega⟩))))
          · exact .inr (.inr (.inr (.inl ⟨h, h', x, by omega⟩)))
        · exact .inr (.inr (.inl ⟨h, h', by omega⟩))
      · exact .inr (.inl ⟨h, (congrArg (·.2) h' :)⟩)
    · exact .inl (congrArg (·.2) h :)
  rcases hcase with rfl | ⟨rfl, rfl⟩ | ⟨rfl, rfl, x0⟩ | ⟨rfl, rfl, x0, x1⟩ | ⟨rfl, rfl, x0, x1, x2⟩ | ⟨rfl, rfl, x0, x1, x2, x3⟩
  all_goals
    go_wp2_with fail
    rw [HW5.out]
    refine (awake_any w5 H5.out.2).mono ?_
    rintro r w6 ⟨rfl, b6⟩
    have H6 := Lib.hid (on_trans H5.out.1 b6)
    clear b6
    go_wp2
    go_ret
    exact ⟨rfl, H6.out⟩
end Go.Proofs.YtpldadmeoolopaaDoor
