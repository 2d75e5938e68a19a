/-
  The predicates that the map's find is handed.
-/
import Derived.Test.YtcgajomngcgchaaFind
namespace Go.Proofs.Ytcgajomngcgchaa
open Go.RowKit

theorem on_cell {w w' : World} {b i : Nat} {v : Value} (h : w.cell? ⟨b, i, none⟩ = some v) (k : Below w.heap.size w w') : w'.cell? ⟨b, i, none⟩ = some v :=
  (k.cell (p := ⟨b, i, none⟩) (World.block_lt_of_cell? w ⟨b, i, none⟩ h)).trans h
/-- an extent whose numbers are small -/
def Sm (x : X) : Prop := -1000000 ≤ x.1 ∧ x.1 ≤ 1000000 ∧ -1000000 ≤ x.2 ∧ x.2 ≤ 1000000

theorem take1_any (b : Nat) (size x y : Int) (w : World) (hc : w.cell? ⟨b, 0, none⟩ = some (.int .i64 size)) :
    Calls Try.prog 39 #[.agg #[.int .i64 x, .int .i64 y], .pointer (some ⟨b, 0, none⟩)] w (Told (fun f => decide (size ≤ f.2)) (x, y) w) := by
  have hb : b < w.heap.size := World.block_lt_of_cell? w ⟨b, 0, none⟩ hc
  go_enter Try.func39, Try.ntmps39
  go_wp2
  go_ret
  exact ⟨rfl, on_alloc _ _⟩

set_option maxHeartbeats 800000 in
theorem give1_any (b : Nat) (e x y : Int) (w : World) (hc : w.cell? ⟨b, 0, none⟩ = some (.int .i64 e)) (hs : Sm (x, y)) :
    Calls Try.prog 35 #[.agg #[.int .i64 x, .int .i64 y], .pointer (some ⟨b, 0, none⟩)] w (Told (fun f => decide (e ≤ f.1 + f.2)) (x, y) w) := by
  have hb : b < w.heap.size := World.block_lt_of_cell? w ⟨b, 0, none⟩ hc
  obtain ⟨s1, s2, s3, s4⟩ := hs
  simp only at s1 s2 s3 s4
  obtain ⟨w1, hw1⟩ : ∃ w1, w.alloc (.cells #[.int .i64 x, .int .i64 y] 42) = w1 := ⟨_, rfl⟩
  have hk : Below w.heap.size w w1 := by rw [← hw1]; exact on_alloc _ _
  have hbx : Box w1 w.heap.size 42 #[.int .i64 x, .int .i64 y] := by rw [← hw1]; exact Box.made _ _ _
  have q0 : w1.cell? ⟨w.heap.size, 0, none⟩ = some (.int .i64 x) := hbx.cell 0
  have q1 : w1.cell? ⟨w.heap.size, 1, none⟩ = some (.int .i64 y) := hbx.cell 1
  have q2 : w1.cell? ⟨b, 0, none⟩ = some (.int .i64 e) := on_cell hc hk
  have H1 := Lib.hid (And.intro hk hw1)
  have K1 := Lib.hid q2
  clear hk hbx hc
  go_enter Try.func35, Try.ntmps35
  go_wp2_with fail
  clear hw1
  go_region_held3 (fun w' => w'.cell? ⟨b, 0, none⟩ = some (.int .i64 e) ∧ w'.cell? ⟨w.heap.size, 0, none⟩ = some (.int .i64 x) ∧ w'.cell? ⟨w.heap.size, 1, none⟩ = some (.int .i64 y))
    (first
      | exact ⟨K1.out, q0, q1⟩
      | exact K2.out)
    (first
      | (go_at_call 32
         refine (end_any x y _ (by omega) (by omega)).mono ?_
         rintro e w2 ⟨rfl, b2⟩
         have hd := on_trans (on_drew w1) b2
         have K2 := Lib.hid (show w2.cell? ⟨b, 0, none⟩ = some (.int .i64 e) ∧ w2.cell? ⟨w.heap.size, 0, none⟩ = some (.int .i64 x) ∧ w2.cell? ⟨w.heap.size, 1, none⟩ = some (.int .i64 y) from ⟨on_cell K1.out hd, on_cell q0 hd, on_cell q1 hd⟩)
         have H2 := Lib.hid hd
         clear b2 hd))
  all_goals
    go_wp2
    go_ret
    exact ⟨rfl, on_trans H1.out.1 H2.out⟩
set_option maxHeartbeats 800000 in
theorem give2_any (b : Nat) (e d x y : Int) (w : World) (hc : w.cell? ⟨b, 0, none⟩ = some (.int .i64 e)) (hd0 : w.cell? ⟨b, 1, none⟩ = some (.int .i64 d)) (hs : Sm (e, d)) :
    Calls Try.prog 36 #[.agg #[.int .i64 x, .int .i64 y], .pointer (some ⟨b, 0, none⟩)] w (Told (fun f => decide (e + d < f.1)) (x, y) w) := by
  have hb : b < w.heap.size := World.block_lt_of_cell? w ⟨b, 0, none⟩ hc
  obtain ⟨s1, s2, s3, s4⟩ := hs
  simp only at s1 s2 s3 s4
  obtain ⟨w1, hw1⟩ : ∃ w1, w.alloc (.cells #[.int .i64 x, .int .i64 y] 42) = w1 := ⟨_, rfl⟩
  have hk : Below w.heap.size w w1 := by rw [← hw1]; exact on_alloc _ _
  have hbx : Box w1 w.heap.size 42 #[.int .i64 x, .int .i64 y] := by rw [← hw1]; exact Box.made _ _ _
  have q0 : w1.cell? ⟨w.heap.size, 0, none⟩ = some (.int .i64 x) := hbx.cell 0
  have q1 : w1.cell? ⟨w.heap.size, 1, none⟩ = some (.int .i64 y) := hbx.cell 1
  have q2 : w1.cell? ⟨b, 0, none⟩ = some (.int .i64 e) := on_cell hc hk
  have q3 : w1.cell? ⟨b, 1, none⟩ = some (.int .i64 d) := on_cell hd0 hk
  have H1 := Lib.hid (And.intro hk hw1)
  have K1 := Lib.hid (And.intro q2 q3)
  clear hk hbx hc hd0
  go_enter Try.func36, Try.ntmps36
  go_wp2_with fail
  clear hw1
  go_region_held3 (fun w' => w'.cell? ⟨b, 0, none⟩ = some (.int .i64 e) ∧ w'.cell? ⟨b, 1, none⟩ = some (.int .i64 d) ∧ w'.cell? ⟨w.heap.size, 0, none⟩ = some (.int .i64 x))
    (first
      | exact ⟨K1.out.1, K1.out.2, q0⟩
      | exact K2.out)
    (first
      | (go_at_call 32
         refine (end_any e d _ (by omega) (by omega)).mono ?_
         rintro e w2 ⟨rfl, b2⟩
         have hd := on_trans (on_drew w1) b2
         have K2 := Lib.hid (show w2.cell? ⟨b, 0, none⟩ = some (.int .i64 e) ∧ w2.cell? ⟨b, 1, none⟩ = some (.int .i64 d) ∧ w2.cell? ⟨w.heap.size, 0, none⟩ = some (.int .i64 x) from ⟨on_cell K1.out.1 hd, on_cell K1.out.2 hd, on_cell q0 hd⟩)
         have H2 := Lib.hid hd
         clear b2 hd))
  all_goals
    go_wp2
    go_ret
    exact ⟨rfl, on_trans H1.out.1 H2.out⟩
set_option maxHeartbeats 800000 in
theorem end1_any (b g : Nat) (n x y : Int) (w : World) (hc : w.cell? ⟨b, 0, none⟩ = some (.pointer (some ⟨g, 0, none⟩))) (hd0 : w.cell? ⟨g, 0, none⟩ = some (.int .i64 n)) (hs : Sm (x, y)) :
    Calls Try.prog 41 #[.agg #[.int .i64 x, .int .i64 y], .pointer (some ⟨b, 0, none⟩)] w (Told (fun f => decide (f.1 + f.2 = n)) (x, y) w) := by
  have hb : b < w.heap.size := World.block_lt_of_cell? w ⟨b, 0, none⟩ hc
  obtain ⟨s1, s2, s3, s4⟩ := hs
  simp only at s1 s2 s3 s4
  obtain ⟨w1, hw1⟩ : ∃ w1, w.alloc (.cells #[.int .i64 x, .int .i64 y] 42) = w1 := ⟨_, rfl⟩
  have hk : Below w.heap.size w w1 := by rw [← hw1]; exact on_alloc _ _
  have hbx : Box w1 w.heap.size 42 #[.int .i64 x, .int .i64 y] := by rw [← hw1]; exact Box.made _ _ _
  have q0 : w1.cell? ⟨w.heap.size, 0, none⟩ = some (.int .i64 x) := hbx.cell 0
  have q1 : w1.cell? ⟨w.heap.size, 1, none⟩ = some (.int .i64 y) := hbx.cell 1
  have q2 : w1.cell? ⟨b, 0, none⟩ = some (.pointer (some ⟨g, 0, none⟩)) := on_cell hc hk
  have q3 : w1.cell? ⟨g, 0, none⟩ = some (.int .i64 n) := on_cell hd0 hk
  have H1 := Lib.hid (And.intro hk hw1)
  have K1 := Lib.hid (And.intro q2 q3)
  clear hk hbx hc hd0
  go_enter Try.func41, Try.ntmps41
  go_wp2_with fail
  clear hw1
  go_region_held3 (fun w' => w'.cell? ⟨b, 0, none⟩ = some (.pointer (some ⟨g, 0, none⟩)) ∧ w'.cell? ⟨g, 0, none⟩ = some (.int .i64 n) ∧ w'.cell? ⟨w.heap.size, 0, none⟩ = some (.int .i64 x) ∧ w'.cell? ⟨w.heap.size, 1, none⟩ = some (.int .i64 y))
    (first
      | exact ⟨K1.out.1, K1.out.2, q0, q1⟩
      | exact K2.out)
    (first
      | (go_at_call 32
         refine (end_any x y _ (by omega) (by omega)).mono ?_
         rintro e w2 ⟨rfl, b2⟩
         have hd := on_trans (on_drew w1) b2
         have K2 := Lib.hid (show w2.cell? ⟨b, 0, none⟩ = some (.pointer (some ⟨g, 0, none⟩)) ∧ w2.cell? ⟨g, 0, none⟩ = some (.int .i64 n) ∧ w2.cell? ⟨w.heap.size, 0, none⟩ = some (.int .i64 x) ∧ w2.cell? ⟨w.heap.size, 1, none⟩ = some (.int .i64 y) from ⟨on_cell K1.out.1 hd, on_cell K1.out.2 hd, on_cell q0 hd, on_cell q1 hd⟩)
         have H2 := Lib.hid hd
         clear b2 hd))
  all_goals
    go_wp2
    go_ret
    exact ⟨rfl, on_trans H1.out.1 H2.out⟩
end Go.Proofs.Ytcgajomngcgchaa
