/-
  The contracts of plane's sized, hold, factor and pieces.
-/
import Derived.Test.YtadlaljohlpabaaSlices
namespace Go.Proofs.Ytadlaljohlpabaa
open Go.RowKit

/-- a size that may be -/
def Sizd (w h : Int) : Prop := (1 ≤ w ∧ w ≤ 128) ∧ 1 ≤ h ∧ h ≤ 128
instance (w h : Int) : Decidable (Sizd w h) := by unfold Sizd; infer_instance
/-- what answers, and does nothing -/
def Tells0 (w : World) (v : Value) (e : Ending) (w' : World) : Prop := e = .returned v ∧ w = w'

set_option maxHeartbeats 800000 in
theorem sized_any (w : World) (u v : Int) : Calls Try.prog 28 #[.int .i64 u, .int .i64 v] w (Tells0 w (.bool (decide (Sizd u v)))) := by
  by_cases hr : Sizd u v
  · have E := Lib.hid (decide_eq_true hr)
    obtain ⟨⟨a, b⟩, c, d⟩ := hr
    go_enter Try.func28, Try.ntmps28
    go_wp2_with fail
    go_ret
    exact ⟨by rw [E.out]; rfl, rfl⟩
  · have E := Lib.hid (decide_eq_false hr)
    have hc : u < 1 ∨ (1 ≤ u ∧ 128 < u) ∨ (1 ≤ u ∧ u ≤ 128 ∧ v < 1) ∨ (1 ≤ u ∧ u ≤ 128 ∧ 1 ≤ v ∧ 128 < v) := by unfold Sizd at hr; omega
    clear hr
    rcases hc with a | ⟨a, b⟩ | ⟨a, b, c⟩ | ⟨a, b, c, d⟩
    case inr.inr.inr =>
      have D := Lib.hid (decide_eq_false (show ¬ v ≤ 128 by omega))
      go_enter Try.func28, Try.ntmps28
      go_wp2_with fail
      go_ret
      exact ⟨by rw [E.out, ← D.out]; rfl, rfl⟩
    all_goals
      go_enter Try.func28, Try.ntmps28
      go_wp2_with fail
      go_ret
      exact ⟨by rw [E.out]; rfl, rfl⟩
theorem held_cases (n lo hi : Int) (_ : lo ≤ hi) : (n < lo ∧ held n lo hi = lo) ∨ (lo ≤ n ∧ hi < n ∧ held n lo hi = hi) ∨ (lo ≤ n ∧ n ≤ hi ∧ held n lo hi = n) := by
  unfold held
  by_cases a : n < lo
  · exact .inl ⟨a, if_pos a⟩
  · rw [if_neg a]
    by_cases b : hi < n
    · exact .inr (.inl ⟨by omega, b, if_pos b⟩)
    · exact .inr (.inr ⟨by omega, by omega, if_neg b⟩)
set_option maxHeartbeats 800000 in
theorem hold_any (w : World) (n lo hi : Int) (h : lo ≤ hi) : Calls Try.prog 41 #[.int .i64 n, .int .i64 lo, .int .i64 hi] w (Tells0 w (.int .i64 (held n lo hi))) := by
  have hc := held_cases n lo hi h
  rcases hc with ⟨a, b⟩ | ⟨a, b, c⟩ | ⟨a, b, c⟩
  · have E := Lib.hid b
    clear b
    go_enter Try.func41, Try.ntmps41
    go_wp2_with fail
    go_ret
    exact ⟨by rw [E.out]; rfl, rfl⟩
  · have E := Lib.hid c
    clear c
    go_enter Try.func41, Try.ntmps41
    go_wp2_with fail
    go_ret
    exact ⟨by rw [E.out]; rfl, rfl⟩
  · have E := Lib.hid c
    clear c
    go_enter Try.func41, Try.ntmps41
    go_wp2_with fail
    go_ret
    exact ⟨by rw [E.out]; rfl, rfl⟩
set_option maxHeartbeats 800000 in
theorem factor_any (w : World) (a : Bool) : Calls Try.prog 32 #[.bool a] w (Tells0 w (.int .i64 (if a then 2 else 1))) := by
  cases a
  all_goals
    go_enter Try.func32, Try.ntmps32
    go_wp2_with fail
    go_ret
    exact ⟨rfl, rfl⟩
set_option maxHeartbeats 800000 in
theorem pieces_any (w : World) (n d : Nat) (h : n ≤ 1000) (d0 : 1 ≤ d) (d1 : d ≤ 1000) : Calls Try.prog 35 #[.int .i64 (n : Int), .int .i64 (d : Int)] w (Tells0 w (.int .i64 (((n + d - 1) / d : Nat) : Int))) := by
  have e : (((n + d - 1) / d : Nat) : Int) = ((n : Int) + d - 1) / d := by rw [Int.natCast_ediv, Int.natCast_sub (by omega), Int.natCast_add]; rfl
  rw [e]
  clear e
  go_enter Try.func35, Try.ntmps35
  go_wp2_with fail
  go_ret
  exact ⟨rfl, rfl⟩
end Go.Proofs.Ytadlaljohlpabaa
