/-
  The contracts of the reference's At and Same.
-/
import Derived.Test.YtadlaljohlpabaaPRight
namespace Go.Proofs.Ytadlaljohlpabaa
open Go.RowKit

/-- where a place beyond the edge lies -/
theorem clamp_case (x : Int) {n : Nat} (h : 1 ≤ n) : (x < 0 ∧ clampN x n = 0) ∨ (0 ≤ x ∧ (n : Int) ≤ x ∧ ((n : Int) - 1 = (clampN x n : Nat))) ∨ (0 ≤ x ∧ x < n ∧ x = (clampN x n : Nat)) := by
  unfold clampN
  by_cases a : x < 0
  · exact .inl ⟨a, if_pos a⟩
  · rw [if_neg a]
    by_cases b : (n : Int) ≤ x
    · exact .inr (.inl ⟨by omega, b, by rw [if_pos b]; omega⟩)
    · exact .inr (.inr ⟨by omega, by omega, by rw [if_neg b]; omega⟩)
/-- what At answers -/
def Atd (w : World) (z : Int) (e : Ending) (w' : World) : Prop := e = .returned (.int .i64 z) ∧ Below w.heap.size w w'

set_option maxHeartbeats 1600000 in
theorem refAt_any (w : World) (W H : Nat) (A : Option Addr) (n c : Nat) (xs : List Int) (x y : Int) (hI : Ia w A n c xs) (hr : RightP xs W H) : Calls Try.prog 15 #[.agg #[.int .i64 (W : Int), .int .i64 (H : Int), .slice A n c], .int .i64 x, .int .i64 y] w (Atd w (atL xs W H x y)) := by
  obtain ⟨w1, hw1⟩ : ∃ w1, w.alloc (.cells #[.int .i64 (W : Int), .int .i64 (H : Int), .slice A n c] 24) = w1 := ⟨_, rfl⟩
  have k1 : Below w.heap.size w w1 := by rw [← hw1]; exact on_alloc _ _
  have hn : n = W * H := by rw [← hI.len, hr.len]
  have hlt := row_lt (clamp_lt x hr.w0) (clamp_lt y hr.h0)
  have hwh := hr.small
  obtain ⟨b, off, hA, hbl, hc⟩ := hI.at_ (by omega)
  have c3 := (k1.cell (p := ⟨b, off + (clampN y H * W + clampN x W), none⟩) hbl).trans (hc (clampN y H * W + clampN x W) (by omega))
  rw [← hw1] at c3
  have cx := clamp_case x hr.w0
  have cy := clamp_case y hr.h0
  have e : atL xs W H x y = xs.getD (clampN y H * W + clampN x W) 0 := rfl
  obtain ⟨X, hX⟩ : ∃ X, X = clampN x W := ⟨_, rfl⟩
  obtain ⟨Y, hY⟩ : ∃ Y, Y = clampN y H := ⟨_, rfl⟩
  rw [← hX] at c3 cx e hlt
  rw [← hY] at c3 cy e hlt
  obtain ⟨m, hm⟩ : ∃ m, m = Y * W := ⟨_, rfl⟩
  have hm' : (Y : Int) * (W : Int) = (m : Int) := by rw [hm, Int.natCast_mul]
  rw [← hm] at c3 e hlt
  obtain ⟨z, hz⟩ : ∃ z, z = xs.getD (m + X) 0 := ⟨_, rfl⟩
  rw [← hz] at c3 e
  subst hA
  have w0 := hr.w0
  have w1' := hr.w1
  have h0 := hr.h0
  have h1' := hr.h1
  rw [← hn] at hlt hwh
  have HK := Lib.hid (And.intro hw1 (And.intro k1 e))
  clear hI hr hbl hc hX hY hm hz k1 e hw1 hn
  rcases cx with ⟨p0, p1⟩ | ⟨p0, p1, p2⟩ | ⟨p0, p1, p2⟩ <;> rcases cy with ⟨q0, q1⟩ | ⟨q0, q1, q2⟩ | ⟨q0, q1, q2⟩
  · subst p1
    subst q1
    obtain rfl : m = 0 := by rw [Int.natCast_zero, Int.zero_mul] at hm'; omega
    clear hm'
    simp only [Nat.add_zero] at c3 hlt
    go_enter Try.func15, Try.ntmps15
    go_wp2_with fail
    rw [HK.out.1]
    go_ret
    exact ⟨by rw [HK.out.2.2]; rfl, HK.out.2.1⟩
  · subst p1
    simp only [Nat.add_zero] at c3 hlt
    go_enter Try.func15, Try.ntmps15
    go_wp2_with fail
    rw [HK.out.1]
    go_ret
    exact ⟨by rw [HK.out.2.2]; rfl, HK.out.2.1⟩
  · subst p1
    subst q2
    simp only [Nat.add_zero] at c3 hlt
    go_enter Try.func15, Try.ntmps15
    go_wp2_with fail
    rw [HK.out.1]
    go_ret
    exact ⟨by rw [HK.out.2.2]; rfl, HK.out.2.1⟩
  · subst q1
    obtain rfl : m = 0 := by rw [Int.natCast_zero, Int.zero_mul] at hm'; omega
    clear hm'
    simp only [Nat.zero_add] at c3 hlt
    go_enter Try.func15, Try.ntmps15
    go_wp2_with fail
    rw [HK.out.1]
    go_ret
    exact ⟨by rw [HK.out.2.2]; rfl, HK.out.2.1⟩
  · go_enter Try.func15, Try.ntmps15
    go_wp2_with fail
    rw [HK.out.1]
    go_ret
    exact ⟨by rw [HK.out.2.2]; rfl, HK.out.2.1⟩
  · subst q2
    go_enter Try.func15, Try.ntmps15
    go_wp2_with fail
    rw [HK.out.1]
    go_ret
    exact ⟨by rw [HK.out.2.2]; rfl, HK.out.2.1⟩
  · subst p2
    subst q1
    obtain rfl : m = 0 := by rw [Int.natCast_zero, Int.zero_mul] at hm'; omega
    clear hm'
    simp only [Nat.zero_add] at c3 hlt
    go_enter Try.func15, Try.ntmps15
    go_wp2_with fail
    rw [HK.out.1]
    go_ret
    exact ⟨by rw [HK.out.2.2]; rfl, HK.out.2.1⟩
  · subst p2
    go_enter Try.func15, Try.ntmps15
    go_wp2_with fail
    rw [HK.out.1]
    go_ret
    exact ⟨by rw [HK.out.2.2]; rfl, HK.out.2.1⟩
  · subst p2
    subst q2
    go_enter Try.func15, Try.ntmps15
    go_wp2_with fail
    rw [HK.out.1]
    go_ret
    exact ⟨by rw [HK.out.2.2]; rfl, HK.out.2.1⟩
end Go.Proofs.Ytadlaljohlpabaa
