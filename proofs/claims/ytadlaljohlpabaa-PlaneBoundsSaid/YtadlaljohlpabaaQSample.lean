/-
  The contracts of plane's sample, Right and At.
-/
import Derived.Test.YtadlaljohlpabaaQSmall
import Derived.Test.YtadlaljohlpabaaPSame
import Derived.BigRegion
namespace Go.Proofs.Ytadlaljohlpabaa
open Go.RowKit

theorem held_clamp (y : Int) {H : Nat} (h : 1 ≤ H) : held y 0 ((H : Int) - 1) = (clampN y H : Nat) := by
  unfold held clampN
  by_cases a : y < 0
  · rw [if_pos a, if_pos a]; rfl
  · rw [if_neg a, if_neg a]
    by_cases b : (H : Int) ≤ y
    · rw [if_pos b]
      by_cases c : (H : Int) - 1 < y
      · rw [if_pos c]; omega
      · omega
    · rw [if_neg b, if_neg (by omega)]; omega

set_option maxHeartbeats 1600000 in
theorem sample_any (w : World) (W H : Nat) (A : Option Addr) (n c : Nat) (xs : List Int) (x y : Int) (hI : Ia w A n c xs) (hr : RightP xs W H) : Calls Try.prog 30 #[.agg #[.int .i64 (W : Int), .int .i64 (H : Int), .slice A n c], .int .i64 x, .int .i64 y] w (Atd w (atL xs W H x y)) := by
  obtain ⟨w1, hw1⟩ : ∃ w1, w.alloc (.cells #[.int .i64 (W : Int), .int .i64 (H : Int), .slice A n c] 24) = w1 := ⟨_, rfl⟩
  have k1 : Below w.heap.size w w1 := by rw [← hw1]; exact on_alloc _ _
  have b1 : Box w1 w.heap.size 24 #[.int .i64 (W : Int), .int .i64 (H : Int), .slice A n c] := by rw [← hw1]; exact Box.made _ _ _
  have hn : n = W * H := by rw [← hI.len, hr.len]
  have hlt := row_lt (clamp_lt x hr.w0) (clamp_lt y hr.h0)
  have hwh := hr.small
  obtain ⟨b, off, hA, hbl, hc⟩ := hI.at_ (by omega)
  have c3 := (k1.cell (p := ⟨b, off + (clampN y H * W + clampN x W), none⟩) hbl).trans (hc (clampN y H * W + clampN x W) (by omega))
  have e : atL xs W H x y = xs.getD (clampN y H * W + clampN x W) 0 := rfl
  have HX := fun w => hold_any w x 0 ((W : Int) - 1) (by have := hr.w0; omega)
  have HY := fun w => hold_any w y 0 ((H : Int) - 1) (by have := hr.h0; omega)
  rw [held_clamp x hr.w0] at HX
  rw [held_clamp y hr.h0] at HY
  obtain ⟨X, hX⟩ : ∃ X, X = clampN x W := ⟨_, rfl⟩
  obtain ⟨Y, hY⟩ : ∃ Y, Y = clampN y H := ⟨_, rfl⟩
  have hXl := clamp_lt x hr.w0
  have hYl := clamp_lt y hr.h0
  rw [← hX] at c3 e hlt HX hXl
  rw [← hY] at c3 e hlt HY hYl
  obtain ⟨m, hm⟩ : ∃ m, m = Y * W := ⟨_, rfl⟩
  have hm' : (Y : Int) * (W : Int) = (m : Int) := by rw [hm, Int.natCast_mul]
  rw [← hm] at c3 e hlt
  obtain ⟨z, hz⟩ : ∃ z, z = xs.getD (m + X) 0 := ⟨_, rfl⟩
  rw [← hz] at c3 e
  subst hA
  have w0 := hr.w0
  have w1' := hr.w1
  have h0 := hr.h0
  have h1' := hr.h1
  rw [← hn] at hlt hwh
  have p0 : w1.cell? ⟨w.heap.size, 0, none⟩ = some (.int .i64 (W : Int)) := b1.cell 0
  have p1 : w1.cell? ⟨w.heap.size, 1, none⟩ = some (.int .i64 (H : Int)) := b1.cell 1
  have p2 : w1.cell? ⟨w.heap.size, 2, none⟩ = some (.slice (some ⟨b, off, none⟩) n c) := b1.cell 2
  have HK := Lib.hid (And.intro hw1 (And.intro k1 e))
  have HX' : ∀ w, Calls Try.prog 41 #[.int .i64 x, .int .i64 0, .int .i64 ((W : Int) - 1)] w fun e w' => e = .returned (.int .i64 (X : Int)) ∧ w' = w := fun w => (HX w).mono fun _ _ ⟨a, b⟩ => ⟨a, b.symm⟩
  have HY' : ∀ w, Calls Try.prog 41 #[.int .i64 y, .int .i64 0, .int .i64 ((H : Int) - 1)] w fun e w' => e = .returned (.int .i64 (Y : Int)) ∧ w' = w := fun w => (HY w).mono fun _ _ ⟨a, b⟩ => ⟨a, b.symm⟩
  have HXY := Lib.hid (And.intro HX' HY')
  have lt' : (m : Int) + (X : Int) < (n : Int) := by omega
  clear hI hr hbl hc hX hY hm hz k1 e hw1 hn b1 HX HY HX' HY'
  go_enter Try.func30, Try.ntmps30
  go_wp2_with fail
  rw [HK.out.1]
  go_quiet ((go_at_call 41; first | (with_reducible exact Calls.quiet_of_same (HXY.out.2 _)) | (with_reducible exact Calls.quiet_of_same (HXY.out.1 _))))
  go_wp2_with fail
  go_ret
  exact ⟨by rw [HK.out.2.2]; rfl, on_trans HK.out.2.1 (below_drewN _ _)⟩
end Go.Proofs.Ytadlaljohlpabaa
