/-
  The contract of the reference's Power; a row of one's own of one number.
-/
import Derived.Test.YtmaffonnekgekaaArith
namespace Go.Proofs.Ytmaffonnekgekaa
open Go.RowKit

set_option maxHeartbeats 400000 in
theorem power_any (w : World) (n : Nat) (hn : n ≤ 24) : Calls Try.prog 32 #[.int .i64 (n : Int)] w fun e w' => e = .returned (.int .i64 ((2 ^ n : Nat) : Int)) ∧ w = w' := by
  go_enter Try.func32, Try.ntmps32
  go_wp2
  go_loop [3, 4] (fun p i => ∃ k : Nat, k ≤ n ∧ p = .int .i64 ((2 ^ k : Nat) : Int) ∧ i = .int .i64 k) (fun _ i => n - (intOf i).toNat)
  case atStart => exact ⟨0, Nat.zero_le _, rfl, rfl⟩
  case round =>
    obtain ⟨k, hk, rfl, rfl⟩ := hrel
    obtain ⟨q, hq⟩ : ∃ q, q = 2 ^ k := ⟨_, rfl⟩
    have hq1 : q ≤ 16777216 := by rw [hq]; exact Nat.le_trans (Nat.pow_le_pow_right (by omega) (show k ≤ 24 by omega)) (by decide)
    rw [← hq]
    have HQ := Lib.hid hq
    clear hq
    by_cases hlt : k < n
    · go_wp2
      go_round
      case rel =>
        refine ⟨k + 1, by omega, ?_, by go_num⟩
        rw [Nat.pow_succ, ← HQ.out]
        congr 1
      case measure => simp [intOf]; omega
    · have ek : k = n := by omega
      have HE := Lib.hid ek
      clear ek
      go_wp2
      go_ret
      obtain rfl := HE.out
      exact ⟨by rw [HQ.out]; simp, rfl⟩

/-- a new block of one number, to be appended to -/
theorem own_one (w : World) (z : Int) : (w.alloc (.cells #[.int .i64 z] 3)).ownsRow w.heap.size 3 1 (.slice (some ⟨w.heap.size, 0, none⟩) 1 1) 1 (cellsI [z]) :=
  ⟨rfl, .inr ⟨w.heap.size, 1, #[.int .i64 z], rfl, Nat.le_refl _, heap_alloc_new w _, Nat.le_refl _, by unfold maxLen; omega, rfl, rfl⟩⟩
end Go.Proofs.Ytmaffonnekgekaa
