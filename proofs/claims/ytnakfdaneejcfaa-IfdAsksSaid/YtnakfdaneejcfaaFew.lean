/-
  May fields be gone through?
-/
import Derived.Test.YtnakfdaneejcfaaAsk2
namespace Go.Proofs.Ytnakfdaneejcfaa
open Go.RowKit

def FewY (l : List Fd) (n : Nat) (w : World) (r : Ending) (w' : World) : Prop := ∃ v : Bool, r = .returned (.bool v) ∧ (v = true → ∀ i, i < n → (l.getD i fd0).n ≤ 6000) ∧ w' = w
set_option maxHeartbeats 1600000 in
theorem few_any (A : Option Addr) (n c : Nat) (l : List Fd) (w : World) (hx : Fl w A n c l) : Calls Try.prog 7 #[.slice A n c] w (FewY l n w) := by
  have hmax := hx.max
  have hcap := hx.cap
  unfold maxLen at hmax
  have H0 := Lib.hid hx
  clear hx
  go_enter Try.func7, Try.ntmps7
  go_wp2_with fail
  go_loopw [3, 4] (fun s i wr => ∃ j z : Nat, j ≤ n ∧ j ≤ 41 ∧ i = .int .i64 (j : Int) ∧ s = .int .i64 (z : Int) ∧ z ≤ j * 6001 ∧ (∀ i, i < j → (l.getD i fd0).n ≤ z ∨ 6001 ≤ z) ∧ wr = w) (fun _ i _ => n - (intOf i).toNat)
  case atStart => exact ⟨0, 0, by omega, by omega, rfl, rfl, by omega, fun i hi => by omega, rfl⟩
  case round =>
    obtain ⟨j, z, hj, hj41, rfl, rfl, hz, hno, rfl⟩ := hrel
    have HB := Lib.hid hno
    have hz2 : z ≤ 300000 := by omega
    clear hno
    by_cases hjn : j < n
    · by_cases h40 : j ≤ 40
      · obtain ⟨b, off, rfl, hbs, d0, d1, d2, hil⟩ := H0.out.at_ j hjn
        obtain ⟨t, k, fA, fn, fc, fx, hf⟩ : ∃ t k fA fn fc fx, l.getD j fd0 = ⟨t, k, fA, fn, fc, fx⟩ := ⟨_, _, _, _, _, _, rfl⟩
        rw [hf] at d0 d1 d2 hil
        simp only at d0 d1 d2 hil
        have hfc := hil.cap
        have hfm := hil.max
        unfold maxLen at hfm
        have HF := Lib.hid hf
        clear hf hil
        by_cases hs : fn ≤ 6001
        · have hmin : min (fn : Int) 6001 = (fn : Int) := by omega
          go_wp2_with fail
          go_roundw
          case rel =>
            refine ⟨j + 1, z + fn, by omega, by omega, by go_num, by first | go_num | (simp [hmin]; go_num), by omega, fun i hi => ?_, trivial⟩
            rcases Nat.lt_or_ge i j with h | h
            · have := HB.out i h; omega
            · obtain rfl : i = j := by omega
              rw [HF.out]; simp only; omega
          case measure => simp [intOf]; omega
        · have hmin : min (fn : Int) 6001 = 6001 := by omega
          go_wp2_with fail
          go_roundw
          case rel =>
            refine ⟨j + 1, z + 6001, by omega, by omega, by go_num, by first | go_num | (simp [hmin]; go_num), by omega, fun i hi => .inr (by omega), trivial⟩
          case measure => simp [intOf]; omega
      · go_wp2_with fail
        go_ret
        exact ⟨_, rfl, fun h => by simp at h, rfl⟩
    · go_wp2_with fail
      all_goals go_ret
      all_goals refine ⟨_, rfl, fun h i hi => ?_, rfl⟩
      all_goals
        have := HB.out i (by omega)
        simp at h
        try omega
end Go.Proofs.Ytnakfdaneejcfaa
