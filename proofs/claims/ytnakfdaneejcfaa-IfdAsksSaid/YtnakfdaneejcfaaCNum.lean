/-
  The contract of layer 1's number.
-/
import Derived.Test.YtnakfdaneejcfaaCMath
namespace Go.Proofs.Ytnakfdaneejcfaa
open Go.RowKit

set_option maxHeartbeats 400000 in
theorem shift_big (i m : Int) (w : World) (h0 : 0 ≤ i) (h1 : i < m) (h2 : m ≤ 8) : Calls Try.prog 44 #[.int .i64 i, .int .i64 m, .bool true] w fun r w' => r = .returned (.int .i64 (8 * (m - 1 - i))) ∧ w = w' := by
  go_enter Try.func44, Try.ntmps44
  go_wp2
  go_ret
  exact ⟨rfl, rfl⟩

set_option maxHeartbeats 400000 in
theorem shift_little (i m : Int) (w : World) (h0 : 0 ≤ i) (h1 : i < m) (h2 : m ≤ 8) : Calls Try.prog 44 #[.int .i64 i, .int .i64 m, .bool false] w fun r w' => r = .returned (.int .i64 (8 * i)) ∧ w = w' := by
  go_enter Try.func44, Try.ntmps44
  go_wp2
  go_ret
  exact ⟨rfl, rfl⟩

set_option maxHeartbeats 400000 in
theorem number_little (b off c : Nat) (l : List Int) (w : World) (hm : l.length ≤ 8) (hf : Fit l) (hc : ∀ i, i < l.length → w.cell? ⟨b, off + i, none⟩ = some (.int .u8 (l.getD i 0))) :
    Calls Try.prog 50 #[.slice (some ⟨b, off, none⟩) l.length c, .bool false] w fun r w' => r = .returned (.int .u64 (le l)) ∧ w = w' := by
  obtain ⟨m, em⟩ : ∃ m, m = l.length := ⟨_, rfl⟩
  rw [← em] at hm hc ⊢
  have EM := Lib.hid em
  clear em
  go_enter Try.func50, Try.ntmps50
  go_wp2
  go_loop [5, 10] (fun v i => ∃ k : Nat, k ≤ m ∧ i = .int .i64 k ∧ v = .int .u64 (le (l.take k))) (fun _ i => m - (intOf i).toNat)
  case atStart => exact ⟨0, Nat.zero_le _, rfl, rfl⟩
  case round =>
    obtain ⟨k, hk, rfl, rfl⟩ := hrel
    by_cases hlt : k < m
    · have hcell := hc k hlt
      have HB := Lib.hid (hf.getD k)
      have HN := Lib.hid (le_bounds _ (hf.take k))
      have hl : k < l.length := by have := EM.out; omega
      have HS := Lib.hid (or_little _ (l.getD k 0) k (by omega) HN.out.1 (by have := HN.out.2; rwa [List.length_take, Nat.min_eq_left (by omega)] at this) HB.out.1 HB.out.2)
      have HT := Lib.hid (le_app (l.take k) (l.getD k 0))
      have HU := Lib.hid (take_more l k hl)
      obtain ⟨z, hz⟩ : ∃ z, z = l.getD k 0 := ⟨_, rfl⟩
      have HB' := HB.out
      rw [← hz] at hcell HB'
      have HZ := Lib.hid hz
      clear hz hf hc HB HN hl
      go_wp2_with (go_at_call 44; refine (shift_little _ _ _ (by omega) (by omega) (by omega)).mono ?_; rintro r w' ⟨rfl, rfl⟩)
      go_round
      case rel =>
        refine ⟨k + 1, by omega, by go_num, ?_⟩
        have e := EM.out
        rw [HU.out, HT.out, HZ.out, HS.out, List.length_take, Nat.min_eq_left (by omega)]
      case measure => simp [intOf]; omega
    · have e := EM.out
      have ek : k = l.length := by omega
      have EK := Lib.hid ek
      clear ek e
      go_wp2
      go_ret
      exact ⟨ret_num (by rw [EK.out, List.take_length]), rfl⟩

set_option maxHeartbeats 400000 in
theorem number_big (b off c : Nat) (l : List Int) (w : World) (hm : l.length ≤ 8) (hf : Fit l) (hc : ∀ i, i < l.length → w.cell? ⟨b, off + i, none⟩ = some (.int .u8 (l.getD i 0))) :
    Calls Try.prog 50 #[.slice (some ⟨b, off, none⟩) l.length c, .bool true] w fun r w' => r = .returned (.int .u64 (be l)) ∧ w = w' := by
  obtain ⟨m, em⟩ : ∃ m, m = l.length := ⟨_, rfl⟩
  rw [← em] at hm hc ⊢
  have EM := Lib.hid em
  clear em
  go_enter Try.func50, Try.ntmps50
  go_wp2
  go_loop [5, 10] (fun v i => ∃ k : Nat, k ≤ m ∧ i = .int .i64 k ∧ v = .int .u64 (be (l.take k) * (256 : Int) ^ (m - k))) (fun _ i => m - (intOf i).toNat)
  case atStart => exact ⟨0, Nat.zero_le _, rfl, by simp [be, beOn]⟩
  case round =>
    obtain ⟨k, hk, rfl, rfl⟩ := hrel
    by_cases hlt : k < m
    · have hcell := hc k hlt
      have HB := Lib.hid (hf.getD k)
      have HN := Lib.hid (be_bounds _ (hf.take k))
      have hl : k < l.length := by have := EM.out; omega
      have HS := Lib.hid (or_big _ (l.getD k 0) k (m - 1 - k) (by omega) (by omega) HN.out.1 (by have := HN.out.2; rwa [List.length_take, Nat.min_eq_left (by omega)] at this) HB.out.1 HB.out.2)
      have HT := Lib.hid (be_app (l.take k) (l.getD k 0))
      have HU := Lib.hid (take_more l k hl)
      obtain ⟨z, hz⟩ : ∃ z, z = l.getD k 0 := ⟨_, rfl⟩
      have HB' := HB.out
      rw [← hz] at hcell HB'
      have HZ := Lib.hid hz
      clear hz hf hc HB HN hl
      go_wp2_with (go_at_call 44; refine (shift_big _ _ _ (by omega) (by omega) (by omega)).mono ?_; rintro r w' ⟨rfl, rfl⟩)
      go_round
      case rel =>
        refine ⟨k + 1, by omega, by go_num, ?_⟩
        have e := EM.out
        rw [HU.out, HT.out, HZ.out]
        have h2 := HS.out
        rw [show m - 1 - k + 1 = m - k from by omega] at h2
        rw [show m - (k + 1) = m - 1 - k from by omega, ← h2]
      case measure => simp [intOf]; omega
    · have e := EM.out
      have ek : k = l.length := by omega
      have EK := Lib.hid ek
      clear ek e
      go_wp2
      go_ret
      exact ⟨ret_num (by rw [EK.out, List.take_length, EM.out]; simp), rfl⟩

end Go.Proofs.Ytnakfdaneejcfaa
