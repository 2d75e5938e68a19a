/-
  The contract of the reference's Join, whatever it is asked.
-/
import Derived.Test.YtadlaljohlpabaaPJoin
namespace Go.Proofs.Ytadlaljohlpabaa
open Go.RowKit

set_option maxHeartbeats 3200000 in
theorem refJoin_any (w0 : World) (w h : Int) (A : Option Addr) (n c : Nat) (bl : List (List Int)) (hB : Bs w0 A n bl) :
    Calls Try.prog 26 #[.slice A n c, .int .i64 w, .int .i64 h] w0 (PTells w0 (joinF bl w h)) := by
  obtain ⟨w1, hw1⟩ : ∃ w1, w0.alloc (.cells #[.int .i64 0, .int .i64 0, .slice none 0 0] 24) = w1 := ⟨_, rfl⟩
  have k1 : Below w0.heap.size w0 w1 := by rw [← hw1]; exact on_alloc _ _
  have b1 : Box w1 w0.heap.size 24 #[.int .i64 0, .int .i64 0, .slice none 0 0] := by rw [← hw1]; exact Box.made _ _ _
  have HW := Lib.hid (And.intro hw1 (And.intro b1 k1))
  clear hw1 k1 b1
  by_cases hc : (1 ≤ w ∧ w ≤ 128) ∧ 1 ≤ h ∧ h ≤ 128
  · obtain ⟨⟨a0, a1⟩, b0, b1⟩ := hc
    obtain ⟨w', rfl⟩ := Int.eq_ofNat_of_zero_le (show 0 ≤ w by omega)
    obtain ⟨h', rfl⟩ := Int.eq_ofNat_of_zero_le (show 0 ≤ h by omega)
    by_cases hn : bl.length = nb w' * nb h'
    · have e : joinF bl (w' : Int) (h' : Int) = ((w' : Int), (h' : Int), joinL bl w' h', 0) := by unfold joinF; rw [if_pos ⟨⟨a0, a1⟩, b0, b1⟩, Int.toNat_natCast, Int.toNat_natCast, if_pos hn]
      rw [e]
      exact refJoin_good w0 w' h' A n c bl hB (by omega) (by omega) (by rw [← hB.len, hn])
    · have e : joinF bl (w' : Int) (h' : Int) = (0, 0, [], 1) := by unfold joinF; rw [if_pos ⟨⟨a0, a1⟩, b0, b1⟩, Int.toNat_natCast, Int.toNat_natCast, if_neg hn]
      rw [e]
      have HN := Lib.hid (fun w1 => blocks_any w1 w' (by omega))
      have HN' := Lib.hid (fun w1 => blocks_any w1 h' (by omega))
      unfold Nbd at HN HN'
      rw [hB.len] at hn
      have hnb : nb w' ≤ 16 ∧ nb h' ≤ 16 := by unfold nb; omega
      obtain ⟨u, hu⟩ : ∃ u, u = nb w' := ⟨_, rfl⟩
      obtain ⟨v, hv⟩ : ∃ v, v = nb h' := ⟨_, rfl⟩
      rw [← hu] at hn HN hnb
      rw [← hv] at hn HN' hnb
      have hm : u * v ≤ 16 * 16 := Nat.mul_le_mul hnb.1 hnb.2
      obtain ⟨m, hmm⟩ : ∃ m, m = u * v := ⟨_, rfl⟩
      rw [← hmm] at hn hm
      have hp : (u : Int) * (v : Int) = (m : Int) := by rw [hmm, Int.natCast_mul]
      have hne : ((n : Int) != (m : Int)) = true := by simp; omega
      have hne' : ((n : Int) == (m : Int)) = false := by simp; omega
      have hnn : ¬ n = m := hn
      clear e hu hv hmm hnb hn hB
      go_enter Try.func26, Try.ntmps26
      go_wp2_with fail
      refine Calls.mono (HN.out _) ?_
      rintro e wx ⟨rfl, rfl⟩
      go_wp2_with fail
      refine Calls.mono (HN'.out _) ?_
      rintro e wx ⟨rfl, rfl⟩
      go_wp2_with fail
      rw [HW.out.1]
      refine bodyPost_ret (v := .tuple #[.agg #[.int .i64 0, .int .i64 0, .slice none 0 0], .int .i64 1]) (results_ct (fn := Try.f26) Try.results26 _ _ w0.heap.size _ _ rfl rfl (loadVar_plane HW.out.2.1 rfl)) rfl ?_
      exact ⟨none, 0, 0, rfl, Os.none _ _, HW.out.2.2⟩
  · have e : joinF bl w h = (0, 0, [], 2) := by unfold joinF; rw [if_neg hc]
    rw [e]
    have hq : w < 1 ∨ (1 ≤ w ∧ 128 < w) ∨ (1 ≤ w ∧ w ≤ 128 ∧ h < 1) ∨ (1 ≤ w ∧ w ≤ 128 ∧ 1 ≤ h ∧ 128 < h) := by omega
    clear hc e hB
    rcases hq with a0 | ⟨a0, a1⟩ | ⟨a0, a1, a2⟩ | ⟨a0, a1, a2, a3⟩
    all_goals
      go_enter Try.func26, Try.ntmps26
      go_wp2_with fail
      rw [HW.out.1]
      refine bodyPost_ret (v := .tuple #[.agg #[.int .i64 0, .int .i64 0, .slice none 0 0], .int .i64 2]) (results_ct (fn := Try.f26) Try.results26 _ _ w0.heap.size _ _ rfl rfl (loadVar_plane HW.out.2.1 rfl)) rfl ?_
      exact ⟨none, 0, 0, rfl, Os.none _ _, HW.out.2.2⟩
end Go.Proofs.Ytadlaljohlpabaa
