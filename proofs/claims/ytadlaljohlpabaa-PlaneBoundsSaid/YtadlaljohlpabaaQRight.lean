/-
  The contracts of plane's Right and At.
-/
import Derived.Test.YtadlaljohlpabaaQSample
import Derived.Test.YtadlaljohlpabaaPRow
namespace Go.Proofs.Ytadlaljohlpabaa
open Go.RowKit

set_option maxHeartbeats 1600000 in
theorem right_any (w : World) (W H : Int) (A : Option Addr) (n c : Nat) (xs : List Int) (hI : Ia w A n c xs) (hn : n ≤ 1000000) : Calls Try.prog 16 #[.agg #[.int .i64 W, .int .i64 H, .slice A n c]] w (Righted w W H xs) := by
  obtain ⟨w1, hw1⟩ : ∃ w1, w.alloc (.cells #[.int .i64 W, .int .i64 H, .slice A n c] 24) = w1 := ⟨_, rfl⟩
  have hb1 : Box w1 w.heap.size 24 #[.int .i64 W, .int .i64 H, .slice A n c] := by rw [← hw1]; exact Box.made _ _ _
  have k1 : Below w.heap.size w w1 := by rw [← hw1]; exact on_alloc _ _
  have HW := Lib.hid hw1
  have hl := hI.len
  have p0 : w1.cell? ⟨w.heap.size, 0, none⟩ = some (.int .i64 W) := hb1.cell 0
  have p1 : w1.cell? ⟨w.heap.size, 1, none⟩ = some (.int .i64 H) := hb1.cell 1
  have p2 : w1.cell? ⟨w.heap.size, 2, none⟩ = some (.slice A n c) := hb1.cell 2
  have H1 := Lib.hid (And.intro (hI.on k1) (And.intro k1 hb1))
  have HS := Lib.hid (fun w => sized_any w W H)
  clear hw1 hb1 k1 hI
  by_cases hr : Sizd W H
  · rw [decide_eq_true hr] at HS
    have hp := prod128 hr.1 hr.2
    obtain ⟨m, hm⟩ : ∃ m, m = W * H := ⟨_, rfl⟩
    have hmm := hm.symm
    rw [hmm] at hp
    have HR := Lib.hid (And.intro hr hm)
    obtain ⟨⟨a0, a1⟩, b0, b1⟩ := hr
    clear hm
    by_cases he : (n : Int) = m
    · have he' : ((n : Int) == m) = true := by simp [he]
      have hne : ((n : Int) != m) = false := by simp [he]
      have HE := Lib.hid he
      clear he
      have hlast : Sk xs n → RightI W H xs := fun h => ⟨HR.out.1.1, HR.out.1.2, by rw [hl, HE.out, HR.out.2], fun j hj => h j (by omega)⟩
      have HL := Lib.hid (And.intro hlast hl)
      clear hlast hl
      obtain ⟨m0, m1⟩ := hp
      go_enter Try.func16, Try.ntmps16
      go_wp2_with fail
      rw [HW.out]
      refine Calls.mono (HS.out w1) ?_
      rintro e wx ⟨rfl, rfl⟩
      go_wp2_with fail
      clear p0 p1 p2
      go_loopw [25] (fun i wr => ∃ k : Nat, k ≤ n ∧ i = .int .i64 k ∧ Sk xs k ∧ w1 = wr) (fun i _ => n - (intOf i).toNat)
      case atStart => exact ⟨0, by omega, rfl, fun j hj => absurd hj (by omega), rfl⟩
      case round =>
        obtain ⟨k, hk, rfl, hS, rfl⟩ := hrel
        have HS := Lib.hid hS
        clear hS
        by_cases hkn : k < n
        · obtain ⟨b, off, hA, _, hc⟩ := H1.out.1.at_ (by omega)
          have c3 := hc k hkn
          have hz : ¬ In8 (xs.getD k 0) → ¬ RightI W H xs := fun h r => h (r.2.2.2 k (by rw [HL.out.2]; exact hkn))
          obtain ⟨z, hz'⟩ : ∃ z, z = xs.getD k 0 := ⟨_, rfl⟩
          rw [← hz'] at c3 hz
          subst hA
          have HZ := Lib.hid (And.intro hz hz')
          clear hz hz' hc
          by_cases h0 : z < 0
          · go_wp2_with fail
            go_ret
            exact ⟨by rw [decide_eq_false (HZ.out.1 (by unfold In8; omega))]; rfl, H1.out.2.1⟩
          · by_cases h1 : 255 < z
            · go_wp2_with fail
              go_ret
              exact ⟨by rw [decide_eq_false (HZ.out.1 (by unfold In8; omega))]; rfl, H1.out.2.1⟩
            · go_wp2_with fail
              go_roundw
              case rel => exact ⟨k + 1, by omega, by go_num, HS.out.more (by rw [← HZ.out.2]; unfold In8; omega), trivial⟩
              case measure => simp [intOf]; omega
        · obtain rfl : k = n := by omega
          go_wp2_with fail
          go_ret
          exact ⟨by rw [decide_eq_true (HL.out.1 HS.out)]; rfl, H1.out.2.1⟩
    · have hne : ((n : Int) != m) = true := by simpa using he
      have hne' : ((n : Int) == m) = false := by simpa using he
      have E := Lib.hid (decide_eq_false (show ¬ RightI W H xs from fun r => he (by rw [← hl, r.2.2.1, HR.out.2])))
      clear he
      obtain ⟨m0, m1⟩ := hp
      go_enter Try.func16, Try.ntmps16
      go_wp2_with fail
      rw [HW.out]
      refine Calls.mono (HS.out w1) ?_
      rintro e wx ⟨rfl, rfl⟩
      go_wp2_with fail
      go_ret
      exact ⟨by rw [E.out]; rfl, H1.out.2.1⟩
  · have E := Lib.hid (decide_eq_false (show ¬ RightI W H xs from fun r => hr ⟨r.1, r.2.1⟩))
    rw [decide_eq_false hr] at HS
    clear hr
    go_enter Try.func16, Try.ntmps16
    go_wp2_with fail
    rw [HW.out]
    refine Calls.mono (HS.out w1) ?_
    rintro e wx ⟨rfl, rfl⟩
    go_wp2_with fail
    go_ret
    exact ⟨by rw [E.out]; rfl, H1.out.2.1⟩

set_option maxHeartbeats 1600000 in
theorem at_any (w : World) (W H : Int) (A : Option Addr) (n c : Nat) (xs : List Int) (x y : Int) (hI : Ia w A n c xs) (hn : n ≤ 1000000) : Calls Try.prog 17 #[.agg #[.int .i64 W, .int .i64 H, .slice A n c], .int .i64 x, .int .i64 y] w (Atd w (if RightI W H xs then atL xs W.toNat H.toNat x y else 0)) := by
  obtain ⟨w1, hw1⟩ : ∃ w1, w.alloc (.cells #[.int .i64 W, .int .i64 H, .slice A n c] 24) = w1 := ⟨_, rfl⟩
  have hb1 : Box w1 w.heap.size 24 #[.int .i64 W, .int .i64 H, .slice A n c] := by rw [← hw1]; exact Box.made _ _ _
  have k1 : Below w.heap.size w w1 := by rw [← hw1]; exact on_alloc _ _
  have HR := Lib.hid (fun w2 (k : Below w.heap.size w w2) => right_any w2 W H A n c xs (hI.on k) hn)
  unfold Righted at HR
  have HW := Lib.hid (And.intro hw1 (And.intro k1 hb1))
  clear hw1 hb1 k1
  by_cases hr : RightI W H xs
  · rw [decide_eq_true hr] at HR
    rw [if_pos hr]
    obtain ⟨W', H', rfl, rfl, hp⟩ := hr.plane
    have HA := Lib.hid (fun w2 (k : Below w.heap.size w w2) => sample_any w2 W' H' A n c xs x y (hI.on k) hp)
    unfold Atd at HA
    clear hr hp hI
    go_enter Try.func17, Try.ntmps17
    go_wp2_with fail
    rw [HW.out.1]
    refine Calls.mono (HR.out w1 HW.out.2.1) ?_
    rintro e w4 ⟨rfl, b4⟩
    have H4 := Lib.hid (And.intro (HW.out.2.2.on b4) (on_trans HW.out.2.1 b4))
    clear b4
    go_wp2_with (first
      | (with_reducible refine wpList_load_to (op := ⟨some 10, _, _, _, _, _⟩) rfl 24 (.tmp 3) rfl (.pointer (some ⟨w.heap.size, 0, none⟩)) rfl (.agg #[.int .i64 (W' : Int), .int .i64 (H' : Int), .slice A n c]) (load_plane H4.out.1 rfl) ?_)
      | fail)
    refine Calls.mono (HA.out w4 H4.out.2) ?_
    rintro e w5 ⟨rfl, b5⟩
    have H5 := Lib.hid (on_trans H4.out.2 b5)
    clear b5
    go_wp2_with fail
    go_ret
    exact ⟨rfl, H5.out⟩
  · rw [decide_eq_false hr] at HR
    rw [if_neg hr]
    clear hr hI
    go_enter Try.func17, Try.ntmps17
    go_wp2_with fail
    rw [HW.out.1]
    refine Calls.mono (HR.out w1 HW.out.2.1) ?_
    rintro e w4 ⟨rfl, b4⟩
    have H4 := Lib.hid (on_trans HW.out.2.1 b4)
    clear b4
    go_wp2_with fail
    go_ret
    exact ⟨rfl, H4.out⟩
end Go.Proofs.Ytadlaljohlpabaa
