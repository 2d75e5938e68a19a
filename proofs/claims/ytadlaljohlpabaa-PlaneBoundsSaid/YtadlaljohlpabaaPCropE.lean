/-
  The contract of the reference's Crop, whatever it is asked.
-/
import Derived.Test.YtadlaljohlpabaaPCrop
namespace Go.Proofs.Ytadlaljohlpabaa
open Go.RowKit

set_option maxHeartbeats 3200000 in
theorem refCrop_any (w0 : World) (W H x y w h : Int) (A : Option Addr) (n c : Nat) (xs : List Int) (hI : Ia w0 A n c xs) (hn : n ≤ 1000000) :
    Calls Try.prog 13 #[.agg #[.int .i64 W, .int .i64 H, .slice A n c], .int .i64 x, .int .i64 y, .int .i64 w, .int .i64 h] w0 (PTells w0 (cropF W H xs x y w h)) := by
  by_cases hr : RightI W H xs
  · by_cases hc : (1 ≤ w ∧ w ≤ 128) ∧ (1 ≤ h ∧ h ≤ 128) ∧ (0 ≤ x ∧ x ≤ 128) ∧ 0 ≤ y ∧ y ≤ 128
    · have e : cropF W H xs x y w h = (w, h, cropL xs W.toNat H.toNat x.toNat y.toNat w.toNat h.toNat, 0) := by unfold cropF; rw [if_pos hr, if_pos hc]
      rw [e]
      obtain ⟨W', H', rfl, rfl, hp⟩ := hr.plane
      obtain ⟨⟨a0, a1⟩, ⟨b0, b1⟩, ⟨c0, c1⟩, d0, d1⟩ := hc
      obtain ⟨w', rfl⟩ := Int.eq_ofNat_of_zero_le (show 0 ≤ w by omega)
      obtain ⟨h', rfl⟩ := Int.eq_ofNat_of_zero_le (show 0 ≤ h by omega)
      obtain ⟨x', rfl⟩ := Int.eq_ofNat_of_zero_le c0
      obtain ⟨y', rfl⟩ := Int.eq_ofNat_of_zero_le d0
      exact refCrop_good w0 W' H' x' y' w' h' A n c xs hI hp (by omega) (by omega) (by omega) (by omega)
    · have e : cropF W H xs x y w h = (0, 0, [], 2) := by unfold cropF; rw [if_pos hr, if_neg hc]
      rw [e]
      have HR := Lib.hid (fun w1 (k : Below w0.heap.size w0 w1) => refRight_any w1 W H A n c xs (hI.on k) hn)
      unfold Righted at HR
      rw [decide_eq_true hr] at HR
      obtain ⟨w2, hw2, _, hb2, k2⟩ := two_made w0 #[.int .i64 W, .int .i64 H, .slice A n c]
      have HW := Lib.hid (And.intro hw2 (And.intro k2 hb2))
      have hq : w < 1 ∨ (1 ≤ w ∧ 128 < w) ∨ (1 ≤ w ∧ w ≤ 128 ∧ h < 1) ∨ (1 ≤ w ∧ w ≤ 128 ∧ 1 ≤ h ∧ 128 < h) ∨ (1 ≤ w ∧ w ≤ 128 ∧ 1 ≤ h ∧ h ≤ 128 ∧ x < 0) ∨ (1 ≤ w ∧ w ≤ 128 ∧ 1 ≤ h ∧ h ≤ 128 ∧ 0 ≤ x ∧ 128 < x) ∨
        (1 ≤ w ∧ w ≤ 128 ∧ 1 ≤ h ∧ h ≤ 128 ∧ 0 ≤ x ∧ x ≤ 128 ∧ y < 0) ∨ (1 ≤ w ∧ w ≤ 128 ∧ 1 ≤ h ∧ h ≤ 128 ∧ 0 ≤ x ∧ x ≤ 128 ∧ 0 ≤ y ∧ 128 < y) := by omega
      clear hr hc e hI hw2 k2 hb2
      rcases hq with a0 | ⟨a0, a1⟩ | ⟨a0, a1, a2⟩ | ⟨a0, a1, a2, a3⟩ | ⟨a0, a1, a2, a3, a4⟩ | ⟨a0, a1, a2, a3, a4, a5⟩ | ⟨a0, a1, a2, a3, a4, a5, a6⟩ | ⟨a0, a1, a2, a3, a4, a5, a6, a7⟩
      all_goals
        go_enter Try.func13, Try.ntmps13
        go_wp2_with fail
        rw [HW.out.1]
        refine Calls.mono (HR.out w2 HW.out.2.1) ?_
        rintro e w4 ⟨rfl, b4⟩
        have H4 := Lib.hid (And.intro (HW.out.2.2.on b4) (on_trans HW.out.2.1 b4))
        clear b4
        go_wp2_with (first
          | ((with_reducible refine wpList_store_plane (o := ⟨none, _, _, _, _, _⟩) rfl (.tmp 10) (.tmp 49) rfl rfl (w0.heap.size + 1) #[.int .i64 0, .int .i64 0, .slice none 0 0] rfl ?ho rfl rfl _ H4.out.1 rfl ?_)
             case ho => simp [Value.oneCell']
             intro w9 b9 k9
             have H9 := Lib.hid (And.intro b9 (H4.out.2.trans (k9.below H4.out.2.size (fun i hi e => by omega))))
             clear b9 k9)
          | fail)
        refine bodyPost_ret (v := .tuple #[.agg #[.int .i64 0, .int .i64 0, .slice none 0 0], .int .i64 2]) (results_ct (fn := Try.f13) Try.results13 _ _ (w0.heap.size + 1) _ _ rfl rfl (loadVar_plane H9.out.1 rfl)) rfl ?_
        exact ⟨none, 0, 0, rfl, Os.none _ _, H9.out.2⟩
  · have e : cropF W H xs x y w h = (0, 0, [], 1) := by unfold cropF; rw [if_neg hr]
    rw [e]
    have HR := Lib.hid (fun w1 (k : Below w0.heap.size w0 w1) => refRight_any w1 W H A n c xs (hI.on k) hn)
    unfold Righted at HR
    rw [decide_eq_false hr] at HR
    obtain ⟨w2, hw2, _, hb2, k2⟩ := two_made w0 #[.int .i64 W, .int .i64 H, .slice A n c]
    have HW := Lib.hid (And.intro hw2 (And.intro k2 hb2))
    clear hr e hI hw2 k2 hb2
    go_enter Try.func13, Try.ntmps13
    go_wp2_with fail
    rw [HW.out.1]
    refine Calls.mono (HR.out w2 HW.out.2.1) ?_
    rintro e w4 ⟨rfl, b4⟩
    have H4 := Lib.hid (And.intro (HW.out.2.2.on b4) (on_trans HW.out.2.1 b4))
    clear b4
    go_wp2_with (first
      | ((with_reducible refine wpList_store_plane (o := ⟨none, _, _, _, _, _⟩) rfl (.tmp 10) (.tmp 18) rfl rfl (w0.heap.size + 1) #[.int .i64 0, .int .i64 0, .slice none 0 0] rfl ?ho rfl rfl _ H4.out.1 rfl ?_)
         case ho => simp [Value.oneCell']
         intro w9 b9 k9
         have H9 := Lib.hid (And.intro b9 (H4.out.2.trans (k9.below H4.out.2.size (fun i hi e => by omega))))
         clear b9 k9)
      | fail)
    refine bodyPost_ret (v := .tuple #[.agg #[.int .i64 0, .int .i64 0, .slice none 0 0], .int .i64 1]) (results_ct (fn := Try.f13) Try.results13 _ _ (w0.heap.size + 1) _ _ rfl rfl (loadVar_plane H9.out.1 rfl)) rfl ?_
    exact ⟨none, 0, 0, rfl, Os.none _ _, H9.out.2⟩
end Go.Proofs.Ytadlaljohlpabaa
