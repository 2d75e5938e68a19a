/-
  The contract of plane's Crop, whatever it is asked.
-/
import Derived.Test.YtadlaljohlpabaaQCrop
namespace Go.Proofs.Ytadlaljohlpabaa
open Go.RowKit

set_option maxHeartbeats 3200000 in
theorem crop_any (w0 : World) (W H x y w h : Int) (A : Option Addr) (n c : Nat) (xs : List Int) (hI : Ia w0 A n c xs) (hn : n ≤ 1000000) :
    Calls Try.prog 12 #[.agg #[.int .i64 W, .int .i64 H, .slice A n c], .int .i64 x, .int .i64 y, .int .i64 w, .int .i64 h] w0 (PTells w0 (cropF W H xs x y w h)) := by
  by_cases hr : RightI W H xs
  · by_cases hc : (1 ≤ w ∧ w ≤ 128) ∧ (1 ≤ h ∧ h ≤ 128) ∧ (0 ≤ x ∧ x ≤ 128) ∧ 0 ≤ y ∧ y ≤ 128
    · have e : cropF W H xs x y w h = (w, h, cropL xs W.toNat H.toNat x.toNat y.toNat w.toNat h.toNat, 0) := by unfold cropF; rw [if_pos hr, if_pos hc]
      rw [e]
      obtain ⟨W', H', rfl, rfl, hp⟩ := hr.plane
      obtain ⟨⟨a0, a1⟩, ⟨b0, b1⟩, ⟨c0, c1⟩, d0, d1⟩ := hc
      obtain ⟨w', rfl⟩ := Int.eq_ofNat_of_zero_le (show 0 ≤ w by omega)
      obtain ⟨h', rfl⟩ := Int.eq_ofNat_of_zero_le (show 0 ≤ h by omega)
      obtain ⟨x', rfl⟩ := Int.eq_ofNat_of_zero_le c0
      obtain ⟨y', rfl⟩ := Int.eq_ofNat_of_zero_le d0
      exact crop_good w0 W' H' x' y' w' h' A n c xs hI hp (by omega) (by omega) (by omega) (by omega)
    · have e : cropF W H xs x y w h = (0, 0, [], 2) := by unfold cropF; rw [if_pos hr, if_neg hc]
      rw [e]
      have HR := Lib.hid (fun w1 (k : Below w0.heap.size w0 w1) => right_any w1 W H A n c xs (hI.on k) hn)
      unfold Righted at HR
      rw [decide_eq_true hr] at HR
      have HS := Lib.hid (fun w1 => sized_any w1 w h)
      obtain ⟨w2, hw2, b0, b1, b2, b3, k2⟩ := crop_made w0 #[.int .i64 W, .int .i64 H, .slice A n c] x y
      have HW := Lib.hid (And.intro hw2 (And.intro k2 (And.intro b0 (And.intro b1 (And.intro b2 b3)))))
      have hq : ¬ Sizd w h ∨ (Sizd w h ∧ x < 0) ∨ (Sizd w h ∧ 0 ≤ x ∧ 128 < x) ∨ (Sizd w h ∧ 0 ≤ x ∧ x ≤ 128 ∧ y < 0) ∨ (Sizd w h ∧ 0 ≤ x ∧ x ≤ 128 ∧ 0 ≤ y ∧ 128 < y) := by unfold Sizd; omega
      clear hr hc e hI hw2 k2 b0 b1 b2 b3
      rcases hq with s | ⟨s, a0⟩ | ⟨s, a0, a1⟩ | ⟨s, a0, a1, a2⟩ | ⟨s, a0, a1, a2, a3⟩
      all_goals
        first | rw [decide_eq_false s] at HS | rw [decide_eq_true s] at HS
        clear s
        go_enter Try.func12, Try.ntmps12
        go_wp2_with (first
          | (with_reducible refine wpList_load_to (op := ⟨some 13, _, _, _, _, _⟩) rfl 24 (.tmp 5) rfl (.pointer (some ⟨w0.heap.size, 0, none⟩)) rfl (.agg #[.int .i64 W, .int .i64 H, .slice A n c]) (load_plane (by rw [HW.out.1]; exact HW.out.2.2.1) rfl) ?_)
          | fail)
        rw [HW.out.1]
        refine Calls.mono (HR.out w2 HW.out.2.1) ?_
        rintro e w4 ⟨rfl, b4⟩
        have H4 := Lib.hid (And.intro (HW.out.2.2.2.2.2.on b4) (on_trans HW.out.2.1 b4))
        have cX : w4.cell? ⟨w0.heap.size + 1, 0, none⟩ = some (.int .i64 x) := (HW.out.2.2.2.1.on b4).cell 0
        have cY : w4.cell? ⟨w0.heap.size + 1 + 1, 0, none⟩ = some (.int .i64 y) := (HW.out.2.2.2.2.1.on b4).cell 0
        clear b4
        go_wp2_with fail
        refine Calls.mono (HS.out w4) ?_
        rintro e wx ⟨rfl, rfl⟩
        go_wp2_with (first
          | ((with_reducible refine wpList_store_plane (o := ⟨none, _, _, _, _, _⟩) rfl (.tmp 10) (.tmp 37) rfl rfl (w0.heap.size + 1 + 1 + 1) #[.int .i64 0, .int .i64 0, .slice none 0 0] rfl ?ho rfl rfl _ H4.out.1 rfl ?_)
             case ho => simp [Value.oneCell']
             intro w9 b9 k9
             have H9 := Lib.hid (And.intro b9 (H4.out.2.trans (k9.below H4.out.2.size (fun i hi e => by omega))))
             clear b9 k9)
          | fail)
        refine bodyPost_ret (v := .tuple #[.agg #[.int .i64 0, .int .i64 0, .slice none 0 0], .int .i64 2]) (results_ct (fn := Try.f12) Try.results12 _ _ (w0.heap.size + 1 + 1 + 1) _ _ rfl rfl (loadVar_plane H9.out.1 rfl)) rfl ?_
        exact ⟨none, 0, 0, rfl, Os.none _ _, H9.out.2⟩
  · have e : cropF W H xs x y w h = (0, 0, [], 1) := by unfold cropF; rw [if_neg hr]
    rw [e]
    have HR := Lib.hid (fun w1 (k : Below w0.heap.size w0 w1) => right_any w1 W H A n c xs (hI.on k) hn)
    unfold Righted at HR
    rw [decide_eq_false hr] at HR
    obtain ⟨w2, hw2, b0, b1, b2, b3, k2⟩ := crop_made w0 #[.int .i64 W, .int .i64 H, .slice A n c] x y
    have HW := Lib.hid (And.intro hw2 (And.intro k2 (And.intro b0 (And.intro b1 (And.intro b2 b3)))))
    clear hr e hI hw2 k2 b0 b1 b2 b3
    go_enter Try.func12, Try.ntmps12
    go_wp2_with (first
      | (with_reducible refine wpList_load_to (op := ⟨some 13, _, _, _, _, _⟩) rfl 24 (.tmp 5) rfl (.pointer (some ⟨w0.heap.size, 0, none⟩)) rfl (.agg #[.int .i64 W, .int .i64 H, .slice A n c]) (load_plane (by rw [HW.out.1]; exact HW.out.2.2.1) rfl) ?_)
      | fail)
    rw [HW.out.1]
    refine Calls.mono (HR.out w2 HW.out.2.1) ?_
    rintro e w4 ⟨rfl, b4⟩
    have H4 := Lib.hid (And.intro (HW.out.2.2.2.2.2.on b4) (on_trans HW.out.2.1 b4))
    clear b4
    go_wp2_with (first
      | ((with_reducible refine wpList_store_plane (o := ⟨none, _, _, _, _, _⟩) rfl (.tmp 10) (.tmp 16) rfl rfl (w0.heap.size + 1 + 1 + 1) #[.int .i64 0, .int .i64 0, .slice none 0 0] rfl ?ho rfl rfl _ H4.out.1 rfl ?_)
         case ho => simp [Value.oneCell']
         intro w9 b9 k9
         have H9 := Lib.hid (And.intro b9 (H4.out.2.trans (k9.below H4.out.2.size (fun i hi e => by omega))))
         clear b9 k9)
      | fail)
    refine bodyPost_ret (v := .tuple #[.agg #[.int .i64 0, .int .i64 0, .slice none 0 0], .int .i64 1]) (results_ct (fn := Try.f12) Try.results12 _ _ (w0.heap.size + 1 + 1 + 1) _ _ rfl rfl (loadVar_plane H9.out.1 rfl)) rfl ?_
    exact ⟨none, 0, 0, rfl, Os.none _ _, H9.out.2⟩
end Go.Proofs.Ytadlaljohlpabaa
