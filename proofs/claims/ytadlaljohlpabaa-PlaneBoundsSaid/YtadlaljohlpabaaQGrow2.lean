/-
  The contract of plane's Grow.
-/
import Derived.Test.YtadlaljohlpabaaQGrow
namespace Go.Proofs.Ytadlaljohlpabaa
open Go.RowKit

theorem grow_fun (xs : List Int) (W H : Nat) (a d : Bool) (w h : Nat) : growL xs W H a d w h = gridL w h fun i k => atL xs W H ((i / facN a : Nat) : Int) ((k / facN d : Nat) : Int) := by
  unfold growL
  refine grid_congr fun y _ x _ => ?_
  rw [facN_div, facN_div]
/-- two numbers, boxed -/
theorem nums_made (w4 : World) (x y : Int) : ∃ w5, (w4.alloc (.cells #[.int .i64 x] 3)).alloc (.cells #[.int .i64 y] 3) = w5 ∧ Box w5 w4.heap.size 3 #[.int .i64 x] ∧ Box w5 (w4.heap.size + 1) 3 #[.int .i64 y] ∧ Below w4.heap.size w4 w5 := by
  have a1 := Box.made w4 3 #[.int .i64 x]
  have a2 := Box.made (w4.alloc (.cells #[.int .i64 x] 3)) 3 #[.int .i64 y]
  refine ⟨_, rfl, a1.alloc _, ?_, on_trans (on_alloc _ _) (on_alloc _ _)⟩
  rwa [show (w4.alloc (.cells #[.int .i64 x] 3)).heap.size = w4.heap.size + 1 by simp] at a2

set_option maxHeartbeats 3200000 in
theorem grow_good (w0 : World) (W H w h : Nat) (a d : Bool) (A : Option Addr) (n c : Nat) (xs : List Int) (hI : Ia w0 A n c xs) (hr : RightP xs W H) (hw : 1 ≤ w ∧ w ≤ 128) (hh : 1 ≤ h ∧ h ≤ 128) :
    Calls Try.prog 21 #[.agg #[.int .i64 (W : Int), .int .i64 (H : Int), .slice A n c], .bool a, .bool d, .int .i64 (w : Int), .int .i64 (h : Int)] w0 (PTells w0 ((w : Int), (h : Int), growL xs W H a d w h, 0)) := by
  have hn : n = W * H := by rw [← hI.len, hr.len]
  have hwh := hr.small
  have HR := Lib.hid (fun w1 (k : Below w0.heap.size w0 w1) => right_any w1 (W : Int) (H : Int) A n c xs (hI.on k) (by omega))
  unfold Righted at HR
  rw [decide_eq_true hr.int] at HR
  have HS := Lib.hid (fun w1 => sized_any w1 (w : Int) (h : Int))
  rw [decide_eq_true (show Sizd (w : Int) (h : Int) from ⟨⟨by omega, by omega⟩, by omega, by omega⟩)] at HS
  obtain ⟨w2, hw2, b0, b1, k2⟩ := two_made w0 #[.int .i64 (W : Int), .int .i64 (H : Int), .slice A n c]
  rw [grow_fun]
  have hfa := facN_bounds a
  have hfd := facN_bounds d
  have HF1 := Lib.hid (fun w1 => factorN_any w1 a)
  have HF2 := Lib.hid (fun w1 => factorN_any w1 d)
  obtain ⟨C, hC⟩ : ∃ C, C = facN a := ⟨_, rfl⟩
  obtain ⟨D, hD⟩ : ∃ D, D = facN d := ⟨_, rfl⟩
  rw [← hC] at hfa HF1 ⊢
  rw [← hD] at hfd HF2 ⊢
  have HM := Lib.hid (fun (w5 : World) (gC gD : Nat) (k : Below w2.heap.size w2 w5) (bC : Box w5 gC 3 #[.int .i64 (C : Int)]) (bD : Box w5 gD 3 #[.int .i64 (D : Int)]) => made_any 37 #[.pointer (some ⟨w0.heap.size, 0, none⟩), .pointer (some ⟨gC, 0, none⟩), .pointer (some ⟨gD, 0, none⟩)] calls37 w5 w h (fun i k => atL xs W H ((i / C : Nat) : Int) ((k / D : Nat) : Int)) hw hh
    fun a b w6 ha hb k6 => growT_any w6 w0.heap.size gC gD W H C D a b A n c xs ((b0.on k).on k6) (bC.on k6) (bD.on k6) (hI.on (on_trans k2 (on_trans k k6))) hr hfa hfd (by omega) (by omega))
  have HW := Lib.hid (And.intro hw2 (And.intro k2 (And.intro b0 b1)))
  have hmf : ∀ (fn : Fn) (first cap : Array Value) (w : World), (Instr.makeFunc fn first cap).run Try.prog w = .ok (.func fn first cap) w := fun _ _ _ _ => rfl
  clear hI hr hw2 k2 b0 b1 hwh hn hw hh hfa hfd hC hD
  go_enter Try.func21, Try.ntmps21
  go_wp2_with fail
  rw [HW.out.1]
  refine Calls.mono (HR.out w2 HW.out.2.1) ?_
  rintro e w4 ⟨rfl, b4⟩
  have H4 := Lib.hid b4
  clear b4
  go_wp2_with fail
  refine Calls.mono (HS.out w4) ?_
  rintro e wx ⟨rfl, rfl⟩
  go_wp2_with fail
  refine Calls.mono (HF1.out w4) ?_
  rintro e wx ⟨rfl, rfl⟩
  go_wp2_with fail
  refine Calls.mono (HF2.out w4) ?_
  rintro e wx ⟨rfl, rfl⟩
  go_wp2_with fail
  obtain ⟨w5, hw5, bC, bD, k5⟩ := nums_made w4 (C : Int) (D : Int)
  rw [hw5]
  have H5 := Lib.hid (on_trans H4.out k5)
  refine Calls.mono (HM.out w5 _ _ H5.out bC bD) ?_
  rintro e w6 ⟨A6, n6, c6, rfl, hO, b6⟩
  have H6 := Lib.hid (And.intro hO (And.intro (on_trans HW.out.2.1 (on_trans H5.out b6)) ((HW.out.2.2.2.on H5.out).on b6)))
  clear hO b6 bC bD k5 hw5
  go_wp2_with (first
    | ((with_reducible refine wpList_store_plane (o := ⟨none, _, _, _, _, _⟩) rfl (.tmp 10) (.tmp 32) rfl rfl (w0.heap.size + 1) #[.int .i64 (w : Int), .int .i64 (h : Int), .slice A6 n6 c6] rfl ?ho rfl rfl _ H6.out.2.2 rfl ?_)
       case ho => simp [Value.oneCell']
       intro w9 b9 k9
       have H9 := Lib.hid (And.intro b9 k9)
       clear b9 k9)
    | fail)
  refine bodyPost_ret (v := .tuple #[.agg #[.int .i64 (w : Int), .int .i64 (h : Int), .slice A6 n6 c6], .int .i64 0]) (results_ct (fn := Try.f21) Try.results21 _ _ (w0.heap.size + 1) _ _ rfl rfl (loadVar_plane H9.out.1 rfl)) rfl ?_
  have s5 : w0.heap.size + 1 < w5.heap.size := (HW.out.2.2.2.on H5.out).lt
  exact ⟨A6, n6, c6, rfl, (H6.out.1.down (by omega)).kept H9.out.2 (fun b off e hb => by have := (H6.out.1.new b off e).1; omega), H6.out.2.1.trans (H9.out.2.below H6.out.2.1.size (fun i hi e => by omega))⟩

set_option maxHeartbeats 3200000 in
theorem grow_any (w0 : World) (W H w h : Int) (a d : Bool) (A : Option Addr) (n c : Nat) (xs : List Int) (hI : Ia w0 A n c xs) (hn : n ≤ 1000000) :
    Calls Try.prog 21 #[.agg #[.int .i64 W, .int .i64 H, .slice A n c], .bool a, .bool d, .int .i64 w, .int .i64 h] w0 (PTells w0 (growF W H xs a d w h)) := by
  by_cases hr : RightI W H xs
  · by_cases hc : (1 ≤ w ∧ w ≤ 128) ∧ 1 ≤ h ∧ h ≤ 128
    · have e : growF W H xs a d w h = (w, h, growL xs W.toNat H.toNat a d w.toNat h.toNat, 0) := by unfold growF; rw [if_pos hr, if_pos hc]
      rw [e]
      obtain ⟨W', H', rfl, rfl, hp⟩ := hr.plane
      obtain ⟨⟨a0, a1⟩, b0, b1⟩ := hc
      obtain ⟨w', rfl⟩ := Int.eq_ofNat_of_zero_le (show 0 ≤ w by omega)
      obtain ⟨h', rfl⟩ := Int.eq_ofNat_of_zero_le (show 0 ≤ h by omega)
      exact grow_good w0 W' H' w' h' a d A n c xs hI hp (by omega) (by omega)
    · have e : growF W H xs a d w h = (0, 0, [], 2) := by unfold growF; rw [if_pos hr, if_neg hc]
      rw [e]
      have HR := Lib.hid (fun w1 (k : Below w0.heap.size w0 w1) => right_any w1 W H A n c xs (hI.on k) hn)
      unfold Righted at HR
      rw [decide_eq_true hr] at HR
      have HS := Lib.hid (fun w1 => sized_any w1 w h)
      rw [decide_eq_false (show ¬ Sizd w h from hc)] at HS
      obtain ⟨w2, hw2, b0, b1, k2⟩ := two_made w0 #[.int .i64 W, .int .i64 H, .slice A n c]
      have HW := Lib.hid (And.intro hw2 (And.intro k2 (And.intro b0 b1)))
      clear hr hc e hI hw2 k2 b0 b1
      go_enter Try.func21, Try.ntmps21
      go_wp2_with fail
      rw [HW.out.1]
      refine Calls.mono (HR.out w2 HW.out.2.1) ?_
      rintro e w4 ⟨rfl, b4⟩
      have H4 := Lib.hid (And.intro (HW.out.2.2.2.on b4) (on_trans HW.out.2.1 b4))
      clear b4
      go_wp2_with fail
      refine Calls.mono (HS.out w4) ?_
      rintro e wx ⟨rfl, rfl⟩
      go_wp2_with (first
        | ((with_reducible refine wpList_store_plane (o := ⟨none, _, _, _, _, _⟩) rfl (.tmp 10) (.tmp 23) rfl rfl (w0.heap.size + 1) #[.int .i64 0, .int .i64 0, .slice none 0 0] rfl ?ho rfl rfl _ H4.out.1 rfl ?_)
           case ho => simp [Value.oneCell']
           intro w9 b9 k9
           have H9 := Lib.hid (And.intro b9 (H4.out.2.trans (k9.below H4.out.2.size (fun i hi e => by omega))))
           clear b9 k9)
        | fail)
      refine bodyPost_ret (v := .tuple #[.agg #[.int .i64 0, .int .i64 0, .slice none 0 0], .int .i64 2]) (results_ct (fn := Try.f21) Try.results21 _ _ (w0.heap.size + 1) _ _ rfl rfl (loadVar_plane H9.out.1 rfl)) rfl ?_
      exact ⟨none, 0, 0, rfl, Os.none _ _, H9.out.2⟩
  · have e : growF W H xs a d w h = (0, 0, [], 1) := by unfold growF; rw [if_neg hr]
    rw [e]
    have HR := Lib.hid (fun w1 (k : Below w0.heap.size w0 w1) => right_any w1 W H A n c xs (hI.on k) hn)
    unfold Righted at HR
    rw [decide_eq_false hr] at HR
    obtain ⟨w2, hw2, b0, b1, k2⟩ := two_made w0 #[.int .i64 W, .int .i64 H, .slice A n c]
    have HW := Lib.hid (And.intro hw2 (And.intro k2 (And.intro b0 b1)))
    clear hr e hI hw2 k2 b0 b1
    go_enter Try.func21, Try.ntmps21
    go_wp2_with fail
    rw [HW.out.1]
    refine Calls.mono (HR.out w2 HW.out.2.1) ?_
    rintro e w4 ⟨rfl, b4⟩
    have H4 := Lib.hid (And.intro (HW.out.2.2.2.on b4) (on_trans HW.out.2.1 b4))
    clear b4
    go_wp2_with (first
      | ((with_reducible refine wpList_store_plane (o := ⟨none, _, _, _, _, _⟩) rfl (.tmp 10) (.tmp 18) rfl rfl (w0.heap.size + 1) #[.int .i64 0, .int .i64 0, .slice none 0 0] rfl ?ho rfl rfl _ H4.out.1 rfl ?_)
         case ho => simp [Value.oneCell']
         intro w9 b9 k9
         have H9 := Lib.hid (And.intro b9 (H4.out.2.trans (k9.below H4.out.2.size (fun i hi e => by omega))))
         clear b9 k9)
      | fail)
    refine bodyPost_ret (v := .tuple #[.agg #[.int .i64 0, .int .i64 0, .slice none 0 0], .int .i64 1]) (results_ct (fn := Try.f21) Try.results21 _ _ (w0.heap.size + 1) _ _ rfl rfl (loadVar_plane H9.out.1 rfl)) rfl ?_
    exact ⟨none, 0, 0, rfl, Os.none _ _, H9.out.2⟩
end Go.Proofs.Ytadlaljohlpabaa
