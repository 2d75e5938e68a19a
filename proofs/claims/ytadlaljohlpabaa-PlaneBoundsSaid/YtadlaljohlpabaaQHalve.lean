/-
  The contract of plane's Halve.
-/
import Derived.Test.YtadlaljohlpabaaQMean
namespace Go.Proofs.Ytadlaljohlpabaa
open Go.RowKit

theorem halve_fun (xs : List Int) (W H : Nat) (a d : Bool) : halveL xs W H a d = gridL (halfN a W) (halfN d H) fun x y => rnd (sumS (facN a) (fun i j => atL xs W H ((facN a * x + i : Nat) : Int) ((facN d * y + j : Nat) : Int)) (facN d)) ((facN a * facN d : Nat) : Int) := by
  unfold halveL
  exact grid_congr fun y _ x _ => halfT_sum xs W H a d x y
theorem pieces_half (a : Bool) (n : Nat) : (n + facN a - 1) / facN a = halfN a n := by
  cases a
  · simp [facN, halfN]
  · simp [facN, halfN]; omega

set_option maxHeartbeats 3200000 in
theorem halve_good (w0 : World) (W H : Nat) (a d : Bool) (A : Option Addr) (n c : Nat) (xs : List Int) (hI : Ia w0 A n c xs) (hr : RightP xs W H) :
    Calls Try.prog 19 #[.agg #[.int .i64 (W : Int), .int .i64 (H : Int), .slice A n c], .bool a, .bool d] w0 (PTells w0 (((halfN a W : Nat) : Int), ((halfN d H : Nat) : Int), halveL xs W H a d, 0)) := by
  have hn : n = W * H := by rw [← hI.len, hr.len]
  have hwh := hr.small
  have HR := Lib.hid (fun w1 (k : Below w0.heap.size w0 w1) => right_any w1 (W : Int) (H : Int) A n c xs (hI.on k) (by omega))
  unfold Righted at HR
  rw [decide_eq_true hr.int] at HR
  obtain ⟨w2, hw2, b0, b1, k2⟩ := two_made w0 #[.int .i64 (W : Int), .int .i64 (H : Int), .slice A n c]
  rw [halve_fun]
  have hfa := facN_bounds a
  have hfd := facN_bounds d
  have HF1 := Lib.hid (fun w1 => factorN_any w1 a)
  have HF2 := Lib.hid (fun w1 => factorN_any w1 d)
  have hw : 1 ≤ halfN a W ∧ halfN a W ≤ 128 := ⟨halfN_pos hr.w0, Nat.le_trans (halfN_le a W) hr.w1⟩
  have hh : 1 ≤ halfN d H ∧ halfN d H ≤ 128 := ⟨halfN_pos hr.h0, Nat.le_trans (halfN_le d H) hr.h1⟩
  have HP1 := Lib.hid (fun w1 => pieces_any w1 W (facN a) (by have := hr.w1; omega) hfa.1 (by omega))
  have HP2 := Lib.hid (fun w1 => pieces_any w1 H (facN d) (by have := hr.h1; omega) hfd.1 (by omega))
  rw [pieces_half] at HP1 HP2
  obtain ⟨C, hC⟩ : ∃ C, C = facN a := ⟨_, rfl⟩
  obtain ⟨D, hD⟩ : ∃ D, D = facN d := ⟨_, rfl⟩
  obtain ⟨u, hu⟩ : ∃ u, u = halfN a W := ⟨_, rfl⟩
  obtain ⟨v, hv⟩ : ∃ v, v = halfN d H := ⟨_, rfl⟩
  rw [← hC] at hfa HF1 HP1 ⊢
  rw [← hD] at hfd HF2 HP2 ⊢
  rw [← hu] at hw HP1 ⊢
  rw [← hv] at hh HP2 ⊢
  have HM := Lib.hid (fun (w5 : World) (gC gD : Nat) (k : Below w2.heap.size w2 w5) (bC : Box w5 gC 3 #[.int .i64 (C : Int)]) (bD : Box w5 gD 3 #[.int .i64 (D : Int)]) => made_any 33 #[.pointer (some ⟨gD, 0, none⟩), .pointer (some ⟨gC, 0, none⟩), .pointer (some ⟨w0.heap.size, 0, none⟩)] calls33 w5 u v (fun x y => rnd (sumS C (fun i j => atL xs W H ((C * x + i : Nat) : Int) ((D * y + j : Nat) : Int)) D) ((C * D : Nat) : Int)) hw hh
    fun a b w6 ha hb k6 => meanT_any w6 w0.heap.size gC gD W H C D a b A n c xs ((b0.on k).on k6) (bC.on k6) (bD.on k6) (hI.on (on_trans k2 (on_trans k k6))) hr hfa hfd (by omega) (by omega))
  have HW := Lib.hid (And.intro hw2 (And.intro k2 (And.intro b0 b1)))
  have hmf : ∀ (fn : Fn) (first cap : Array Value) (w : World), (Instr.makeFunc fn first cap).run Try.prog w = .ok (.func fn first cap) w := fun _ _ _ _ => rfl
  clear hI hr hw2 k2 b0 b1 hwh hn hfa hfd hC hD hu hv
  go_enter Try.func19, Try.ntmps19
  go_wp2_with fail
  rw [HW.out.1]
  refine Calls.mono (HR.out w2 HW.out.2.1) ?_
  rintro e w4 ⟨rfl, b4⟩
  have H4 := Lib.hid b4
  clear b4
  go_wp2_with fail
  refine Calls.mono (HF1.out w4) ?_
  rintro e wx ⟨rfl, rfl⟩
  go_wp2_with fail
  refine Calls.mono (HF2.out w4) ?_
  rintro e wx ⟨rfl, rfl⟩
  go_upto_region 5 with fail
  obtain ⟨w5, hw5, bC, bD, k5⟩ := nums_made w4 (C : Int) (D : Int)
  rw [hw5]
  have H5 := Lib.hid (And.intro (on_trans H4.out k5) (And.intro bC bD))
  have B5 := Lib.hid (And.intro (HW.out.2.2.1.on H5.out.1) (HW.out.2.2.2.on H5.out.1))
  clear bC bD k5 hw5
  obtain ⟨gC, hgC⟩ : ∃ gC, gC = w4.heap.size := ⟨_, rfl⟩
  rw [← hgC] at H5 ⊢
  have s5 : w0.heap.size + 1 < w5.heap.size := B5.out.2.lt
  have hg4 : w0.heap.size + 1 < gC := by rw [hgC]; exact (HW.out.2.2.2.on H4.out).lt
  clear hgC
  refine wp_region_held_drew (S := fun w' => Hid (Kept (fun i => i = w0.heap.size + 1) w5 w')) (by kernel_rfl) (Lib.hid ((Kept.refl _ w5).drew)) fun s0 => ?_
  refine take_to (i := 0) (v := .pointer (some ⟨w0.heap.size, 0, none⟩)) rfl (by kernel_rfl) (by kernel_rfl) (by kernel_rfl) (fun _ _ _ h => h) (Or.inl ⟨by rfl, fun w' hS => by go_simp⟩) s0 (some 20) rfl ?_
  refine take_to (i := 1) (v := .int .i64 (W : Int)) rfl (by kernel_rfl) (by kernel_rfl) (by kernel_rfl) (fun _ _ _ h => h) (Or.inl ⟨by rfl, fun w' hS => by have c : w'.cell? ⟨w0.heap.size, 0, none⟩ = some (.int .i64 (W : Int)) := (hS.out.box B5.out.1 (by omega)).cell 0; go_simp⟩) s0 (some 21) rfl ?_
  refine take_to (i := 2) (v := .int .i64 (C : Int)) rfl (by kernel_rfl) (by kernel_rfl) (by kernel_rfl) (fun _ _ _ h => h) (Or.inl ⟨by rfl, fun w' hS => by have c : w'.cell? ⟨gC, 0, none⟩ = some (.int .i64 (C : Int)) := (hS.out.box H5.out.2.1 (by omega)).cell 0; go_simp⟩) s0 (some 22) rfl ?_
  refine take_to (i := 4) (v := .pointer (some ⟨w0.heap.size, 1, none⟩)) rfl (by kernel_rfl) (by kernel_rfl) (by kernel_rfl) (fun _ _ _ h => h) (Or.inl ⟨by rfl, fun w' hS => by go_simp⟩) s0 (some 24) rfl ?_
  refine take_to (i := 5) (v := .int .i64 (H : Int)) rfl (by kernel_rfl) (by kernel_rfl) (by kernel_rfl) (fun _ _ _ h => h) (Or.inl ⟨by rfl, fun w' hS => by have c : w'.cell? ⟨w0.heap.size, 1, none⟩ = some (.int .i64 (H : Int)) := (hS.out.box B5.out.1 (by omega)).cell 1; go_simp⟩) s0 (some 25) rfl ?_
  refine take_to (i := 6) (v := .int .i64 (D : Int)) rfl (by kernel_rfl) (by kernel_rfl) (by kernel_rfl) (fun _ _ _ h => h) (Or.inl ⟨by rfl, fun w' hS => by have c : w'.cell? ⟨gC + 1, 0, none⟩ = some (.int .i64 (D : Int)) := (hS.out.box H5.out.2.2 (by omega)).cell 0; go_simp⟩) s0 (some 26) rfl ?_
  refine take_to (i := 8) (v := .func (.func 33) #[] #[.pointer (some ⟨gC + 1, 0, none⟩), .pointer (some ⟨gC, 0, none⟩), .pointer (some ⟨w0.heap.size, 0, none⟩)]) rfl (by kernel_rfl) (by kernel_rfl) (by kernel_rfl) (fun _ _ _ h => h) (Or.inl ⟨by rfl, fun w' hS => by go_simp⟩) s0 (some 28) rfl ?_
  refine wpAnyH_ready (rs := [3]) (by kernel_rfl) (by simp) ?_
  refine AllReadyH.cons rfl (fun K hK => ?_) AllReadyH.nil
  go_simp
  refine Calls.mono (HP1.out _) ?_
  rintro r v1 ⟨rfl, rfl⟩
  refine hK.out _ _ s0 fun _ => ?_
  clear hK K
  refine wpAnyH_ready (rs := [7]) (by kernel_rfl) (by simp) ?_
  refine AllReadyH.cons rfl (fun K hK => ?_) AllReadyH.nil
  go_simp
  refine Calls.mono (HP2.out _) ?_
  rintro r v1 ⟨rfl, rfl⟩
  refine hK.out _ _ s0 fun _ => ?_
  clear hK K
  refine wpAnyH_ready (rs := [9]) (by kernel_rfl) (by simp) ?_
  refine AllReadyH.cons rfl (fun K hK => ?_) AllReadyH.nil
  go_simp
  have k0 := on_drew w5
  refine Calls.mono (HM.out w5.drew gC (gC + 1) (on_trans H5.out.1 k0) (H5.out.2.1.on k0) (H5.out.2.2.on k0)) ?_
  rintro r w6 ⟨A6, n6, c6, rfl, hO, b6⟩
  have H6 := Lib.hid (And.intro hO (And.intro (on_trans HW.out.2.1 (on_trans H5.out.1 (on_trans k0 b6))) ((B5.out.2.on k0).on b6)))
  have s1 := Lib.hid (Kept.of_below (on_trans k0 b6) (fun i => i = w0.heap.size + 1))
  clear hO b6
  refine hK.out _ _ s1 fun _ => ?_
  clear hK K
  refine wpAnyH_ready (rs := [10]) (by kernel_rfl) (by simp) ?_
  refine AllReadyH.cons rfl (fun K hK => ?_) AllReadyH.nil
  rw [if_pos (by rfl)]
  refine wp_store_plane _ _ rfl rfl (w0.heap.size + 1) #[.int .i64 (u : Int), .int .i64 (v : Int), .slice A6 n6 c6] rfl (by simp [Value.oneCell']) rfl rfl _ H6.out.2.2 rfl fun w9 b9 k9 => ?_
  have s2 := Lib.hid (s1.out.trans k9 (fun _ _ h => h))
  have H9 := Lib.hid (And.intro b9 k9)
  clear b9 k9
  refine hK.out _ _ s2 fun _ => ?_
  clear hK K
  refine take_to (i := 11) (v := .int .i64 0) rfl (by kernel_rfl) (by kernel_rfl) (by kernel_rfl) (fun _ _ _ h => h) (Or.inl ⟨by rfl, fun w' hS => by go_simp⟩) s2 (some 7) rfl ?_
  refine wpAnyH_done (by kernel_rfl) ?_ _
  go_wp2_with fail
  refine bodyPost_ret (v := .tuple #[.agg #[.int .i64 (u : Int), .int .i64 (v : Int), .slice A6 n6 c6], .int .i64 0]) (results_ct (fn := Try.f19) Try.results19 _ _ (w0.heap.size + 1) _ _ rfl rfl (loadVar_plane H9.out.1 rfl)) rfl ?_
  exact ⟨A6, n6, c6, rfl, (H6.out.1.down (by show w0.heap.size ≤ w5.heap.size; omega)).kept H9.out.2 (fun b off e hb => by have : w5.heap.size ≤ b := (H6.out.1.new b off e).1; omega), H6.out.2.1.trans (H9.out.2.below H6.out.2.1.size (fun i hi e => by omega))⟩

set_option maxHeartbeats 1600000 in
theorem halve_any (w0 : World) (W H : Int) (a d : Bool) (A : Option Addr) (n c : Nat) (xs : List Int) (hI : Ia w0 A n c xs) (hn : n ≤ 1000000) :
    Calls Try.prog 19 #[.agg #[.int .i64 W, .int .i64 H, .slice A n c], .bool a, .bool d] w0 (PTells w0 (halveF W H xs a d)) := by
  by_cases hr : RightI W H xs
  · have e : halveF W H xs a d = (((halfN a W.toNat : Nat) : Int), ((halfN d H.toNat : Nat) : Int), halveL xs W.toNat H.toNat a d, 0) := by unfold halveF; rw [if_pos hr]
    rw [e]
    obtain ⟨W', H', rfl, rfl, hp⟩ := hr.plane
    exact halve_good w0 W' H' a d A n c xs hI hp
  · have e : halveF W H xs a d = (0, 0, [], 1) := by unfold halveF; rw [if_neg hr]
    rw [e]
    have HR := Lib.hid (fun w1 (k : Below w0.heap.size w0 w1) => right_any w1 W H A n c xs (hI.on k) hn)
    unfold Righted at HR
    rw [decide_eq_false hr] at HR
    obtain ⟨w2, hw2, b0, b1, k2⟩ := two_made w0 #[.int .i64 W, .int .i64 H, .slice A n c]
    have HW := Lib.hid (And.intro hw2 (And.intro k2 (And.intro b0 b1)))
    clear hr e hI hw2 k2 b0 b1
    go_enter Try.func19, Try.ntmps19
    go_wp2_with fail
    rw [HW.out.1]
    refine Calls.mono (HR.out w2 HW.out.2.1) ?_
    rintro e w4 ⟨rfl, b4⟩
    have H4 := Lib.hid (And.intro (HW.out.2.2.2.on b4) (on_trans HW.out.2.1 b4))
    clear b4
    go_wp2_with (first
      | ((with_reducible refine wpList_store_plane (o := ⟨none, _, _, _, _, _⟩) rfl (.tmp 6) (.tmp 14) rfl rfl (w0.heap.size + 1) #[.int .i64 0, .int .i64 0, .slice none 0 0] rfl ?ho rfl rfl _ H4.out.1 rfl ?_)
         case ho => simp [Value.oneCell']
         intro w9 b9 k9
         have H9 := Lib.hid (And.intro b9 (H4.out.2.trans (k9.below H4.out.2.size (fun i hi e => by omega))))
         clear b9 k9)
      | fail)
    refine bodyPost_ret (v := .tuple #[.agg #[.int .i64 0, .int .i64 0, .slice none 0 0], .int .i64 1]) (results_ct (fn := Try.f19) Try.results19 _ _ (w0.heap.size + 1) _ _ rfl rfl (loadVar_plane H9.out.1 rfl)) rfl ?_
    exact ⟨none, 0, 0, rfl, Os.none _ _, H9.out.2⟩
end Go.Proofs.Ytadlaljohlpabaa
