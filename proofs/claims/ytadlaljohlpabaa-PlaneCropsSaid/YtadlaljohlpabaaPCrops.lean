/-
  PlaneCrops: the walk.
-/
import Derived.Test.YtadlaljohlpabaaPInc
namespace Go.Proofs.Ytadlaljohlpabaa
open Go.RowKit

set_option maxRecDepth 10000 in
set_option maxHeartbeats 6400000 in
theorem crops_calls (HP : Prog12) (w : World) (W H x y u v : Int) (A : Option Addr) (n c : Nat) (xs : List Int) (hI : Ia w A n c xs) : Calls Try.prog 3 #[.agg #[.int .i64 W, .int .i64 H, .slice A n c], .int .i64 x, .int .i64 y, .int .i64 u, .int .i64 v] w (Law w) := by
  obtain ⟨w1, hw1⟩ : ∃ w1, w.alloc (.cells #[.int .i64 W, .int .i64 H, .slice A n c] 24) = w1 := ⟨_, rfl⟩
  have K1 := Lib.hid ((Kn.nil w).made (W := W) (H := H) hI)
  rw [hw1] at K1
  have HW1 := Lib.hid hw1
  have HP := Lib.hid HP
  clear hw1 hI
  obtain ⟨⟨W1, H1, x1, e1⟩, hR1⟩ : ∃ R, R = cropF W H xs x y u v := ⟨_, rfl⟩
  have T1 := Lib.hid (fun w A n c hI hn => HP.out.crop w W H x y u v A n c xs hI hn)
  have T2 := Lib.hid (fun w A n c hI hn => refCrop_any w W H x y u v A n c xs hI hn)
  rw [← hR1] at T1 T2
  have hL1 := cropF_len W H xs x y u v
  have hS1 := cropF_in W H xs x y u v
  rw [← hR1] at hL1 hS1
  have L1 := Lib.hid (And.intro hL1 hS1)
  have T3 := Lib.hid (fun w A n c hI hn => HP.out.right w W H A n c xs hI hn)
  have T4 := Lib.hid (fun w A n c hI hn => refRight_any w W H A n c xs hI hn)
  have T5 := Lib.hid (fun w A n c hI hn => HP.out.at_ w W H A n c xs x y hI hn)
  unfold Righted at T3 T4
  unfold Atd at T5
  clear hR1 hL1 hS1
  go_enter Try.func3, Try.ntmps3
  go_wp2_with fail
  rw [HW1.out]
  refine Calls.mono (few_any _ W H A n c) ?_
  rintro r v2 ⟨rfl, b2⟩
  have K2 := Lib.hid (K1.out.on b2)
  clear b2
  by_cases hn : n ≤ 20000
  case neg =>
    rw [decide_eq_false hn]
    go_wp2_with fail
    refine Calls.mono (awake_any HP.out _) ?_
    rintro r v0 ⟨rfl, b0⟩
    have H0 := Lib.hid (on_trans K2.out.bel b0)
    clear b0
    go_wp2
    go_ret
    exact ⟨rfl, H0.out⟩
  rw [decide_eq_true hn]
  have hn6 : n ≤ 1000000 := by omega
  clear hn
  go_wp2_with (first
    | (with_reducible refine wpList_load_to (op := ⟨some 22, _, _, _, _, _⟩) rfl 24 (.tmp 5) rfl (.pointer (some ⟨w.heap.size, 0, none⟩)) rfl (.agg #[.int .i64 W, .int .i64 H, .slice A n c]) K2.out.n0.load ?_)
    | fail)
  refine Calls.mono (own_any _ W H A n c xs K2.out.n0.sl hn6) ?_
  rintro r v3 ⟨A3, c3, rfl, O3, b3⟩
  skip
  have K3 := Lib.hid ((K2.out.on b3).made (W := W) (H := H) O3.ia)
  have O3 := Lib.hid O3
  clear b3
  go_wp2_with fail
  obtain ⟨w3, hw3⟩ : ∃ w3, v3.alloc (.cells #[.int .i64 W, .int .i64 H, .slice A3 n c3] 24) = w3 := ⟨_, rfl⟩
  rw [hw3] at K3 ⊢
  obtain ⟨g3, hg3⟩ : ∃ g, g = v3.heap.size := ⟨_, rfl⟩
  rw [← hg3] at K3 ⊢
  clear hg3 hw3
  refine Calls.mono (T1.out _ A3 n c3 K3.out.n0.sl hn6) ?_
  rintro r v4 ⟨A4, n4, c4, rfl, O4, b4⟩
  dsimp only
  have K4 := Lib.hid ((K3.out.on b4).made (W := W1) (H := H1) O4.ia)
  have O4 := Lib.hid O4
  clear b4
  have OA := Lib.hid (O4.out.on (on_alloc v4 (.cells #[.int .i64 W1, .int .i64 H1, .slice A4 n4 c4] 24)))
  go_wp2_with (first
    | (with_reducible refine wpList_load_to (op := ⟨some 34, _, _, _, _, _⟩) rfl 24 (.tmp 5) rfl (.pointer (some ⟨w.heap.size, 0, none⟩)) rfl (.agg #[.int .i64 W, .int .i64 H, .slice A n c]) K4.out.n2.load ?_)
    | fail)
  obtain ⟨w4, hw4⟩ : ∃ w4, v4.alloc (.cells #[.int .i64 W1, .int .i64 H1, .slice A4 n4 c4] 24) = w4 := ⟨_, rfl⟩
  rw [hw4] at K4 OA ⊢
  obtain ⟨g4, hg4⟩ : ∃ g, g = v4.heap.size := ⟨_, rfl⟩
  rw [← hg4] at K4 ⊢
  clear hg4 hw4
  refine Calls.mono (T2.out _ A n c K4.out.n2.sl hn6) ?_
  rintro r v5 ⟨A5, n5, c5, rfl, O5, b5⟩
  dsimp only
  have K5 := Lib.hid ((K4.out.on b5).made (W := W1) (H := H1) O5.ia)
  have O5 := Lib.hid O5
  have OA := Lib.hid ((OA.out.on b5).on (on_alloc v5 (.cells #[.int .i64 W1, .int .i64 H1, .slice A5 n5 c5] 24)))
  clear b5
  go_wp2_with (first
    | (with_reducible refine wpList_load_to (op := ⟨some 42, _, _, _, _, _⟩) rfl 24 (.tmp 5) rfl (.pointer (some ⟨w.heap.size, 0, none⟩)) rfl (.agg #[.int .i64 W, .int .i64 H, .slice A n c]) K5.out.n3.load ?_)
    | fail)
  obtain ⟨w5, hw5⟩ : ∃ w5, v5.alloc (.cells #[.int .i64 W1, .int .i64 H1, .slice A5 n5 c5] 24) = w5 := ⟨_, rfl⟩
  rw [hw5] at K5 OA ⊢
  obtain ⟨g5, hg5⟩ : ∃ g, g = v5.heap.size := ⟨_, rfl⟩
  rw [← hg5] at K5 ⊢
  clear hg5 hw5
  by_cases hr : RightI W H xs
  case pos =>
    rw [decide_eq_true hr] at T3 T4
    obtain ⟨W', H', hW', hH', hp⟩ := hr.plane
    have hz : atF W H xs x y = atL xs W' H' x y := by unfold atF; rw [if_pos hr, hW', hH', Int.toNat_natCast, Int.toNat_natCast]
    have T6 := Lib.hid (fun w A n c hI => refAt_any w W' H' A n c xs x y hI hp)
    unfold Atd at T6
    rw [← hz, ← hW', ← hH'] at T6
    obtain ⟨z, hzz⟩ : ∃ z, z = atF W H xs x y := ⟨_, rfl⟩
    rw [← hzz] at T5 T6
    clear hz hzz hW' hH' hp hr
    refine Calls.mono (T4.out _ A n c K5.out.n3.sl hn6) ?_
    rintro r v6 ⟨rfl, b6⟩
    have K6 := Lib.hid (K5.out.on b6)
    have OA := Lib.hid (OA.out.on b6)
    clear b6
    go_wp2_with (first
      | (with_reducible refine wpList_load_to (op := ⟨some 44, _, _, _, _, _⟩) rfl 24 (.tmp 5) rfl (.pointer (some ⟨w.heap.size, 0, none⟩)) rfl (.agg #[.int .i64 W, .int .i64 H, .slice A n c]) K6.out.n3.load ?_)
      | fail)
    refine Calls.mono (T6.out _ A n c K6.out.n3.sl) ?_
    rintro r v7 ⟨rfl, b7⟩
    have K7 := Lib.hid (K6.out.on b7)
    have OA := Lib.hid (OA.out.on b7)
    clear b7
    go_upto_region 9 with fail
    have OA2 := Lib.hid (fun w' (h : Below v7.heap.size v7 w') => OA.out.on h)
    have KL : Hid (Kn w v7 [⟨g5, W1, H1, A5, n5, c5, x1⟩, ⟨g4, W1, H1, A4, n4, c4, x1⟩, ⟨g3, W, H, A3, n, c3, xs⟩, ⟨w.heap.size, W, H, A, n, c, xs⟩]) := K7
    refine wp_region_held_drew (S := fun w' => Hid (Below v7.heap.size v7 w')) (by kernel_rfl) (Lib.hid (on_drew v7)) fun s0 => ?_
    have HK := Lib.hid (fun w' (h : Hid (Below v7.heap.size v7 w')) => KL.out.on h.out)
    refine take_to (i := 0) rfl (by kernel_rfl) (by kernel_rfl) (by kernel_rfl) (fun _ _ _ h => h) (yieldsIf_load (by rfl) 24 _ rfl (.pointer (some ⟨g3, 0, none⟩)) rfl (.agg #[.int .i64 W, .int .i64 H, .slice A3 n c3]) (fun w' h => (HK.out w' h).n2.load)) s0 (some 48) rfl ?_
    try simp only [Act.put, List.setIfInBounds_toArray, List.set_cons_zero, List.set_cons_succ]
    refine take_to (i := 2) rfl (by kernel_rfl) (by kernel_rfl) (by kernel_rfl) (fun _ _ _ h => h) (yieldsIf_load (by rfl) 24 _ rfl (.pointer (some ⟨w.heap.size, 0, none⟩)) rfl (.agg #[.int .i64 W, .int .i64 H, .slice A n c]) (fun w' h => (HK.out w' h).n3.load)) s0 (some 50) rfl ?_
    try simp only [Act.put, List.setIfInBounds_toArray, List.set_cons_zero, List.set_cons_succ]
    refine wpAnyH_ready (rs := [1]) (by kernel_rfl) (by simp) ?_
    refine AllReadyH.cons rfl (fun K hK => ?_) AllReadyH.nil
    go_simp
    refine Calls.mono (T3.out _ A3 n c3 (HK.out _ s0).n2.sl hn6) ?_
    rintro r q1 ⟨rfl, k1⟩
    have s1 := Lib.hid (on_trans s0.out k1)
    refine hK.out _ _ s1 fun _ => ?_
    clear hK K
    try simp only [Act.put, List.setIfInBounds_toArray, List.set_cons_zero, List.set_cons_succ]
    refine wpAnyH_ready (rs := [3]) (by kernel_rfl) (by simp) ?_
    refine AllReadyH.cons rfl (fun K hK => ?_) AllReadyH.nil
    go_simp
    refine Calls.mono (T4.out _ A n c (HK.out _ s1).n3.sl hn6) ?_
    rintro r q2 ⟨rfl, k2⟩
    have s2 := Lib.hid (on_trans s1.out k2)
    refine hK.out _ _ s2 fun _ => ?_
    clear hK K
    try simp only [Act.put, List.setIfInBounds_toArray, List.set_cons_zero, List.set_cons_succ]
    refine take_to (i := 4) (v := .bool false) rfl (by kernel_rfl) (by kernel_rfl) (by kernel_rfl) (fun _ _ _ h => h) (Or.inl ⟨by rfl, fun w' hS => by go_simp⟩) s2 (some 52) rfl ?_
    try simp only [Act.put, List.setIfInBounds_toArray, List.set_cons_zero, List.set_cons_succ]
    refine take_to (i := 5) (v := .bool false) rfl (by kernel_rfl) (by kernel_rfl) (by kernel_rfl) (fun _ _ _ h => h) (Or.inl ⟨by rfl, fun w' hS => by go_simp⟩) s2 (some 53) rfl ?_
    try simp only [Act.put, List.setIfInBounds_toArray, List.set_cons_zero, List.set_cons_succ]
    refine take_to (i := 6) rfl (by kernel_rfl) (by kernel_rfl) (by kernel_rfl) (fun _ _ _ h => h) (yieldsIf_load (by rfl) 24 _ rfl (.pointer (some ⟨g3, 0, none⟩)) rfl (.agg #[.int .i64 W, .int .i64 H, .slice A3 n c3]) (fun w' h => (HK.out w' h).n2.load)) s2 (some 54) rfl ?_
    try simp only [Act.put, List.setIfInBounds_toArray, List.set_cons_zero, List.set_cons_succ]
    refine take_to (i := 7) (v := .int .i64 x) rfl (by kernel_rfl) (by kernel_rfl) (by kernel_rfl) (fun _ _ _ h => h) (Or.inl ⟨by rfl, fun w' hS => by go_simp⟩) s2 (some 55) rfl ?_
    try simp only [Act.put, List.setIfInBounds_toArray, List.set_cons_zero, List.set_cons_succ]
    refine take_to (i := 8) (v := .int .i64 y) rfl (by kernel_rfl) (by kernel_rfl) (by kernel_rfl) (fun _ _ _ h => h) (Or.inl ⟨by rfl, fun w' hS => by go_simp⟩) s2 (some 56) rfl ?_
    try simp only [Act.put, List.setIfInBounds_toArray, List.set_cons_zero, List.set_cons_succ]
    refine take_to (i := 10) (v := .int .i64 z) rfl (by kernel_rfl) (by kernel_rfl) (by kernel_rfl) (fun _ _ _ h => h) (Or.inl ⟨by rfl, fun w' hS => by go_simp⟩) s2 (some 58) rfl ?_
    try simp only [Act.put, List.setIfInBounds_toArray, List.set_cons_zero, List.set_cons_succ]
    refine wpAnyH_ready (rs := [9]) (by kernel_rfl) (by simp) ?_
    refine AllReadyH.cons rfl (fun K hK => ?_) AllReadyH.nil
    go_simp
    refine Calls.mono (T5.out _ A3 n c3 (HK.out _ s2).n2.sl hn6) ?_
    rintro r q3 ⟨rfl, k3⟩
    have s3 := Lib.hid (on_trans s2.out k3)
    refine hK.out _ _ s3 fun _ => ?_
    clear hK K
    try simp only [Act.put, List.setIfInBounds_toArray, List.set_cons_zero, List.set_cons_succ]
    refine take_to (i := 11) (v := .bool false) rfl (by kernel_rfl) (by kernel_rfl) (by kernel_rfl) (fun _ _ _ h => h) (Or.inl ⟨by rfl, fun w' hS => by go_simp⟩) s3 (some 59) rfl ?_
    try simp only [Act.put, List.setIfInBounds_toArray, List.set_cons_zero, List.set_cons_succ]
    refine take_to (i := 12) (v := .bool false) rfl (by kernel_rfl) (by kernel_rfl) (by kernel_rfl) (fun _ _ _ h => h) (Or.inl ⟨by rfl, fun w' hS => by go_simp⟩) s3 (some 60) rfl ?_
    try simp only [Act.put, List.setIfInBounds_toArray, List.set_cons_zero, List.set_cons_succ]
    refine take_to (i := 13) (v := .bool false) rfl (by kernel_rfl) (by kernel_rfl) (by kernel_rfl) (fun _ _ _ h => h) (Or.inl ⟨by rfl, fun w' hS => by go_simp⟩) s3 (some 61) rfl ?_
    try simp only [Act.put, List.setIfInBounds_toArray, List.set_cons_zero, List.set_cons_succ]
    refine take_to (i := 14) rfl (by kernel_rfl) (by kernel_rfl) (by kernel_rfl) (fun _ _ _ h => h) (yieldsIf_load (by rfl) 24 _ rfl (.pointer (some ⟨g4, 0, none⟩)) rfl (.agg #[.int .i64 W1, .int .i64 H1, .slice A4 n4 c4]) (fun w' h => (HK.out w' h).n1.load)) s3 (some 62) rfl ?_
    try simp only [Act.put, List.setIfInBounds_toArray, List.set_cons_zero, List.set_cons_succ]
    refine take_to (i := 15) rfl (by kernel_rfl) (by kernel_rfl) (by kernel_rfl) (fun _ _ _ h => h) (yieldsIf_load (by rfl) 24 _ rfl (.pointer (some ⟨g5, 0, none⟩)) rfl (.agg #[.int .i64 W1, .int .i64 H1, .slice A5 n5 c5]) (fun w' h => (HK.out w' h).n0.load)) s3 (some 63) rfl ?_
    try simp only [Act.put, List.setIfInBounds_toArray, List.set_cons_zero, List.set_cons_succ]
    refine wpAnyH_ready (rs := [16]) (by kernel_rfl) (by simp) ?_
    refine AllReadyH.cons rfl (fun K hK => ?_) AllReadyH.nil
    go_simp
    refine Calls.mono (same_any _ W1 H1 A4 A5 n4 n5 c4 c5 x1 (HK.out _ s3).n1.sl (HK.out _ s3).n0.sl (Nat.le_trans (Nat.le_of_eq (HK.out _ s3).n1.sl.len.symm) L1.out.1)) ?_
    rintro r q4 ⟨rfl, k4⟩
    have s4 := Lib.hid (on_trans s3.out k4)
    refine hK.out _ _ s4 fun _ => ?_
    clear hK K
    try simp only [Act.put, List.setIfInBounds_toArray, List.set_cons_zero, List.set_cons_succ]
    refine take_to (i := 17) (v := .bool false) rfl (by kernel_rfl) (by kernel_rfl) (by kernel_rfl) (fun _ _ _ h => h) (Or.inl ⟨by rfl, fun w' hS => by go_simp⟩) s4 (some 65) rfl ?_
    try simp only [Act.put, List.setIfInBounds_toArray, List.set_cons_zero, List.set_cons_succ]
    refine take_to (i := 18) (v := .bool false) rfl (by kernel_rfl) (by kernel_rfl) (by kernel_rfl) (fun _ _ _ h => h) (Or.inl ⟨by rfl, fun w' hS => by go_simp⟩) s4 (some 66) rfl ?_
    try simp only [Act.put, List.setIfInBounds_toArray, List.set_cons_zero, List.set_cons_succ]
    refine take_to (i := 19) (v := .bool false) rfl (by kernel_rfl) (by kernel_rfl) (by kernel_rfl) (fun _ _ _ h => h) (Or.inl ⟨by rfl, fun w' hS => by go_simp⟩) s4 (some 67) rfl ?_
    try simp only [Act.put, List.setIfInBounds_toArray, List.set_cons_zero, List.set_cons_succ]
    refine take_to (i := 20) (v := .int .i64 e1) rfl (by kernel_rfl) (by kernel_rfl) (by kernel_rfl) (fun _ _ _ h => h) (Or.inl ⟨by rfl, fun w' hS => by go_simp⟩) s4 (some 68) rfl ?_
    try simp only [Act.put, List.setIfInBounds_toArray, List.set_cons_zero, List.set_cons_succ]
    refine take_to (i := 21) (v := .int .i64 e1) rfl (by kernel_rfl) (by kernel_rfl) (by kernel_rfl) (fun _ _ _ h => h) (Or.inl ⟨by rfl, fun w' hS => by go_simp⟩) s4 (some 69) rfl ?_
    try simp only [Act.put, List.setIfInBounds_toArray, List.set_cons_zero, List.set_cons_succ]
    refine take_to (i := 22) (v := .bool false) rfl (by kernel_rfl) (by kernel_rfl) (by kernel_rfl) (fun _ _ _ h => h) (Or.inl ⟨by rfl, fun w' hS => by go_simp⟩) s4 (some 70) rfl ?_
    try simp only [Act.put, List.setIfInBounds_toArray, List.set_cons_zero, List.set_cons_succ]
    refine take_to (i := 23) (v := .bool false) rfl (by kernel_rfl) (by kernel_rfl) (by kernel_rfl) (fun _ _ _ h => h) (Or.inl ⟨by rfl, fun w' hS => by go_simp⟩) s4 (some 71) rfl ?_
    try simp only [Act.put, List.setIfInBounds_toArray, List.set_cons_zero, List.set_cons_succ]
    refine wpAnyH_done (by kernel_rfl) ?_ _
    have IA := Lib.hid (Inc.start (L := [⟨g3, W, H, A3, n, c3, xs⟩, ⟨w.heap.size, W, H, A, n, c, xs⟩]) ⟨fun p hp => (HK.out q4 s4).all p (.tail _ (.tail _ hp)), (HK.out q4 s4).bel⟩ (HK.out q4 s4).n1.box (OA2.out q4 s4.out) K3.out.bel.size K3.out rfl)
    have c2 : q4.cell? ⟨g4, 2, none⟩ = some (.slice A4 n4 c4) := (HK.out q4 s4).n1.box.cell 2
    have hn4 : n4 ≤ 1000000 := Nat.le_trans (Nat.le_of_eq (HK.out _ s4).n1.sl.len.symm) L1.out.1
    go_wp2_with fail
    clear c2
    go_loopw [75] (fun i wr => ∃ k : Nat, k ≤ n4 ∧ i = .int .i64 k ∧ Inc w wr [⟨g3, W, H, A3, n, c3, xs⟩, ⟨w.heap.size, W, H, A, n, c, xs⟩] g4 W1 H1 A4 n4 c4 x1 k) (fun i _ => n4 - (intOf i).toNat)
    case atStart => exact ⟨0, by omega, rfl, IA.out⟩
    case round =>
      obtain ⟨k, hk, rfl, hR⟩ := hrel
      have HR := Lib.hid hR
      have c2 := hR.box.cell 2
      simp at c2
      clear hR
      by_cases hkn : k < n4
      case pos =>
        obtain ⟨b, off, hA, hc, hf⟩ := HR.out.left k (Nat.le_refl _) hkn
        have hz8 := L1.out.2 k
        obtain ⟨t, ht⟩ : ∃ t, t = x1.getD k 0 := ⟨_, rfl⟩
        rw [← ht] at hc hz8
        have hR := HR.out
        rw [hA] at c2 hR
        have HR2 := Lib.hid hR
        clear ht hR
        obtain ⟨t0, t1⟩ := hz8
        go_wp2_with fail
        go_roundw
        case rel => exact ⟨k + 1, by omega, by go_num, by rw [hA]; exact HR2.out.step _⟩
        case measure => simp [intOf]; omega
      case neg =>
        obtain rfl : k = n4 := by omega
        have KE := Lib.hid HR.out.kn
        go_wp2_with (first
          | (with_reducible refine wpList_load_to (op := ⟨some 86, _, _, _, _, _⟩) rfl 24 (.tmp 11) rfl (.pointer (some ⟨g3, 0, none⟩)) rfl (.agg #[.int .i64 W, .int .i64 H, .slice A3 n c3]) KE.out.n0.load ?_)
          | (with_reducible refine wpList_load_to (op := ⟨some 87, _, _, _, _, _⟩) rfl 24 (.tmp 5) rfl (.pointer (some ⟨w.heap.size, 0, none⟩)) rfl (.agg #[.int .i64 W, .int .i64 H, .slice A n c]) KE.out.n1.load ?_)
          | fail)
        refine Calls.mono (same_any _ W H A3 A n n c3 c _ KE.out.n0.sl KE.out.n1.sl hn6) ?_
        rintro r v8 ⟨rfl, b8⟩
        have K8 := Lib.hid (KE.out.on b8)
        clear b8
        go_wp2_with fail
        refine Calls.mono (awake_any HP.out _) ?_
        rintro r v0 ⟨rfl, b0⟩
        have H0 := Lib.hid (on_trans K8.out.bel b0)
        clear b0
        go_wp2
        go_ret
        exact ⟨rfl, H0.out⟩
  case neg =>
    rw [decide_eq_false hr] at T3 T4
    have hz : atF W H xs x y = 0 := by unfold atF; rw [if_neg hr]
    rw [hz] at T5
    clear hz hr
    refine Calls.mono (T4.out _ A n c K5.out.n3.sl hn6) ?_
    rintro r v6 ⟨rfl, b6⟩
    have K6 := Lib.hid (K5.out.on b6)
    have OA := Lib.hid (OA.out.on b6)
    clear b6
    go_upto_region 9 with fail
    have OA2 := Lib.hid (fun w' (h : Below v6.heap.size v6 w') => OA.out.on h)
    have KL : Hid (Kn w v6 [⟨g5, W1, H1, A5, n5, c5, x1⟩, ⟨g4, W1, H1, A4, n4, c4, x1⟩, ⟨g3, W, H, A3, n, c3, xs⟩, ⟨w.heap.size, W, H, A, n, c, xs⟩]) := K6
    refine wp_region_held_drew (S := fun w' => Hid (Below v6.heap.size v6 w')) (by kernel_rfl) (Lib.hid (on_drew v6)) fun s0 => ?_
    have HK := Lib.hid (fun w' (h : Hid (Below v6.heap.size v6 w')) => KL.out.on h.out)
    refine take_to (i := 0) rfl (by kernel_rfl) (by kernel_rfl) (by kernel_rfl) (fun _ _ _ h => h) (yieldsIf_load (by rfl) 24 _ rfl (.pointer (some ⟨g3, 0, none⟩)) rfl (.agg #[.int .i64 W, .int .i64 H, .slice A3 n c3]) (fun w' h => (HK.out w' h).n2.load)) s0 (some 48) rfl ?_
    try simp only [Act.put, List.setIfInBounds_toArray, List.set_cons_zero, List.set_cons_succ]
    refine take_to (i := 2) rfl (by kernel_rfl) (by kernel_rfl) (by kernel_rfl) (fun _ _ _ h => h) (yieldsIf_load (by rfl) 24 _ rfl (.pointer (some ⟨w.heap.size, 0, none⟩)) rfl (.agg #[.int .i64 W, .int .i64 H, .slice A n c]) (fun w' h => (HK.out w' h).n3.load)) s0 (some 50) rfl ?_
    try simp only [Act.put, List.setIfInBounds_toArray, List.set_cons_zero, List.set_cons_succ]
    refine wpAnyH_ready (rs := [1]) (by kernel_rfl) (by simp) ?_
    refine AllReadyH.cons rfl (fun K hK => ?_) AllReadyH.nil
    go_simp
    refine Calls.mono (T3.out _ A3 n c3 (HK.out _ s0).n2.sl hn6) ?_
    rintro r q1 ⟨rfl, k1⟩
    have s1 := Lib.hid (on_trans s0.out k1)
    refine hK.out _ _ s1 fun _ => ?_
    clear hK K
    try simp only [Act.put, List.setIfInBounds_toArray, List.set_cons_zero, List.set_cons_succ]
    refine wpAnyH_ready (rs := [3]) (by kernel_rfl) (by simp) ?_
    refine AllReadyH.cons rfl (fun K hK => ?_) AllReadyH.nil
    go_simp
    refine Calls.mono (T4.out _ A n c (HK.out _ s1).n3.sl hn6) ?_
    rintro r q2 ⟨rfl, k2⟩
    have s2 := Lib.hid (on_trans s1.out k2)
    refine hK.out _ _ s2 fun _ => ?_
    clear hK K
    try simp only [Act.put, List.setIfInBounds_toArray, List.set_cons_zero, List.set_cons_succ]
    refine take_to (i := 4) (v := .bool false) rfl (by kernel_rfl) (by kernel_rfl) (by kernel_rfl) (fun _ _ _ h => h) (Or.inl ⟨by rfl, fun w' hS => by go_simp⟩) s2 (some 52) rfl ?_
    try simp only [Act.put, List.setIfInBounds_toArray, List.set_cons_zero, List.set_cons_succ]
    refine take_to (i := 5) (v := .bool false) rfl (by kernel_rfl) (by kernel_rfl) (by kernel_rfl) (fun _ _ _ h => h) (Or.inl ⟨by rfl, fun w' hS => by go_simp⟩) s2 (some 53) rfl ?_
    try simp only [Act.put, List.setIfInBounds_toArray, List.set_cons_zero, List.set_cons_succ]
    refine take_to (i := 6) rfl (by kernel_rfl) (by kernel_rfl) (by kernel_rfl) (fun _ _ _ h => h) (yieldsIf_load (by rfl) 24 _ rfl (.pointer (some ⟨g3, 0, none⟩)) rfl (.agg #[.int .i64 W, .int .i64 H, .slice A3 n c3]) (fun w' h => (HK.out w' h).n2.load)) s2 (some 54) rfl ?_
    try simp only [Act.put, List.setIfInBounds_toArray, List.set_cons_zero, List.set_cons_succ]
    refine take_to (i := 7) (v := .int .i64 x) rfl (by kernel_rfl) (by kernel_rfl) (by kernel_rfl) (fun _ _ _ h => h) (Or.inl ⟨by rfl, fun w' hS => by go_simp⟩) s2 (some 55) rfl ?_
    try simp only [Act.put, List.setIfInBounds_toArray, List.set_cons_zero, List.set_cons_succ]
    refine take_to (i := 8) (v := .int .i64 y) rfl (by kernel_rfl) (by kernel_rfl) (by kernel_rfl) (fun _ _ _ h => h) (Or.inl ⟨by rfl, fun w' hS => by go_simp⟩) s2 (some 56) rfl ?_
    try simp only [Act.put, List.setIfInBounds_toArray, List.set_cons_zero, List.set_cons_succ]
    refine take_to (i := 10) (v := .int .i64 0) rfl (by kernel_rfl) (by kernel_rfl) (by kernel_rfl) (fun _ _ _ h => h) (Or.inl ⟨by rfl, fun w' hS => by go_simp⟩) s2 (some 58) rfl ?_
    try simp only [Act.put, List.setIfInBounds_toArray, List.set_cons_zero, List.set_cons_succ]
    refine wpAnyH_ready (rs := [9]) (by kernel_rfl) (by simp) ?_
    refine AllReadyH.cons rfl (fun K hK => ?_) AllReadyH.nil
    go_simp
    refine Calls.mono (T5.out _ A3 n c3 (HK.out _ s2).n2.sl hn6) ?_
    rintro r q3 ⟨rfl, k3⟩
    have s3 := Lib.hid (on_trans s2.out k3)
    refine hK.out _ _ s3 fun _ => ?_
    clear hK K
    try simp only [Act.put, List.setIfInBounds_toArray, List.set_cons_zero, List.set_cons_succ]
    refine take_to (i := 11) (v := .bool false) rfl (by kernel_rfl) (by kernel_rfl) (by kernel_rfl) (fun _ _ _ h => h) (Or.inl ⟨by rfl, fun w' hS => by go_simp⟩) s3 (some 59) rfl ?_
    try simp only [Act.put, List.setIfInBounds_toArray, List.set_cons_zero, List.set_cons_succ]
    refine take_to (i := 12) (v := .bool false) rfl (by kernel_rfl) (by kernel_rfl) (by kernel_rfl) (fun _ _ _ h => h) (Or.inl ⟨by rfl, fun w' hS => by go_simp⟩) s3 (some 60) rfl ?_
    try simp only [Act.put, List.setIfInBounds_toArray, List.set_cons_zero, List.set_cons_succ]
    refine take_to (i := 13) (v := .bool false) rfl (by kernel_rfl) (by kernel_rfl) (by kernel_rfl) (fun _ _ _ h => h) (Or.inl ⟨by rfl, fun w' hS => by go_simp⟩) s3 (some 61) rfl ?_
    try simp only [Act.put, List.setIfInBounds_toArray, List.set_cons_zero, List.set_cons_succ]
    refine take_to (i := 14) rfl (by kernel_rfl) (by kernel_rfl) (by kernel_rfl) (fun _ _ _ h => h) (yieldsIf_load (by rfl) 24 _ rfl (.pointer (some ⟨g4, 0, none⟩)) rfl (.agg #[.int .i64 W1, .int .i64 H1, .slice A4 n4 c4]) (fun w' h => (HK.out w' h).n1.load)) s3 (some 62) rfl ?_
    try simp only [Act.put, List.setIfInBounds_toArray, List.set_cons_zero, List.set_cons_succ]
    refine take_to (i := 15) rfl (by kernel_rfl) (by kernel_rfl) (by kernel_rfl) (fun _ _ _ h => h) (yieldsIf_load (by rfl) 24 _ rfl (.pointer (some ⟨g5, 0, none⟩)) rfl (.agg #[.int .i64 W1, .int .i64 H1, .slice A5 n5 c5]) (fun w' h => (HK.out w' h).n0.load)) s3 (some 63) rfl ?_
    try simp only [Act.put, List.setIfInBounds_toArray, List.set_cons_zero, List.set_cons_succ]
    refine wpAnyH_ready (rs := [16]) (by kernel_rfl) (by simp) ?_
    refine AllReadyH.cons rfl (fun K hK => ?_) AllReadyH.nil
    go_simp
    refine Calls.mono (same_any _ W1 H1 A4 A5 n4 n5 c4 c5 x1 (HK.out _ s3).n1.sl (HK.out _ s3).n0.sl (Nat.le_trans (Nat.le_of_eq (HK.out _ s3).n1.sl.len.symm) L1.out.1)) ?_
    rintro r q4 ⟨rfl, k4⟩
    have s4 := Lib.hid (on_trans s3.out k4)
    refine hK.out _ _ s4 fun _ => ?_
    clear hK K
    try simp only [Act.put, List.setIfInBounds_toArray, List.set_cons_zero, List.set_cons_succ]
    refine take_to (i := 17) (v := .bool false) rfl (by kernel_rfl) (by kernel_rfl) (by kernel_rfl) (fun _ _ _ h => h) (Or.inl ⟨by rfl, fun w' hS => by go_simp⟩) s4 (some 65) rfl ?_
    try simp only [Act.put, List.setIfInBounds_toArray, List.set_cons_zero, List.set_cons_succ]
    refine take_to (i := 18) (v := .bool false) rfl (by kernel_rfl) (by kernel_rfl) (by kernel_rfl) (fun _ _ _ h => h) (Or.inl ⟨by rfl, fun w' hS => by go_simp⟩) s4 (some 66) rfl ?_
    try simp only [Act.put, List.setIfInBounds_toArray, List.set_cons_zero, List.set_cons_succ]
    refine take_to (i := 19) (v := .bool false) rfl (by kernel_rfl) (by kernel_rfl) (by kernel_rfl) (fun _ _ _ h => h) (Or.inl ⟨by rfl, fun w' hS => by go_simp⟩) s4 (some 67) rfl ?_
    try simp only [Act.put, List.setIfInBounds_toArray, List.set_cons_zero, List.set_cons_succ]
    refine take_to (i := 20) (v := .int .i64 e1) rfl (by kernel_rfl) (by kernel_rfl) (by kernel_rfl) (fun _ _ _ h => h) (Or.inl ⟨by rfl, fun w' hS => by go_simp⟩) s4 (some 68) rfl ?_
    try simp only [Act.put, List.setIfInBounds_toArray, List.set_cons_zero, List.set_cons_succ]
    refine take_to (i := 21) (v := .int .i64 e1) rfl (by kernel_rfl) (by kernel_rfl) (by kernel_rfl) (fun _ _ _ h => h) (Or.inl ⟨by rfl, fun w' hS => by go_simp⟩) s4 (some 69) rfl ?_
    try simp only [Act.put, List.setIfInBounds_toArray, List.set_cons_zero, List.set_cons_succ]
    refine take_to (i := 22) (v := .bool false) rfl (by kernel_rfl) (by kernel_rfl) (by kernel_rfl) (fun _ _ _ h => h) (Or.inl ⟨by rfl, fun w' hS => by go_simp⟩) s4 (some 70) rfl ?_
    try simp only [Act.put, List.setIfInBounds_toArray, List.set_cons_zero, List.set_cons_succ]
    refine take_to (i := 23) (v := .bool false) rfl (by kernel_rfl) (by kernel_rfl) (by kernel_rfl) (fun _ _ _ h => h) (Or.inl ⟨by rfl, fun w' hS => by go_simp⟩) s4 (some 71) rfl ?_
    try simp only [Act.put, List.setIfInBounds_toArray, List.set_cons_zero, List.set_cons_succ]
    refine wpAnyH_done (by kernel_rfl) ?_ _
    have IA := Lib.hid (Inc.start (L := [⟨g3, W, H, A3, n, c3, xs⟩, ⟨w.heap.size, W, H, A, n, c, xs⟩]) ⟨fun p hp => (HK.out q4 s4).all p (.tail _ (.tail _ hp)), (HK.out q4 s4).bel⟩ (HK.out q4 s4).n1.box (OA2.out q4 s4.out) K3.out.bel.size K3.out rfl)
    have c2 : q4.cell? ⟨g4, 2, none⟩ = some (.slice A4 n4 c4) := (HK.out q4 s4).n1.box.cell 2
    have hn4 : n4 ≤ 1000000 := Nat.le_trans (Nat.le_of_eq (HK.out _ s4).n1.sl.len.symm) L1.out.1
    go_wp2_with fail
    clear c2
    go_loopw [75] (fun i wr => ∃ k : Nat, k ≤ n4 ∧ i = .int .i64 k ∧ Inc w wr [⟨g3, W, H, A3, n, c3, xs⟩, ⟨w.heap.size, W, H, A, n, c, xs⟩] g4 W1 H1 A4 n4 c4 x1 k) (fun i _ => n4 - (intOf i).toNat)
    case atStart => exact ⟨0, by omega, rfl, IA.out⟩
    case round =>
      obtain ⟨k, hk, rfl, hR⟩ := hrel
      have HR := Lib.hid hR
      have c2 := hR.box.cell 2
      simp at c2
      clear hR
      by_cases hkn : k < n4
      case pos =>
        obtain ⟨b, off, hA, hc, hf⟩ := HR.out.left k (Nat.le_refl _) hkn
        have hz8 := L1.out.2 k
        obtain ⟨t, ht⟩ : ∃ t, t = x1.getD k 0 := ⟨_, rfl⟩
        rw [← ht] at hc hz8
        have hR := HR.out
        rw [hA] at c2 hR
        have HR2 := Lib.hid hR
        clear ht hR
        obtain ⟨t0, t1⟩ := hz8
        go_wp2_with fail
        go_roundw
        case rel => exact ⟨k + 1, by omega, by go_num, by rw [hA]; exact HR2.out.step _⟩
        case measure => simp [intOf]; omega
      case neg =>
        obtain rfl : k = n4 := by omega
        have KE := Lib.hid HR.out.kn
        go_wp2_with (first
          | (with_reducible refine wpList_load_to (op := ⟨some 86, _, _, _, _, _⟩) rfl 24 (.tmp 11) rfl (.pointer (some ⟨g3, 0, none⟩)) rfl (.agg #[.int .i64 W, .int .i64 H, .slice A3 n c3]) KE.out.n0.load ?_)
          | (with_reducible refine wpList_load_to (op := ⟨some 87, _, _, _, _, _⟩) rfl 24 (.tmp 5) rfl (.pointer (some ⟨w.heap.size, 0, none⟩)) rfl (.agg #[.int .i64 W, .int .i64 H, .slice A n c]) KE.out.n1.load ?_)
          | fail)
        refine Calls.mono (same_any _ W H A3 A n n c3 c _ KE.out.n0.sl KE.out.n1.sl hn6) ?_
        rintro r v7 ⟨rfl, b7⟩
        have K7 := Lib.hid (KE.out.on b7)
        clear b7
        go_wp2_with fail
        refine Calls.mono (awake_any HP.out _) ?_
        rintro r v0 ⟨rfl, b0⟩
        have H0 := Lib.hid (on_trans K7.out.bel b0)
        clear b0
        go_wp2
        go_ret
        exact ⟨rfl, H0.out⟩
end Go.Proofs.Ytadlaljohlpabaa
