/-
  PlaneBack: the walk.
-/
import Derived.Test.YtadlaljohlpabaaPTurn
namespace Go.Proofs.Ytadlaljohlpabaa
open Go.RowKit

set_option maxRecDepth 10000 in
set_option maxHeartbeats 6400000 in
theorem back_calls (HP : Prog12) (w : World) (W H : Int) (a d : Bool) (A : Option Addr) (n c : Nat) (xs : List Int) (hI : Ia w A n c xs) : Calls Try.prog 6 #[.agg #[.int .i64 W, .int .i64 H, .slice A n c], .bool a, .bool d] w (Law w) := by
  have hI0 := hI
  obtain ⟨w1, hw1⟩ : ∃ w1, w.alloc (.cells #[.int .i64 W, .int .i64 H, .slice A n c] 24) = w1 := ⟨_, rfl⟩
  have K1 := Lib.hid ((Kn.nil w).made (W := W) (H := H) hI)
  rw [hw1] at K1
  have HW1 := Lib.hid hw1
  have HP := Lib.hid HP
  clear hw1 hI
  have HI := Lib.hid hI0
  clear hI0
  go_enter Try.func6, Try.ntmps6
  go_wp2_with fail
  rw [HW1.out]
  refine Calls.mono (few_any _ W H A n c) ?_
  rintro r v2 ⟨rfl, b2⟩
  have K2 := Lib.hid (K1.out.on b2)
  clear b2
  by_cases hn : n ≤ 20000
  case neg =>
    rw [decide_eq_false hn]
    go_wp2_with fail
    refine Calls.mono (awake_any HP.out _) ?_
    rintro r v0 ⟨rfl, b0⟩
    have H0 := Lib.hid (on_trans K2.out.bel b0)
    clear b0
    go_wp2
    go_ret
    exact ⟨rfl, H0.out⟩
  rw [decide_eq_true hn]
  have hn6 : n ≤ 1000000 := by omega
  clear hn
  go_wp2_with (first
    | (with_reducible refine wpList_load_when (op := ⟨some 18, _, _, _, _, _⟩) rfl 24 (.tmp 3) rfl (.pointer (some ⟨w.heap.size, 0, none⟩)) rfl (.agg #[.int .i64 W, .int .i64 H, .slice A n c]) K2.out.n0.load ?_)
    | fail)
  have TR := Lib.hid (refRight_any _ W H A n c xs K2.out.n0.sl hn6)
  unfold Righted at TR
  by_cases hr : RightI W H xs
  case neg =>
    rw [decide_eq_false hr] at TR
    refine Calls.mono (TR.out) ?_
    rintro r v3 ⟨rfl, b3⟩
    have K3 := Lib.hid (K2.out.on b3)
    clear b3
    go_wp2_with fail
    refine Calls.mono (awake_any HP.out _) ?_
    rintro r v0 ⟨rfl, b0⟩
    have H0 := Lib.hid (on_trans K3.out.bel b0)
    clear b0
    go_wp2
    go_ret
    exact ⟨rfl, H0.out⟩
  rw [decide_eq_true hr] at TR
  refine Calls.mono (TR.out) ?_
  rintro r v3 ⟨rfl, b3⟩
  have K3 := Lib.hid (K2.out.on b3)
  clear b3
  obtain ⟨W', H', rfl, rfl, hp⟩ := hr.plane
  have T1 := Lib.hid (fun w A n c hI hn => HP.out.cut w W' H' A n c xs hI hn)
  rw [cutF_right hp] at T1
  have T2 := Lib.hid (fun w A n c hI hn => HP.out.join w W' H' A n c (cutL xs W' H') hI hn)
  rw [joinF_cut hp] at T2
  have hcl : (cutL xs W' H').length ≤ 1000 := by
    have h1 : nb W' ≤ 16 := by have := hp.w1; unfold nb; omega
    have h2 : nb H' ≤ 16 := by have := hp.h1; unfold nb; omega
    have : nb W' * nb H' ≤ 16 * 16 := Nat.mul_le_mul h1 h2
    unfold cutL
    rw [cutK_len]
    omega
  have HC := Lib.hid hcl
  have w0' := hp.w0
  have w1' := hp.w1
  have h0' := hp.h0
  have h1' := hp.h1
  have HPP := Lib.hid hp
  clear hcl hr hp
  go_wp2_with (first
    | (with_reducible refine wpList_load_to (op := ⟨some 24, _, _, _, _, _⟩) rfl 24 (.tmp 3) rfl (.pointer (some ⟨w.heap.size, 0, none⟩)) rfl (.agg #[.int .i64 (W' : Int), .int .i64 (H' : Int), .slice A n c]) K3.out.n0.load ?_)
    | fail)
  refine Calls.mono (own_any _ (W' : Int) (H' : Int) A n c xs K3.out.n0.sl hn6) ?_
  rintro r v4 ⟨A4, c4, rfl, O4, b4⟩
  have K4 := Lib.hid (K3.out.on b4)
  have O4 := Lib.hid O4
  clear b4
  go_wp2_with fail
  refine Calls.mono (T1.out _ A4 n c4 O4.out.ia hn6) ?_
  rintro r v5 ⟨A5, n5, c5, rfl, B5, -, b5⟩
  dsimp only
  have K5 := Lib.hid (K4.out.on b5)
  have EC := Lib.hid B5
  clear b5 B5
  have p0 := K5.out.n0.box.cell 0
  have p1 := K5.out.n0.box.cell 1
  simp at p0 p1
  go_wp2_with fail
  clear p0 p1
  refine Calls.mono (T2.out _ A5 n5 c5 EC.out (by rw [← EC.out.len]; exact HC.out)) ?_
  rintro r v6 ⟨A6, n6, c6, rfl, O6, b6⟩
  dsimp only
  have K6 := Lib.hid ((K5.out.on b6).made (W := (W' : Int)) (H := (H' : Int)) O6.ia)
  have O6 := Lib.hid O6
  have HL6 := Lib.hid (show w.heap.size + 1 ≤ v6.heap.size from Nat.le_trans K5.out.n0.box.lt b6.size)
  clear b6
  go_wp2_with (first
    | (with_reducible refine wpList_load_when (op := ⟨some 46, _, _, _, _, _⟩) rfl 24 (.tmp 3) rfl (.pointer (some ⟨w.heap.size, 0, none⟩)) rfl (.agg #[.int .i64 (W' : Int), .int .i64 (H' : Int), .slice A n c]) K6.out.n1.load ?_)
    | fail)
  obtain ⟨w6, hw6⟩ : ∃ w6, v6.alloc (.cells #[.int .i64 (W' : Int), .int .i64 (H' : Int), .slice A6 n6 c6] 24) = w6 := ⟨_, rfl⟩
  rw [hw6] at K6 ⊢
  obtain ⟨g6, hg6⟩ : ∃ g, g = v6.heap.size := ⟨_, rfl⟩
  have hgw : w.heap.size + 1 ≤ v6.heap.size := HL6.out
  rw [← hg6] at K6 hgw ⊢
  clear hg6 hw6
  refine Calls.mono (same_any _ (W' : Int) (H' : Int) A6 A n6 n c6 c _ K6.out.n0.sl K6.out.n1.sl (Nat.le_trans (Nat.le_of_eq K6.out.n0.sl.len.symm) (Nat.le_trans (Nat.le_of_eq K6.out.n1.sl.len) hn6))) ?_
  rintro r v7 ⟨rfl, b7⟩
  have K7 := Lib.hid (K6.out.on b7)
  clear b7
  have p0 := K7.out.n1.box.cell 0
  have p1 := K7.out.n1.box.cell 1
  simp at p0 p1
  go_wp2_with fail
  go_region
  clear p0 p1
  have KD := Lib.hid (K7.out.on (on_drew v7))
  cases a <;> cases d
  · have ew : twiceN false W' = W' := rfl
    have eh : twiceN false H' = H' := rfl
    by_cases hb : twiceN false W' ≤ 128 ∧ twiceN false H' ≤ 128
    case neg =>
      exact absurd ⟨w1', h1'⟩ hb
    obtain ⟨hb0, hb1⟩ := hb
    have T3 := Lib.hid (fun w A n c hI hn => HP.out.grow w W' H' (twiceN false W' : Nat) (twiceN false H' : Nat) false false A n c xs hI hn)
    rw [growF_right HPP.out false false ⟨twice_pos HPP.out.w0, hb0⟩ ⟨twice_pos HPP.out.h0, hb1⟩] at T3
    have T4 := Lib.hid (fun w A n c hI hn => HP.out.halve w (twiceN false W' : Nat) (twiceN false H' : Nat) false false A n c (growL xs W' H' false false (twiceN false W') (twiceN false H')) hI hn)
    rw [halveF_grow HPP.out false false hb0 hb1] at T4
    have LG := Lib.hid (show (growL xs W' H' false false (twiceN false W') (twiceN false H')).length ≤ 1000000 from grid_small hb0 hb1)
    have ew' : ((twiceN false W' : Nat) : Int) = (W' : Int) := by rw [ew]
    have eh' : ((twiceN false H' : Nat) : Int) = (H' : Int) := by rw [eh]
    obtain ⟨G, hG⟩ : ∃ G, G = growL xs W' H' false false (twiceN false W') (twiceN false H') := ⟨_, rfl⟩
    rw [← hG] at T3 T4 LG
    rw [ew', eh'] at T3 T4
    rw [ew] at hb0
    rw [eh] at hb1
    clear ew eh ew' eh' hG
    go_wp2_with (first
      | (with_reducible refine wpList_load_to (op := ⟨some 68, _, _, _, _, _⟩) rfl 24 (.tmp 3) rfl (.pointer (some ⟨w.heap.size, 0, none⟩)) rfl (.agg #[.int .i64 (W' : Int), .int .i64 (H' : Int), .slice A n c]) KD.out.n1.load ?_)
      | fail)
    refine Calls.mono (own_any _ (W' : Int) (H' : Int) A n c xs KD.out.n1.sl hn6) ?_
    rintro r v8 ⟨A8, c8, rfl, O8, b8⟩
    have K8 := Lib.hid (KD.out.on b8)
    have O8 := Lib.hid O8
    clear b8
    go_wp2_with fail
    refine Calls.mono (T3.out _ A8 n c8 O8.out.ia hn6) ?_
    rintro r v9 ⟨A9, n9, c9, rfl, O9, b9⟩
    dsimp only
    have K9 := Lib.hid ((K8.out.on b9).made (W := (W' : Int)) (H := (H' : Int)) O9.ia)
    have O9 := Lib.hid O9
    clear b9
    go_wp2_with fail
    obtain ⟨w9, hw9⟩ : ∃ w9, v9.alloc (.cells #[.int .i64 (W' : Int), .int .i64 (H' : Int), .slice A9 n9 c9] 24) = w9 := ⟨_, rfl⟩
    rw [hw9] at K9 ⊢
    obtain ⟨g9, hg9⟩ : ∃ g, g = v9.heap.size := ⟨_, rfl⟩
    rw [← hg9] at K9 ⊢
    clear hg9 hw9
    refine Calls.mono (T4.out _ A9 n9 c9 K9.out.n0.sl (Nat.le_trans (Nat.le_of_eq K9.out.n0.sl.len.symm) LG.out)) ?_
    rintro r v10 ⟨A10, n10, c10, rfl, O10, b10⟩
    dsimp only
    have K10 := Lib.hid (K9.out.on b10)
    have O10 := Lib.hid O10
    clear b10
    have HBX := Lib.hid (show Box v10 g6 24 #[.int .i64 (W' : Int), .int .i64 (H' : Int), .slice A6 n6 c6] from K10.out.n1.box)
    go_wp2_with (first
      | ((with_reducible refine wpList_store_plane (o := ⟨none, _, _, _, _, _⟩) rfl (.tmp 9) (.tmp 82) rfl rfl g6 #[.int .i64 (W' : Int), .int .i64 (H' : Int), .slice A10 n10 c10] rfl ?ho rfl rfl _ HBX.out rfl ?_)
         case ho => simp [Value.oneCell']
         intro w9 b9 k9
         have KS := Lib.hid (Kn.store (p := ⟨w.heap.size, (W' : Int), (H' : Int), A, n, c, xs⟩) K10.out.n2 K10.out.bel (by omega) (by show w.heap.size < g6; omega) HI.out (by omega) O10.out _ HBX.out b9 k9)
         clear b9 k9)
      | (with_reducible refine wpList_load_when (op := ⟨some 91, _, _, _, _, _⟩) rfl 24 (.tmp 9) rfl (.pointer (some ⟨g6, 0, none⟩)) rfl (.agg #[.int .i64 (W' : Int), .int .i64 (H' : Int), .slice A10 n10 c10]) KS.out.n0.load ?_)
      | (with_reducible refine wpList_load_when (op := ⟨some 92, _, _, _, _, _⟩) rfl 24 (.tmp 3) rfl (.pointer (some ⟨w.heap.size, 0, none⟩)) rfl (.agg #[.int .i64 (W' : Int), .int .i64 (H' : Int), .slice A n c]) KS.out.n1.load ?_)
      | fail)
    refine Calls.mono (same_any _ (W' : Int) (H' : Int) A10 A n10 n c10 c _ KS.out.n0.sl KS.out.n1.sl (Nat.le_trans (Nat.le_of_eq (KS.out.n0.sl.len.symm)) (Nat.le_trans (Nat.le_of_eq KS.out.n1.sl.len) hn6))) ?_
    rintro r v11 ⟨rfl, b11⟩
    have K11 := Lib.hid (KS.out.on b11)
    clear b11
    go_wp2_with fail
    refine Calls.mono (awake_any HP.out _) ?_
    rintro r v0 ⟨rfl, b0⟩
    have H0 := Lib.hid (on_trans K11.out.bel b0)
    clear b0
    go_wp2
    go_ret
    exact ⟨rfl, H0.out⟩
  · have ew : twiceN false W' = W' := rfl
    have eh : twiceN true H' = 2 * H' := rfl
    by_cases hb : twiceN false W' ≤ 128 ∧ twiceN true H' ≤ 128
    case neg =>
      have hq : 128 < 2 * H' := by omega
      clear hb ew eh
      go_wp2_with fail
      refine Calls.mono (awake_any HP.out _) ?_
      rintro r v0 ⟨rfl, b0⟩
      have H0 := Lib.hid (on_trans KD.out.bel b0)
      clear b0
      go_wp2
      go_ret
      exact ⟨rfl, H0.out⟩
    obtain ⟨hb0, hb1⟩ := hb
    have T3 := Lib.hid (fun w A n c hI hn => HP.out.grow w W' H' (twiceN false W' : Nat) (twiceN true H' : Nat) false true A n c xs hI hn)
    rw [growF_right HPP.out false true ⟨twice_pos HPP.out.w0, hb0⟩ ⟨twice_pos HPP.out.h0, hb1⟩] at T3
    have T4 := Lib.hid (fun w A n c hI hn => HP.out.halve w (twiceN false W' : Nat) (twiceN true H' : Nat) false true A n c (growL xs W' H' false true (twiceN false W') (twiceN true H')) hI hn)
    rw [halveF_grow HPP.out false true hb0 hb1] at T4
    have LG := Lib.hid (show (growL xs W' H' false true (twiceN false W') (twiceN true H')).length ≤ 1000000 from grid_small hb0 hb1)
    have ew' : ((twiceN false W' : Nat) : Int) = (W' : Int) := by rw [ew]
    have eh' : ((twiceN true H' : Nat) : Int) = ((H' : Int) * 2) := by rw [eh]; omega
    obtain ⟨G, hG⟩ : ∃ G, G = growL xs W' H' false true (twiceN false W') (twiceN true H') := ⟨_, rfl⟩
    rw [← hG] at T3 T4 LG
    rw [ew', eh'] at T3 T4
    rw [ew] at hb0
    rw [eh] at hb1
    clear ew eh ew' eh' hG
    go_wp2_with (first
      | (with_reducible refine wpList_load_to (op := ⟨some 68, _, _, _, _, _⟩) rfl 24 (.tmp 3) rfl (.pointer (some ⟨w.heap.size, 0, none⟩)) rfl (.agg #[.int .i64 (W' : Int), .int .i64 (H' : Int), .slice A n c]) KD.out.n1.load ?_)
      | fail)
    refine Calls.mono (own_any _ (W' : Int) (H' : Int) A n c xs KD.out.n1.sl hn6) ?_
    rintro r v8 ⟨A8, c8, rfl, O8, b8⟩
    have K8 := Lib.hid (KD.out.on b8)
    have O8 := Lib.hid O8
    clear b8
    go_wp2_with fail
    refine Calls.mono (T3.out _ A8 n c8 O8.out.ia hn6) ?_
    rintro r v9 ⟨A9, n9, c9, rfl, O9, b9⟩
    dsimp only
    have K9 := Lib.hid ((K8.out.on b9).made (W := (W' : Int)) (H := ((H' : Int) * 2)) O9.ia)
    have O9 := Lib.hid O9
    clear b9
    go_wp2_with fail
    obtain ⟨w9, hw9⟩ : ∃ w9, v9.alloc (.cells #[.int .i64 (W' : Int), .int .i64 ((H' : Int) * 2), .slice A9 n9 c9] 24) = w9 := ⟨_, rfl⟩
    rw [hw9] at K9 ⊢
    obtain ⟨g9, hg9⟩ : ∃ g, g = v9.heap.size := ⟨_, rfl⟩
    rw [← hg9] at K9 ⊢
    clear hg9 hw9
    refine Calls.mono (T4.out _ A9 n9 c9 K9.out.n0.sl (Nat.le_trans (Nat.le_of_eq K9.out.n0.sl.len.symm) LG.out)) ?_
    rintro r v10 ⟨A10, n10, c10, rfl, O10, b10⟩
    dsimp only
    have K10 := Lib.hid (K9.out.on b10)
    have O10 := Lib.hid O10
    clear b10
    have HBX := Lib.hid (show Box v10 g6 24 #[.int .i64 (W' : Int), .int .i64 (H' : Int), .slice A6 n6 c6] from K10.out.n1.box)
    go_wp2_with (first
      | ((with_reducible refine wpList_store_plane (o := ⟨none, _, _, _, _, _⟩) rfl (.tmp 9) (.tmp 82) rfl rfl g6 #[.int .i64 (W' : Int), .int .i64 (H' : Int), .slice A10 n10 c10] rfl ?ho rfl rfl _ HBX.out rfl ?_)
         case ho => simp [Value.oneCell']
         intro w9 b9 k9
         have KS := Lib.hid (Kn.store (p := ⟨w.heap.size, (W' : Int), (H' : Int), A, n, c, xs⟩) K10.out.n2 K10.out.bel (by omega) (by show w.heap.size < g6; omega) HI.out (by omega) O10.out _ HBX.out b9 k9)
         clear b9 k9)
      | (with_reducible refine wpList_load_when (op := ⟨some 91, _, _, _, _, _⟩) rfl 24 (.tmp 9) rfl (.pointer (some ⟨g6, 0, none⟩)) rfl (.agg #[.int .i64 (W' : Int), .int .i64 (H' : Int), .slice A10 n10 c10]) KS.out.n0.load ?_)
      | (with_reducible refine wpList_load_when (op := ⟨some 92, _, _, _, _, _⟩) rfl 24 (.tmp 3) rfl (.pointer (some ⟨w.heap.size, 0, none⟩)) rfl (.agg #[.int .i64 (W' : Int), .int .i64 (H' : Int), .slice A n c]) KS.out.n1.load ?_)
      | fail)
    refine Calls.mono (same_any _ (W' : Int) (H' : Int) A10 A n10 n c10 c _ KS.out.n0.sl KS.out.n1.sl (Nat.le_trans (Nat.le_of_eq (KS.out.n0.sl.len.symm)) (Nat.le_trans (Nat.le_of_eq KS.out.n1.sl.len) hn6))) ?_
    rintro r v11 ⟨rfl, b11⟩
    have K11 := Lib.hid (KS.out.on b11)
    clear b11
    go_wp2_with fail
    refine Calls.mono (awake_any HP.out _) ?_
    rintro r v0 ⟨rfl, b0⟩
    have H0 := Lib.hid (on_trans K11.out.bel b0)
    clear b0
    go_wp2
    go_ret
    exact ⟨rfl, H0.out⟩
  · have ew : twiceN true W' = 2 * W' := rfl
    have eh : twiceN false H' = H' := rfl
    by_cases hb : twiceN true W' ≤ 128 ∧ twiceN false H' ≤ 128
    case neg =>
      have hq : 128 < 2 * W' := by omega
      clear hb ew eh
      go_wp2_with fail
      refine Calls.mono (awake_any HP.out _) ?_
      rintro r v0 ⟨rfl, b0⟩
      have H0 := Lib.hid (on_trans KD.out.bel b0)
      clear b0
      go_wp2
      go_ret
      exact ⟨rfl, H0.out⟩
    obtain ⟨hb0, hb1⟩ := hb
    have T3 := Lib.hid (fun w A n c hI hn => HP.out.grow w W' H' (twiceN true W' : Nat) (twiceN false H' : Nat) true false A n c xs hI hn)
    rw [growF_right HPP.out true false ⟨twice_pos HPP.out.w0, hb0⟩ ⟨twice_pos HPP.out.h0, hb1⟩] at T3
    have T4 := Lib.hid (fun w A n c hI hn => HP.out.halve w (twiceN true W' : Nat) (twiceN false H' : Nat) true false A n c (growL xs W' H' true false (twiceN true W') (twiceN false H')) hI hn)
    rw [halveF_grow HPP.out true false hb0 hb1] at T4
    have LG := Lib.hid (show (growL xs W' H' true false (twiceN true W') (twiceN false H')).length ≤ 1000000 from grid_small hb0 hb1)
    have ew' : ((twiceN true W' : Nat) : Int) = ((W' : Int) * 2) := by rw [ew]; omega
    have eh' : ((twiceN false H' : Nat) : Int) = (H' : Int) := by rw [eh]
    obtain ⟨G, hG⟩ : ∃ G, G = growL xs W' H' true false (twiceN true W') (twiceN false H') := ⟨_, rfl⟩
    rw [← hG] at T3 T4 LG
    rw [ew', eh'] at T3 T4
    rw [ew] at hb0
    rw [eh] at hb1
    clear ew eh ew' eh' hG
    go_wp2_with (first
      | (with_reducible refine wpList_load_to (op := ⟨some 68, _, _, _, _, _⟩) rfl 24 (.tmp 3) rfl (.pointer (some ⟨w.heap.size, 0, none⟩)) rfl (.agg #[.int .i64 (W' : Int), .int .i64 (H' : Int), .slice A n c]) KD.out.n1.load ?_)
      | fail)
    refine Calls.mono (own_any _ (W' : Int) (H' : Int) A n c xs KD.out.n1.sl hn6) ?_
    rintro r v8 ⟨A8, c8, rfl, O8, b8⟩
    have K8 := Lib.hid (KD.out.on b8)
    have O8 := Lib.hid O8
    clear b8
    go_wp2_with fail
    refine Calls.mono (T3.out _ A8 n c8 O8.out.ia hn6) ?_
    rintro r v9 ⟨A9, n9, c9, rfl, O9, b9⟩
    dsimp only
    have K9 := Lib.hid ((K8.out.on b9).made (W := ((W' : Int) * 2)) (H := (H' : Int)) O9.ia)
    have O9 := Lib.hid O9
    clear b9
    go_wp2_with fail
    obtain ⟨w9, hw9⟩ : ∃ w9, v9.alloc (.cells #[.int .i64 ((W' : Int) * 2), .int .i64 (H' : Int), .slice A9 n9 c9] 24) = w9 := ⟨_, rfl⟩
    rw [hw9] at K9 ⊢
    obtain ⟨g9, hg9⟩ : ∃ g, g = v9.heap.size := ⟨_, rfl⟩
    rw [← hg9] at K9 ⊢
    clear hg9 hw9
    refine Calls.mono (T4.out _ A9 n9 c9 K9.out.n0.sl (Nat.le_trans (Nat.le_of_eq K9.out.n0.sl.len.symm) LG.out)) ?_
    rintro r v10 ⟨A10, n10, c10, rfl, O10, b10⟩
    dsimp only
    have K10 := Lib.hid (K9.out.on b10)
    have O10 := Lib.hid O10
    clear b10
    have HBX := Lib.hid (show Box v10 g6 24 #[.int .i64 (W' : Int), .int .i64 (H' : Int), .slice A6 n6 c6] from K10.out.n1.box)
    go_wp2_with (first
      | ((with_reducible refine wpList_store_plane (o := ⟨none, _, _, _, _, _⟩) rfl (.tmp 9) (.tmp 82) rfl rfl g6 #[.int .i64 (W' : Int), .int .i64 (H' : Int), .slice A10 n10 c10] rfl ?ho rfl rfl _ HBX.out rfl ?_)
         case ho => simp [Value.oneCell']
         intro w9 b9 k9
         have KS := Lib.hid (Kn.store (p := ⟨w.heap.size, (W' : Int), (H' : Int), A, n, c, xs⟩) K10.out.n2 K10.out.bel (by omega) (by show w.heap.size < g6; omega) HI.out (by omega) O10.out _ HBX.out b9 k9)
         clear b9 k9)
      | (with_reducible refine wpList_load_when (op := ⟨some 91, _, _, _, _, _⟩) rfl 24 (.tmp 9) rfl (.pointer (some ⟨g6, 0, none⟩)) rfl (.agg #[.int .i64 (W' : Int), .int .i64 (H' : Int), .slice A10 n10 c10]) KS.out.n0.load ?_)
      | (with_reducible refine wpList_load_when (op := ⟨some 92, _, _, _, _, _⟩) rfl 24 (.tmp 3) rfl (.pointer (some ⟨w.heap.size, 0, none⟩)) rfl (.agg #[.int .i64 (W' : Int), .int .i64 (H' : Int), .slice A n c]) KS.out.n1.load ?_)
      | fail)
    refine Calls.mono (same_any _ (W' : Int) (H' : Int) A10 A n10 n c10 c _ KS.out.n0.sl KS.out.n1.sl (Nat.le_trans (Nat.le_of_eq (KS.out.n0.sl.len.symm)) (Nat.le_trans (Nat.le_of_eq KS.out.n1.sl.len) hn6))) ?_
    rintro r v11 ⟨rfl, b11⟩
    have K11 := Lib.hid (KS.out.on b11)
    clear b11
    go_wp2_with fail
    refine Calls.mono (awake_any HP.out _) ?_
    rintro r v0 ⟨rfl, b0⟩
    have H0 := Lib.hid (on_trans K11.out.bel b0)
    clear b0
    go_wp2
    go_ret
    exact ⟨rfl, H0.out⟩
  · have ew : twiceN true W' = 2 * W' := rfl
    have eh : twiceN true H' = 2 * H' := rfl
    by_cases hb : twiceN true W' ≤ 128 ∧ twiceN true H' ≤ 128
    case neg =>
      have hq : 128 < 2 * W' ∨ (2 * W' ≤ 128 ∧ 128 < 2 * H') := by omega
      clear hb ew eh
      rcases hq with hq | ⟨hq0, hq⟩
      all_goals
        go_wp2_with fail
        refine Calls.mono (awake_any HP.out _) ?_
        rintro r v0 ⟨rfl, b0⟩
        have H0 := Lib.hid (on_trans KD.out.bel b0)
        clear b0
        go_wp2
        go_ret
        exact ⟨rfl, H0.out⟩
    obtain ⟨hb0, hb1⟩ := hb
    have T3 := Lib.hid (fun w A n c hI hn => HP.out.grow w W' H' (twiceN true W' : Nat) (twiceN true H' : Nat) true true A n c xs hI hn)
    rw [growF_right HPP.out true true ⟨twice_pos HPP.out.w0, hb0⟩ ⟨twice_pos HPP.out.h0, hb1⟩] at T3
    have T4 := Lib.hid (fun w A n c hI hn => HP.out.halve w (twiceN true W' : Nat) (twiceN true H' : Nat) true true A n c (growL xs W' H' true true (twiceN true W') (twiceN true H')) hI hn)
    rw [halveF_grow HPP.out true true hb0 hb1] at T4
    have LG := Lib.hid (show (growL xs W' H' true true (twiceN true W') (twiceN true H')).length ≤ 1000000 from grid_small hb0 hb1)
    have ew' : ((twiceN true W' : Nat) : Int) = ((W' : Int) * 2) := by rw [ew]; omega
    have eh' : ((twiceN true H' : Nat) : Int) = ((H' : Int) * 2) := by rw [eh]; omega
    obtain ⟨G, hG⟩ : ∃ G, G = growL xs W' H' true true (twiceN true W') (twiceN true H') := ⟨_, rfl⟩
    rw [← hG] at T3 T4 LG
    rw [ew', eh'] at T3 T4
    rw [ew] at hb0
    rw [eh] at hb1
    clear ew eh ew' eh' hG
    go_wp2_with (first
      | (with_reducible refine wpList_load_to (op := ⟨some 68, _, _, _, _, _⟩) rfl 24 (.tmp 3) rfl (.pointer (some ⟨w.heap.size, 0, none⟩)) rfl (.agg #[.int .i64 (W' : Int), .int .i64 (H' : Int), .slice A n c]) KD.out.n1.load ?_)
      | fail)
    refine Calls.mono (own_any _ (W' : Int) (H' : Int) A n c xs KD.out.n1.sl hn6) ?_
    rintro r v8 ⟨A8, c8, rfl, O8, b8⟩
    have K8 := Lib.hid (KD.out.on b8)
    have O8 := Lib.hid O8
    clear b8
    go_wp2_with fail
    refine Calls.mono (T3.out _ A8 n c8 O8.out.ia hn6) ?_
    rintro r v9 ⟨A9, n9, c9, rfl, O9, b9⟩
    dsimp only
    have K9 := Lib.hid ((K8.out.on b9).made (W := ((W' : Int) * 2)) (H := ((H' : Int) * 2)) O9.ia)
    have O9 := Lib.hid O9
    clear b9
    go_wp2_with fail
    obtain ⟨w9, hw9⟩ : ∃ w9, v9.alloc (.cells #[.int .i64 ((W' : Int) * 2), .int .i64 ((H' : Int) * 2), .slice A9 n9 c9] 24) = w9 := ⟨_, rfl⟩
    rw [hw9] at K9 ⊢
    obtain ⟨g9, hg9⟩ : ∃ g, g = v9.heap.size := ⟨_, rfl⟩
    rw [← hg9] at K9 ⊢
    clear hg9 hw9
    refine Calls.mono (T4.out _ A9 n9 c9 K9.out.n0.sl (Nat.le_trans (Nat.le_of_eq K9.out.n0.sl.len.symm) LG.out)) ?_
    rintro r v10 ⟨A10, n10, c10, rfl, O10, b10⟩
    dsimp only
    have K10 := Lib.hid (K9.out.on b10)
    have O10 := Lib.hid O10
    clear b10
    have HBX := Lib.hid (show Box v10 g6 24 #[.int .i64 (W' : Int), .int .i64 (H' : Int), .slice A6 n6 c6] from K10.out.n1.box)
    go_wp2_with (first
      | ((with_reducible refine wpList_store_plane (o := ⟨none, _, _, _, _, _⟩) rfl (.tmp 9) (.tmp 82) rfl rfl g6 #[.int .i64 (W' : Int), .int .i64 (H' : Int), .slice A10 n10 c10] rfl ?ho rfl rfl _ HBX.out rfl ?_)
         case ho => simp [Value.oneCell']
         intro w9 b9 k9
         have KS := Lib.hid (Kn.store (p := ⟨w.heap.size, (W' : Int), (H' : Int), A, n, c, xs⟩) K10.out.n2 K10.out.bel (by omega) (by show w.heap.size < g6; omega) HI.out (by omega) O10.out _ HBX.out b9 k9)
         clear b9 k9)
      | (with_reducible refine wpList_load_when (op := ⟨some 91, _, _, _, _, _⟩) rfl 24 (.tmp 9) rfl (.pointer (some ⟨g6, 0, none⟩)) rfl (.agg #[.int .i64 (W' : Int), .int .i64 (H' : Int), .slice A10 n10 c10]) KS.out.n0.load ?_)
      | (with_reducible refine wpList_load_when (op := ⟨some 92, _, _, _, _, _⟩) rfl 24 (.tmp 3) rfl (.pointer (some ⟨w.heap.size, 0, none⟩)) rfl (.agg #[.int .i64 (W' : Int), .int .i64 (H' : Int), .slice A n c]) KS.out.n1.load ?_)
      | fail)
    refine Calls.mono (same_any _ (W' : Int) (H' : Int) A10 A n10 n c10 c _ KS.out.n0.sl KS.out.n1.sl (Nat.le_trans (Nat.le_of_eq (KS.out.n0.sl.len.symm)) (Nat.le_trans (Nat.le_of_eq KS.out.n1.sl.len) hn6))) ?_
    rintro r v11 ⟨rfl, b11⟩
    have K11 := Lib.hid (KS.out.on b11)
    clear b11
    go_wp2_with fail
    refine Calls.mono (awake_any HP.out _) ?_
    rintro r v0 ⟨rfl, b0⟩
    have H0 := Lib.hid (on_trans K11.out.bel b0)
    clear b0
    go_wp2
    go_ret
    exact ⟨rfl, H0.out⟩
end Go.Proofs.Ytadlaljohlpabaa
