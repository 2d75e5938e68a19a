/-
  PlaneSizes: the walk.
-/
import Derived.Test.YtadlaljohlpabaaPLen
namespace Go.Proofs.Ytadlaljohlpabaa
open Go.RowKit

set_option maxRecDepth 10000 in
set_option maxHeartbeats 6400000 in
theorem sizes_calls (HP : Prog12) (w : World) (W H u v : Int) (a d : Bool) (A : Option Addr) (n c : Nat) (xs : List Int) (hI : Ia w A n c xs) : Calls Try.prog 4 #[.agg #[.int .i64 W, .int .i64 H, .slice A n c], .bool a, .bool d, .int .i64 u, .int .i64 v] w (Law w) := by
  obtain ⟨w1, hw1⟩ : ∃ w1, w.alloc (.cells #[.int .i64 W, .int .i64 H, .slice A n c] 24) = w1 := ⟨_, rfl⟩
  have K1 := Lib.hid ((Kn.nil w).made (W := W) (H := H) hI)
  rw [hw1] at K1
  have HW1 := Lib.hid hw1
  have HP := Lib.hid HP
  clear hw1 hI
  obtain ⟨⟨W1, H1, x1, e1⟩, hR1⟩ : ∃ R, R = halveF W H xs a d := ⟨_, rfl⟩
  obtain ⟨⟨W2, H2, x2, e2⟩, hR2⟩ : ∃ R, R = growF W H xs a d u v := ⟨_, rfl⟩
  have T1 := Lib.hid (fun w A n c hI hn => HP.out.halve w W H a d A n c xs hI hn)
  have T2 := Lib.hid (fun w A n c hI hn => refHalve_any w W H a d A n c xs hI hn)
  have T3 := Lib.hid (fun w A n c hI hn => HP.out.grow w W H u v a d A n c xs hI hn)
  have T4 := Lib.hid (fun w A n c hI hn => refGrow_any w W H u v a d A n c xs hI hn)
  rw [← hR1] at T1 T2
  rw [← hR2] at T3 T4
  have L1 := Lib.hid (show x1.length ≤ 1000000 by rw [show x1 = (halveF W H xs a d).2.2.1 by rw [← hR1]]; exact halveF_len W H xs a d)
  have L2 := Lib.hid (show x2.length ≤ 1000000 by rw [show x2 = (growF W H xs a d u v).2.2.1 by rw [← hR2]]; exact growF_len W H xs a d u v)
  clear hR1 hR2
  go_enter Try.func4, Try.ntmps4
  go_wp2_with fail
  rw [HW1.out]
  refine Calls.mono (few_any _ W H A n c) ?_
  rintro r v2 ⟨rfl, b2⟩
  have K2 := Lib.hid (K1.out.on b2)
  clear b2
  by_cases hn : n ≤ 20000
  case neg =>
    rw [decide_eq_false hn]
    go_wp2_with fail
    refine Calls.mono (awake_any HP.out _) ?_
    rintro r v0 ⟨rfl, b0⟩
    have H0 := Lib.hid (on_trans K2.out.bel b0)
    clear b0
    go_wp2
    go_ret
    exact ⟨rfl, H0.out⟩
  rw [decide_eq_true hn]
  have hn6 : n ≤ 1000000 := by omega
  clear hn
  go_wp2_with (first
    | (with_reducible refine wpList_load_to (op := ⟨some 24, _, _, _, _, _⟩) rfl 24 (.tmp 5) rfl (.pointer (some ⟨w.heap.size, 0, none⟩)) rfl (.agg #[.int .i64 W, .int .i64 H, .slice A n c]) K2.out.n0.load ?_)
    | fail)
  refine Calls.mono (own_any _ W H A n c xs K2.out.n0.sl hn6) ?_
  rintro r v3 ⟨A3, c3, rfl, O3, b3⟩
  skip
  have K3 := Lib.hid ((K2.out.on b3).made (W := W) (H := H) O3.ia)
  have O3 := Lib.hid O3
  clear b3
  go_wp2_with fail
  obtain ⟨w3, hw3⟩ : ∃ w3, v3.alloc (.cells #[.int .i64 W, .int .i64 H, .slice A3 n c3] 24) = w3 := ⟨_, rfl⟩
  rw [hw3] at K3 ⊢
  obtain ⟨g3, hg3⟩ : ∃ g, g = v3.heap.size := ⟨_, rfl⟩
  rw [← hg3] at K3 ⊢
  clear hg3 hw3
  refine Calls.mono (T1.out _ A3 n c3 K3.out.n0.sl hn6) ?_
  rintro r v4 ⟨A4, n4, c4, rfl, O4, b4⟩
  dsimp only
  have K4 := Lib.hid ((K3.out.on b4).made (W := W1) (H := H1) O4.ia)
  have O4 := Lib.hid O4
  clear b4
  go_wp2_with (first
    | (with_reducible refine wpList_load_to (op := ⟨some 34, _, _, _, _, _⟩) rfl 24 (.tmp 5) rfl (.pointer (some ⟨w.heap.size, 0, none⟩)) rfl (.agg #[.int .i64 W, .int .i64 H, .slice A n c]) K4.out.n2.load ?_)
    | fail)
  obtain ⟨w4, hw4⟩ : ∃ w4, v4.alloc (.cells #[.int .i64 W1, .int .i64 H1, .slice A4 n4 c4] 24) = w4 := ⟨_, rfl⟩
  rw [hw4] at K4 ⊢
  obtain ⟨g4, hg4⟩ : ∃ g, g = v4.heap.size := ⟨_, rfl⟩
  rw [← hg4] at K4 ⊢
  clear hg4 hw4
  refine Calls.mono (T2.out _ A n c K4.out.n2.sl hn6) ?_
  rintro r v5 ⟨A5, n5, c5, rfl, O5, b5⟩
  dsimp only
  have K5 := Lib.hid ((K4.out.on b5).made (W := W1) (H := H1) O5.ia)
  have O5 := Lib.hid O5
  clear b5
  go_wp2_with (first
    | (with_reducible refine wpList_load_to (op := ⟨some 41, _, _, _, _, _⟩) rfl 24 (.tmp 11) rfl (.pointer (some ⟨g3, 0, none⟩)) rfl (.agg #[.int .i64 W, .int .i64 H, .slice A3 n c3]) K5.out.n2.load ?_)
    | fail)
  obtain ⟨w5, hw5⟩ : ∃ w5, v5.alloc (.cells #[.int .i64 W1, .int .i64 H1, .slice A5 n5 c5] 24) = w5 := ⟨_, rfl⟩
  rw [hw5] at K5 ⊢
  obtain ⟨g5, hg5⟩ : ∃ g, g = v5.heap.size := ⟨_, rfl⟩
  rw [← hg5] at K5 ⊢
  clear hg5 hw5
  refine Calls.mono (T3.out _ A3 n c3 K5.out.n2.sl hn6) ?_
  rintro r v6 ⟨A6, n6, c6, rfl, O6, b6⟩
  dsimp only
  have K6 := Lib.hid ((K5.out.on b6).made (W := W2) (H := H2) O6.ia)
  have O6 := Lib.hid O6
  clear b6
  go_wp2_with (first
    | (with_reducible refine wpList_load_to (op := ⟨some 50, _, _, _, _, _⟩) rfl 24 (.tmp 5) rfl (.pointer (some ⟨w.heap.size, 0, none⟩)) rfl (.agg #[.int .i64 W, .int .i64 H, .slice A n c]) K6.out.n4.load ?_)
    | fail)
  obtain ⟨w6, hw6⟩ : ∃ w6, v6.alloc (.cells #[.int .i64 W2, .int .i64 H2, .slice A6 n6 c6] 24) = w6 := ⟨_, rfl⟩
  rw [hw6] at K6 ⊢
  obtain ⟨g6, hg6⟩ : ∃ g, g = v6.heap.size := ⟨_, rfl⟩
  rw [← hg6] at K6 ⊢
  clear hg6 hw6
  refine Calls.mono (T4.out _ A n c K6.out.n4.sl hn6) ?_
  rintro r v7 ⟨A7, n7, c7, rfl, O7, b7⟩
  dsimp only
  have K7 := Lib.hid ((K6.out.on b7).made (W := W2) (H := H2) O7.ia)
  have O7 := Lib.hid O7
  clear b7
  go_wp2_with (first
    | (with_reducible refine wpList_load_to (op := ⟨some 58, _, _, _, _, _⟩) rfl 24 (.tmp 12) rfl (.pointer (some ⟨g4, 0, none⟩)) rfl (.agg #[.int .i64 W1, .int .i64 H1, .slice A4 n4 c4]) K7.out.n3.load ?_)
    | (with_reducible refine wpList_load_to (op := ⟨some 59, _, _, _, _, _⟩) rfl 24 (.tmp 14) rfl (.pointer (some ⟨g5, 0, none⟩)) rfl (.agg #[.int .i64 W1, .int .i64 H1, .slice A5 n5 c5]) K7.out.n2.load ?_)
    | fail)
  obtain ⟨w7, hw7⟩ : ∃ w7, v7.alloc (.cells #[.int .i64 W2, .int .i64 H2, .slice A7 n7 c7] 24) = w7 := ⟨_, rfl⟩
  rw [hw7] at K7 ⊢
  obtain ⟨g7, hg7⟩ : ∃ g, g = v7.heap.size := ⟨_, rfl⟩
  rw [← hg7] at K7 ⊢
  clear hg7 hw7
  refine Calls.mono (same_any _ W1 H1 A4 A5 n4 n5 c4 c5 _ K7.out.n3.sl K7.out.n2.sl (Nat.le_trans (Nat.le_of_eq K7.out.n3.sl.len.symm) L1.out)) ?_
  rintro r v8 ⟨rfl, b8⟩
  have K8 := Lib.hid (K7.out.on b8)
  clear b8
  go_wp2_with (first
    | (with_reducible refine wpList_load_when (op := ⟨some 67, _, _, _, _, _⟩) rfl 24 (.tmp 16) rfl (.pointer (some ⟨g6, 0, none⟩)) rfl (.agg #[.int .i64 W2, .int .i64 H2, .slice A6 n6 c6]) K8.out.n1.load ?_)
    | (with_reducible refine wpList_load_when (op := ⟨some 68, _, _, _, _, _⟩) rfl 24 (.tmp 18) rfl (.pointer (some ⟨g7, 0, none⟩)) rfl (.agg #[.int .i64 W2, .int .i64 H2, .slice A7 n7 c7]) K8.out.n0.load ?_)
    | fail)
  refine Calls.mono (same_any _ W2 H2 A6 A7 n6 n7 c6 c7 _ K8.out.n1.sl K8.out.n0.sl (Nat.le_trans (Nat.le_of_eq K8.out.n1.sl.len.symm) L2.out)) ?_
  rintro r v9 ⟨rfl, b9⟩
  have K9 := Lib.hid (K8.out.on b9)
  clear b9
  go_wp2_with (first
    | (with_reducible refine wpList_load_when (op := ⟨some 77, _, _, _, _, _⟩) rfl 24 (.tmp 11) rfl (.pointer (some ⟨g3, 0, none⟩)) rfl (.agg #[.int .i64 W, .int .i64 H, .slice A3 n c3]) K9.out.n4.load ?_)
    | (with_reducible refine wpList_load_when (op := ⟨some 78, _, _, _, _, _⟩) rfl 24 (.tmp 5) rfl (.pointer (some ⟨w.heap.size, 0, none⟩)) rfl (.agg #[.int .i64 W, .int .i64 H, .slice A n c]) K9.out.n5.load ?_)
    | fail)
  refine Calls.mono (same_any _ W H A3 A n n c3 c _ K9.out.n4.sl K9.out.n5.sl hn6) ?_
  rintro r v10 ⟨rfl, b10⟩
  have K10 := Lib.hid (K9.out.on b10)
  clear b10
  go_wp2_with fail
  refine Calls.mono (awake_any HP.out _) ?_
  rintro r v0 ⟨rfl, b0⟩
  have H0 := Lib.hid (on_trans K10.out.bel b0)
  clear b0
  go_wp2
  go_ret
  exact ⟨rfl, H0.out⟩
end Go.Proofs.Ytadlaljohlpabaa
