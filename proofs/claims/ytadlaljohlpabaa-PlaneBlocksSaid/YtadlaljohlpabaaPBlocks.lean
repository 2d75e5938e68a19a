/-
  PlaneBlocks: the walk.
-/
import Derived.Test.YtadlaljohlpabaaPBSame
namespace Go.Proofs.Ytadlaljohlpabaa
open Go.RowKit

set_option maxRecDepth 10000 in
set_option maxHeartbeats 6400000 in
theorem blocks_calls (HP : Prog12) (w : World) (W H u v : Int) (A : Option Addr) (n c : Nat) (xs : List Int) (hI : Ia w A n c xs) (AL : Option Addr) (m cL : Nat) (bl : List (List Int)) (hL : Ba w AL m cL bl) : Calls Try.prog 5 #[.agg #[.int .i64 W, .int .i64 H, .slice A n c], .slice AL m cL, .int .i64 u, .int .i64 v] w (Law w) := by
  obtain ⟨w1, hw1⟩ : ∃ w1, w.alloc (.cells #[.int .i64 W, .int .i64 H, .slice A n c] 24) = w1 := ⟨_, rfl⟩
  have K1 := Lib.hid ((Kn.nil w).made (W := W) (H := H) hI)
  rw [hw1] at K1
  have HW1 := Lib.hid hw1
  have HP := Lib.hid HP
  clear hw1 hI
  have hm0 := hL.bs.len
  obtain ⟨⟨W1, H1, x1, e1⟩, hR1⟩ : ∃ R, R = joinF bl u v := ⟨_, rfl⟩
  obtain ⟨⟨B1, e2⟩, hR2⟩ : ∃ R, R = cutF W H xs := ⟨_, rfl⟩
  have T1 := Lib.hid (fun w A n c hI hn => HP.out.cut w W H A n c xs hI hn)
  have T2 := Lib.hid (fun w A n c hI hn => refCut_any w W H A n c xs hI hn)
  have T3 := Lib.hid (fun w A n c hI hn => HP.out.join w u v A n c bl hI hn)
  have T4 := Lib.hid (fun w A n c hI => refJoin_any w u v A n c bl hI)
  rw [← hR2] at T1 T2
  rw [← hR1] at T3 T4
  have hL1 := joinF_len bl u v
  rw [← hR1] at hL1
  have L1 := Lib.hid hL1
  have LB := Lib.hid (show B1.length ≤ 1000000 by have := cutF_len W H xs; rw [← hR2] at this; exact this)
  have EB := Lib.hid (hL.on K1.out.bel)
  clear hR1 hR2 hL1 hL
  go_enter Try.func5, Try.ntmps5
  go_wp2_with fail
  rw [HW1.out]
  refine Calls.mono (few_any _ W H A n c) ?_
  rintro r v2 ⟨rfl, b2⟩
  have K2 := Lib.hid (K1.out.on b2)
  have EB := Lib.hid (EB.out.on b2)
  clear b2
  by_cases hn : n ≤ 20000
  case neg =>
    rw [decide_eq_false hn]
    go_wp2_with fail
    refine Calls.mono (awake_any HP.out _) ?_
    rintro r v0 ⟨rfl, b0⟩
    have H0 := Lib.hid (on_trans K2.out.bel b0)
    clear b0
    go_wp2
    go_ret
    exact ⟨rfl, H0.out⟩
  rw [decide_eq_true hn]
  have hn6 : n ≤ 1000000 := by omega
  clear hn
  by_cases hm : 300 < m
  case pos =>
    go_wp2_with fail
    refine Calls.mono (awake_any HP.out _) ?_
    rintro r v0 ⟨rfl, b0⟩
    have H0 := Lib.hid (on_trans K2.out.bel b0)
    clear b0
    go_wp2
    go_ret
    exact ⟨rfl, H0.out⟩
  go_wp2_with (first
    | (with_reducible refine wpList_load_to (op := ⟨some 27, _, _, _, _, _⟩) rfl 24 (.tmp 4) rfl (.pointer (some ⟨w.heap.size, 0, none⟩)) rfl (.agg #[.int .i64 W, .int .i64 H, .slice A n c]) K2.out.n0.load ?_)
    | fail)
  refine Calls.mono (own_any _ W H A n c xs K2.out.n0.sl hn6) ?_
  rintro r v3 ⟨A3, c3, rfl, O3, b3⟩
  have K3 := Lib.hid (K2.out.on b3)
  have EB := Lib.hid (EB.out.on b3)
  have O3 := Lib.hid O3
  clear b3
  go_wp2_with fail
  refine Calls.mono (T1.out _ A3 n c3 O3.out.ia hn6) ?_
  rintro r v4 ⟨A4, n4, c4, rfl, B4, -, b4⟩
  dsimp only
  have K4 := Lib.hid (K3.out.on b4)
  have EB := Lib.hid (EB.out.on b4)
  have EC := Lib.hid B4
  clear b4 B4
  go_wp2_with (first
    | (with_reducible refine wpList_load_to (op := ⟨some 33, _, _, _, _, _⟩) rfl 24 (.tmp 4) rfl (.pointer (some ⟨w.heap.size, 0, none⟩)) rfl (.agg #[.int .i64 W, .int .i64 H, .slice A n c]) K4.out.n0.load ?_)
    | fail)
  refine Calls.mono (T2.out _ A n c K4.out.n0.sl hn6) ?_
  rintro r v5 ⟨A5, n5, c5, rfl, B5, -, b5⟩
  dsimp only
  have K5 := Lib.hid (K4.out.on b5)
  have EB := Lib.hid (EB.out.on b5)
  have EC := Lib.hid (EC.out.on b5)
  have ED := Lib.hid B5
  clear b5 B5
  go_wp2_with (first
    | (at_builtin; refine wpList_append_ba (o := ⟨some 40, _, _, _, _, _⟩) rfl (.tmp 38) (.tmp 39) rfl v5.heap.size (.slice (some ⟨v5.heap.size, 0, none⟩) 0 0) 0 [] rfl ?ho AL m cL bl rfl (EB.out.on (on_alloc v5 (.cells #[] 51))) ?hs (on_alloc v5 (.cells #[] 51)).size ?_
       case ho => exact own_blocks_made v5
       case hs => omega
       intro vv w9 hown9 k9
       obtain ⟨A9, c9, hv9, hb9, -⟩ := bs_of_own hown9 (by rw [List.nil_append]; exact EB.out.bs.wide)
       subst hv9
       have k9 := (on_alloc v5 (.cells #[] 51)).trans k9
       have K9 := Lib.hid (And.intro (K5.out.on k9) (And.intro (EB.out.on k9) (And.intro (EC.out.on k9) (And.intro (ED.out.on k9) hb9))))
       clear hown9 hb9 k9)
    | fail)
  have KZ := Lib.hid K9.out.1
  have EB := Lib.hid K9.out.2.1
  have EC := Lib.hid K9.out.2.2.1
  have ED := Lib.hid K9.out.2.2.2.1
  have EE := K9.out.2.2.2.2
  rw [List.nil_append, Nat.zero_add] at EE
  have EE := Lib.hid EE
  clear K9
  refine Calls.mono (T3.out _ A9 m c9 EE.out (by omega)) ?_
  rintro r v6 ⟨A6, n6, c6, rfl, O6, b6⟩
  dsimp only
  have K6 := Lib.hid ((KZ.out.on b6).made (W := W1) (H := H1) O6.ia)
  have O6 := Lib.hid O6
  have EB := Lib.hid ((EB.out.on b6).on (on_alloc v6 (.cells #[.int .i64 W1, .int .i64 H1, .slice A6 n6 c6] 24)))
  have EC := Lib.hid ((EC.out.on b6).on (on_alloc v6 (.cells #[.int .i64 W1, .int .i64 H1, .slice A6 n6 c6] 24)))
  have ED := Lib.hid ((ED.out.on b6).on (on_alloc v6 (.cells #[.int .i64 W1, .int .i64 H1, .slice A6 n6 c6] 24)))
  clear b6
  go_wp2_with fail
  obtain ⟨w6, hw6⟩ : ∃ w6, v6.alloc (.cells #[.int .i64 W1, .int .i64 H1, .slice A6 n6 c6] 24) = w6 := ⟨_, rfl⟩
  rw [hw6] at K6 EB EC ED ⊢
  obtain ⟨g6, hg6⟩ : ∃ g, g = v6.heap.size := ⟨_, rfl⟩
  rw [← hg6] at K6 ⊢
  clear hg6 hw6
  refine Calls.mono (T4.out _ AL m cL EB.out.bs) ?_
  rintro r v7 ⟨A7, n7, c7, rfl, O7, b7⟩
  dsimp only
  have K7 := Lib.hid ((K6.out.on b7).made (W := W1) (H := H1) O7.ia)
  have O7 := Lib.hid O7
  have EB := Lib.hid ((EB.out.on b7).on (on_alloc v7 (.cells #[.int .i64 W1, .int .i64 H1, .slice A7 n7 c7] 24)))
  have EC := Lib.hid ((EC.out.on b7).on (on_alloc v7 (.cells #[.int .i64 W1, .int .i64 H1, .slice A7 n7 c7] 24)))
  have ED := Lib.hid ((ED.out.on b7).on (on_alloc v7 (.cells #[.int .i64 W1, .int .i64 H1, .slice A7 n7 c7] 24)))
  clear b7
  go_wp2_with fail
  obtain ⟨w7, hw7⟩ : ∃ w7, v7.alloc (.cells #[.int .i64 W1, .int .i64 H1, .slice A7 n7 c7] 24) = w7 := ⟨_, rfl⟩
  rw [hw7] at K7 EB EC ED ⊢
  obtain ⟨g7, hg7⟩ : ∃ g, g = v7.heap.size := ⟨_, rfl⟩
  rw [← hg7] at K7 ⊢
  clear hg7 hw7
  refine Calls.mono (bsame_any _ A4 A5 n4 n5 c4 c5 B1 EC.out ED.out (Nat.le_trans (Nat.le_of_eq EC.out.len.symm) LB.out)) ?_
  rintro r v8 ⟨rfl, b8⟩
  have K8 := Lib.hid (K7.out.on b8)
  clear b8
  go_wp2_with (first
    | (with_reducible refine wpList_load_when (op := ⟨some 62, _, _, _, _, _⟩) rfl 24 (.tmp 13) rfl (.pointer (some ⟨g6, 0, none⟩)) rfl (.agg #[.int .i64 W1, .int .i64 H1, .slice A6 n6 c6]) K8.out.n1.load ?_)
    | (with_reducible refine wpList_load_when (op := ⟨some 63, _, _, _, _, _⟩) rfl 24 (.tmp 15) rfl (.pointer (some ⟨g7, 0, none⟩)) rfl (.agg #[.int .i64 W1, .int .i64 H1, .slice A7 n7 c7]) K8.out.n0.load ?_)
    | fail)
  refine Calls.mono (same_any _ W1 H1 A6 A7 n6 n7 c6 c7 _ K8.out.n1.sl K8.out.n0.sl (Nat.le_trans (Nat.le_of_eq K8.out.n1.sl.len.symm) L1.out)) ?_
  rintro r v9 ⟨rfl, b9⟩
  have K9 := Lib.hid (K8.out.on b9)
  clear b9
  go_wp2_with fail
  refine Calls.mono (awake_any HP.out _) ?_
  rintro r v0 ⟨rfl, b0⟩
  have H0 := Lib.hid (on_trans K9.out.bel b0)
  clear b0
  go_wp2
  go_ret
  exact ⟨rfl, H0.out⟩
end Go.Proofs.Ytadlaljohlpabaa
