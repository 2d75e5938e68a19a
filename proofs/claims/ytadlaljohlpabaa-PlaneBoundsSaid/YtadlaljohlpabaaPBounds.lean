/-
  PlaneBounds: the walk.
-/
import Derived.Test.YtadlaljohlpabaaPTurn
namespace Go.Proofs.Ytadlaljohlpabaa
open Go.RowKit

set_option maxRecDepth 10000 in
set_option maxHeartbeats 6400000 in
theorem bounds_calls (HP : Prog12) (w : World) (W H : Int) (a d : Bool) (A : Option Addr) (n c : Nat) (xs : List Int) (hI : Ia w A n c xs) : Calls Try.prog 8 #[.agg #[.int .i64 W, .int .i64 H, .slice A n c], .bool a, .bool d] w (Law w) := by
  obtain ⟨w1, hw1⟩ : ∃ w1, w.alloc (.cells #[.int .i64 W, .int .i64 H, .slice A n c] 24) = w1 := ⟨_, rfl⟩
  have K1 := Lib.hid ((Kn.nil w).made (W := W) (H := H) hI)
  rw [hw1] at K1
  have HW1 := Lib.hid hw1
  have HP := Lib.hid HP
  clear hw1 hI
  skip
  go_enter Try.func8, Try.ntmps8
  go_wp2_with fail
  rw [HW1.out]
  refine Calls.mono (few_any _ W H A n c) ?_
  rintro r v2 ⟨rfl, b2⟩
  have K2 := Lib.hid (K1.out.on b2)
  clear b2
  by_cases hn : n ≤ 20000
  case neg =>
    rw [decide_eq_false hn]
    go_wp2_with fail
    refine Calls.mono (awake_any HP.out _) ?_
    rintro r v0 ⟨rfl, b0⟩
    have H0 := Lib.hid (on_trans K2.out.bel b0)
    clear b0
    go_wp2
    go_ret
    exact ⟨rfl, H0.out⟩
  rw [decide_eq_true hn]
  have hn6 : n ≤ 1000000 := by omega
  clear hn
  go_wp2_with (first
    | (with_reducible refine wpList_load_when (op := ⟨some 19, _, _, _, _, _⟩) rfl 24 (.tmp 3) rfl (.pointer (some ⟨w.heap.size, 0, none⟩)) rfl (.agg #[.int .i64 W, .int .i64 H, .slice A n c]) K2.out.n0.load ?_)
    | fail)
  have TR := Lib.hid (refRight_any _ W H A n c xs K2.out.n0.sl hn6)
  unfold Righted at TR
  by_cases hr : RightI W H xs
  case neg =>
    rw [decide_eq_false hr] at TR
    refine Calls.mono (TR.out) ?_
    rintro r v3 ⟨rfl, b3⟩
    have K3 := Lib.hid (K2.out.on b3)
    clear b3
    go_wp2_with fail
    refine Calls.mono (awake_any HP.out _) ?_
    rintro r v0 ⟨rfl, b0⟩
    have H0 := Lib.hid (on_trans K3.out.bel b0)
    clear b0
    go_wp2
    go_ret
    exact ⟨rfl, H0.out⟩
  rw [decide_eq_true hr] at TR
  refine Calls.mono (TR.out) ?_
  rintro r v3 ⟨rfl, b3⟩
  have K3 := Lib.hid (K2.out.on b3)
  clear b3
  obtain ⟨W', H', rfl, rfl, hp⟩ := hr.plane
  have T1 := Lib.hid (fun w A n c hI hn => HP.out.halve w W' H' a d A n c xs hI hn)
  rw [halveF_right hp] at T1
  have T2 := Lib.hid (fun w A n c hI hn => HP.out.right w (halfN a W' : Nat) (halfN d H' : Nat) A n c (halveL xs W' H' a d) hI hn)
  unfold Righted at T2
  rw [decide_eq_true (halve_right hp a d).int] at T2
  have hlen : (halveL xs W' H' a d).length = halfN a W' * halfN d H' := (halve_right hp a d).len
  have hsm : halfN a W' * halfN d H' ≤ 16384 := (halve_right hp a d).small
  have HPP := Lib.hid (And.intro hp (And.intro hlen hsm))
  clear hr hp hlen hsm
  have p2 := K3.out.n0.box.cell 2
  simp at p2
  go_wp2_with fail
  clear p2
  go_loopw [7, 8, 27] (fun lo hi i wr => ∃ (k : Nat) (l h : Int), k ≤ n ∧ lo = .int .i64 l ∧ hi = .int .i64 h ∧ i = .int .i64 (k : Int) ∧ (0 ≤ l ∧ l ≤ 255) ∧ (0 ≤ h ∧ h ≤ 255) ∧ (∀ j, j < k → l ≤ xs.getD j 0 ∧ xs.getD j 0 ≤ h) ∧ wr = v3) (fun _ _ i _ => n - (intOf i).toNat)
  case atStart => exact ⟨0, 255, 0, by omega, rfl, rfl, rfl, by omega, by omega, fun j hj => absurd hj (by omega), rfl⟩
  case round =>
    obtain ⟨k, l, h, hk, rfl, rfl, rfl, hl, hh, hB, rfl⟩ := hrel
    have HB := Lib.hid hB
    clear hB
    obtain ⟨l0, l1⟩ := hl
    obtain ⟨h0, h1⟩ := hh
    by_cases hkn : k < n
    case pos =>
      obtain ⟨b, off, hA, -, hc⟩ := K3.out.n0.sl.at_ (by show 0 < n; omega)
      have c3 := hc k hkn
      have hz8 := HPP.out.1.all k (by have e1 : xs.length = n := K3.out.n0.sl.len; have := HPP.out.1.len; omega)
      have hmore : ∀ l' h', l' ≤ l → h ≤ h' → l' ≤ xs.getD k 0 → xs.getD k 0 ≤ h' → ∀ j, j < k + 1 → l' ≤ xs.getD j 0 ∧ xs.getD j 0 ≤ h' := fun l' h' a1 a2 a3 a4 j hj => by
        by_cases e : j = k
        · rw [e]; exact ⟨a3, a4⟩
        · have := HB.out j (by omega); omega
      obtain ⟨z, hz⟩ : ∃ z, z = xs.getD k 0 := ⟨_, rfl⟩
      rw [← hz] at c3 hz8 hmore
      have HM := Lib.hid hmore
      obtain ⟨z0, z1⟩ := hz8
      subst hA
      clear hz hmore hc
      by_cases q1 : z < l
      all_goals by_cases q2 : h < z
      · go_wp2_with fail
        go_roundw
        case rel => exact ⟨k + 1, z, z, by omega, rfl, rfl, by go_num, by omega, by omega, HM.out _ _ (by omega) (by omega) (by omega) (by omega), trivial⟩
        case measure => simp [intOf]; omega
      · go_wp2_with fail
        go_roundw
        case rel => exact ⟨k + 1, z, h, by omega, rfl, rfl, by go_num, by omega, by omega, HM.out _ _ (by omega) (by omega) (by omega) (by omega), trivial⟩
        case measure => simp [intOf]; omega
      · go_wp2_with fail
        go_roundw
        case rel => exact ⟨k + 1, l, z, by omega, rfl, rfl, by go_num, by omega, by omega, HM.out _ _ (by omega) (by omega) (by omega) (by omega), trivial⟩
        case measure => simp [intOf]; omega
      · go_wp2_with fail
        go_roundw
        case rel => exact ⟨k + 1, l, h, by omega, rfl, rfl, by go_num, by omega, by omega, HM.out _ _ (by omega) (by omega) (by omega) (by omega), trivial⟩
        case measure => simp [intOf]; omega
    case neg =>
      obtain rfl : k = n := by omega
      have HB := Lib.hid (show ∀ j, j < W' * H' → l ≤ xs.getD j 0 ∧ xs.getD j 0 ≤ h from fun j hj => HB.out j (by have e1 : xs.length = k := K3.out.n0.sl.len; have := HPP.out.1.len; omega))
      have hlh : ∀ j, j < halfN a W' * halfN d H' → l ≤ (halveL xs W' H' a d).getD j 0 ∧ (halveL xs W' H' a d).getD j 0 ≤ h := fun j hj => halve_bounds HPP.out.1 l0 h1 HB.out a d hj
      have HH := Lib.hid hlh
      clear hlh
      go_wp2_with (first
        | (with_reducible refine wpList_load_to (op := ⟨some 39, _, _, _, _, _⟩) rfl 24 (.tmp 3) rfl (.pointer (some ⟨w.heap.size, 0, none⟩)) rfl (.agg #[.int .i64 (W' : Int), .int .i64 (H' : Int), .slice A k c]) K3.out.n0.load ?_)
        | fail)
      refine Calls.mono (own_any _ (W' : Int) (H' : Int) A k c xs K3.out.n0.sl hn6) ?_
      rintro r v4 ⟨A4, c4, rfl, O4, b4⟩
      have K4 := Lib.hid (K3.out.on b4)
      have O4 := Lib.hid O4
      clear b4
      go_wp2_with fail
      refine Calls.mono (T1.out _ A4 k c4 O4.out.ia hn6) ?_
      rintro r v5 ⟨A5, n5, c5, rfl, O5, b5⟩
      dsimp only
      have K5 := Lib.hid ((K4.out.on b5).made (W := ((halfN a W' : Nat) : Int)) (H := ((halfN d H' : Nat) : Int)) O5.ia)
      have O5 := Lib.hid O5
      clear b5
      go_wp2_with fail
      obtain ⟨w5, hw5⟩ : ∃ w5, v5.alloc (.cells #[.int .i64 ((halfN a W' : Nat) : Int), .int .i64 ((halfN d H' : Nat) : Int), .slice A5 n5 c5] 24) = w5 := ⟨_, rfl⟩
      rw [hw5] at K5 ⊢
      obtain ⟨g5, hg5⟩ : ∃ g, g = v5.heap.size := ⟨_, rfl⟩
      rw [← hg5] at K5 ⊢
      clear hg5 hw5
      have hna : n5 = halfN a W' * halfN d H' := by rw [← HPP.out.2.1]; exact K5.out.n0.sl.len.symm
      have hns : n5 ≤ 16384 := by rw [hna]; exact HPP.out.2.2
      have HNA := Lib.hid hna
      clear hna
      go_loopw [49] (fun i wr => ∃ q : Nat, q ≤ n5 ∧ i = .int .i64 (q : Int) ∧ wr = w5) (fun i _ => n5 - (intOf i).toNat)
      case atStart => exact ⟨0, by omega, rfl, rfl⟩
      case round =>
        obtain ⟨q, hq, rfl, rfl⟩ := hrel
        by_cases hqn : q < n5
        case pos =>
          obtain ⟨b, off, hA, -, hc⟩ := K5.out.n0.sl.at_ (by show 0 < n5; omega)
          have c3 := hc q hqn
          have hz8 := HH.out q (by rw [← HNA.out]; exact hqn)
          obtain ⟨z, hz⟩ : ∃ z, z = (halveL xs W' H' a d).getD q 0 := ⟨_, rfl⟩
          have c3' : wr.cell? ⟨b, off + q, none⟩ = some (.int .i64 z) := by rw [hz]; exact c3
          rw [← hz] at hz8
          obtain ⟨z0, z1⟩ := hz8
          have hA' : A5 = some ⟨b, off, none⟩ := hA
          subst hA'
          clear hz hc c3 hA
          go_wp2_with fail
          go_roundw
          case rel => exact ⟨q + 1, by omega, by go_num, trivial⟩
          case measure => simp [intOf]; omega
        case neg =>
          obtain rfl : q = n5 := by omega
          go_wp2_with (first
            | (with_reducible refine wpList_load_when (op := ⟨some 65, _, _, _, _, _⟩) rfl 24 (.tmp 11) rfl (.pointer (some ⟨g5, 0, none⟩)) rfl (.agg #[.int .i64 ((halfN a W' : Nat) : Int), .int .i64 ((halfN d H' : Nat) : Int), .slice A5 q c5]) K5.out.n0.load ?_)
            | fail)
          refine Calls.mono (T2.out _ A5 q c5 K5.out.n0.sl (by omega)) ?_
          rintro r v6 ⟨rfl, b6⟩
          have K6 := Lib.hid (K5.out.on b6)
          clear b6
          go_wp2_with fail
          refine Calls.mono (awake_any HP.out _) ?_
          rintro r v0 ⟨rfl, b0⟩
          have H0 := Lib.hid (on_trans K6.out.bel b0)
          clear b0
          go_wp2
          go_ret
          exact ⟨rfl, H0.out⟩
end Go.Proofs.Ytadlaljohlpabaa
