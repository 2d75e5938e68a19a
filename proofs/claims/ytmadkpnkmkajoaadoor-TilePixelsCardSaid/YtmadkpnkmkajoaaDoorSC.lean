/-
  The contract of the reference's Shape.
-/
import Derived.Test.YtmadkpnkmkajoaaDoorSB
import Derived.Test.YtmadkpnkmkajoaaDoorSL
namespace Go.Proofs.YtmadkpnkmkajoaaDoor
open Go.RowKit

theorem range_more {α : Type} (f : Nat → α) (k : Nat) : (List.range (k + 1)).map f = (List.range k).map f ++ [f k] := by rw [List.range_succ, List.map_append]; rfl

set_option maxRecDepth 10000 in
set_option maxHeartbeats 3200000 in
theorem refShape_any (w : World) (W H K R : Int) : Calls Tryd.prog 29 #[scanV W H K R] w (ShapeY w W H K R) := by
  obtain ⟨w1, hw1⟩ : ∃ w1, w.alloc (.cells #[.int .i64 W, .int .i64 H, .int .i64 K, .int .i64 R] 26) = w1 := ⟨_, rfl⟩
  have b1 : Box w1 w.heap.size 26 #[.int .i64 W, .int .i64 H, .int .i64 K, .int .i64 R] := by rw [← hw1]; exact Box.made _ _ _
  have k1 : Below w.heap.size w w1 := by rw [← hw1]; exact on_alloc _ _
  have q0 : w1.cell? ⟨w.heap.size, 0, none⟩ = some (.int .i64 W) := b1.cell 0
  have q1 : w1.cell? ⟨w.heap.size, 1, none⟩ = some (.int .i64 H) := b1.cell 1
  have q2 : w1.cell? ⟨w.heap.size, 2, none⟩ = some (.int .i64 K) := b1.cell 2
  have q3 : w1.cell? ⟨w.heap.size, 3, none⟩ = some (.int .i64 R) := b1.cell 3
  have HB := Lib.hid (And.intro b1 k1)
  clear b1 k1
  unfold scanV
  have HR := Lib.hid (fun w' => refRightS_any w' W H K R)
  by_cases hr : RightS W H K R
  · have HD := Lib.hid (And.intro (decide_eq_true hr) hr)
    obtain ⟨⟨h1, h2⟩, ⟨h3, h4⟩, ⟨h5, h6⟩, _⟩ := hr
    obtain ⟨a, rfl⟩ : ∃ a : Nat, W = a := ⟨W.toNat, by omega⟩
    obtain ⟨b, rfl⟩ : ∃ b : Nat, H = b := ⟨H.toNat, by omega⟩
    go_enter Tryd.func29, Tryd.ntmps29
    go_wp2_with fail
    clear hw1
    refine (HR.out w1).mono ?_
    rintro e w2 ⟨rfl, k2⟩
    rw [HD.out.1]
    have q0' : w2.cell? ⟨w.heap.size, 0, none⟩ = some (.int .i64 (a : Int)) := (HB.out.1.on k2).cell 0
    have q1' : w2.cell? ⟨w.heap.size, 1, none⟩ = some (.int .i64 (b : Int)) := (HB.out.1.on k2).cell 1
    have q2' : w2.cell? ⟨w.heap.size, 2, none⟩ = some (.int .i64 K) := (HB.out.1.on k2).cell 2
    have H2 := Lib.hid (And.intro (HB.out.1.on k2) (on_trans HB.out.2 k2))
    clear q0 q1 q2 q3 k2
    obtain ⟨A, hA⟩ : ∃ A, A = uA K 0 := ⟨_, rfl⟩
    obtain ⟨D, hD⟩ : ∃ D, D = uD K 0 := ⟨_, rfl⟩
    have hA1 := uA_le K 0
    have hD1 := uD_le K 0
    have eW : uW (a : Int) K = (a + 8 * A - 1) / (8 * A) := by rw [hA]; rfl
    have eH : uH (b : Int) K = (b + 8 * D - 1) / (8 * D) := by rw [hD]; rfl
    rw [← hA] at hA1
    rw [← hD] at hD1
    have hX1 := uW_le HD.out.2
    have hY1 := uH_le HD.out.2
    obtain ⟨X, hX⟩ : ∃ X, X = uW (a : Int) K := ⟨_, rfl⟩
    obtain ⟨Y, hY⟩ : ∃ Y, Y = uH (b : Int) K := ⟨_, rfl⟩
    rw [← hX] at hX1 eW
    rw [← hY] at hY1 eH
    have HA := Lib.hid (fun w' : World => (show Calls Tryd.prog 56 #[.int .i64 K, .int .i64 0] w' fun e w'' => e = .returned (.int .i64 (A : Int)) ∧ w'' = w' by rw [hA]; exact (across_any w' K 0).mono fun _ _ ⟨a, b⟩ => ⟨a, b.symm⟩))
    have HDn := Lib.hid (fun w' : World => (show Calls Tryd.prog 57 #[.int .i64 K, .int .i64 0] w' fun e w'' => e = .returned (.int .i64 (D : Int)) ∧ w'' = w' by rw [hD]; exact (down_any w' K 0).mono fun _ _ ⟨a, b⟩ => ⟨a, b.symm⟩))
    have HU := Lib.hid (And.intro (fun w' : World => (show Calls Tryd.prog 55 #[.int .i64 (a : Int), .int .i64 (A : Int)] w' fun e w'' => e = .returned (.int .i64 (X : Int)) ∧ w'' = w' by rw [eW]; exact (runits_any w' a A (by omega) (by omega) (by omega)).mono fun _ _ ⟨a, b⟩ => ⟨a, b.symm⟩))
      (fun w' : World => (show Calls Tryd.prog 55 #[.int .i64 (b : Int), .int .i64 (D : Int)] w' fun e w'' => e = .returned (.int .i64 (Y : Int)) ∧ w'' = w' by rw [eH]; exact (runits_any w' b D (by omega) (by omega) (by omega)).mono fun _ _ ⟨a, b⟩ => ⟨a, b.symm⟩)))
    have HXY := Lib.hid (And.intro hX (And.intro hY (And.intro hA hD)))
    clear eW eH hX hY hA hD
    go_wp2_with fail
    go_quiet (first
      | (go_at_call 56; with_reducible exact Calls.quiet_of_same (HA.out _))
      | (go_at_call 55; with_reducible exact Calls.quiet_of_same (HU.out.1 _)))
    obtain ⟨w3, hw3⟩ : ∃ w3, w3 = w2.drewN nq := ⟨_, rfl⟩
    have k3 : Below w2.heap.size w2 w3 := by rw [hw3]; exact below_drewN_refl _ _
    rw [← hw3]
    clear hw3 q0' q1' q2'
    have q1' : w3.cell? ⟨w.heap.size, 1, none⟩ = some (.int .i64 (b : Int)) := (H2.out.1.on k3).cell 1
    have q2' : w3.cell? ⟨w.heap.size, 2, none⟩ = some (.int .i64 K) := (H2.out.1.on k3).cell 2
    have H3 := Lib.hid (And.intro (H2.out.1.on k3) (on_trans H2.out.2 k3))
    clear k3
    go_wp2_with fail
    go_quiet (first
      | (go_at_call 57; with_reducible exact Calls.quiet_of_same (HDn.out _))
      | (go_at_call 55; with_reducible exact Calls.quiet_of_same (HU.out.2 _)))
    obtain ⟨w4, hw4⟩ : ∃ w4, w4 = w3.drewN nq := ⟨_, rfl⟩
    have k4 : Below w3.heap.size w3 w4 := by rw [hw4]; exact below_drewN_refl _ _
    rw [← hw4]
    clear hw4 q1' q2'
    have H4 := Lib.hid (And.intro (H3.out.1.on k4) (on_trans H3.out.2 k4))
    clear k4
    obtain ⟨n, hn⟩ : ∃ n, n = nP K := ⟨_, rfl⟩
    have hn3 : n ≤ 3 := by rw [hn]; exact (nP_le K).2
    have HN := Lib.hid hn
    clear hn
    go_wp2_with fail
    go_loopw [5, 6] (fun v i wr => ∃ k : Nat, k ≤ n ∧ i = .int .i64 (k : Int) ∧ wr.ownsRow w4.heap.size 60 2 v k (cellsP2 ((List.range k).map fun p => (X * uA K p, Y * uD K p))) ∧ Below w4.heap.size w4 wr) (fun _ i _ => n - (intOf i).toNat)
    case atStart => exact ⟨0, Nat.zero_le _, rfl, ⟨rfl, .inl ⟨rfl, rfl⟩⟩, Below.refl _ _⟩
    case round =>
      obtain ⟨k, hk, rfl, hrow, hbl⟩ := hrel
      obtain ⟨A0, c0, rfl⟩ := own_slice hrow
      have p2 : wr.cell? ⟨w.heap.size, 2, none⟩ = some (.int .i64 K) := (H4.out.1.on hbl).cell 2
      have HR := Lib.hid (And.intro hrow hbl)
      have HPn := Lib.hid (fun w' : World => (show Calls Tryd.prog 58 #[.int .i64 K] w' fun e w'' => e = .returned (.int .i64 (n : Int)) ∧ w' = w'' by rw [HN.out]; exact parts_any w' K))
      clear hrow hbl
      go_wp2_with fail
      refine (HPn.out _).mono ?_
      rintro e w5 ⟨rfl, rfl⟩
      by_cases hlt : k < n
      · have hlti : (k : Int) < n := by omega
        obtain ⟨a2, ha2⟩ : ∃ a2, a2 = uA K k := ⟨_, rfl⟩
        obtain ⟨d2, hd2⟩ : ∃ d2, d2 = uD K k := ⟨_, rfl⟩
        have ha3 := uA_le K k
        have hd3 := uD_le K k
        rw [← ha2] at ha3
        rw [← hd2] at hd3
        have HA2 := Lib.hid (fun w' : World => (show Calls Tryd.prog 56 #[.int .i64 K, .int .i64 (k : Int)] w' fun e w'' => e = .returned (.int .i64 (a2 : Int)) ∧ w' = w'' by rw [ha2]; exact across_any w' K k))
        have HD2 := Lib.hid (fun w' : World => (show Calls Tryd.prog 57 #[.int .i64 K, .int .i64 (k : Int)] w' fun e w'' => e = .returned (.int .i64 (d2 : Int)) ∧ w' = w'' by rw [hd2]; exact down_any w' K k))
        have hm1 : (X : Int) * (a2 : Int) = ((X * a2 : Nat) : Int) := by push_cast; rfl
        have hm2 : (Y : Int) * (d2 : Int) = ((Y * d2 : Nat) : Int) := by push_cast; rfl
        have hb1 : X * a2 ≤ 32 := Nat.mul_le_mul hX1.2 ha3.2
        have hb2 : Y * d2 ≤ 32 := Nat.mul_le_mul hY1.2 hd3.2
        obtain ⟨p, hp⟩ : ∃ p, p = X * a2 := ⟨_, rfl⟩
        obtain ⟨q, hq⟩ : ∃ q, q = Y * d2 := ⟨_, rfl⟩
        rw [← hp] at hm1 hb1
        rw [← hq] at hm2 hb2
        have HP := Lib.hid (And.intro hp (And.intro hq (And.intro ha2 hd2)))
        have wp : IntKind.i64.wrap (p : Int) = p := wrap_small (by omega) (by omega)
        have wq : IntKind.i64.wrap (q : Int) = q := wrap_small (by omega) (by omega)
        clear hp hq ha2 hd2
        go_wp2_with fail
        go_region_law
          (first
            | (go_simp; go_at_call 56; with_reducible refine (HA2.out _).mono ?_; rintro e w6 ⟨rfl, rfl⟩)
            | (go_simp; go_at_call 57; with_reducible refine (HD2.out _).mono ?_; rintro e w6 ⟨rfl, rfl⟩)
            | ((refine step_append_gk el_pair rfl (.tmp 29) (.tmp 43) rfl w4.heap.size (.slice A0 k c0) k (cellsP2 ((List.range k).map fun p => (X * uA K p, Y * uD K p))) rfl (ownsRow_block HR.out.1 fun g _ _ hb => (on_trans (on_alloc wr (.cells (cells2 (p, q)).toArray 60)) (on_drew _)).block g (Array.getElem?_eq_some_iff.1 hb).1) ⟨wr.heap.size, 0, none⟩ 1 1 (cells2 (p, q)) rfl rfl (box_read ((Box.made wr 60 (cells2 (p, q)).toArray).on (on_drew _))) ?h1 (by omega) ?h2 (some 44) rfl ?_)
               case h1 => intro u hu; simp [cells2] at hu; rcases hu with rfl | rfl <;> rfl
               case h2 => exact Nat.le_trans HR.out.2.size (on_trans (on_alloc wr (.cells (cells2 (p, q)).toArray 60)) (on_drew _)).size
               intro v7 w7 hown7 bq
               obtain ⟨A7, c7, hv7⟩ := own_slice hown7
               subst hv7
               have H7 := Lib.hid (And.intro hown7 bq)
               clear hown7 bq))
        all_goals
          have HE := Lib.hid (show w7.ownsRow w4.heap.size 60 2 (.slice A7 (k + 1) c7) (k + 1) (cellsP2 ((List.range (k + 1)).map fun p => (X * uA K p, Y * uD K p))) ∧ Below w4.heap.size w4 w7 from ⟨by
            rw [range_more, cellsP2_app, ← HP.out.2.2.1, ← HP.out.2.2.2, ← HP.out.1, ← HP.out.2.1]
            have e : cellsP2 [(p, q)] = cells2 (p, q) := by simp [cellsP2]
            rw [e]
            exact H7.out.1, (HR.out.2.trans ((on_trans (on_alloc wr (.cells (cells2 (p, q)).toArray 60)) (on_drew _)).mono HR.out.2.size)).trans (H7.out.2.below (Nat.le_trans HR.out.2.size (on_trans (on_alloc wr (.cells (cells2 (p, q)).toArray 60)) (on_drew _)).size) (fun i hi e => by have := (own_block3 HR.out.1 e).1; omega))⟩)
          go_wp2_with fail
          go_roundw
          case rel => exact ⟨k + 1, by omega, by go_num, HE.out⟩
          case measure => simp [intOf]; omega
      · obtain rfl : k = n := by omega
        go_wp2_with fail
        go_ret
        obtain ⟨A9, c9, e9, hc9, hps⟩ := ps_of_own HR.out.1
        cases e9
        refine ⟨fun _ => ⟨_, _, by rw [HN.out]; rfl, by rw [← HN.out]; exact hc9, ?_⟩, fun h => absurd HD.out.2 h, H4.out.2.trans (HR.out.2.mono H4.out.2.size)⟩
        rw [← HN.out]
        have h2 : (List.range k).map (fun p => (X * uA K p, Y * uD K p)) = shpL (a : Int) (b : Int) K := by rw [HXY.out.1, HXY.out.2.1, HN.out]; rfl
        rw [h2] at hps
        exact ⟨hps.len, fun h0 => by
          obtain ⟨b1, o1, e1, h1, h2, h3⟩ := hps.at_ h0
          exact ⟨b1, o1, e1, Nat.le_trans H4.out.2.size h1, h2, h3⟩⟩
  · have HD := Lib.hid (And.intro (decide_eq_false hr) hr)
    clear hr
    go_enter Tryd.func29, Tryd.ntmps29
    go_wp2_with fail
    clear hw1
    refine (HR.out w1).mono ?_
    rintro e w2 ⟨rfl, k2⟩
    rw [HD.out.1]
    have H2 := Lib.hid (on_trans HB.out.2 k2)
    clear q0 q1 q2 q3 k2
    go_wp2_with fail
    go_ret
    exact ⟨fun h => absurd h HD.out.2, fun _ => rfl, H2.out⟩
end Go.Proofs.YtmadkpnkmkajoaaDoor
