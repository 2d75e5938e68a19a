/-
  The contract of plane's Join.
-/
import Derived.Test.YtadlaljohlpabaaQJoin
namespace Go.Proofs.Ytadlaljohlpabaa
open Go.RowKit

/-- two boxes: the slice of blocks, what is told -/
theorem join_made (w : World) (S : Value) : ∃ w2, (w.alloc (.cells #[S] 37)).alloc (.cells #[.int .i64 0, .int .i64 0, .slice none 0 0] 24) = w2 ∧ Box w2 w.heap.size 37 #[S] ∧ Box w2 (w.heap.size + 1) 24 #[.int .i64 0, .int .i64 0, .slice none 0 0] ∧ w2.heap.size = w.heap.size + 1 + 1 ∧ Below w.heap.size w w2 := by
  have a1 := Box.made w 37 #[S]
  have a2 := Box.made (w.alloc (.cells #[S] 37)) 24 #[.int .i64 0, .int .i64 0, .slice none 0 0]
  refine ⟨_, rfl, a1.alloc _, ?_, by simp, on_trans (on_alloc _ _) (on_alloc _ _)⟩
  rwa [show (w.alloc (.cells #[S] 37)).heap.size = w.heap.size + 1 by simp] at a2

set_option maxHeartbeats 3200000 in
theorem join_good (w0 : World) (w h : Nat) (A : Option Addr) (n c : Nat) (bl : List (List Int)) (hB : Bs w0 A n bl) (hw : 1 ≤ w ∧ w ≤ 128) (hh : 1 ≤ h ∧ h ≤ 128) (hn : n = nb w * nb h) :
    Calls Try.prog 25 #[.slice A n c, .int .i64 (w : Int), .int .i64 (h : Int)] w0 (PTells w0 ((w : Int), (h : Int), joinL bl w h, 0)) := by
  have HS := Lib.hid (fun w1 => sized_any w1 (w : Int) (h : Int))
  rw [decide_eq_true (show Sizd (w : Int) (h : Int) from ⟨⟨by omega, by omega⟩, by omega, by omega⟩)] at HS
  obtain ⟨w2, hw2, b0, b1, hs2, k2⟩ := join_made w0 (.slice A n c)
  have hnb : nb w ≤ 16 ∧ nb h ≤ 16 := by unfold nb; omega
  have hnn : n ≤ 256 := by have : nb w * nb h ≤ 16 * 16 := Nat.mul_le_mul hnb.1 hnb.2; omega
  have hprod : ((nb w : Nat) : Int) * ((nb h : Nat) : Int) = (n : Int) := by rw [hn, Int.natCast_mul]
  have HP1 := Lib.hid (fun w1 => pieces8_any w1 w (by omega))
  have HP2 : ∀ w1, Calls Try.prog 35 #[.int .i64 (h : Int), .int .i64 8] w1 fun e w' => e = .returned (.int .i64 ((nb h : Nat) : Int)) ∧ w' = w1 := fun w1 => (pieces8_any w1 h (by omega)).mono fun _ _ ⟨a, b⟩ => ⟨a, b.symm⟩
  have HP2 := Lib.hid HP2
  have HM := Lib.hid (fun (w5 : World) (gC : Nat) (k : Below w2.heap.size w2 w5) (bC : Box w5 gC 3 #[.int .i64 ((nb w : Nat) : Int)]) => made_any 40 #[.pointer (some ⟨w0.heap.size, 0, none⟩), .pointer (some ⟨gC, 0, none⟩)] calls40 w5 w h (joinT bl w) hw hh
    fun a b w6 ha hb k6 => levelT_any w6 w0.heap.size gC w h a b A n c bl ((b0.on k).on k6) (bC.on k6) (hB.on (on_trans k2 (on_trans k k6))) hw hh hn ha hb)
  have HW := Lib.hid (And.intro hw2 (And.intro k2 (And.intro b0 (And.intro b1 hs2))))
  have hmf : ∀ (fn : Fn) (first cap : Array Value) (w : World), (Instr.makeFunc fn first cap).run Try.prog w = .ok (.func fn first cap) w := fun _ _ _ _ => rfl
  obtain ⟨u, hu⟩ : ∃ u, u = nb w := ⟨_, rfl⟩
  obtain ⟨v, hv⟩ : ∃ v, v = nb h := ⟨_, rfl⟩
  rw [← hu] at HP1 HM hprod hnb
  rw [← hv] at HP2 hprod hnb
  obtain ⟨u16, v16⟩ := hnb
  clear hB hw2 k2 b0 b1 hs2 hn hw hh hu hv
  go_enter Try.func25, Try.ntmps25
  go_wp2_with fail
  rw [HW.out.1]
  refine Calls.mono (HS.out w2) ?_
  rintro e wx ⟨rfl, rfl⟩
  go_wp2_with fail
  refine Calls.mono (HP1.out w2) ?_
  rintro e wx ⟨rfl, rfl⟩
  go_wp2_with fail
  obtain ⟨w5, hw5⟩ : ∃ w5, w2.alloc (.cells #[.int .i64 (u : Int)] 3) = w5 := ⟨_, rfl⟩
  rw [hw5]
  have k5 : Below w2.heap.size w2 w5 := by rw [← hw5]; exact on_alloc _ _
  have bC : Box w5 w2.heap.size 3 #[.int .i64 (u : Int)] := by rw [← hw5]; exact Box.made _ _ _
  have cL : w5.cell? ⟨w0.heap.size, 0, none⟩ = some (.slice A n c) := (HW.out.2.2.1.on k5).cell 0
  have cC : w5.cell? ⟨w2.heap.size, 0, none⟩ = some (.int .i64 (u : Int)) := bC.cell 0
  have H5 := Lib.hid (And.intro k5 bC)
  clear hw5 k5 bC
  go_quiet ((go_at_call 35; with_reducible exact Calls.quiet_of_same (HP2.out _)))
  have kq := below_drewN w5 nq
  have H6 := Lib.hid (And.intro (on_trans H5.out.1 kq) (H5.out.2.on kq))
  clear kq cL cC
  obtain ⟨w7, hw7⟩ : ∃ w7, w7 = w5.drewN nq := ⟨_, rfl⟩
  rw [← hw7] at H6 ⊢
  clear hw7
  go_wp2_with fail
  refine Calls.mono (HM.out w7 w2.heap.size H6.out.1 H6.out.2) ?_
  rintro e w8 ⟨A6, n6, c6, rfl, hO, b6⟩
  have s7 : w0.heap.size + 1 < w7.heap.size := (HW.out.2.2.2.1.on H6.out.1).lt
  have H8 := Lib.hid (And.intro hO (And.intro (on_trans HW.out.2.1 (on_trans H6.out.1 b6)) ((HW.out.2.2.2.1.on H6.out.1).on b6)))
  clear hO b6
  go_wp2_with (first
    | ((with_reducible refine wpList_store_plane (o := ⟨none, _, _, _, _, _⟩) rfl (.tmp 6) (.tmp 29) rfl rfl (w0.heap.size + 1) #[.int .i64 (w : Int), .int .i64 (h : Int), .slice A6 n6 c6] rfl ?ho rfl rfl _ H8.out.2.2 rfl ?_)
       case ho => simp [Value.oneCell']
       intro w9 b9 k9
       have H9 := Lib.hid (And.intro b9 k9)
       clear b9 k9)
    | fail)
  refine bodyPost_ret (v := .tuple #[.agg #[.int .i64 (w : Int), .int .i64 (h : Int), .slice A6 n6 c6], .int .i64 0]) (results_ct (fn := Try.f25) Try.results25 _ _ (w0.heap.size + 1) _ _ rfl rfl (loadVar_plane H9.out.1 rfl)) rfl ?_
  exact ⟨A6, n6, c6, rfl, (H8.out.1.down (by omega)).kept H9.out.2 (fun b off e hb => by have := (H8.out.1.new b off e).1; omega), H8.out.2.1.trans (H9.out.2.below H8.out.2.1.size (fun i hi e => by omega))⟩

set_option maxHeartbeats 3200000 in
theorem join_any (w0 : World) (w h : Int) (A : Option Addr) (n c : Nat) (bl : List (List Int)) (hB : Bs w0 A n bl) (_ : n ≤ 1000) :
    Calls Try.prog 25 #[.slice A n c, .int .i64 w, .int .i64 h] w0 (PTells w0 (joinF bl w h)) := by
  have HS := Lib.hid (fun w1 => sized_any w1 w h)
  obtain ⟨w2, hw2, b0, b1, hs2, k2⟩ := join_made w0 (.slice A n c)
  have HW := Lib.hid (And.intro hw2 (And.intro k2 (And.intro b0 (And.intro b1 hs2))))
  clear hw2 k2 b0 b1 hs2
  by_cases hc : (1 ≤ w ∧ w ≤ 128) ∧ 1 ≤ h ∧ h ≤ 128
  · by_cases hl : bl.length = nb w.toNat * nb h.toNat
    · have e : joinF bl w h = (w, h, joinL bl w.toNat h.toNat, 0) := by unfold joinF; rw [if_pos hc, if_pos hl]
      rw [e]
      obtain ⟨⟨a0, a1⟩, b0, b1⟩ := hc
      obtain ⟨w', rfl⟩ := Int.eq_ofNat_of_zero_le (show 0 ≤ w by omega)
      obtain ⟨h', rfl⟩ := Int.eq_ofNat_of_zero_le (show 0 ≤ h by omega)
      exact join_good w0 w' h' A n c bl hB (by omega) (by omega) (by rw [← hB.len, hl]; rfl)
    · have e : joinF bl w h = (0, 0, [], 1) := by unfold joinF; rw [if_pos hc, if_neg hl]
      rw [e]
      rw [decide_eq_true (show Sizd w h from hc)] at HS
      obtain ⟨⟨a0, a1⟩, b0, b1⟩ := hc
      obtain ⟨w, rfl⟩ := Int.eq_ofNat_of_zero_le (show 0 ≤ w by omega)
      obtain ⟨h, rfl⟩ := Int.eq_ofNat_of_zero_le (show 0 ≤ h by omega)
      have hl' : bl.length ≠ nb w * nb h := hl
      rw [hB.len] at hl'
      have hnb : nb w ≤ 16 ∧ nb h ≤ 16 := by unfold nb; omega
      have hnn : nb w * nb h ≤ 256 := by have : nb w * nb h ≤ 16 * 16 := Nat.mul_le_mul hnb.1 hnb.2; omega
      have HP1 := Lib.hid (fun w1 => pieces8_any w1 w (by omega))
      have HP2 : ∀ w1, Calls Try.prog 35 #[.int .i64 (h : Int), .int .i64 8] w1 fun e w' => e = .returned (.int .i64 ((nb h : Nat) : Int)) ∧ w' = w1 := fun w1 => (pieces8_any w1 h (by omega)).mono fun _ _ ⟨a, b⟩ => ⟨a, b.symm⟩
      have HP2 := Lib.hid HP2
      obtain ⟨m, hm⟩ : ∃ m, m = nb w * nb h := ⟨_, rfl⟩
      have hprod : ((nb w : Nat) : Int) * ((nb h : Nat) : Int) = (m : Int) := by rw [hm, Int.natCast_mul]
      rw [← hm] at hl' hnn
      have hne : ((n : Int) != (m : Int)) = true := by simp; omega
      have hne' : ((n : Int) == (m : Int)) = false := by simp; omega
      obtain ⟨u, hu⟩ : ∃ u, u = nb w := ⟨_, rfl⟩
      obtain ⟨v, hv⟩ : ∃ v, v = nb h := ⟨_, rfl⟩
      rw [← hu] at HP1 hprod hnb
      rw [← hv] at HP2 hprod hnb
      obtain ⟨u16, v16⟩ := hnb
      clear hB hu hv hm hl hl' e a0 b0
      go_enter Try.func25, Try.ntmps25
      go_wp2_with fail
      rw [HW.out.1]
      refine Calls.mono (HS.out w2) ?_
      rintro e wx ⟨rfl, rfl⟩
      go_wp2_with fail
      refine Calls.mono (HP1.out w2) ?_
      rintro e wx ⟨rfl, rfl⟩
      go_wp2_with fail
      obtain ⟨w5, hw5⟩ : ∃ w5, w2.alloc (.cells #[.int .i64 (u : Int)] 3) = w5 := ⟨_, rfl⟩
      rw [hw5]
      have k5 : Below w2.heap.size w2 w5 := by rw [← hw5]; exact on_alloc _ _
      have bC : Box w5 w2.heap.size 3 #[.int .i64 (u : Int)] := by rw [← hw5]; exact Box.made _ _ _
      have cL : w5.cell? ⟨w0.heap.size, 0, none⟩ = some (.slice A n c) := (HW.out.2.2.1.on k5).cell 0
      have cC : w5.cell? ⟨w2.heap.size, 0, none⟩ = some (.int .i64 (u : Int)) := bC.cell 0
      have H5 := Lib.hid k5
      clear hw5 k5 bC
      go_quiet ((go_at_call 35; with_reducible exact Calls.quiet_of_same (HP2.out _)))
      have kq := below_drewN w5 nq
      have H6 := Lib.hid (And.intro (on_trans HW.out.2.1 (on_trans H5.out kq)) ((HW.out.2.2.2.1.on H5.out).on kq))
      clear kq cL cC
      obtain ⟨w7, hw7⟩ : ∃ w7, w7 = w5.drewN nq := ⟨_, rfl⟩
      rw [← hw7] at H6 ⊢
      clear hw7
      go_wp2_with (first
        | ((with_reducible refine wpList_store_plane (o := ⟨none, _, _, _, _, _⟩) rfl (.tmp 6) (.tmp 24) rfl rfl (w0.heap.size + 1) #[.int .i64 0, .int .i64 0, .slice none 0 0] rfl ?ho rfl rfl _ H6.out.2 rfl ?_)
           case ho => simp [Value.oneCell']
           intro w9 b9 k9
           have H9 := Lib.hid (And.intro b9 (H6.out.1.trans (k9.below H6.out.1.size (fun i hi e => by omega))))
           clear b9 k9)
        | fail)
      refine bodyPost_ret (v := .tuple #[.agg #[.int .i64 0, .int .i64 0, .slice none 0 0], .int .i64 1]) (results_ct (fn := Try.f25) Try.results25 _ _ (w0.heap.size + 1) _ _ rfl rfl (loadVar_plane H9.out.1 rfl)) rfl ?_
      exact ⟨none, 0, 0, rfl, Os.none _ _, H9.out.2⟩
  · have e : joinF bl w h = (0, 0, [], 2) := by unfold joinF; rw [if_neg hc]
    rw [e]
    rw [decide_eq_false (show ¬ Sizd w h from hc)] at HS
    clear hc e hB
    go_enter Try.func25, Try.ntmps25
    go_wp2_with fail
    rw [HW.out.1]
    refine Calls.mono (HS.out w2) ?_
    rintro e wx ⟨rfl, rfl⟩
    go_wp2_with (first
      | ((with_reducible refine wpList_store_plane (o := ⟨none, _, _, _, _, _⟩) rfl (.tmp 6) (.tmp 14) rfl rfl (w0.heap.size + 1) #[.int .i64 0, .int .i64 0, .slice none 0 0] rfl ?ho rfl rfl _ HW.out.2.2.2.1 rfl ?_)
         case ho => simp [Value.oneCell']
         intro w9 b9 k9
         have H9 := Lib.hid (And.intro b9 (HW.out.2.1.trans (k9.below HW.out.2.1.size (fun i hi e => by omega))))
         clear b9 k9)
      | fail)
    refine bodyPost_ret (v := .tuple #[.agg #[.int .i64 0, .int .i64 0, .slice none 0 0], .int .i64 2]) (results_ct (fn := Try.f25) Try.results25 _ _ (w0.heap.size + 1) _ _ rfl rfl (loadVar_plane H9.out.1 rfl)) rfl ?_
    exact ⟨none, 0, 0, rfl, Os.none _ _, H9.out.2⟩
end Go.Proofs.Ytadlaljohlpabaa
