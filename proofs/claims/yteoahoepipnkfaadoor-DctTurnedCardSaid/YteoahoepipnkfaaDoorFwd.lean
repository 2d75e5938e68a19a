/-
  The contracts of Forward and Inverse, the program's.
-/
import Derived.Test.YteoahoepipnkfaaDoorTransf
namespace Go.Proofs.YteoahoepipnkfaaDoor
open Go.RowKit

/-- two passes are one sum of both -/
theorem two_pass {f : List Int} {c : Nat → Nat → Int} (hf : ∀ u, u < 8 → ∀ j, j < 8 → f.getD (8 * u + j) 0 = c u j) (b : List Int) {n : Nat} (hn : n < 64) :
    (passL f (passL f b)).getD n 0 = su (fun p => su (fun q => c (n / 8) p * c (n % 8) q * b.getD (8 * p + q) 0) 8) 8 := by
  rw [su_swap]
  show (tab fun n => psT f (passL f b) n 8).getD n 0 = _
  rw [tab_at _ hn]
  unfold psT
  refine su_congr fun q hq => ?_
  rw [hf _ (by omega) q hq]
  have e : (passL f b).getD (8 * q + n / 8) 0 = su (fun p => c (n / 8) p * b.getD (8 * p + q) 0) 8 := by
    show (tab fun n => psT f b n 8).getD (8 * q + n / 8) 0 = _
    rw [tab_at _ (by omega)]
    unfold psT
    rw [show (8 * q + n / 8) % 8 = n / 8 by omega, show (8 * q + n / 8) / 8 = q by omega]
    exact su_congr fun p hp => by rw [hf _ (by omega) p hp]
  rw [e, ← su_mul]
  exact su_congr fun p _ => by rw [Int.mul_comm (c (n / 8) p) (c (n % 8) q), Int.mul_assoc]
theorem trL_fwd (b : List Int) : trL wz b = fwdL b := tab_congr fun n hn => by
  rw [two_pass (c := wv) (fun u _ j _ => rfl) b hn]
  rfl
theorem trL_inv (b : List Int) : trL (turnL wz) b = invL b := tab_congr fun n hn => by
  rw [two_pass (c := fun u j => wv j u) (fun u hu j hj => turnL_at wz hu hj) b hn]
  rfl
theorem wz_small : Wi wz (-4017) 4017 := fun k hk => by
  have := wv_small (k / 8) (by omega) (k % 8) (by omega)
  unfold wv at this
  rwa [show 8 * (k / 8) + k % 8 = k by omega] at this
theorem turned_small : Wi (turnL wz) (-4017) 4017 := wi_turn.2 wz_small

set_option maxRecDepth 10000 in
set_option maxHeartbeats 3200000 in
theorem forward_any (w : World) (b : List Int) (hT : Tab w) (hb : b.length = 64) : Calls Tryd.prog 9 #[blkV b] w (Tells w (fwdF b)) := by
  obtain ⟨cs, Z, w2, hbv, hZV, hZs, hz, hw2, hD, hsz⟩ := duo_boxed w b hb
  have HL := Lib.hid hD.b1.load
  rw [← hw2] at HL
  have H := Lib.hid (And.intro hD (And.intro hb (And.intro hZV.symm (And.intro hZs hT))))
  have HW := Lib.hid hw2
  rw [hbv]
  have hbd : ∀ w, (Instr.build 23 #[]).run Tryd.prog w = .ok (.agg Z) w := fun w => by rw [← hZV]; exact build0 w
  obtain ⟨R, hR⟩ : ∃ R, R = fwdF b := ⟨_, rfl⟩
  rw [← hR]
  have HR := Lib.hid hR
  clear hD hT hb hbv hZV hZs hw2 hsz hR
  go_enter Tryd.func9, Tryd.ntmps9
  go_wp2_with (first
    | (with_reducible refine wpList_load_to (op := ⟨some 4, _, _, _, _, _⟩) rfl 23 (.tmp 1) rfl (.pointer (some ⟨w.heap.size, 0, none⟩)) rfl (blkV b) HL.out ?_)
    | fail)
  rw [HW.out]
  refine (within_any w2 b (-2048) 2047 H.out.2.1).mono ?_
  rintro e w4 ⟨rfl, b4⟩
  have H4 := Lib.hid (And.intro (H.out.1.on b4) (H.out.2.2.2.2.on (on_trans H.out.1.bel b4)))
  clear b4
  by_cases hw : Wi b (-2048) 2047
  · have hF : fwdF b = (fwdL b, 0) := by unfold fwdF; rw [if_pos hw]
    have HF := Lib.hid (And.intro hw (HR.out.trans hF))
    rw [decide_eq_true hw]
    clear hF hw
    go_wp2_with (first
      | (with_reducible refine wpList_load_to (op := ⟨some 8, _, _, _, _, _⟩) rfl 23 (.tmp 1) rfl (.pointer (some ⟨w.heap.size, 0, none⟩)) rfl (blkV b) H4.out.1.b1.load ?_)
      | (with_reducible refine wpList_load_to (op := ⟨some 9, _, _, _, _, _⟩) rfl 22 (.global 0) rfl (.pointer (some ⟨0, 0, none⟩)) rfl (blkV wz) H4.out.2.load ?_)
      | fail)
    refine (transform_any w4 b wz H.out.2.1 wz_len (fun k hk => by have := HF.out.1 k hk; omega) wz_small).mono ?_
    rintro e w5 ⟨rfl, b5⟩
    rw [trL_fwd]
    have H5 := Lib.hid (H4.out.1.on b5)
    clear b5
    go_wp2_with (first
      | ((with_reducible refine wpList_store_blk (o := ⟨none, _, _, _, _, _⟩) rfl (.tmp 2) (.tmp 10) rfl rfl (w.heap.size + 1) (fwdL b) rfl rfl _ H5.out.out.box rfl (fwdL_len b) ?_)
         intro w9 b9 k9
         have H9 := Lib.hid (H5.out.done b9 k9)
         clear b9 k9)
      | fail)
    refine bodyPost_ret (v := .tuple #[blkV (fwdL b), .int .i64 0]) (results_ct (fn := Tryd.f9) Tryd.results9 _ _ (w.heap.size + 1) _ _ rfl rfl (loadVar_blk H9.out.2)) rfl ?_
    exact ⟨by rw [HF.out.2], H9.out.1⟩
  · have hF : fwdF b = (zeros64, 2) := by unfold fwdF; rw [if_neg hw]
    have HF := Lib.hid (HR.out.trans hF)
    rw [decide_eq_false hw]
    clear hF hw
    go_wp2_with (first
      | ((with_reducible refine wpList_store_blk (o := ⟨none, _, _, _, _, _⟩) rfl (.tmp 2) (.tmp 7) rfl rfl (w.heap.size + 1) zeros64 rfl ?hy _ H4.out.1.out.box rfl zeros_len ?_)
         case hy => exact H.out.2.2.1
         intro w9 b9 k9
         have H9 := Lib.hid (H4.out.1.done b9 k9)
         clear b9 k9)
      | fail)
    refine bodyPost_ret (v := .tuple #[blkV zeros64, .int .i64 2]) (results_ct (fn := Tryd.f9) Tryd.results9 _ _ (w.heap.size + 1) _ _ rfl rfl (loadVar_blk H9.out.2)) rfl ?_
    exact ⟨by rw [HF.out], H9.out.1⟩

set_option maxRecDepth 10000 in
set_option maxHeartbeats 3200000 in
theorem inverse_any (w : World) (b : List Int) (hT : Tab w) (hb : b.length = 64) : Calls Tryd.prog 14 #[blkV b] w (Tells w (invF b)) := by
  obtain ⟨cs, Z, w2, hbv, hZV, hZs, hz, hw2, hD, hsz⟩ := duo_boxed w b hb
  have HL := Lib.hid hD.b1.load
  rw [← hw2] at HL
  have H := Lib.hid (And.intro hD (And.intro hb (And.intro hZV.symm (And.intro hZs hT))))
  have HW := Lib.hid hw2
  rw [hbv]
  have hbd : ∀ w, (Instr.build 23 #[]).run Tryd.prog w = .ok (.agg Z) w := fun w => by rw [← hZV]; exact build0 w
  obtain ⟨R, hR⟩ : ∃ R, R = invF b := ⟨_, rfl⟩
  rw [← hR]
  have HR := Lib.hid hR
  clear hD hT hb hbv hZV hZs hw2 hsz hR
  go_enter Tryd.func14, Tryd.ntmps14
  go_wp2_with (first
    | (with_reducible refine wpList_load_to (op := ⟨some 4, _, _, _, _, _⟩) rfl 23 (.tmp 1) rfl (.pointer (some ⟨w.heap.size, 0, none⟩)) rfl (blkV b) HL.out ?_)
    | fail)
  rw [HW.out]
  refine (within_any w2 b (-1048576) 1048576 H.out.2.1).mono ?_
  rintro e w4 ⟨rfl, b4⟩
  have H4 := Lib.hid (And.intro (H.out.1.on b4) (H.out.2.2.2.2.on (on_trans H.out.1.bel b4)))
  clear b4
  by_cases hw : Wi b (-1048576) 1048576
  · have hF : invF b = (invL b, 0) := by unfold invF; rw [if_pos hw]
    have HF := Lib.hid (And.intro hw (HR.out.trans hF))
    rw [decide_eq_true hw]
    clear hF hw
    have C1 := Lib.hid (fun w => transposed_any w wz wz_len)
    have C2 := Lib.hid (fun w => transform_any w b (turnL wz) H.out.2.1 (turnL_len wz) HF.out.1 turned_small)
    rw [trL_inv] at C2
    go_upto_region 3 with fail
    have D0 : Duo w w4.drew b zeros64 := H4.out.1.on (on_drew w4)
    have T0 : Tab w4.drew := H4.out.2.on (on_drew w4)
    refine wp_region_held_drew (S := fun w' => Hid (Blk w' w.heap.size b ∧ Tab w')) (by kernel_rfl) (Lib.hid ⟨D0.b1, T0⟩) fun s0 => ?_
    refine take_to (i := 0) rfl (by kernel_rfl) (by kernel_rfl) (by kernel_rfl) (fun _ _ _ h => h) (yieldsIf_load (by rfl) 23 _ rfl (.pointer (some ⟨w.heap.size, 0, none⟩)) rfl (blkV b) (fun w' h => h.out.1.load)) s0 (some 8) rfl ?_
    try simp only [Act.put, List.setIfInBounds_toArray, List.set_cons_zero, List.set_cons_succ]
    refine take_to (i := 1) rfl (by kernel_rfl) (by kernel_rfl) (by kernel_rfl) (fun _ _ _ h => h) (yieldsIf_load (by rfl) 22 _ rfl (.pointer (some ⟨0, 0, none⟩)) rfl (blkV wz) (fun w' h => h.out.2.load)) s0 (some 9) rfl ?_
    try simp only [Act.put, List.setIfInBounds_toArray, List.set_cons_zero, List.set_cons_succ]
    generalize w4.drew = v0 at s0 D0 T0 ⊢
    have DT := Lib.hid (And.intro D0 T0)
    clear D0 T0
    refine wpAnyH_ready (rs := [2]) (by kernel_rfl) (by simp) ?_
    refine AllReadyH.cons rfl (fun K hK => ?_) AllReadyH.nil
    go_simp
    refine (C1.out v0).mono ?_
    rintro r v1 ⟨rfl, k1⟩
    have DT1 := Lib.hid (And.intro (DT.out.1.on k1) (DT.out.2.on k1))
    refine hK.out _ _ (Lib.hid ⟨DT1.out.1.b1, DT1.out.2⟩) fun _ => ?_
    clear hK K
    try simp only [Act.put, List.setIfInBounds_toArray, List.set_cons_zero, List.set_cons_succ]
    refine wpAnyH_ready (rs := [3]) (by kernel_rfl) (by simp) ?_
    refine AllReadyH.cons rfl (fun K hK => ?_) AllReadyH.nil
    go_simp
    refine (C2.out v1).mono ?_
    rintro r v2 ⟨rfl, k2⟩
    have DT2 := Lib.hid (And.intro (DT1.out.1.on k2) (DT1.out.2.on k2))
    refine hK.out _ _ (Lib.hid ⟨DT2.out.1.b1, DT2.out.2⟩) fun _ => ?_
    clear hK K
    try simp only [Act.put, List.setIfInBounds_toArray, List.set_cons_zero, List.set_cons_succ]
    refine wpAnyH_ready (rs := [4]) (by kernel_rfl) (by simp) ?_
    refine AllReadyH.cons rfl (fun K hK => ?_) AllReadyH.nil
    refine if_then (by rfl) ?_
    refine wp_store_blk (.tmp 2) (.tmp 11) rfl rfl (w.heap.size + 1) (invL b) rfl rfl _ DT2.out.1.out.box rfl (invL_len b) fun v9 b9 k9 => ?_
    have H9 := Lib.hid (DT2.out.1.done b9 k9)
    have s9 : Hid (Blk v9 w.heap.size b ∧ Tab v9) := Lib.hid ⟨DT2.out.1.b1.kept k9 (by omega), H.out.2.2.2.2.on H9.out.1⟩
    refine hK.out _ _ s9 fun _ => ?_
    clear hK K b9 k9
    try simp only [Act.put, List.setIfInBounds_toArray, List.set_cons_zero, List.set_cons_succ]
    refine wpAnyH_ready (rs := [5]) (by kernel_rfl) (by simp) ?_
    refine AllReadyH.cons rfl (fun K hK => ?_) AllReadyH.nil
    go_simp
    refine hK.out _ _ s9 fun _ => ?_
    clear hK K
    try simp only [Act.put, List.setIfInBounds_toArray, List.set_cons_zero, List.set_cons_succ]
    refine wpAnyH_done (by kernel_rfl) ?_ _
    go_wp2_with fail
    refine bodyPost_ret (v := .tuple #[blkV (invL b), .int .i64 0]) (results_ct (fn := Tryd.f14) Tryd.results14 _ _ (w.heap.size + 1) _ _ rfl rfl (loadVar_blk H9.out.2)) rfl ?_
    exact ⟨by rw [HF.out.2], H9.out.1⟩
  · have hF : invF b = (zeros64, 2) := by unfold invF; rw [if_neg hw]
    have HF := Lib.hid (HR.out.trans hF)
    rw [decide_eq_false hw]
    clear hF hw
    go_wp2_with (first
      | ((with_reducible refine wpList_store_blk (o := ⟨none, _, _, _, _, _⟩) rfl (.tmp 2) (.tmp 7) rfl rfl (w.heap.size + 1) zeros64 rfl ?hy _ H4.out.1.out.box rfl zeros_len ?_)
         case hy => exact H.out.2.2.1
         intro w9 b9 k9
         have H9 := Lib.hid (H4.out.1.done b9 k9)
         clear b9 k9)
      | fail)
    refine bodyPost_ret (v := .tuple #[blkV zeros64, .int .i64 2]) (results_ct (fn := Tryd.f14) Tryd.results14 _ _ (w.heap.size + 1) _ _ rfl rfl (loadVar_blk H9.out.2)) rfl ?_
    exact ⟨by rw [HF.out], H9.out.1⟩
end Go.Proofs.YteoahoepipnkfaaDoor
