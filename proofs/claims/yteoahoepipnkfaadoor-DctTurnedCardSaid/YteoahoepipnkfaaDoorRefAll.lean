/-
  The contracts of the reference's all, Forward and Inverse.
-/
import Derived.Test.YteoahoepipnkfaaDoorRefSumB
namespace Go.Proofs.YteoahoepipnkfaaDoor
open Go.RowKit

theorem sum_any (w : World) (k' : Bool) (A : Option Addr) (n : Nat) (b : List Int) (i k : Nat) (hI : Il w A 64 n wz) (hb : b.length = 64) (wb : Wi b (-1048576) 1048576) (hi : i < 8) (hk : k < 8) :
    Calls Tryd.prog 23 #[.slice A 64 n, blkV b, .int .i64 i, .int .i64 k, .bool k'] w (Sums w k' b i k) := by
  cases k'
  · exact sum_false w A n b i k hI hb wb hi hk
  · exact sum_true w A n b i k hI hb wb hi hk
/-- a block that is boxed, the answer's, one that is worked on, and the waves -/
structure AllS (w wr : World) (b o : List Int) (A : Option Addr) (n : Nat) : Prop where
  b1 : Blk wr w.heap.size b
  ans : Blk wr (w.heap.size + 1) zeros64
  out : Blk wr (w.heap.size + 1 + 1) o
  il : Il wr A 64 n wz
  far : ∀ b off, A = some ⟨b, off, none⟩ → w.heap.size + 1 + 1 < b
  bel : Below w.heap.size w wr
section
variable {w wr w' : World} {b o : List Int} {A : Option Addr} {n : Nat}
theorem AllS.on (h : AllS w wr b o A n) (k : Below wr.heap.size wr w') : AllS w w' b o A n := ⟨h.b1.on k, h.ans.on k, h.out.on k, h.il.on k, h.far, on_trans h.bel k⟩
theorem AllS.put (h : AllS w wr b o A n) (k : Nat) (z : Int) : AllS w (wr.setCell ⟨w.heap.size + 1 + 1, k, none⟩ (.int .i64 z)) b (o.set k z) A n :=
  ⟨⟨h.b1.box.beside (by show w.heap.size ≠ w.heap.size + 1 + 1; omega) _, h.b1.len⟩, ⟨h.ans.box.beside (by show w.heap.size + 1 ≠ w.heap.size + 1 + 1; omega) _, h.ans.len⟩, h.out.put k z,
    h.il.kept ((Kept.refl (fun i => i = w.heap.size + 1 + 1) _).setCell (p := ⟨w.heap.size + 1 + 1, k, none⟩) (fun _ => rfl) _) (fun b off e hb => by have := h.far b off e; omega), h.far,
    ((Kept.of_below h.bel (fun i => i = w.heap.size + 1 + 1)).setCell (p := ⟨w.heap.size + 1 + 1, k, none⟩) (fun _ => rfl) _).below (Nat.le_refl _) (fun i hi e => by omega)⟩
theorem AllS.done (h : AllS w wr b o A n) {c : List Int} (hc : Blk w' (w.heap.size + 1) c) (k : Kept (fun i => i = w.heap.size + 1) wr w') : Below w.heap.size w w' ∧ Blk w' (w.heap.size + 1) c :=
  ⟨h.bel.trans (k.below h.bel.size (fun i hi e => by omega)), hc⟩
end
theorem refL_put {k' : Bool} {b : List Int} {i k : Nat} (hi : i < 8) (hk : k < 8) : (mix (8 * i + k) (refL k' b) zeros64).set (8 * i + k) (rnd (sumT k' b i k 8) 67108864) = mix (8 * i + (k + 1)) (refL k' b) zeros64 := by
  rw [← sumT_is k' b hi hk, mix_more (refL_len k' b) zeros_len (by omega)]
  rfl

set_option maxRecDepth 10000 in
set_option maxHeartbeats 3200000 in
theorem all_any (w : World) (k' : Bool) (b : List Int) (hb : b.length = 64) (wb : Wi b (-1048576) 1048576) : Calls Tryd.prog 19 #[blkV b, .bool k'] w (Gives w (refL k' b)) := by
  obtain ⟨cs, Z, w2, hbv, hZV, hZs, hz, hw2, hD, hsz⟩ := duo_boxed w b hb
  have hbd : ∀ w, (Instr.build 23 #[]).run Tryd.prog w = .ok (.agg Z) w := fun w => by rw [← hZV]; exact build0 w
  have H := Lib.hid (And.intro hD (And.intro hb (And.intro hZV.symm (And.intro hZs (And.intro wb hsz)))))
  have HW := Lib.hid hw2
  have HX := Lib.hid (show Box (w2.alloc (.cells Z 23)) (w.heap.size + 1 + 1) 23 Z by rw [← hsz]; exact Box.made _ _ _)
  rw [← hw2] at HX
  rw [hbv]
  clear hD hb wb hbv hZV hZs hsz hw2
  obtain ⟨R, hR⟩ : ∃ R, R = refL k' b := ⟨_, rfl⟩
  rw [← hR]
  have HRR := Lib.hid (And.intro hR (show R.length = 64 by rw [hR]; exact refL_len k' b))
  clear hR
  go_enter Tryd.func19, Tryd.ntmps19
  go_wp2_with (first
    | ((with_reducible refine wpList_store_blk (o := ⟨none, _, _, _, _, _⟩) rfl (.tmp 5) (.tmp 9) rfl rfl (w.heap.size + 1 + 1) zeros64 rfl ?hy Z HX.out H.out.2.2.2.1 zeros_len ?_)
       case hy => exact H.out.2.2.1
       intro w4 b4 k4
       rw [HW.out] at k4
       have H4 := Lib.hid (And.intro b4 ((on_alloc w2 (.cells Z 23)).trans (k4.below (B := w2.heap.size) (by simp) (fun i hi e => by have := H.out.2.2.2.2.2; omega))))
       clear b4 k4)
    | fail)
  refine (waves_any w4).mono ?_
  rintro e w5 ⟨A, n, rfl, hI, hfar, b5⟩
  have hall : AllS w w5 b zeros64 A n := by
    have d := (H.out.1.on H4.out.2).on b5
    exact ⟨d.b1, d.out, H4.out.1.on b5, hI, fun g off e => by have := hfar g off e; have := H4.out.1.box.lt; omega, d.bel⟩
  have HA := Lib.hid hall
  clear hall hI hfar b5
  go_wp2_with fail
  go_loopw [7] (fun i wr => ∃ i' : Nat, i' ≤ 8 ∧ i = .int .i64 i' ∧ AllS w wr b (mix (8 * i') R zeros64) A n) (fun i _ => 8 - (intOf i).toNat)
  case atStart => exact ⟨0, by omega, rfl, by rw [Nat.mul_zero, mix_zero]; exact HA.out⟩
  case round =>
    obtain ⟨i, hi, rfl, hR⟩ := hrel
    have HR := Lib.hid hR
    clear hR
    by_cases hi8 : i < 8
    · go_wp2_with fail
      rw [show decide ((i : Int) < 8) = true from decide_eq_true (by omega)]
      go_loopw [8] (fun k wr => ∃ k' : Nat, k' ≤ 8 ∧ k = .int .i64 k' ∧ AllS w wr b (mix (8 * i + k') R zeros64) A n) (fun k _ => 8 - (intOf k).toNat)
      case atStart => exact ⟨0, by omega, rfl, HR.out⟩
      case round =>
        obtain ⟨k, hk, rfl, hR⟩ := hrel
        have HR := Lib.hid hR
        clear hR
        by_cases hk8 : k < 8
        · have c1 := HR.out.out.cell (k := 8 * i + k) (by omega)
          have hfr := HR.out.out.free (8 * i + k)
          have hm := refL_put (k' := k') (b := b) hi8 hk8
          rw [← HRR.out.1] at hm
          obtain ⟨x, hx⟩ : ∃ x, x = (mix (8 * i + k) R zeros64).getD (8 * i + k) 0 := ⟨_, rfl⟩
          rw [← hx] at c1
          have HM := Lib.hid hm
          have HC := Lib.hid (And.intro c1 hfr)
          clear hm hx c1 hfr
          go_wp2_with (first
            | (with_reducible refine wpList_load_to (op := ⟨some 24, _, _, _, _, _⟩) rfl 23 (.tmp 2) rfl (.pointer (some ⟨w.heap.size, 0, none⟩)) rfl (blkV b) HR.out.b1.load ?_)
            | fail)
          refine (sum_any wr k' A n b i k HR.out.il H.out.2.1 H.out.2.2.2.2.1 hi8 hk8).mono ?_
          rintro e w7 ⟨rfl, b7⟩
          have H7 := Lib.hid (HR.out.on b7)
          have c1 := H7.out.out.cell (k := 8 * i + k) (by omega)
          have hfr := H7.out.out.free (8 * i + k)
          obtain ⟨x, hx⟩ : ∃ x, x = (mix (8 * i + k) R zeros64).getD (8 * i + k) 0 := ⟨_, rfl⟩
          rw [← hx] at c1
          obtain ⟨z, hz'⟩ : ∃ z, z = rnd (sumT k' b i k 8) 67108864 := ⟨_, rfl⟩
          rw [← hz'] at HM ⊢
          clear hx hz' b7 HC
          go_wp2_with fail
          go_roundw
          case rel =>
            refine ⟨k + 1, by omega, by go_num, ?_⟩
            rw [← HM.out]
            exact H7.out.put _ _
          case measure => simp [intOf]; omega
        · obtain rfl : k = 8 := by omega
          have hR := HR.out
          rw [show 8 * i + 8 = 8 * (i + 1) by omega] at hR
          have HR := Lib.hid hR
          clear hR
          go_wp2_with fail
          go_roundw
          case rel => exact ⟨i + 1, by omega, by go_num, HR.out⟩
          case measure => simp [intOf]; omega
    · obtain rfl : i = 8 := by omega
      have hR := HR.out
      rw [show 8 * 8 = 64 from rfl, mix_all HRR.out.2 zeros_len] at hR
      have HR := Lib.hid hR
      clear hR
      go_wp2_with (first
        | (with_reducible refine wpList_load_to (op := ⟨some 30, _, _, _, _, _⟩) rfl 23 (.tmp 5) rfl (.pointer (some ⟨w.heap.size + 1 + 1, 0, none⟩)) rfl (blkV R) HR.out.out.load ?_)
        | ((with_reducible refine wpList_store_blk (o := ⟨none, _, _, _, _, _⟩) rfl (.tmp 4) (.tmp 30) rfl rfl (w.heap.size + 1) R rfl rfl _ HR.out.ans.box rfl HRR.out.2 ?_)
           intro w9 b9 k9
           have H9 := Lib.hid (HR.out.done b9 k9)
           clear b9 k9)
        | fail)
      refine bodyPost_ret (v := blkV R) (results_c (fn := Tryd.f19) Tryd.results19 _ _ (w.heap.size + 1) _ rfl (loadVar_blk H9.out.2)) rfl ?_
      exact ⟨rfl, H9.out.1⟩

set_option maxRecDepth 10000 in
set_option maxHeartbeats 3200000 in
theorem refForward_any (w : World) (b : List Int) (hb : b.length = 64) : Calls Tryd.prog 10 #[blkV b] w (Tells w (fwdF b)) := by
  obtain ⟨cs, Z, w2, hbv, hZV, hZs, hz, hw2, hD, hsz⟩ := duo_boxed w b hb
  have HL := Lib.hid hD.b1.load
  rw [← hw2] at HL
  have H := Lib.hid (And.intro hD (And.intro hb (And.intro hZV.symm hZs)))
  have HW := Lib.hid hw2
  rw [hbv]
  have hbd : ∀ w, (Instr.build 23 #[]).run Tryd.prog w = .ok (.agg Z) w := fun w => by rw [← hZV]; exact build0 w
  obtain ⟨R, hR⟩ : ∃ R, R = fwdF b := ⟨_, rfl⟩
  rw [← hR]
  have HR := Lib.hid hR
  clear hD hb hbv hZV hZs hw2 hsz hR
  go_enter Tryd.func10, Tryd.ntmps10
  go_wp2_with (first
    | (with_reducible refine wpList_load_to (op := ⟨some 4, _, _, _, _, _⟩) rfl 23 (.tmp 1) rfl (.pointer (some ⟨w.heap.size, 0, none⟩)) rfl (blkV b) HL.out ?_)
    | fail)
  rw [HW.out]
  refine (refIn_any w2 b (-2048) 2047 H.out.2.1).mono ?_
  rintro e w4 ⟨rfl, b4⟩
  have H4 := Lib.hid (H.out.1.on b4)
  clear b4
  by_cases hw : Wi b (-2048) 2047
  · have hF : fwdF b = (fwdL b, 0) := by unfold fwdF; rw [if_pos hw]
    have HF := Lib.hid (And.intro hw (HR.out.trans hF))
    rw [decide_eq_true hw]
    clear hF hw
    go_wp2_with (first
      | (with_reducible refine wpList_load_to (op := ⟨some 8, _, _, _, _, _⟩) rfl 23 (.tmp 1) rfl (.pointer (some ⟨w.heap.size, 0, none⟩)) rfl (blkV b) H4.out.b1.load ?_)
      | fail)
    refine (all_any w4 false b H.out.2.1 (fun k hk => by have := HF.out.1 k hk; omega)).mono ?_
    rintro e w5 ⟨rfl, b5⟩
    rw [show refL false b = fwdL b from rfl]
    have H5 := Lib.hid (H4.out.on b5)
    clear b5
    go_wp2_with (first
      | ((with_reducible refine wpList_store_blk (o := ⟨none, _, _, _, _, _⟩) rfl (.tmp 2) (.tmp 9) rfl rfl (w.heap.size + 1) (fwdL b) rfl rfl _ H5.out.out.box rfl (fwdL_len b) ?_)
         intro w9 b9 k9
         have H9 := Lib.hid (H5.out.done b9 k9)
         clear b9 k9)
      | fail)
    refine bodyPost_ret (v := .tuple #[blkV (fwdL b), .int .i64 0]) (results_ct (fn := Tryd.f10) Tryd.results10 _ _ (w.heap.size + 1) _ _ rfl rfl (loadVar_blk H9.out.2)) rfl ?_
    exact ⟨by rw [HF.out.2], H9.out.1⟩
  · have hF : fwdF b = (zeros64, 2) := by unfold fwdF; rw [if_neg hw]
    have HF := Lib.hid (HR.out.trans hF)
    rw [decide_eq_false hw]
    clear hF hw
    go_wp2_with (first
      | ((with_reducible refine wpList_store_blk (o := ⟨none, _, _, _, _, _⟩) rfl (.tmp 2) (.tmp 7) rfl rfl (w.heap.size + 1) zeros64 rfl ?hy _ H4.out.out.box rfl zeros_len ?_)
         case hy => exact H.out.2.2.1
         intro w9 b9 k9
         have H9 := Lib.hid (H4.out.done b9 k9)
         clear b9 k9)
      | fail)
    refine bodyPost_ret (v := .tuple #[blkV zeros64, .int .i64 2]) (results_ct (fn := Tryd.f10) Tryd.results10 _ _ (w.heap.size + 1) _ _ rfl rfl (loadVar_blk H9.out.2)) rfl ?_
    exact ⟨by rw [HF.out], H9.out.1⟩

set_option maxRecDepth 10000 in
set_option maxHeartbeats 3200000 in
theorem refInverse_any (w : World) (b : List Int) (hb : b.length = 64) : Calls Tryd.prog 15 #[blkV b] w (Tells w (invF b)) := by
  obtain ⟨cs, Z, w2, hbv, hZV, hZs, hz, hw2, hD, hsz⟩ := duo_boxed w b hb
  have HL := Lib.hid hD.b1.load
  rw [← hw2] at HL
  have H := Lib.hid (And.intro hD (And.intro hb (And.intro hZV.symm hZs)))
  have HW := Lib.hid hw2
  rw [hbv]
  have hbd : ∀ w, (Instr.build 23 #[]).run Tryd.prog w = .ok (.agg Z) w := fun w => by rw [← hZV]; exact build0 w
  obtain ⟨R, hR⟩ : ∃ R, R = invF b := ⟨_, rfl⟩
  rw [← hR]
  have HR := Lib.hid hR
  clear hD hb hbv hZV hZs hw2 hsz hR
  go_enter Tryd.func15, Tryd.ntmps15
  go_wp2_with (first
    | (with_reducible refine wpList_load_to (op := ⟨some 4, _, _, _, _, _⟩) rfl 23 (.tmp 1) rfl (.pointer (some ⟨w.heap.size, 0, none⟩)) rfl (blkV b) HL.out ?_)
    | fail)
  rw [HW.out]
  refine (refIn_any w2 b (-1048576) 1048576 H.out.2.1).mono ?_
  rintro e w4 ⟨rfl, b4⟩
  have H4 := Lib.hid (H.out.1.on b4)
  clear b4
  by_cases hw : Wi b (-1048576) 1048576
  · have hF : invF b = (invL b, 0) := by unfold invF; rw [if_pos hw]
    have HF := Lib.hid (And.intro hw (HR.out.trans hF))
    rw [decide_eq_true hw]
    clear hF hw
    go_wp2_with (first
      | (with_reducible refine wpList_load_to (op := ⟨some 8, _, _, _, _, _⟩) rfl 23 (.tmp 1) rfl (.pointer (some ⟨w.heap.size, 0, none⟩)) rfl (blkV b) H4.out.b1.load ?_)
      | fail)
    refine (all_any w4 true b H.out.2.1 HF.out.1).mono ?_
    rintro e w5 ⟨rfl, b5⟩
    rw [show refL true b = invL b from rfl]
    have H5 := Lib.hid (H4.out.on b5)
    clear b5
    go_wp2_with (first
      | ((with_reducible refine wpList_store_blk (o := ⟨none, _, _, _, _, _⟩) rfl (.tmp 2) (.tmp 9) rfl rfl (w.heap.size + 1) (invL b) rfl rfl _ H5.out.out.box rfl (invL_len b) ?_)
         intro w9 b9 k9
         have H9 := Lib.hid (H5.out.done b9 k9)
         clear b9 k9)
      | fail)
    refine bodyPost_ret (v := .tuple #[blkV (invL b), .int .i64 0]) (results_ct (fn := Tryd.f15) Tryd.results15 _ _ (w.heap.size + 1) _ _ rfl rfl (loadVar_blk H9.out.2)) rfl ?_
    exact ⟨by rw [HF.out.2], H9.out.1⟩
  · have hF : invF b = (zeros64, 2) := by unfold invF; rw [if_neg hw]
    have HF := Lib.hid (HR.out.trans hF)
    rw [decide_eq_false hw]
    clear hF hw
    go_wp2_with (first
      | ((with_reducible refine wpList_store_blk (o := ⟨none, _, _, _, _, _⟩) rfl (.tmp 2) (.tmp 7) rfl rfl (w.heap.size + 1) zeros64 rfl ?hy _ H4.out.out.box rfl zeros_len ?_)
         case hy => exact H.out.2.2.1
         intro w9 b9 k9
         have H9 := Lib.hid (H4.out.done b9 k9)
         clear b9 k9)
      | fail)
    refine bodyPost_ret (v := .tuple #[blkV zeros64, .int .i64 2]) (results_ct (fn := Tryd.f15) Tryd.results15 _ _ (w.heap.size + 1) _ _ rfl rfl (loadVar_blk H9.out.2)) rfl ?_
    exact ⟨by rw [HF.out], H9.out.1⟩
end Go.Proofs.YteoahoepipnkfaaDoor
