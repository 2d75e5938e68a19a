/-
  The contracts of Down and Up, the reference's.
-/
import Derived.Test.YtjkmbiieagmjkaaDoorMove
namespace Go.Proofs.YtjkmbiieagmjkaaDoor
open Go.RowKit

theorem below_drewN_refl (w : World) (k : Nat) : Below w.heap.size w (w.drewN k) := ⟨rfl, rfl, rfl, Nat.le_refl _, fun _ _ => rfl⟩
/-- two blocks that are boxed, one for the answer, one that is worked on -/
structure Fou (w wr : World) (b s o : List Int) : Prop where
  b1 : Blk wr w.heap.size b
  b2 : Blk wr (w.heap.size + 1) s
  ans : Blk wr (w.heap.size + 1 + 1) zeros64
  out : Blk wr (w.heap.size + 1 + 1 + 1) o
  bel : Below w.heap.size w wr
section
variable {w wr w' : World} {b s o : List Int}
theorem Fou.on (h : Fou w wr b s o) (k : Below wr.heap.size wr w') : Fou w w' b s o := ⟨h.b1.on k, h.b2.on k, h.ans.on k, h.out.on k, on_trans h.bel k⟩
theorem Fou.put (h : Fou w wr b s o) (k : Nat) (z : Int) : Fou w (wr.setCell ⟨w.heap.size + 1 + 1 + 1, k, none⟩ (.int .i64 z)) b s (o.set k z) :=
  ⟨⟨h.b1.box.beside (by show w.heap.size ≠ w.heap.size + 1 + 1 + 1; omega) _, h.b1.len⟩, ⟨h.b2.box.beside (by show w.heap.size + 1 ≠ w.heap.size + 1 + 1 + 1; omega) _, h.b2.len⟩,
    ⟨h.ans.box.beside (by show w.heap.size + 1 + 1 ≠ w.heap.size + 1 + 1 + 1; omega) _, h.ans.len⟩, h.out.put k z,
    ((Kept.of_below h.bel (fun i => i = w.heap.size + 1 + 1 + 1)).setCell (p := ⟨w.heap.size + 1 + 1 + 1, k, none⟩) (fun _ => rfl) _).below (Nat.le_refl _) (fun i hi e => by omega)⟩
theorem Fou.done (h : Fou w wr b s o) {c : List Int} (hc : Blk w' (w.heap.size + 1 + 1) c) (k : Kept (fun i => i = w.heap.size + 1 + 1) wr w') : Below w.heap.size w w' ∧ Blk w' (w.heap.size + 1 + 1) c :=
  ⟨h.bel.trans (k.below h.bel.size (fun i hi e => by omega)), hc⟩
end
theorem Thr.size {w w3 : World} {b s : List Int} {cs cu Z : Array Value} (e : ((w.alloc (.cells cs 23)).alloc (.cells cu 23)).alloc (.cells Z 23) = w3) (_ : Thr w w3 b s) : w3.heap.size = w.heap.size + 1 + 1 + 1 := by rw [← e]; simp
/-- the block that is worked on is laid behind the others -/
theorem fou_laid {w w3 w4 : World} {b s : List Int} {Z : Array Value} (h : Thr w w3 b s) (hs : w3.heap.size = w.heap.size + 1 + 1 + 1) (hb : Blk w4 (w.heap.size + 1 + 1 + 1) zeros64) (k : Kept (fun i => i = w.heap.size + 1 + 1 + 1) (w3.alloc (.cells Z 23)) w4) : Fou w w4 b s zeros64 := by
  have hk := (on_alloc w3 (.cells Z 23)).trans (k.below (B := w3.heap.size) (by simp) (fun i hi e => by omega))
  exact ⟨h.b1.on hk, h.b2.on hk, h.ans.on hk, hb, on_trans h.bel hk⟩

theorem round_quiet (n d : Int) (hn : isInt n) (hd : isInt d) (w : World) : Calls Tryd.prog 20 #[.int .i64 n, .int .i64 d] w fun e w' => e = .returned (.int .i64 (rnd n d)) ∧ w' = w :=
  (refRound_any w n d hn hd).mono fun _ _ ⟨he, hw⟩ => ⟨he, hw.symm⟩

set_option maxRecDepth 10000 in
set_option maxHeartbeats 3200000 in
theorem refDown_any (w : World) (b s : List Int) (hb : b.length = 64) (hs : s.length = 64) : Calls Tryd.prog 24 #[blkV b, blkV s] w (Tells w (downF b s)) := by
  obtain ⟨cs, cu, Z, w3, hbv, hsv, hZV, hz, hw3, hZs, hT⟩ := thr_boxed w b s hb hs
  have hsz := hT.size hw3
  have hbx : Box (w3.alloc (.cells Z 23)) (w.heap.size + 1 + 1 + 1) 23 Z := by rw [← hsz]; exact Box.made _ _ _
  have H := Lib.hid (And.intro hT (And.intro hb (And.intro hs (And.intro hZV.symm (And.intro hZs (And.intro hsz (And.intro hbx hw3)))))))
  have HX := Lib.hid (show Box ((((w.alloc (.cells cs 23)).alloc (.cells cu 23)).alloc (.cells Z 23)).alloc (.cells Z 23)) (w.heap.size + 1 + 1 + 1) 23 Z by rw [hw3]; exact hbx)
  rw [hbv, hsv]
  have hbd : ∀ w, (Instr.build 23 #[]).run Tryd.prog w = .ok (.agg Z) w := fun w => by rw [← hZV]; exact build0 w
  clear hT hb hs hbv hsv hZV hZs hsz hbx hw3
  obtain ⟨R, hR⟩ : ∃ R, R = downF b s := ⟨_, rfl⟩
  rw [← hR]
  have HRR := Lib.hid hR
  clear hR
  go_enter Tryd.func24, Tryd.ntmps24
  go_wp2_with (first
    | ((with_reducible refine wpList_store_blk (o := ⟨none, _, _, _, _, _⟩) rfl (.tmp 6) (.tmp 9) rfl rfl (w.heap.size + 1 + 1 + 1) zeros64 rfl ?hy Z HX.out H.out.2.2.2.2.1 zeros_len ?_)
       case hy => exact H.out.2.2.2.1
       intro w4 b4 k4
       rw [H.out.2.2.2.2.2.2.2] at k4
       have H4 := Lib.hid (fou_laid H.out.1 H.out.2.2.2.2.2.1 b4 k4)
       clear b4 k4)
    | (with_reducible refine wpList_load_to (op := ⟨some 10, _, _, _, _, _⟩) rfl 23 (.tmp 3) rfl (.pointer (some ⟨w.heap.size + 1, 0, none⟩)) rfl (blkV s) H4.out.b2.load ?_)
    | fail)
  refine (refIn_any w4 s 1 255 H.out.2.2.1).mono ?_
  rintro e w5 ⟨rfl, b5⟩
  have H5 := Lib.hid (H4.out.on b5)
  clear b5
  by_cases hw : Wi s 1 255
  · rw [decide_eq_true hw]
    go_wp2_with (first
      | (with_reducible refine wpList_load_to (op := ⟨some 14, _, _, _, _, _⟩) rfl 23 (.tmp 2) rfl (.pointer (some ⟨w.heap.size, 0, none⟩)) rfl (blkV b) H5.out.b1.load ?_)
      | fail)
    refine (refIn_any w5 b (-16777216) 16777216 H.out.2.1).mono ?_
    rintro e w6 ⟨rfl, b6⟩
    have H6 := Lib.hid (H5.out.on b6)
    clear b6
    by_cases hv : Wi b (-16777216) 16777216
    · have hF : downF b s = (downL b s, 0) := by unfold downF; rw [if_pos (checkF_yes hw hv)]
      have HF := Lib.hid (HRR.out.trans hF)
      rw [decide_eq_true hv]
      have HOK := Lib.hid (And.intro hw hv)
      clear hF hw hv
      go_wp2_with fail
      go_loopw [7] (fun i wr => ∃ k : Nat, k ≤ 64 ∧ i = .int .i64 k ∧ Fou w wr b s (mix k (downL b s) zeros64)) (fun i _ => 64 - (intOf i).toNat)
      case atStart => exact ⟨0, by omega, rfl, by rw [mix_zero]; exact H6.out⟩
      case round =>
        obtain ⟨k, hk, rfl, hR⟩ := hrel
        have HR := Lib.hid hR
        clear hR
        by_cases hlt : k < 64
        · have hs0 := HOK.out.1 k hlt
          have hb0 := HOK.out.2 k hlt
          have hfr := HR.out.out.free k
          have c1 := HR.out.b1.cell hlt
          have c2 := HR.out.b2.cell hlt
          have c3 := HR.out.out.cell hlt
          have hst : (downL b s).getD k 0 = dnOf (b.getD k 0) (s.getD k 0) := tab_at _ hlt
          obtain ⟨n, hn⟩ : ∃ n, n = b.getD k 0 := ⟨_, rfl⟩
          obtain ⟨d, hd⟩ : ∃ d, d = s.getD k 0 := ⟨_, rfl⟩
          obtain ⟨y, hy⟩ : ∃ y, y = (mix k (downL b s) zeros64).getD k 0 := ⟨_, rfl⟩
          rw [← hn] at hb0 c1 hst
          rw [← hd] at hs0 c2 hst
          rw [← hy] at c3
          clear hn hd hy
          obtain ⟨s0, s1⟩ := hs0
          obtain ⟨n0, n1⟩ := hb0
          have HRO := Lib.hid (round_quiet n d (by unfold isInt; omega) (by unfold isInt; omega))
          obtain ⟨r, hr⟩ : ∃ r, r = rnd n d := ⟨_, rfl⟩
          unfold dnOf at hst
          rw [← hr] at hst HRO
          have HS := Lib.hid hst
          clear hst hr
          go_wp2_with fail
          go_quiet ((go_at_call 20; exact Calls.quiet_of_same (HRO.out _)))
          rcases Int.lt_or_le 1023 r with g1 | g1
          · have e : held r (-1023) 1023 = 1023 := by unfold held; rw [if_neg (by omega), if_pos g1]
            have HE := Lib.hid (HS.out.trans e)
            clear e
            go_wp2_with fail
            refine ⟨⟨k + 1, by omega, by go_num, ?_⟩, ?_⟩
            · rw [← mix_more (downL_len b s) zeros_len hlt, HE.out]
              exact (HR.out.on (below_drewN_refl _ _)).put k _
            · simp [intOf]; omega
          · rcases Int.lt_or_le r (-1023) with g2 | g2
            · have e : held r (-1023) 1023 = -1023 := by unfold held; rw [if_pos g2]
              have HE := Lib.hid (HS.out.trans e)
              clear e
              go_wp2_with fail
              refine ⟨⟨k + 1, by omega, by go_num, ?_⟩, ?_⟩
              · rw [← mix_more (downL_len b s) zeros_len hlt, HE.out]
                exact (HR.out.on (below_drewN_refl _ _)).put k _
              · simp [intOf]; omega
            · have e : held r (-1023) 1023 = r := by unfold held; rw [if_neg (by omega), if_neg (by omega)]
              have HE := Lib.hid (HS.out.trans e)
              clear e
              go_wp2_with fail
              refine ⟨⟨k + 1, by omega, by go_num, ?_⟩, ?_⟩
              · rw [← mix_more (downL_len b s) zeros_len hlt, HE.out]
                exact (HR.out.on (below_drewN_refl _ _)).put k _
              · simp [intOf]; omega
        · obtain rfl : k = 64 := by omega
          have hR := HR.out
          rw [mix_all (downL_len b s) zeros_len] at hR
          have HR := Lib.hid hR
          clear hR
          go_wp2_with (first
            | (with_reducible refine wpList_load_to (op := ⟨some 36, _, _, _, _, _⟩) rfl 23 (.tmp 6) rfl (.pointer (some ⟨w.heap.size + 1 + 1 + 1, 0, none⟩)) rfl (blkV (downL b s)) HR.out.out.load ?_)
            | ((with_reducible refine wpList_store_blk (o := ⟨none, _, _, _, _, _⟩) rfl (.tmp 4) (.tmp 36) rfl rfl (w.heap.size + 1 + 1) (downL b s) rfl rfl _ HR.out.ans.box rfl (downL_len b s) ?_)
               intro w9 b9 k9
               have H9 := Lib.hid (HR.out.done b9 k9)
               clear b9 k9)
            | fail)
          refine bodyPost_ret (v := .tuple #[blkV (downL b s), .int .i64 0]) (results_ct (fn := Tryd.f24) Tryd.results24 _ _ (w.heap.size + 1 + 1) _ _ rfl rfl (loadVar_blk H9.out.2)) rfl ?_
          exact ⟨by first | (rw [HF.out]; done) | (rw [HF.out]; rfl), H9.out.1⟩
    · have hF : downF b s = (zeros64, 2) := by
        have hc : checkF b s 16777216 = 2 := by unfold checkF; rw [if_pos hw, if_neg hv]
        unfold downF
        rw [if_neg (by omega), hc]
      have HF := Lib.hid (HRR.out.trans hF)
      rw [decide_eq_false hv]
      clear hF hw hv
      go_wp2_with (first
        | (with_reducible refine wpList_load_to (op := ⟨some 17, _, _, _, _, _⟩) rfl 23 (.tmp 6) rfl (.pointer (some ⟨w.heap.size + 1 + 1 + 1, 0, none⟩)) rfl (blkV zeros64) H6.out.out.load ?_)
        | ((with_reducible refine wpList_store_blk (o := ⟨none, _, _, _, _, _⟩) rfl (.tmp 4) (.tmp 17) rfl rfl (w.heap.size + 1 + 1) zeros64 rfl rfl _ H6.out.ans.box rfl zeros_len ?_)
           intro w9 b9 k9
           have H9 := Lib.hid (H6.out.done b9 k9)
           clear b9 k9)
        | fail)
      refine bodyPost_ret (v := .tuple #[blkV zeros64, .int .i64 2]) (results_ct (fn := Tryd.f24) Tryd.results24 _ _ (w.heap.size + 1 + 1) _ _ rfl rfl (loadVar_blk H9.out.2)) rfl ?_
      exact ⟨by first | (rw [HF.out]; done) | (rw [HF.out]; rfl), H9.out.1⟩
  · have hF : downF b s = (zeros64, 1) := by
      have hc : checkF b s 16777216 = 1 := by unfold checkF; rw [if_neg hw]
      unfold downF
      rw [if_neg (by omega), hc]
    have HF := Lib.hid (HRR.out.trans hF)
    rw [decide_eq_false hw]
    clear hF hw
    go_wp2_with (first
      | (with_reducible refine wpList_load_to (op := ⟨some 13, _, _, _, _, _⟩) rfl 23 (.tmp 6) rfl (.pointer (some ⟨w.heap.size + 1 + 1 + 1, 0, none⟩)) rfl (blkV zeros64) H5.out.out.load ?_)
      | ((with_reducible refine wpList_store_blk (o := ⟨none, _, _, _, _, _⟩) rfl (.tmp 4) (.tmp 13) rfl rfl (w.heap.size + 1 + 1) zeros64 rfl rfl _ H5.out.ans.box rfl zeros_len ?_)
         intro w9 b9 k9
         have H9 := Lib.hid (H5.out.done b9 k9)
         clear b9 k9)
      | fail)
    refine bodyPost_ret (v := .tuple #[blkV zeros64, .int .i64 1]) (results_ct (fn := Tryd.f24) Tryd.results24 _ _ (w.heap.size + 1 + 1) _ _ rfl rfl (loadVar_blk H9.out.2)) rfl ?_
    exact ⟨by first | (rw [HF.out]; done) | (rw [HF.out]; rfl), H9.out.1⟩

set_option maxRecDepth 10000 in
set_option maxHeartbeats 3200000 in
theorem refUp_any (w : World) (b s : List Int) (hb : b.length = 64) (hs : s.length = 64) : Calls Tryd.prog 23 #[blkV b, blkV s] w (Tells w (upF b s)) := by
  obtain ⟨cs, cu, Z, w3, hbv, hsv, hZV, hz, hw3, hZs, hT⟩ := thr_boxed w b s hb hs
  have hsz := hT.size hw3
  have hbx : Box (w3.alloc (.cells Z 23)) (w.heap.size + 1 + 1 + 1) 23 Z := by rw [← hsz]; exact Box.made _ _ _
  have H := Lib.hid (And.intro hT (And.intro hb (And.intro hs (And.intro hZV.symm (And.intro hZs (And.intro hsz (And.intro hbx hw3)))))))
  have HX := Lib.hid (show Box ((((w.alloc (.cells cs 23)).alloc (.cells cu 23)).alloc (.cells Z 23)).alloc (.cells Z 23)) (w.heap.size + 1 + 1 + 1) 23 Z by rw [hw3]; exact hbx)
  rw [hbv, hsv]
  have hbd : ∀ w, (Instr.build 23 #[]).run Tryd.prog w = .ok (.agg Z) w := fun w => by rw [← hZV]; exact build0 w
  clear hT hb hs hbv hsv hZV hZs hsz hbx hw3
  obtain ⟨R, hR⟩ : ∃ R, R = upF b s := ⟨_, rfl⟩
  rw [← hR]
  have HRR := Lib.hid hR
  clear hR
  go_enter Tryd.func23, Tryd.ntmps23
  go_wp2_with (first
    | ((with_reducible refine wpList_store_blk (o := ⟨none, _, _, _, _, _⟩) rfl (.tmp 6) (.tmp 8) rfl rfl (w.heap.size + 1 + 1 + 1) zeros64 rfl ?hy Z HX.out H.out.2.2.2.2.1 zeros_len ?_)
       case hy => exact H.out.2.2.2.1
       intro w4 b4 k4
       rw [H.out.2.2.2.2.2.2.2] at k4
       have H4 := Lib.hid (fou_laid H.out.1 H.out.2.2.2.2.2.1 b4 k4)
       clear b4 k4)
    | (with_reducible refine wpList_load_to (op := ⟨some 9, _, _, _, _, _⟩) rfl 23 (.tmp 3) rfl (.pointer (some ⟨w.heap.size + 1, 0, none⟩)) rfl (blkV s) H4.out.b2.load ?_)
    | fail)
  refine (refIn_any w4 s 1 255 H.out.2.2.1).mono ?_
  rintro e w5 ⟨rfl, b5⟩
  have H5 := Lib.hid (H4.out.on b5)
  clear b5
  by_cases hw : Wi s 1 255
  · rw [decide_eq_true hw]
    go_wp2_with (first
      | (with_reducible refine wpList_load_to (op := ⟨some 13, _, _, _, _, _⟩) rfl 23 (.tmp 2) rfl (.pointer (some ⟨w.heap.size, 0, none⟩)) rfl (blkV b) H5.out.b1.load ?_)
      | fail)
    refine (refIn_any w5 b (-1023) 1023 H.out.2.1).mono ?_
    rintro e w6 ⟨rfl, b6⟩
    have H6 := Lib.hid (H5.out.on b6)
    clear b6
    by_cases hv : Wi b (-1023) 1023
    · have hF : upF b s = (upL b s, 0) := by unfold upF; rw [if_pos (checkF_yes hw hv)]
      have HF := Lib.hid (HRR.out.trans hF)
      rw [decide_eq_true hv]
      have HOK := Lib.hid (And.intro hw hv)
      clear hF hw hv
      go_wp2_with fail
      go_loopw [7] (fun i wr => ∃ k : Nat, k ≤ 64 ∧ i = .int .i64 k ∧ Fou w wr b s (mix k (upL b s) zeros64)) (fun i _ => 64 - (intOf i).toNat)
      case atStart => exact ⟨0, by omega, rfl, by rw [mix_zero]; exact H6.out⟩
      case round =>
        obtain ⟨k, hk, rfl, hR⟩ := hrel
        have HR := Lib.hid hR
        clear hR
        by_cases hlt : k < 64
        · have hs0 := HOK.out.1 k hlt
          have hb0 := HOK.out.2 k hlt
          have hfr := HR.out.out.free k
          have c1 := HR.out.b1.cell hlt
          have c2 := HR.out.b2.cell hlt
          have c3 := HR.out.out.cell hlt
          have hst : (upL b s).getD k 0 = b.getD k 0 * s.getD k 0 := tab_at _ hlt
          obtain ⟨n, hn⟩ : ∃ n, n = b.getD k 0 := ⟨_, rfl⟩
          obtain ⟨d, hd⟩ : ∃ d, d = s.getD k 0 := ⟨_, rfl⟩
          obtain ⟨y, hy⟩ : ∃ y, y = (mix k (upL b s) zeros64).getD k 0 := ⟨_, rfl⟩
          rw [← hn] at hb0 c1 hst
          rw [← hd] at hs0 c2 hst
          rw [← hy] at c3
          clear hn hd hy
          obtain ⟨s0, s1⟩ := hs0
          obtain ⟨n0, n1⟩ := hb0
          obtain ⟨z, hz'⟩ : ∃ z, z = n * d := ⟨_, rfl⟩
          rw [← hz'] at hst
          have hm : -260865 ≤ z ∧ z ≤ 260865 := by rw [hz']; exact mul_small n0 n1 s0 s1
          obtain ⟨m0, m1⟩ := hm
          have hnd := hz'.symm
          have HS := Lib.hid hst
          clear hst hz'
          go_wp2_with fail
          go_region
          all_goals
            go_wp2_with fail
            refine ⟨⟨k + 1, by omega, by go_num, ?_⟩, ?_⟩
            · rw [← mix_more (upL_len b s) zeros_len hlt, HS.out]
              exact (HR.out.put k z).on (on_drew _)
            · simp [intOf]; omega
        · obtain rfl : k = 64 := by omega
          have hR := HR.out
          rw [mix_all (upL_len b s) zeros_len] at hR
          have HR := Lib.hid hR
          clear hR
          go_wp2_with (first
            | (with_reducible refine wpList_load_to (op := ⟨some 30, _, _, _, _, _⟩) rfl 23 (.tmp 6) rfl (.pointer (some ⟨w.heap.size + 1 + 1 + 1, 0, none⟩)) rfl (blkV (upL b s)) HR.out.out.load ?_)
            | ((with_reducible refine wpList_store_blk (o := ⟨none, _, _, _, _, _⟩) rfl (.tmp 4) (.tmp 30) rfl rfl (w.heap.size + 1 + 1) (upL b s) rfl rfl _ HR.out.ans.box rfl (upL_len b s) ?_)
               intro w9 b9 k9
               have H9 := Lib.hid (HR.out.done b9 k9)
               clear b9 k9)
            | fail)
          refine bodyPost_ret (v := .tuple #[blkV (upL b s), .int .i64 0]) (results_ct (fn := Tryd.f23) Tryd.results23 _ _ (w.heap.size + 1 + 1) _ _ rfl rfl (loadVar_blk H9.out.2)) rfl ?_
          exact ⟨by first | (rw [HF.out]; done) | (rw [HF.out]; rfl), H9.out.1⟩
    · have hF : upF b s = (zeros64, 2) := by
        have hc : checkF b s 1023 = 2 := by unfold checkF; rw [if_pos hw, if_neg hv]
        unfold upF
        rw [if_neg (by omega), hc]
      have HF := Lib.hid (HRR.out.trans hF)
      rw [decide_eq_false hv]
      clear hF hw hv
      go_wp2_with (first
        | (with_reducible refine wpList_load_to (op := ⟨some 16, _, _, _, _, _⟩) rfl 23 (.tmp 6) rfl (.pointer (some ⟨w.heap.size + 1 + 1 + 1, 0, none⟩)) rfl (blkV zeros64) H6.out.out.load ?_)
        | ((with_reducible refine wpList_store_blk (o := ⟨none, _, _, _, _, _⟩) rfl (.tmp 4) (.tmp 16) rfl rfl (w.heap.size + 1 + 1) zeros64 rfl rfl _ H6.out.ans.box rfl zeros_len ?_)
           intro w9 b9 k9
           have H9 := Lib.hid (H6.out.done b9 k9)
           clear b9 k9)
        | fail)
      refine bodyPost_ret (v := .tuple #[blkV zeros64, .int .i64 2]) (results_ct (fn := Tryd.f23) Tryd.results23 _ _ (w.heap.size + 1 + 1) _ _ rfl rfl (loadVar_blk H9.out.2)) rfl ?_
      exact ⟨by first | (rw [HF.out]; done) | (rw [HF.out]; rfl), H9.out.1⟩
  · have hF : upF b s = (zeros64, 1) := by
      have hc : checkF b s 1023 = 1 := by unfold checkF; rw [if_neg hw]
      unfold upF
      rw [if_neg (by omega), hc]
    have HF := Lib.hid (HRR.out.trans hF)
    rw [decide_eq_false hw]
    clear hF hw
    go_wp2_with (first
      | (with_reducible refine wpList_load_to (op := ⟨some 12, _, _, _, _, _⟩) rfl 23 (.tmp 6) rfl (.pointer (some ⟨w.heap.size + 1 + 1 + 1, 0, none⟩)) rfl (blkV zeros64) H5.out.out.load ?_)
      | ((with_reducible refine wpList_store_blk (o := ⟨none, _, _, _, _, _⟩) rfl (.tmp 4) (.tmp 12) rfl rfl (w.heap.size + 1 + 1) zeros64 rfl rfl _ H5.out.ans.box rfl zeros_len ?_)
         intro w9 b9 k9
         have H9 := Lib.hid (H5.out.done b9 k9)
         clear b9 k9)
      | fail)
    refine bodyPost_ret (v := .tuple #[blkV zeros64, .int .i64 1]) (results_ct (fn := Tryd.f23) Tryd.results23 _ _ (w.heap.size + 1 + 1) _ _ rfl rfl (loadVar_blk H9.out.2)) rfl ?_
    exact ⟨by first | (rw [HF.out]; done) | (rw [HF.out]; rfl), H9.out.1⟩

end Go.Proofs.YtjkmbiieagmjkaaDoor
