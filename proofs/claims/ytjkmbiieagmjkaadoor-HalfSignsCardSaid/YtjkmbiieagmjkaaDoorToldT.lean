/-
  The contract of Told.
-/
import Derived.Test.YtjkmbiieagmjkaaDoorAwake
namespace Go.Proofs.YtjkmbiieagmjkaaDoor
open Go.RowKit

/-- what the first m of four blocks told by steps are, and noughts -/
def nearP (f s : List Int) (m : Nat) : List Int := (List.range 256).map fun j => if j < 64 * m then f.getD j 0 * s.getD (j % 64) 0 else 0
theorem nearP_len (f s : List Int) (m : Nat) : (nearP f s m).length = 256 := by rw [nearP, List.length_map, List.length_range]
theorem nearP_at (f s : List Int) (m : Nat) {k j : Nat} (hk : k < 4) (hj : j < 64) : fo (nearP f s m) k j = if k < m then fo f k j * s.getD j 0 else 0 := by
  have e : fo (nearP f s m) k j = if 64 * k + j < 64 * m then f.getD (64 * k + j) 0 * s.getD ((64 * k + j) % 64) 0 else 0 := by
    conv => lhs; unfold fo nearP
    rw [List.getD_eq_getElem?_getD, List.getElem?_map, List.getElem?_range (by omega)]
    rfl
  rw [e, show (64 * k + j) % 64 = j by omega]
  by_cases h : k < m
  · rw [if_pos h, if_pos (by omega)]; rfl
  · rw [if_neg h, if_neg (by omega)]
theorem nearP_zero (f s : List Int) : nearP f s 0 = zeros256 := four_eq (nearP_len _ _ _) zeros256_len fun m hm j hj => by rw [nearP_at f s 0 hm hj, zeros256_at, if_neg (by omega)]
theorem nearP_all (f s : List Int) : nearP f s 4 = up4 f s := four_eq (nearP_len _ _ _) (up4_len _ _) fun m hm j hj => by rw [nearP_at f s 4 hm hj, up4_at f s hm hj, if_pos hm]
theorem nearP_put (f s : List Int) {m : Nat} (hm : m < 4) : setB (nearP f s m) m (upL (sub f m) s) = nearP f s (m + 1) := four_eq (setB_len (nearP_len _ _ _)) (nearP_len _ _ _) fun k hk j hj => by
  rw [setB_at (nearP_len _ _ _) (upL_len _ _) hm hj, nearP_at f s _ hk hj, nearP_at f s _ hk hj]
  by_cases e : k = m
  · subst e
    rw [if_pos rfl, if_pos (by omega)]
    unfold upL
    rw [tab_at _ hj, sub_at hj]
  · rw [if_neg e]
    by_cases h : k < m
    · rw [if_pos h, if_pos (by omega)]
    · rw [if_neg h, if_neg (by omega)]
/-- the first m blocks may be told by the steps -/
def Okm (f s : List Int) (m : Nat) : Prop := (∀ k, k < m → Wi (sub f k) (-1023) 1023) ∧ (0 < m → Wi s 1 255)
theorem Okm.more {f s : List Int} {m : Nat} (h : Okm f s m) (hs : Wi s 1 255) (hb : Wi (sub f m) (-1023) 1023) : Okm f s (m + 1) := ⟨fun k hk => by
  by_cases e : k = m
  · rw [e]; exact hb
  · exact h.1 k (by omega), fun _ => hs⟩
theorem Okm.steps {f s : List Int} (h : Okm f s 4) : Wi s 1 255 := h.2 (by omega)
theorem Okm.four {f s : List Int} (h : Okm f s 4) : W4 f (-1023) 1023 := w4_sub.2 h.1
theorem Okm.told {f s : List Int} (h : Okm f s 4) : toldF f s = (downL (mrgL (up4 f s)) s, 0) := by
  unfold toldF
  rw [if_pos h.steps, if_pos h.four]
theorem up_three {f s : List Int} {m : Nat} (hm : m < 4) : (upF (sub f m) s = (upL (sub f m) s, 0) ∧ Wi s 1 255 ∧ Wi (sub f m) (-1023) 1023) ∨ (∃ e, (e = 1 ∨ e = 2) ∧ upF (sub f m) s = (zeros64, e) ∧ toldF f s = (zeros64, e)) := by
  by_cases hs : Wi s 1 255
  · by_cases hb : Wi (sub f m) (-1023) 1023
    · refine .inl ⟨?_, hs, hb⟩
      unfold upF
      rw [if_pos (checkF_yes hs hb)]
    · refine .inr ⟨2, .inr rfl, ?_, ?_⟩
      · have hc : checkF (sub f m) s 1023 = 2 := by unfold checkF; rw [if_pos hs, if_neg hb]
        unfold upF
        rw [if_neg (by omega), hc]
      · unfold toldF
        rw [if_pos hs, if_neg (fun h => hb (w4_sub.1 h m hm))]
  · refine .inr ⟨1, .inl rfl, ?_, ?_⟩
    · have hc : checkF (sub f m) s 1023 = 1 := by unfold checkF; rw [if_neg hs]
      unfold upF
      rw [if_neg (by omega), hc]
    · unfold toldF
      rw [if_neg hs]
/-- four blocks and the steps that are boxed, and a block of noughts -/
theorem trd_boxed (w : World) (f s : List Int) (hT : Tab w) (hf : f.length = 256) (hs : s.length = 64) : ∃ cs cu Z w3, fourV f = .agg cs ∧ blkV s = .agg cu ∧ blkV zeros64 = .agg Z ∧ Z.size = 64 ∧ (∀ w, (zeroValue 23).run Tryd.prog w = .ok (.agg Z) w) ∧
    ((w.alloc (.cells cs 24)).alloc (.cells cu 23)).alloc (.cells Z 23) = w3 ∧ Know w w3 [.blk (w.heap.size + 1 + 1) zeros64, .blk (w.heap.size + 1) s, .four w.heap.size f] ∧ w3.heap.size = w.heap.size + 1 + 1 + 1 := by
  have h1 := ((Know.nil hT).made4 hf).made hs
  have h2 := h1.made (b := zeros64) zeros_len
  have e1 : (w.alloc (.cells (cellsI f).toArray 24)).heap.size = w.heap.size + 1 := by simp
  have e2 : ((w.alloc (.cells (cellsI f).toArray 24)).alloc (.cells (cellsI s).toArray 23)).heap.size = w.heap.size + 1 + 1 := by simp
  rw [e1, e2] at h2
  exact ⟨_, _, _, _, rfl, rfl, rfl, rfl, fun w => zero23 w, rfl, h2, by simp⟩
theorem four_made (w : World) (f : List Int) (hf : f.length = 256) : ∃ Z, fourV f = .agg Z ∧ Z.size = 256 ∧ Frs (w.alloc (.cells Z 24)) w.heap.size f := ⟨_, rfl, by simp [cellsI_len, hf], Frs.made _ _ hf⟩

set_option maxRecDepth 10000 in
set_option maxHeartbeats 3200000 in
theorem told_any (w : World) (f s : List Int) (hT : Tab w) (hf : f.length = 256) (hs : s.length = 64) : Calls Tryd.prog 14 #[fourV f, blkV s] w (Tells w (toldF f s)) := by
  obtain ⟨cs, cu, Z, w3, hfv, hsv, hZV, hZs, hz', hw3, hk, hsz⟩ := trd_boxed w f s hT hf hs
  have hbd : ∀ w, (Instr.build 23 #[]).run Tryd.prog w = .ok (.agg Z) w := fun w => by rw [← hZV]; exact build0 w
  have hk4 := hk.made4 zeros256_len
  obtain ⟨Z4, hZ4⟩ : ∃ Z, Z = (cellsI zeros256).toArray := ⟨_, rfl⟩
  have hz4 : ∀ w, (zeroValue 24).run Tryd.prog w = .ok (.agg Z4) w := fun w => by rw [hZ4]; exact zero24 w
  rw [← hZ4, hsz] at hk4
  obtain ⟨w4, hw4⟩ : ∃ w4, w4 = w3.alloc (.cells Z4 24) := ⟨_, rfl⟩
  rw [← hw4] at hk4
  rw [← hw3] at hw4
  have HL := Lib.hid hk4.f3.load
  rw [hw4] at HL
  have H := Lib.hid (And.intro hk4 (And.intro hT (And.intro hf (And.intro hs (And.intro hZV.symm (And.intro hZs hw4.symm))))))
  obtain ⟨v, hv'⟩ : ∃ v, v = fourV f := ⟨_, rfl⟩
  rw [← hv'] at HL
  have HI := Lib.hid (fun (w : World) (m : Nat) (hm : m < 4) => index24 w (f := f) hm)
  rw [← hv'] at HI
  rw [hfv, hsv]
  obtain ⟨F, hF⟩ : ∃ F, F = toldF f s := ⟨_, rfl⟩
  rw [← hF]
  have HF := Lib.hid hF
  clear hT hf hs hfv hsv hZV hZs hw3 hk hsz hk4 hZ4 hw4 hv' hF
  go_enter Tryd.func14, Tryd.ntmps14
  go_wp2_with (first
    | (with_reducible refine wpList_load_to (op := ⟨some 13, _, _, _, _, _⟩) rfl 24 (.tmp 2) rfl (.pointer (some ⟨w.heap.size, 0, none⟩)) rfl v HL.out ?_)
    | fail)
  rw [H.out.2.2.2.2.2.2]
  clear HL
  go_loopw [14] (fun i wr => ∃ m : Nat, m ≤ 4 ∧ i = .int .i64 m ∧ Okm f s m ∧ Know w wr [.four (w.heap.size + 1 + 1 + 1) (nearP f s m), .blk (w.heap.size + 1 + 1) zeros64, .blk (w.heap.size + 1) s, .four w.heap.size f]) (fun i _ => 4 - (intOf i).toNat)
  case atStart => exact ⟨0, by omega, rfl, ⟨fun k hk => absurd hk (by omega), fun h => absurd h (by omega)⟩, by rw [nearP_zero]; exact H.out.1⟩
  case round =>
    obtain ⟨m, hm, rfl, hO, hR⟩ := hrel
    have HR := Lib.hid hR
    have HO := Lib.hid hO
    clear hR hO
    by_cases hlt : m < 4
    · have hidx := fun w => HI.out w m hlt
      have HSL := Lib.hid (sub_len H.out.2.2.1 hlt)
      have hup := fun w => up_any w (sub f m) s HSL.out H.out.2.2.2.1
      have hnp := nearP_put f s hlt
      have hul := upL_len (sub f m) s
      rcases up_three (f := f) (s := s) hlt with ⟨h1, h2, h3⟩ | ⟨e, h1, h2, h3⟩
      · have HM := Lib.hid (HO.out.more h2 h3)
        rw [h1] at hup
        clear h1 h2 h3
        obtain ⟨b, hb⟩ : ∃ b, b = sub f m := ⟨_, rfl⟩
        rw [← hb] at hidx HSL hup hnp hul
        obtain ⟨x, hx⟩ : ∃ x, x = upL b s := ⟨_, rfl⟩
        rw [← hx] at hup hnp hul
        have HX := Lib.hid (And.intro hul (And.intro hnp hup))
        clear hb hx hul hnp hup
        go_wp2_with (first
          | ((with_reducible refine wpList_store_blk (o := ⟨none, _, _, _, _, _⟩) rfl (.tmp 8) (.tmp 17) rfl rfl wr.heap.size b rfl rfl Z (Box.made _ _ _) H.out.2.2.2.2.2.1 HSL.out ?_)
             intro w5 b5 k5
             have H5 := Lib.hid (HR.out.laid b5 k5)
             clear b5 k5)
          | (with_reducible refine wpList_load_to (op := ⟨some 19, _, _, _, _, _⟩) rfl 23 (.tmp 8) rfl (.pointer (some ⟨wr.heap.size, 0, none⟩)) rfl (blkV b) H5.out.b0.load ?_)
          | (with_reducible refine wpList_load_to (op := ⟨some 20, _, _, _, _, _⟩) rfl 23 (.tmp 3) rfl (.pointer (some ⟨w.heap.size + 1, 0, none⟩)) rfl (blkV s) H5.out.b3.load ?_)
          | fail)
        refine (HX.out.2.2 w5).mono ?_
        rintro r w6 ⟨rfl, b6⟩
        have H6 := Lib.hid (H5.out.less.on b6)
        clear b6
        dsimp only
        go_wp2_with (first
          | ((with_reducible refine wpList_store_blk (o := ⟨none, _, _, _, _, _⟩) rfl (.tmp 9) (.tmp 22) rfl rfl w6.heap.size x rfl rfl Z (Box.made _ _ _) H.out.2.2.2.2.2.1 HX.out.1 ?_)
             intro w7 b7 k7
             have H7 := Lib.hid (H6.out.laid b7 k7)
             have H8 := Lib.hid H7.out.less
             clear b7 k7)
          | (with_reducible refine wpList_load_to (op := ⟨some 29, _, _, _, _, _⟩) rfl 23 (.tmp 9) rfl (.pointer (some ⟨w6.heap.size, 0, none⟩)) rfl (blkV x) H7.out.b0.load ?_)
          | ((with_reducible refine wpList_store_part (o := ⟨none, _, _, _, _, _⟩) rfl (.tmp 30) (.tmp 29) rfl rfl (w.heap.size + 1 + 1 + 1) m x (nearP f s m) hlt rfl rfl H8.out.f0 HX.out.1 ?_)
             intro w9 b9 k9
             rw [HX.out.2.1] at b9
             have h9 := H8.out.turn (p' := .four (w.heap.size + 1 + 1 + 1) (nearP f s (m + 1))) H.out.2.1 (by show w.heap.size ≤ w.heap.size + 1 + 1 + 1; omega) (fun q hq => by
               simp only [List.mem_cons, List.not_mem_nil, or_false] at hq
               rcases hq with rfl | rfl | rfl
               · show w.heap.size + 1 + 1 ≠ w.heap.size + 1 + 1 + 1; omega
               · show w.heap.size + 1 ≠ w.heap.size + 1 + 1 + 1; omega
               · show w.heap.size ≠ w.heap.size + 1 + 1 + 1; omega) k9 b9
             have H9 := Lib.hid h9
             clear b9 k9 h9)
          | fail)
        go_roundw
        case rel => exact ⟨m + 1, by omega, by go_num, HM.out, H9.out⟩
        case measure => simp [intOf]; omega
      · rw [h2] at hup
        have HE := Lib.hid (HF.out.trans h3)
        clear h2 h3 hnp hul
        obtain ⟨b, hb⟩ : ∃ b, b = sub f m := ⟨_, rfl⟩
        rw [← hb] at hidx HSL hup
        have HX := Lib.hid hup
        clear hb hup
        rcases h1 with rfl | rfl
        all_goals
          go_wp2_with (first
            | ((with_reducible refine wpList_store_blk (o := ⟨none, _, _, _, _, _⟩) rfl (.tmp 8) (.tmp 17) rfl rfl wr.heap.size b rfl rfl Z (Box.made _ _ _) H.out.2.2.2.2.2.1 HSL.out ?_)
               intro w5 b5 k5
               have H5 := Lib.hid (HR.out.laid b5 k5)
               clear b5 k5)
            | (with_reducible refine wpList_load_to (op := ⟨some 19, _, _, _, _, _⟩) rfl 23 (.tmp 8) rfl (.pointer (some ⟨wr.heap.size, 0, none⟩)) rfl (blkV b) H5.out.b0.load ?_)
            | (with_reducible refine wpList_load_to (op := ⟨some 20, _, _, _, _, _⟩) rfl 23 (.tmp 3) rfl (.pointer (some ⟨w.heap.size + 1, 0, none⟩)) rfl (blkV s) H5.out.b3.load ?_)
            | fail)
          refine (HX.out w5).mono ?_
          rintro r w6 ⟨rfl, b6⟩
          have H6 := Lib.hid (H5.out.less.on b6)
          clear b6
          dsimp only
          go_wp2_with (first
            | ((with_reducible refine wpList_store_blk (o := ⟨none, _, _, _, _, _⟩) rfl (.tmp 9) (.tmp 22) rfl rfl w6.heap.size zeros64 rfl rfl Z (Box.made _ _ _) H.out.2.2.2.2.2.1 zeros_len ?_)
               intro w7 b7 k7
               have H8 := Lib.hid (H6.out.laid b7 k7).less
               clear b7 k7)
            | ((with_reducible refine wpList_store_blk (o := ⟨none, _, _, _, _, _⟩) rfl (.tmp 4) (.tmp 26) rfl rfl (w.heap.size + 1 + 1) zeros64 rfl ?hy _ H8.out.b1.box rfl zeros_len ?_)
               case hy => exact H.out.2.2.2.2.1
               intro w9 b9 k9
               have H9 := Lib.hid (And.intro b9 (H8.out.done (by omega) k9))
               clear b9 k9)
            | fail)
          refine bodyPost_ret (results_ct (fn := Tryd.f14) Tryd.results14 _ _ (w.heap.size + 1 + 1) _ _ rfl rfl (loadVar_blk H9.out.1)) rfl ?_
          exact ⟨by rw [HE.out]; rfl, H9.out.2⟩
    · obtain rfl : m = 4 := by omega
      have hM := fun w hT => merge_any w (up4 f s) hT (up4_len f s)
      rw [told_merge HO.out.steps HO.out.four] at hM
      have hD := fun w => down_any w (mrgL (up4 f s)) s (mrgL_len _) H.out.2.2.2.1
      rw [told_down HO.out.steps HO.out.four] at hD
      have HE := Lib.hid (HF.out.trans HO.out.told)
      have hR := HR.out
      rw [nearP_all] at hR
      have HR := Lib.hid hR
      clear hR
      obtain ⟨U, hU⟩ : ∃ U, U = up4 f s := ⟨_, rfl⟩
      rw [← hU] at hM hD HE HR
      have hML := mrgL_len U
      obtain ⟨M, hM'⟩ : ∃ M, M = mrgL U := ⟨_, rfl⟩
      rw [← hM'] at hM hD HE hML
      have hDL := downL_len M s
      obtain ⟨D, hD'⟩ : ∃ D, D = downL M s := ⟨_, rfl⟩
      rw [← hD'] at hD HE hDL
      have HX := Lib.hid (And.intro hM (And.intro hD (And.intro hML hDL)))
      clear hM hD hML hDL hU hM' hD'
      go_wp2_with (first
        | (with_reducible refine wpList_load_to (op := ⟨some 33, _, _, _, _, _⟩) rfl 24 (.tmp 6) rfl (.pointer (some ⟨w.heap.size + 1 + 1 + 1, 0, none⟩)) rfl (fourV U) HR.out.f0.load ?_)
        | fail)
      refine (HX.out.1 wr HR.out.tab).mono ?_
      rintro r w5 ⟨rfl, b5⟩
      have H5 := Lib.hid (HR.out.on b5)
      clear b5
      dsimp only
      go_wp2_with (first
        | ((with_reducible refine wpList_store_blk (o := ⟨none, _, _, _, _, _⟩) rfl (.tmp 11) (.tmp 35) rfl rfl w5.heap.size M rfl rfl Z (Box.made _ _ _) H.out.2.2.2.2.2.1 HX.out.2.2.1 ?_)
           intro w6 b6 k6
           have H6 := Lib.hid (H5.out.laid b6 k6)
           clear b6 k6)
        | (with_reducible refine wpList_load_to (op := ⟨some 41, _, _, _, _, _⟩) rfl 23 (.tmp 11) rfl (.pointer (some ⟨w5.heap.size, 0, none⟩)) rfl (blkV M) H6.out.b0.load ?_)
        | (with_reducible refine wpList_load_to (op := ⟨some 42, _, _, _, _, _⟩) rfl 23 (.tmp 3) rfl (.pointer (some ⟨w.heap.size + 1, 0, none⟩)) rfl (blkV s) H6.out.b3.load ?_)
        | fail)
      refine (HX.out.2.1 w6).mono ?_
      rintro r w7 ⟨rfl, b7⟩
      have H7 := Lib.hid (H6.out.on b7)
      clear b7
      dsimp only
      go_wp2_with (first
        | ((with_reducible refine wpList_store_blk (o := ⟨none, _, _, _, _, _⟩) rfl (.tmp 4) (.tmp 44) rfl rfl (w.heap.size + 1 + 1) D rfl rfl _ H7.out.b2.box rfl HX.out.2.2.2 ?_)
           intro w9 b9 k9
           have H9 := Lib.hid (And.intro b9 (H7.out.done (by omega) k9))
           clear b9 k9)
        | fail)
      refine bodyPost_ret (v := .tuple #[blkV D, .int .i64 0]) (results_ct (fn := Tryd.f14) Tryd.results14 _ _ (w.heap.size + 1 + 1) _ _ rfl rfl (loadVar_blk H9.out.1)) rfl ?_
      exact ⟨by rw [HE.out], H9.out.2⟩
end Go.Proofs.YtjkmbiieagmjkaaDoor
