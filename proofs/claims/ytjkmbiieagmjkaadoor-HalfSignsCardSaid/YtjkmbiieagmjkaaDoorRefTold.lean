/-
  The contract of the reference's Told.
-/
import Derived.Test.YtjkmbiieagmjkaaDoorToldT
namespace Go.Proofs.YtjkmbiieagmjkaaDoor
open Go.RowKit

/-- a block is stored whole, as an operation of a drawn region -/
theorem wp_store_blk {P : Oper} {a : Act} {w : World} {K : Act → World → Prop} {Q : Exit → Act → World → Prop} (x y : Operand) (ho : P.op = .store 23 x y) (hd : P.dst = none)
    (g : Nat) (b : List Int) (hx : a.eval x = .pointer (some ⟨g, 0, none⟩)) (hy : a.eval y = blkV b) (old : Array Value) (hg : Box w g 23 old) (hold : old.size = 64) (hb : b.length = 64)
    (h : ∀ w', Blk w' g b → Kept (fun i => i = g) w w' → K a w') : Oper.wp Tryd.prog P a w K Q := by
  refine wp_store_row 23 x y ho g (cellsI b).toArray hx hy 23 old hg (by rw [arr26_size]; simp [cellsI_len, hb]) (by rw [hold]; simp [cellsI_len, hb]) (all_oneCell_toArray (cellsI_one b)) ?_
  rw [hd]
  exact h _ ⟨setRow_heap w g old _ 23 _ hg, hb⟩ ⟨rfl, rfl, rfl, by simp, fun k _ hk => setRow_other w g k _ hk⟩
theorem reft_made {w wr v3 v9 : World} {L : List Lies} {g : Nat} {x : List Int} (h : Know w wr L) (k : Below wr.heap.size wr v3) (hg : wr.heap.size ≤ g) (hb : Blk v9 g x) (kk : Kept (fun i => i = g) v3 v9) : Know w v9 (.blk g x :: L) ∧ Below wr.heap.size wr v9 := by
  have k4 : Below wr.heap.size wr v9 := k.trans (kk.below k.size (fun i hi e => by omega))
  refine ⟨⟨fun p hp => ?_, h.tab.on k4, on_trans h.bel k4⟩, k4⟩
  rcases List.mem_cons.1 hp with rfl | hp
  · exact hb
  · exact p.on (h.all p hp) k4

set_option maxRecDepth 10000 in
set_option maxHeartbeats 3200000 in
theorem refTold_any (w : World) (f s : List Int) (hT : Tab w) (hf : f.length = 256) (hs : s.length = 64) : Calls Tryd.prog 15 #[fourV f, blkV s] w (Tells w (toldF f s)) := by
  obtain ⟨cs, cu, Z, w3, hfv, hsv, hZV, hZs, hz', hw3, hk, hsz⟩ := trd_boxed w f s hT hf hs
  have hbd : ∀ w, (Instr.build 23 #[]).run Tryd.prog w = .ok (.agg Z) w := fun w => by rw [← hZV]; exact build0 w
  obtain ⟨Z4, hZ4⟩ : ∃ Z, Z = (cellsI zeros256).toArray := ⟨_, rfl⟩
  have hz4 : ∀ w, (zeroValue 24).run Tryd.prog w = .ok (.agg Z4) w := fun w => by rw [hZ4]; exact zero24 w
  have hbd4 : ∀ w, (Instr.build 24 #[]).run Tryd.prog w = .ok (.agg Z4) w := fun w => by rw [hZ4]; exact build24 w
  have hZs4 : Z4.size = 256 := by rw [hZ4]; simp [cellsI_len, zeros256_len]
  have hZV4 : Value.agg Z4 = fourV zeros256 := by rw [hZ4]; rfl
  have HX := Lib.hid (show Box (w3.alloc (.cells Z4 24)) (w.heap.size + 1 + 1 + 1) 24 Z4 by rw [← hsz]; exact Box.made _ _ _)
  rw [← hw3] at HX
  have H := Lib.hid (And.intro hk (And.intro hT (And.intro hf (And.intro hs (And.intro hZV.symm (And.intro hZs (And.intro hw3 (And.intro hsz (And.intro hZs4 hZV4)))))))))
  rw [hfv, hsv]
  obtain ⟨F, hF⟩ : ∃ F, F = toldF f s := ⟨_, rfl⟩
  rw [← hF]
  have HF := Lib.hid hF
  have HZ : ∀ w : World, Box (w.alloc (.cells Z 23)) w.heap.size 23 Z := fun w => Box.made w 23 Z
  clear hT hf hs hfv hsv hZV hZs hw3 hk hsz hZ4 hF hZs4 hZV4
  go_enter Tryd.func15, Tryd.ntmps15
  go_wp2_with (first
    | ((with_reducible refine wpList_store_four (o := ⟨none, _, _, _, _, _⟩) rfl (.tmp 6) (.tmp 12) rfl rfl (w.heap.size + 1 + 1 + 1) zeros256 rfl ?hy Z4 HX.out H.out.2.2.2.2.2.2.2.2.1 zeros256_len ?_)
       case hy => exact H.out.2.2.2.2.2.2.2.2.2
       intro w4 b4 k4
       rw [H.out.2.2.2.2.2.2.1] at k4
       have H4 := Lib.hid (show Know w w4 [.four (w.heap.size + 1 + 1 + 1) zeros256, .blk (w.heap.size + 1 + 1) zeros64, .blk (w.heap.size + 1) s, .four w.heap.size f] by
         rw [← H.out.2.2.2.2.2.2.2.1] at b4 k4 ⊢
         exact H.out.1.laid4 b4 k4)
       clear b4 k4)
    | fail)
  clear HX
  go_loopw [7] (fun i wr => ∃ m : Nat, m ≤ 4 ∧ i = .int .i64 m ∧ Okm f s m ∧ Know w wr [.four (w.heap.size + 1 + 1 + 1) (nearP f s m), .blk (w.heap.size + 1 + 1) zeros64, .blk (w.heap.size + 1) s, .four w.heap.size f]) (fun i _ => 4 - (intOf i).toNat)
  case atStart => exact ⟨0, by omega, rfl, ⟨fun k hk => absurd hk (by omega), fun h => absurd h (by omega)⟩, by rw [nearP_zero]; exact H4.out⟩
  case round =>
    obtain ⟨m, hm, rfl, hO, hR⟩ := hrel
    have HR := Lib.hid hR
    have HO := Lib.hid hO
    clear hR hO
    by_cases hlt : m < 4
    · have HSL := Lib.hid (sub_len H.out.2.2.1 hlt)
      have hup := fun w => refUp_any w (sub f m) s HSL.out H.out.2.2.2.1
      have hxl := upF_len (sub f m) s
      obtain ⟨⟨x, e⟩, hx⟩ : ∃ R, R = upF (sub f m) s := ⟨_, rfl⟩
      rw [← hx] at hup hxl
      dsimp only at hxl
      have C1 := Lib.hid hup
      have HXE := Lib.hid (And.intro hx hxl)
      clear hup hx hxl
      go_upto_region 5 with fail
      go_cut [8, 9] (fun v e' wx => ∃ g, v = .pointer (some ⟨g, 0, none⟩) ∧ e' = .int .i64 e ∧ Know w wx [.blk g x, .four (w.heap.size + 1 + 1 + 1) (nearP f s m), .blk (w.heap.size + 1 + 1) zeros64, .blk (w.heap.size + 1) s, .four w.heap.size f])
      case first =>
        have HRR := Lib.hid (fun (w' : World) (h : Hid (Below wr.heap.size wr w')) => HR.out.on h.out)
        have H0 : Hid (Below wr.heap.size wr wr.drew) := Lib.hid (on_drew wr)
        refine wp_region_held_drew (S := fun w' => Hid (Below wr.heap.size wr w')) (by kernel_rfl) H0 fun s0 => ?_
        refine take_to (i := 0) (v := .int .i64 m) rfl (by kernel_rfl) (by kernel_rfl) (by kernel_rfl) (fun _ _ _ h => h) (Or.inl ⟨by rfl, fun w' hS => by go_simp⟩) s0 (some 18) rfl ?_
        try simp only [Act.put, List.setIfInBounds_toArray, List.set_cons_zero, List.set_cons_succ]
        refine take_to (i := 1) (v := .pointer (some ⟨w.heap.size, m * 64, none⟩)) rfl (by kernel_rfl) (by kernel_rfl) (by kernel_rfl) (fun _ _ _ h => h) (Or.inl ⟨by rfl, fun w' hS => by go_simp⟩) s0 (some 19) rfl ?_
        try simp only [Act.put, List.setIfInBounds_toArray, List.set_cons_zero, List.set_cons_succ]
        refine take_to (i := 2) rfl (by kernel_rfl) (by kernel_rfl) (by kernel_rfl) (fun _ _ _ h => h) (yieldsIf_load (by rfl) 23 _ rfl (.pointer (some ⟨w.heap.size, m * 64, none⟩)) rfl (blkV (sub f m)) (fun w' h => (HRR.out w' h).f3.loadb hlt)) s0 (some 20) rfl ?_
        try simp only [Act.put, List.setIfInBounds_toArray, List.set_cons_zero, List.set_cons_succ]
        refine take_to (i := 3) rfl (by kernel_rfl) (by kernel_rfl) (by kernel_rfl) (fun _ _ _ h => h) (yieldsIf_load (by rfl) 23 _ rfl (.pointer (some ⟨w.heap.size + 1, 0, none⟩)) rfl (blkV s) (fun w' h => (HRR.out w' h).b2.load)) s0 (some 21) rfl ?_
        try simp only [Act.put, List.setIfInBounds_toArray, List.set_cons_zero, List.set_cons_succ]
        generalize wr.drew = v0 at s0 ⊢
        refine wpAnyH_ready (rs := [4, 8]) (by kernel_rfl) (by simp) ?_
        refine AllReadyH.cons rfl (fun K hK => ?_) (AllReadyH.cons rfl (fun K hK => ?_) AllReadyH.nil)
        · skip
          go_simp
          refine (C1.out v0).mono ?_
          rintro r v1 ⟨rfl, k1⟩
          have s1 := Lib.hid (on_trans s0.out k1)
          refine hK.out _ _ s1 fun _ => ?_
          clear hK K
          dsimp only
          try simp only [Act.put, List.setIfInBounds_toArray, List.set_cons_zero, List.set_cons_succ]
          refine take_to (i := 5) (v := .tuple #[blkV x, .int .i64 e]) rfl (by kernel_rfl) (by kernel_rfl) (by kernel_rfl) (fun _ _ _ h => h) (Or.inl ⟨by rfl, fun w' hS => by go_simp⟩) s1 (some 17) rfl ?_
          try simp only [Act.put, List.setIfInBounds_toArray, List.set_cons_zero, List.set_cons_succ]
          refine take_to (i := 6) (v := blkV x) rfl (by kernel_rfl) (by kernel_rfl) (by kernel_rfl) (fun _ _ _ h => h) (Or.inl ⟨by rfl, fun w' hS => by go_simp⟩) s1 (some 23) rfl ?_
          try simp only [Act.put, List.setIfInBounds_toArray, List.set_cons_zero, List.set_cons_succ]
          refine take_to (i := 7) (v := .int .i64 e) rfl (by kernel_rfl) (by kernel_rfl) (by kernel_rfl) (fun _ _ _ h => h) (Or.inl ⟨by rfl, fun w' hS => by go_simp⟩) s1 (some 24) rfl ?_
          try simp only [Act.put, List.setIfInBounds_toArray, List.set_cons_zero, List.set_cons_succ]
          refine wpAnyH_ready (rs := [8]) (by kernel_rfl) (by simp) ?_
          refine AllReadyH.cons rfl (fun K hK => ?_) AllReadyH.nil
          go_simp
          have s3 := Lib.hid (on_trans s1.out (on_alloc v1 (.cells Z 23)))
          refine hK.out _ _ s3 fun _ => ?_
          clear hK K
          try simp only [Act.put, List.setIfInBounds_toArray, List.set_cons_zero, List.set_cons_succ]
          refine wpAnyH_ready (rs := [9]) (by kernel_rfl) (by simp) ?_
          refine AllReadyH.cons rfl (fun K hK => ?_) AllReadyH.nil
          refine if_then (by rfl) ?_
          refine wp_store_blk (.tmp 8) (.tmp 23) rfl rfl (v1.heap.size) x rfl rfl Z (HZ v1) H.out.2.2.2.2.2.1 HXE.out.2 fun v9 b9 k9 => ?_
          have TM := reft_made HR.out s3.out s1.out.size b9 k9
          have s9 := Lib.hid TM.2
          refine hK.out _ _ s9 fun _ => ?_
          clear hK K
          try simp only [Act.put, List.setIfInBounds_toArray, List.set_cons_zero, List.set_cons_succ]
          refine take_to (i := 10) (v := .int .i64 e) rfl (by kernel_rfl) (by kernel_rfl) (by kernel_rfl) (fun _ _ _ h => h) (Or.inl ⟨by rfl, fun w' hS => by go_simp⟩) s9 (some 9) rfl ?_
          try simp only [Act.put, List.setIfInBounds_toArray, List.set_cons_zero, List.set_cons_succ]
          refine wpAnyH_done (by kernel_rfl) ?_ _
          have TM := Lib.hid TM.1
          go_wp2_with fail
          go_meet
          exact ⟨_, rfl, rfl, TM.out⟩
        · skip
          go_simp
          have s1 := Lib.hid (on_trans s0.out (on_alloc v0 (.cells Z 23)))
          refine hK.out _ _ s1 fun _ => ?_
          clear hK K
          try simp only [Act.put, List.setIfInBounds_toArray, List.set_cons_zero, List.set_cons_succ]
          refine wpAnyH_ready (rs := [4]) (by kernel_rfl) (by simp) ?_
          refine AllReadyH.cons rfl (fun K hK => ?_) AllReadyH.nil
          go_simp
          refine (C1.out _).mono ?_
          rintro r v2 ⟨rfl, k2⟩
          have s2 := Lib.hid (on_trans s1.out k2)
          refine hK.out _ _ s2 fun _ => ?_
          clear hK K
          dsimp only
          try simp only [Act.put, List.setIfInBounds_toArray, List.set_cons_zero, List.set_cons_succ]
          refine take_to (i := 5) (v := .tuple #[blkV x, .int .i64 e]) rfl (by kernel_rfl) (by kernel_rfl) (by kernel_rfl) (fun _ _ _ h => h) (Or.inl ⟨by rfl, fun w' hS => by go_simp⟩) s2 (some 17) rfl ?_
          try simp only [Act.put, List.setIfInBounds_toArray, List.set_cons_zero, List.set_cons_succ]
          refine take_to (i := 6) (v := blkV x) rfl (by kernel_rfl) (by kernel_rfl) (by kernel_rfl) (fun _ _ _ h => h) (Or.inl ⟨by rfl, fun w' hS => by go_simp⟩) s2 (some 23) rfl ?_
          try simp only [Act.put, List.setIfInBounds_toArray, List.set_cons_zero, List.set_cons_succ]
          refine take_to (i := 7) (v := .int .i64 e) rfl (by kernel_rfl) (by kernel_rfl) (by kernel_rfl) (fun _ _ _ h => h) (Or.inl ⟨by rfl, fun w' hS => by go_simp⟩) s2 (some 24) rfl ?_
          try simp only [Act.put, List.setIfInBounds_toArray, List.set_cons_zero, List.set_cons_succ]
          refine wpAnyH_ready (rs := [9]) (by kernel_rfl) (by simp) ?_
          refine AllReadyH.cons rfl (fun K hK => ?_) AllReadyH.nil
          refine if_then (by rfl) ?_
          refine wp_store_blk (.tmp 8) (.tmp 23) rfl rfl (v0.heap.size) x rfl rfl Z ((HZ v0).on k2) H.out.2.2.2.2.2.1 HXE.out.2 fun v9 b9 k9 => ?_
          have TM := reft_made HR.out s2.out s0.out.size b9 k9
          have s9 := Lib.hid TM.2
          refine hK.out _ _ s9 fun _ => ?_
          clear hK K
          try simp only [Act.put, List.setIfInBounds_toArray, List.set_cons_zero, List.set_cons_succ]
          refine take_to (i := 10) (v := .int .i64 e) rfl (by kernel_rfl) (by kernel_rfl) (by kernel_rfl) (fun _ _ _ h => h) (Or.inl ⟨by rfl, fun w' hS => by go_simp⟩) s9 (some 9) rfl ?_
          try simp only [Act.put, List.setIfInBounds_toArray, List.set_cons_zero, List.set_cons_succ]
          refine wpAnyH_done (by kernel_rfl) ?_ _
          have TM := Lib.hid TM.1
          go_wp2_with fail
          go_meet
          exact ⟨_, rfl, rfl, TM.out⟩
      case rest =>
        obtain ⟨g, rfl, rfl, hg⟩ := hcut
        have HG := Lib.hid hg
        clear hg
        have hnp := nearP_put f s hlt
        rcases up_three (f := f) (s := s) hlt with ⟨h1, h2, h3⟩ | ⟨e1, h1, h2, h3⟩
        · have hxe := HXE.out.1.trans h1
          injection hxe with hx he
          subst he
          rw [← hx] at hnp
          have HM := Lib.hid (And.intro (HO.out.more h2 h3) hnp)
          have H8 := Lib.hid HG.out.less
          clear h1 h2 h3 hx hnp
          go_wp2_with (first
            | (with_reducible refine wpList_load_to (op := ⟨some 30, _, _, _, _, _⟩) rfl 23 (.tmp 8) rfl (.pointer (some ⟨g, 0, none⟩)) rfl (blkV x) HG.out.b0.load ?_)
            | ((with_reducible refine wpList_store_part (o := ⟨none, _, _, _, _, _⟩) rfl (.tmp 31) (.tmp 30) rfl rfl (w.heap.size + 1 + 1 + 1) m x (nearP f s m) hlt rfl rfl H8.out.f0 HXE.out.2 ?_)
               intro w9 b9 k9
               rw [HM.out.2] at b9
               have h9 := H8.out.turn (p' := .four (w.heap.size + 1 + 1 + 1) (nearP f s (m + 1))) H.out.2.1 (by show w.heap.size ≤ w.heap.size + 1 + 1 + 1; omega) (fun q hq => by
                 simp only [List.mem_cons, List.not_mem_nil, or_false] at hq
                 rcases hq with rfl | rfl | rfl
                 · show w.heap.size + 1 + 1 ≠ w.heap.size + 1 + 1 + 1; omega
                 · show w.heap.size + 1 ≠ w.heap.size + 1 + 1 + 1; omega
                 · show w.heap.size ≠ w.heap.size + 1 + 1 + 1; omega) k9 b9
               have H9 := Lib.hid h9
               clear b9 k9 h9)
            | fail)
          go_roundw
          case rel => exact ⟨m + 1, by omega, by go_num, HM.out.1, H9.out⟩
          case measure => simp [intOf]; omega
        · have hxe := HXE.out.1.trans h2
          injection hxe with hx he
          subst he
          have HE := Lib.hid (HF.out.trans h3)
          have H8 := Lib.hid HG.out.less
          clear h2 h3 hx hnp
          rcases h1 with rfl | rfl
          all_goals
            go_wp2_with (first
              | ((with_reducible refine wpList_store_blk (o := ⟨none, _, _, _, _, _⟩) rfl (.tmp 4) (.tmp 27) rfl rfl (w.heap.size + 1 + 1) zeros64 rfl ?hy _ H8.out.b1.box rfl zeros_len ?_)
                 case hy => exact H.out.2.2.2.2.1
                 intro w9 b9 k9
                 have H9 := Lib.hid (And.intro b9 (H8.out.done (by omega) k9))
                 clear b9 k9)
              | fail)
            refine bodyPost_ret (results_ct (fn := Tryd.f15) Tryd.results15 _ _ (w.heap.size + 1 + 1) _ _ rfl rfl (loadVar_blk H9.out.1)) rfl ?_
            exact ⟨by rw [HE.out]; rfl, H9.out.2⟩
    · obtain rfl : m = 4 := by omega
      have hM := fun w hT => refMerge_any w (up4 f s) hT (up4_len f s)
      rw [told_merge HO.out.steps HO.out.four] at hM
      have hD := fun w => refDown_any w (mrgL (up4 f s)) s (mrgL_len _) H.out.2.2.2.1
      rw [told_down HO.out.steps HO.out.four] at hD
      have HE := Lib.hid (HF.out.trans HO.out.told)
      have hR := HR.out
      rw [nearP_all] at hR
      have HR := Lib.hid hR
      clear hR
      obtain ⟨U, hU⟩ : ∃ U, U = up4 f s := ⟨_, rfl⟩
      rw [← hU] at hM hD HE HR
      have hML := mrgL_len U
      obtain ⟨M, hM'⟩ : ∃ M, M = mrgL U := ⟨_, rfl⟩
      rw [← hM'] at hM hD HE hML
      have hDL := downL_len M s
      obtain ⟨D, hD'⟩ : ∃ D, D = downL M s := ⟨_, rfl⟩
      rw [← hD'] at hD HE hDL
      have HX := Lib.hid (And.intro hM (And.intro hD (And.intro hML hDL)))
      clear hM hD hML hDL hU hM' hD'
      go_wp2_with (first
        | (with_reducible refine wpList_load_to (op := ⟨some 33, _, _, _, _, _⟩) rfl 24 (.tmp 6) rfl (.pointer (some ⟨w.heap.size + 1 + 1 + 1, 0, none⟩)) rfl (fourV U) HR.out.f0.load ?_)
        | fail)
      refine (HX.out.1 wr HR.out.tab).mono ?_
      rintro r w5 ⟨rfl, b5⟩
      have H5 := Lib.hid (HR.out.on b5)
      clear b5
      dsimp only
      go_wp2_with (first
        | ((with_reducible refine wpList_store_blk (o := ⟨none, _, _, _, _, _⟩) rfl (.tmp 10) (.tmp 35) rfl rfl w5.heap.size M rfl rfl Z (Box.made _ _ _) H.out.2.2.2.2.2.1 HX.out.2.2.1 ?_)
           intro w6 b6 k6
           have H6 := Lib.hid (H5.out.laid b6 k6)
           clear b6 k6)
        | (with_reducible refine wpList_load_to (op := ⟨some 41, _, _, _, _, _⟩) rfl 23 (.tmp 10) rfl (.pointer (some ⟨w5.heap.size, 0, none⟩)) rfl (blkV M) H6.out.b0.load ?_)
        | (with_reducible refine wpList_load_to (op := ⟨some 42, _, _, _, _, _⟩) rfl 23 (.tmp 3) rfl (.pointer (some ⟨w.heap.size + 1, 0, none⟩)) rfl (blkV s) H6.out.b3.load ?_)
        | fail)
      refine (HX.out.2.1 w6).mono ?_
      rintro r w7 ⟨rfl, b7⟩
      have H7 := Lib.hid (H6.out.on b7)
      clear b7
      dsimp only
      go_wp2_with (first
        | ((with_reducible refine wpList_store_blk (o := ⟨none, _, _, _, _, _⟩) rfl (.tmp 4) (.tmp 44) rfl rfl (w.heap.size + 1 + 1) D rfl rfl _ H7.out.b2.box rfl HX.out.2.2.2 ?_)
           intro w9 b9 k9
           have H9 := Lib.hid (And.intro b9 (H7.out.done (by omega) k9))
           clear b9 k9)
        | fail)
      refine bodyPost_ret (v := .tuple #[blkV D, .int .i64 0]) (results_ct (fn := Tryd.f15) Tryd.results15 _ _ (w.heap.size + 1 + 1) _ _ rfl rfl (loadVar_blk H9.out.1)) rfl ?_
      exact ⟨by rw [HE.out], H9.out.2⟩
end Go.Proofs.YtjkmbiieagmjkaaDoor
