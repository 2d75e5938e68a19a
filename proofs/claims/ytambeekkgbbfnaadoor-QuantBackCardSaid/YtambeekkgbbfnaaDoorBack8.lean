/-
  QuantBack: the walk.
-/
import Derived.Test.YtambeekkgbbfnaaDoorBackMath8
namespace Go.Proofs.YtambeekkgbbfnaaDoor
open Go.RowKit

/-- two equal blocks are not unlike -/
theorem wpList_neq26 {ops : Array Oper} {rest : List Oper} {op : Oper} {a : Act} {w : World} {Q : Exit → Act → World → Prop} (hw : Region.wanted op (yielded ops a.tmps) = true) (x y : Operand) (ho : op.op = .binOp .neq 26 x y 26)
    (B : List Int) (hB : B.length = 64) (hx : a.eval x = blkV B) (hy : a.eval y = blkV B)
    (hK : wpList Tryd.prog ops Q rest (a.put op.dst (.bool false)) w) : wpList Tryd.prog ops Q (op :: rest) a w :=
  wpList_step fun _ hQ => by
    have hg : Tryd.prog.eqGuardType Tryd.prog.depth 26 = false := by kernel_rfl
    rw [if_pos hw]
    unfold Oper.wp execOp
    unfold blkV at hx hy
    have he := blk_equal w hB
    unfold blkV at he
    simp only [ho, hx, hy, Sem.run_bind, run_eqGuard_agg w .neq 26 x y _ _ hg, run_neq_struct, he, Result.andThen_ok]
    exact hQ _ _ hK

set_option maxRecDepth 10000 in
set_option maxHeartbeats 3200000 in
theorem back8_calls (w : World) (b s : List Int) (hT : Tab w) (hb : b.length = 64) (hs : s.length = 64) : Calls Tryd.prog 6 #[blkV b, blkV s] w (Law w) := by
  obtain ⟨cs, cu, w2, hbv, hsv, h2⟩ := two_boxed w b s hb hs
  obtain ⟨Z, hZ⟩ : ∃ Z, Z = (cellsI zeros64).toArray := ⟨_, rfl⟩
  have hz : ∀ w, (zeroValue 26).run Tryd.prog w = .ok (.agg Z) w := fun w => by rw [hZ]; exact zero26 w
  have hZs : Z.size = 64 := by rw [hZ]; rfl
  have H := Lib.hid (And.intro h2 (And.intro hb (And.intro hs (And.intro hZs (Know.two hT h2)))))
  rw [hbv, hsv]
  have HD := Lib.hid (fun w => down_any w b s hb hs)
  have HU := Lib.hid (fun w => up_any w b s hb hs)
  have hup : (upF b s).2 = 0 → ∀ w, Calls Tryd.prog 16 #[blkV (upF b s).1, blkV s] w (Tells w (b, 0)) := fun h w => by have := down_any w (upF b s).1 s (upF_len b s) hs; rw [up_down hb h] at this; exact this
  have hB1 : (downF b s).2 = 0 → (∀ w, Calls Tryd.prog 18 #[blkV (downF b s).1, blkV s] w (Tells w (upL (downL b s) s, 0))) ∧ (upL (downL b s) s).length = 64 ∧ ∀ k, k < 64 → -16777216 ≤ b.getD k 0 ∧ b.getD k 0 ≤ 16777216 ∧ 1 ≤ s.getD k 0 ∧ s.getD k 0 ≤ 255 ∧ -260865 ≤ (upL (downL b s) s).getD k 0 ∧ (upL (downL b s) s).getD k 0 ≤ 260865 ∧
      (b.getD k 0 ≤ 1023 * s.getD k 0 → -1023 * s.getD k 0 ≤ b.getD k 0 → 2 * (b.getD k 0 - (upL (downL b s) s).getD k 0) ≤ s.getD k 0 ∧ -2 * (b.getD k 0 - (upL (downL b s) s).getD k 0) ≤ s.getD k 0) := fun h =>
    ⟨fun w => by have := up_any w (downF b s).1 s (downF_len b s) hs; rw [up_of_down h] at this; exact this, upL_len _ _, fun k hk => by
      obtain ⟨h1, h2, _⟩ := down_ok h
      exact ⟨(h2 k hk).1, (h2 k hk).2, (h1 k hk).1, (h1 k hk).2, (down_up_small h hk).1, (down_up_small h hk).2, fun a c => down_near h hk a c⟩⟩
  have hB2 := fun h => down_zero (b := b) (s := s) h
  have hul := upF_len b s
  have hdl := downF_len b s
  obtain ⟨v, hv⟩ : ∃ v, v = upL (downL b s) s := ⟨_, rfl⟩
  rw [← hv] at hB1
  obtain ⟨⟨u, f⟩, hu⟩ : ∃ R, R = upF b s := ⟨_, rfl⟩
  obtain ⟨⟨d, e⟩, hd⟩ : ∃ R, R = downF b s := ⟨_, rfl⟩
  rw [← hu] at HU hup hul
  rw [← hd] at HD hB1 hB2 hdl
  dsimp only at hup hul hB1 hB2 hdl
  have HP := Lib.hid hup
  have HB := Lib.hid (And.intro hB1 hB2)
  have HL := Lib.hid (And.intro hul (And.intro hdl True.intro))
  clear hT h2 hb hs hbv hsv hZ hZs hu hd hv hup hul hdl hB1 hB2
  go_enter Tryd.func6, Tryd.ntmps6
  go_wp2_with (first
    | (with_reducible refine wpList_load_to (op := ⟨some 17, _, _, _, _, _⟩) rfl 26 (.tmp 2) rfl (.pointer (some ⟨w.heap.size, 0, none⟩)) rfl (blkV b) H.out.1.l1 ?_)
    | (with_reducible refine wpList_load_to (op := ⟨some 18, _, _, _, _, _⟩) rfl 26 (.tmp 3) rfl (.pointer (some ⟨w.heap.size + 1, 0, none⟩)) rfl (blkV s) H.out.1.l2 ?_)
    | fail)
  rw [H.out.1.e]
  refine (HU.out w2).mono ?_
  rintro r w3 ⟨rfl, ba⟩
  have K3 := Lib.hid (H.out.2.2.2.2.on ba)
  clear ba
  dsimp only
  by_cases hf : f = 0
  · subst hf
    go_wp2_with (first
      | ((with_reducible refine wpList_store_blk (o := ⟨none, _, _, _, _, _⟩) rfl (.tmp 5) (.tmp 20) rfl rfl w3.heap.size u rfl rfl Z (Box.made _ _ _) H.out.2.2.2.1 HL.out.1 ?_)
         intro w4 bb kb
         have J4 := Lib.hid (K3.out.laid bb kb)
         clear bb kb)
      | (with_reducible refine wpList_load_to (op := ⟨some 25, _, _, _, _, _⟩) rfl 26 (.tmp 5) rfl (.pointer (some ⟨w3.heap.size, 0, none⟩)) rfl (blkV u) J4.out.n0.load ?_)
      | (with_reducible refine wpList_load_to (op := ⟨some 26, _, _, _, _, _⟩) rfl 26 (.tmp 3) rfl (.pointer (some ⟨w.heap.size + 1, 0, none⟩)) rfl (blkV s) J4.out.n1.load ?_)
      | fail)
    obtain ⟨g5, hg5⟩ : ∃ g, g = w3.heap.size := ⟨_, rfl⟩
    rw [← hg5] at J4 ⊢
    clear hg5
    refine (HP.out (by simp) w4).mono ?_
    rintro r w5 ⟨rfl, ba⟩
    have K5 := Lib.hid (J4.out.on ba)
    clear ba
    dsimp only
    go_wp2_with (first
      | ((with_reducible refine wpList_store_blk (o := ⟨none, _, _, _, _, _⟩) rfl (.tmp 7) (.tmp 28) rfl rfl w5.heap.size b rfl rfl Z (Box.made _ _ _) H.out.2.2.2.1 H.out.2.1 ?_)
         intro w6 bb kb
         have J6 := Lib.hid (K5.out.laid bb kb)
         clear bb kb)
      | (with_reducible refine wpList_load_to (op := ⟨some 30, _, _, _, _, _⟩) rfl 26 (.tmp 7) rfl (.pointer (some ⟨w5.heap.size, 0, none⟩)) rfl (blkV b) J6.out.n0.load ?_)
      | (with_reducible refine wpList_load_to (op := ⟨some 31, _, _, _, _, _⟩) rfl 26 (.tmp 2) rfl (.pointer (some ⟨w.heap.size, 0, none⟩)) rfl (blkV b) J6.out.n3.load ?_)
      | (with_reducible refine wpList_neq26 (op := ⟨some 32, _, _, _, _, _⟩) rfl (.tmp 30) (.tmp 31) rfl b H.out.2.1 rfl rfl ?_)
      | (with_reducible refine wpList_load_to (op := ⟨some 38, _, _, _, _, _⟩) rfl 26 (.tmp 2) rfl (.pointer (some ⟨w.heap.size, 0, none⟩)) rfl (blkV b) J6.out.n3.load ?_)
      | (with_reducible refine wpList_load_to (op := ⟨some 39, _, _, _, _, _⟩) rfl 26 (.tmp 3) rfl (.pointer (some ⟨w.heap.size + 1, 0, none⟩)) rfl (blkV s) J6.out.n2.load ?_)
      | fail)
    obtain ⟨g7, hg7⟩ : ∃ g, g = w5.heap.size := ⟨_, rfl⟩
    rw [← hg7] at J6 ⊢
    clear hg7
    refine (HD.out w6).mono ?_
    rintro r wd ⟨rfl, ba⟩
    have KD := Lib.hid (J6.out.on ba)
    clear ba
    dsimp only
    by_cases h0 : e = 0
    · subst h0
      go_wp2_with (first
        | ((with_reducible refine wpList_store_blk (o := ⟨none, _, _, _, _, _⟩) rfl (.tmp 9) (.tmp 41) rfl rfl wd.heap.size d rfl rfl Z (Box.made _ _ _) H.out.2.2.2.1 HL.out.2.1 ?_)
           intro we bb kb
           have JE := Lib.hid (KD.out.laid bb kb)
           clear bb kb)
        | (with_reducible refine wpList_load_to (op := ⟨some 52, _, _, _, _, _⟩) rfl 26 (.tmp 9) rfl (.pointer (some ⟨wd.heap.size, 0, none⟩)) rfl (blkV d) JE.out.n0.load ?_)
        | (with_reducible refine wpList_load_to (op := ⟨some 53, _, _, _, _, _⟩) rfl 26 (.tmp 3) rfl (.pointer (some ⟨w.heap.size + 1, 0, none⟩)) rfl (blkV s) JE.out.n3.load ?_)
        | fail)
      obtain ⟨g9, hg9⟩ : ∃ g, g = wd.heap.size := ⟨_, rfl⟩
      rw [← hg9] at JE ⊢
      clear hg9
      have HU2 := Lib.hid (HB.out.1 (by simp))
      refine (HU2.out.1 we).mono ?_
      rintro r wf ⟨rfl, ba⟩
      have KF := Lib.hid (JE.out.on ba)
      clear ba
      dsimp only
      go_wp2_with (first
        | ((with_reducible refine wpList_store_blk (o := ⟨none, _, _, _, _, _⟩) rfl (.tmp 11) (.tmp 55) rfl rfl wf.heap.size v rfl rfl Z (Box.made _ _ _) H.out.2.2.2.1 HU2.out.2.1 ?_)
           intro wg bb kb
           have JG := Lib.hid (KF.out.laid bb kb)
           clear bb kb)
        | (with_reducible refine wpList_load_to (op := ⟨some 59, _, _, _, _, _⟩) rfl 26 (.tmp 2) rfl (.pointer (some ⟨w.heap.size, 0, none⟩)) rfl (blkV b) JG.out.n5.load ?_)
        | fail)
      obtain ⟨g11, hg11⟩ : ∃ g, g = wf.heap.size := ⟨_, rfl⟩
      rw [← hg11] at JG ⊢
      clear hg11
      go_loopw [60] (fun i wr => ∃ k : Nat, k ≤ 64 ∧ i = .int .i64 k ∧ Know w wr [(g11, v), (w.heap.size + 1, s)]) (fun i _ => 64 - (intOf i).toNat)
      case atStart => exact ⟨0, by omega, rfl, ⟨fun p hp => by
        simp only [List.mem_cons, List.not_mem_nil, or_false] at hp
        rcases hp with rfl | rfl
        · exact JG.out.n0
        · exact JG.out.n4, JG.out.tab, JG.out.bel⟩⟩
      case round =>
        obtain ⟨k, hk, rfl, hQ⟩ := hrel
        have HQ := Lib.hid hQ
        clear hQ
        by_cases hlt : k < 64
        · have c1 := HQ.out.n0.cell hlt
          have c2 := HQ.out.n1.cell hlt
          have hidx := fun w => index26 w H.out.2.1 hlt
          have q1 := HU2.out.2.2 k hlt
          obtain ⟨n, hn⟩ : ∃ n, n = b.getD k 0 := ⟨_, rfl⟩
          obtain ⟨U, hU⟩ : ∃ U, U = v.getD k 0 := ⟨_, rfl⟩
          obtain ⟨D, hD⟩ : ∃ D, D = s.getD k 0 := ⟨_, rfl⟩
          rw [← hn] at hidx q1
          rw [← hU] at c1 q1
          rw [← hD] at c2 q1
          obtain ⟨n0, n1, d0, d1, u0, u1, q1⟩ := q1
          have HQ1 := Lib.hid q1
          clear hn hU hD q1
          by_cases hA : n ≤ 1023 * D
          · by_cases hB : -1023 * D ≤ n
            · obtain ⟨e1, e2⟩ := HQ1.out hA hB
              go_wp2_with fail
              refine ⟨⟨k + 1, by omega, by go_num, HQ.out⟩, ?_⟩
              simp [intOf]; omega
            · go_wp2_with fail
              refine ⟨⟨k + 1, by omega, by go_num, HQ.out⟩, ?_⟩
              simp [intOf]; omega
          · go_wp2_with fail
            refine ⟨⟨k + 1, by omega, by go_num, HQ.out⟩, ?_⟩
            simp [intOf]; omega
        · obtain rfl : k = 64 := by omega
          go_wp2_with fail
          refine (awake_any wr HQ.out.tab).mono ?_
          rintro r wz ⟨rfl, bz⟩
          have HZ := Lib.hid (on_trans HQ.out.bel bz)
          clear bz
          go_wp2
          go_ret
          exact ⟨rfl, HZ.out⟩
    · have hb0 : (e == 0) = false := by simpa using h0
      have hb1 : (e != 0) = true := by simpa using h0
      have hdz := HB.out.2 h0
      subst hdz
      go_wp2_with (first
        | ((with_reducible refine wpList_store_blk (o := ⟨none, _, _, _, _, _⟩) rfl (.tmp 9) (.tmp 41) rfl rfl wd.heap.size zeros64 rfl rfl Z (Box.made _ _ _) H.out.2.2.2.1 zeros_len ?_)
           intro we bb kb
           have JE := Lib.hid (KD.out.laid bb kb)
           clear bb kb)
        | (with_reducible refine wpList_load_to (op := ⟨some 45, _, _, _, _, _⟩) rfl 26 (.tmp 9) rfl (.pointer (some ⟨wd.heap.size, 0, none⟩)) rfl (blkV zeros64) JE.out.n0.load ?_)
        | (with_reducible refine wpList_build_to (op := ⟨some 46, _, _, _, _, _⟩) rfl 26 _ rfl (blkV zeros64) _ (by simp) (build0 _) ?_)
        | (with_reducible refine wpList_eql26_when (op := ⟨some 47, _, _, _, _, _⟩) rfl (.tmp 45) (.tmp 46) rfl zeros64 zeros_len rfl rfl ?_)
        | fail)
      refine (awake_any we JE.out.tab).mono ?_
      rintro r wz ⟨rfl, bz⟩
      have HZ := Lib.hid (on_trans JE.out.bel bz)
      clear bz
      go_wp2
      go_ret
      exact ⟨rfl, HZ.out⟩
  · have hb0 : (f == 0) = false := by simpa using hf
    have hb1 : (f != 0) = true := by simpa using hf
    go_wp2_with (first
      | ((with_reducible refine wpList_store_blk (o := ⟨none, _, _, _, _, _⟩) rfl (.tmp 5) (.tmp 20) rfl rfl w3.heap.size u rfl rfl Z (Box.made _ _ _) H.out.2.2.2.1 HL.out.1 ?_)
         intro w4 bb kb
         have J4 := Lib.hid (K3.out.laid bb kb)
         clear bb kb)
      | (with_reducible refine wpList_load_to (op := ⟨some 38, _, _, _, _, _⟩) rfl 26 (.tmp 2) rfl (.pointer (some ⟨w.heap.size, 0, none⟩)) rfl (blkV b) J4.out.n2.load ?_)
      | (with_reducible refine wpList_load_to (op := ⟨some 39, _, _, _, _, _⟩) rfl 26 (.tmp 3) rfl (.pointer (some ⟨w.heap.size + 1, 0, none⟩)) rfl (blkV s) J4.out.n1.load ?_)
      | fail)
    obtain ⟨g5, hg5⟩ : ∃ g, g = w3.heap.size := ⟨_, rfl⟩
    rw [← hg5] at J4 ⊢
    clear hg5
    refine (HD.out w4).mono ?_
    rintro r wd ⟨rfl, ba⟩
    have KD := Lib.hid (J4.out.on ba)
    clear ba
    dsimp only
    by_cases h0 : e = 0
    · subst h0
      go_wp2_with (first
        | ((with_reducible refine wpList_store_blk (o := ⟨none, _, _, _, _, _⟩) rfl (.tmp 9) (.tmp 41) rfl rfl wd.heap.size d rfl rfl Z (Box.made _ _ _) H.out.2.2.2.1 HL.out.2.1 ?_)
           intro we bb kb
           have JE := Lib.hid (KD.out.laid bb kb)
           clear bb kb)
        | (with_reducible refine wpList_load_to (op := ⟨some 52, _, _, _, _, _⟩) rfl 26 (.tmp 9) rfl (.pointer (some ⟨wd.heap.size, 0, none⟩)) rfl (blkV d) JE.out.n0.load ?_)
        | (with_reducible refine wpList_load_to (op := ⟨some 53, _, _, _, _, _⟩) rfl 26 (.tmp 3) rfl (.pointer (some ⟨w.heap.size + 1, 0, none⟩)) rfl (blkV s) JE.out.n2.load ?_)
        | fail)
      obtain ⟨g9, hg9⟩ : ∃ g, g = wd.heap.size := ⟨_, rfl⟩
      rw [← hg9] at JE ⊢
      clear hg9
      have HU2 := Lib.hid (HB.out.1 (by simp))
      refine (HU2.out.1 we).mono ?_
      rintro r wf ⟨rfl, ba⟩
      have KF := Lib.hid (JE.out.on ba)
      clear ba
      dsimp only
      go_wp2_with (first
        | ((with_reducible refine wpList_store_blk (o := ⟨none, _, _, _, _, _⟩) rfl (.tmp 11) (.tmp 55) rfl rfl wf.heap.size v rfl rfl Z (Box.made _ _ _) H.out.2.2.2.1 HU2.out.2.1 ?_)
           intro wg bb kb
           have JG := Lib.hid (KF.out.laid bb kb)
           clear bb kb)
        | (with_reducible refine wpList_load_to (op := ⟨some 59, _, _, _, _, _⟩) rfl 26 (.tmp 2) rfl (.pointer (some ⟨w.heap.size, 0, none⟩)) rfl (blkV b) JG.out.n4.load ?_)
        | fail)
      obtain ⟨g11, hg11⟩ : ∃ g, g = wf.heap.size := ⟨_, rfl⟩
      rw [← hg11] at JG ⊢
      clear hg11
      go_loopw [60] (fun i wr => ∃ k : Nat, k ≤ 64 ∧ i = .int .i64 k ∧ Know w wr [(g11, v), (w.heap.size + 1, s)]) (fun i _ => 64 - (intOf i).toNat)
      case atStart => exact ⟨0, by omega, rfl, ⟨fun p hp => by
        simp only [List.mem_cons, List.not_mem_nil, or_false] at hp
        rcases hp with rfl | rfl
        · exact JG.out.n0
        · exact JG.out.n3, JG.out.tab, JG.out.bel⟩⟩
      case round =>
        obtain ⟨k, hk, rfl, hQ⟩ := hrel
        have HQ := Lib.hid hQ
        clear hQ
        by_cases hlt : k < 64
        · have c1 := HQ.out.n0.cell hlt
          have c2 := HQ.out.n1.cell hlt
          have hidx := fun w => index26 w H.out.2.1 hlt
          have q1 := HU2.out.2.2 k hlt
          obtain ⟨n, hn⟩ : ∃ n, n = b.getD k 0 := ⟨_, rfl⟩
          obtain ⟨U, hU⟩ : ∃ U, U = v.getD k 0 := ⟨_, rfl⟩
          obtain ⟨D, hD⟩ : ∃ D, D = s.getD k 0 := ⟨_, rfl⟩
          rw [← hn] at hidx q1
          rw [← hU] at c1 q1
          rw [← hD] at c2 q1
          obtain ⟨n0, n1, d0, d1, u0, u1, q1⟩ := q1
          have HQ1 := Lib.hid q1
          clear hn hU hD q1
          by_cases hA : n ≤ 1023 * D
          · by_cases hB : -1023 * D ≤ n
            · obtain ⟨e1, e2⟩ := HQ1.out hA hB
              go_wp2_with fail
              refine ⟨⟨k + 1, by omega, by go_num, HQ.out⟩, ?_⟩
              simp [intOf]; omega
            · go_wp2_with fail
              refine ⟨⟨k + 1, by omega, by go_num, HQ.out⟩, ?_⟩
              simp [intOf]; omega
          · go_wp2_with fail
            refine ⟨⟨k + 1, by omega, by go_num, HQ.out⟩, ?_⟩
            simp [intOf]; omega
        · obtain rfl : k = 64 := by omega
          go_wp2_with fail
          refine (awake_any wr HQ.out.tab).mono ?_
          rintro r wz ⟨rfl, bz⟩
          have HZ := Lib.hid (on_trans HQ.out.bel bz)
          clear bz
          go_wp2
          go_ret
          exact ⟨rfl, HZ.out⟩
    · have hb0 : (e == 0) = false := by simpa using h0
      have hb1 : (e != 0) = true := by simpa using h0
      have hdz := HB.out.2 h0
      subst hdz
      go_wp2_with (first
        | ((with_reducible refine wpList_store_blk (o := ⟨none, _, _, _, _, _⟩) rfl (.tmp 9) (.tmp 41) rfl rfl wd.heap.size zeros64 rfl rfl Z (Box.made _ _ _) H.out.2.2.2.1 zeros_len ?_)
           intro we bb kb
           have JE := Lib.hid (KD.out.laid bb kb)
           clear bb kb)
        | (with_reducible refine wpList_load_to (op := ⟨some 45, _, _, _, _, _⟩) rfl 26 (.tmp 9) rfl (.pointer (some ⟨wd.heap.size, 0, none⟩)) rfl (blkV zeros64) JE.out.n0.load ?_)
        | (with_reducible refine wpList_build_to (op := ⟨some 46, _, _, _, _, _⟩) rfl 26 _ rfl (blkV zeros64) _ (by simp) (build0 _) ?_)
        | (with_reducible refine wpList_eql26_when (op := ⟨some 47, _, _, _, _, _⟩) rfl (.tmp 45) (.tmp 46) rfl zeros64 zeros_len rfl rfl ?_)
        | fail)
      refine (awake_any we JE.out.tab).mono ?_
      rintro r wz ⟨rfl, bz⟩
      have HZ := Lib.hid (on_trans JE.out.bel bz)
      clear bz
      go_wp2
      go_ret
      exact ⟨rfl, HZ.out⟩
end Go.Proofs.YtambeekkgbbfnaaDoor
