/-
  DctTurns: the walk.
-/
import Derived.Test.YteoahoepipnkfaaDoorInverse
namespace Go.Proofs.YteoahoepipnkfaaDoor
open Go.RowKit

theorem rnd_bound_fwd (b : List Int) {k : Nat} (hk : k < 64) : -1152921504606846976 ≤ (fwdL b).getD k 0 ∧ (fwdL b).getD k 0 ≤ 1152921504606846976 := by
  unfold fwdL
  rw [tab_at _ hk]
  exact rnd_bound _ _
theorem rnd_bound_inv (b : List Int) {k : Nat} (hk : k < 64) : -1152921504606846976 ≤ (invL b).getD k 0 ∧ (invL b).getD k 0 ≤ 1152921504606846976 := by
  unfold invL
  rw [tab_at _ hk]
  exact rnd_bound _ _

set_option maxRecDepth 10000 in
set_option maxHeartbeats 3200000 in
theorem turns_calls (w : World) (b : List Int) (hT : Tab w) (hb : b.length = 64) : Calls Tryd.prog 6 #[blkV b] w (Law w) := by
  obtain ⟨cs, w1, hbv, hw1, hk, _⟩ := one_boxed w b hT hb
  obtain ⟨Z, hZ⟩ : ∃ Z, Z = (cellsI zeros64).toArray := ⟨_, rfl⟩
  have hz : ∀ w, (zeroValue 23).run Tryd.prog w = .ok (.agg Z) w := fun w => by rw [hZ]; exact zero23 w
  have hZs : Z.size = 64 := by rw [hZ]; rfl
  have HL := Lib.hid hk.n0.load
  rw [← hw1] at HL
  have H := Lib.hid (And.intro hk (And.intro hb (And.intro hZs (And.intro hw1 (And.intro hT (show ∀ w : World, Blk (w.alloc (.cells Z 23)) w.heap.size zeros64 from fun w => by rw [hZ]; exact Blk.made _ _ zeros_len))))))
  rw [hbv]
  clear hT hk hb hbv hZ hZs hw1
  go_enter Tryd.func6, Tryd.ntmps6
  go_wp2_with (first
    | (with_reducible refine wpList_load_to (op := ⟨some 15, _, _, _, _, _⟩) rfl 23 (.tmp 1) rfl (.pointer (some ⟨w.heap.size, 0, none⟩)) rfl (blkV b) HL.out ?_)
    | fail)
  rw [H.out.2.2.2.1]
  refine (refIn_any w1 b (-2047) 2047 H.out.2.1).mono ?_
  rintro r w2 ⟨rfl, bb⟩
  have H2 := Lib.hid (H.out.1.on bb)
  have HG := Lib.hid (show w.heap.size < w2.heap.size from Nat.lt_of_lt_of_le H.out.1.n0.box.lt bb.size)
  clear bb
  by_cases hw : Wi b (-2047) 2047
  · rw [decide_eq_true hw]
    obtain ⟨d1, d2, d3, d4⟩ := dct_turns hw
    have HP := Lib.hid (fun (w : World) (h : Tab w) => forward_any w b h H.out.2.1)
    have HPM := Lib.hid (fun (w : World) (h : Tab w) => forward_any w (negL b) h (negL_len b))
    have HQ := Lib.hid (fun (w : World) (h : Tab w) => inverse_any w b h H.out.2.1)
    have HQM := Lib.hid (fun (w : World) (h : Tab w) => inverse_any w (negL b) h (negL_len b))
    rw [d1] at HP
    rw [d2] at HPM
    rw [d3] at HQ
    rw [d4] at HQM
    have p1 := fun k (hk : k < 64) => fwdL_neg b hk
    have p2 := fun k (hk : k < 64) => invL_neg b hk
    have p3 := fun k (hk : k < 64) => negL_at b hk
    have p4 := fun k (hk : k < 64) => rnd_bound_fwd (negL b) hk
    have p5 := fun k (hk : k < 64) => rnd_bound_inv (negL b) hk
    have l1 := fwdL_len b
    have l2 := fwdL_len (negL b)
    have l3 := invL_len b
    have l4 := invL_len (negL b)
    have l5 := negL_len b
    obtain ⟨m, hm⟩ : ∃ m, m = negL b := ⟨_, rfl⟩
    rw [← hm] at HPM HQM p1 p2 p3 p4 p5 l2 l4 l5
    obtain ⟨x, hx⟩ : ∃ x, x = fwdL b := ⟨_, rfl⟩
    obtain ⟨y, hy⟩ : ∃ y, y = fwdL m := ⟨_, rfl⟩
    obtain ⟨u, hu⟩ : ∃ u, u = invL b := ⟨_, rfl⟩
    obtain ⟨v, hv⟩ : ∃ v, v = invL m := ⟨_, rfl⟩
    rw [← hx] at HP p1 l1
    rw [← hy] at HPM p1 p4 l2
    rw [← hu] at HQ p2 l3
    rw [← hv] at HQM p2 p5 l4
    have HX := Lib.hid (And.intro p1 (And.intro p2 (And.intro p3 (And.intro p4 (And.intro p5 hw)))))
    have HL5 := Lib.hid (And.intro l1 (And.intro l2 (And.intro l3 (And.intro l4 l5))))
    clear d1 d2 d3 d4 p1 p2 p3 p4 p5 l1 l2 l3 l4 l5 hm hx hy hu hv hw
    have HLD := Lib.hid ((H2.out.n0).on (on_alloc w2 (.cells Z 23))).load
    go_wp2_with (first
      | (with_reducible refine wpList_load_to (op := ⟨some 19, _, _, _, _, _⟩) rfl 23 (.tmp 1) rfl (.pointer (some ⟨w.heap.size, 0, none⟩)) rfl (blkV b) HLD.out ?_)
      | fail)
    have h4 : Know w (w2.alloc (.cells Z 23)) [(w2.heap.size, zeros64), (w.heap.size, b)] := by
      have hk := on_alloc w2 (.cells Z 23)
      refine ⟨fun p hp => ?_, H2.out.tab.on hk, on_trans H2.out.bel hk⟩
      rcases List.mem_cons.1 hp with rfl | hp
      · exact H.out.2.2.2.2.2 w2
      · exact (H2.out.all p hp).on hk
    obtain ⟨w4, hw4⟩ : ∃ w4, w4 = w2.alloc (.cells Z 23) := ⟨_, rfl⟩
    obtain ⟨g3, hg3⟩ : ∃ g, g = w2.heap.size := ⟨_, rfl⟩
    rw [← hw4, ← hg3] at h4 ⊢
    have H4 := Lib.hid (And.intro h4 (show w.heap.size < g3 by rw [hg3]; exact HG.out))
    clear h4 hw4 hg3 HLD
    go_loopw [20] (fun i wr => ∃ k : Nat, k ≤ 64 ∧ i = .int .i64 k ∧ Know w wr [(g3, mix k m zeros64), (w.heap.size, b)]) (fun i _ => 64 - (intOf i).toNat)
    case atStart => exact ⟨0, by omega, rfl, by rw [mix_zero]; exact H4.out.1⟩
    case round =>
      obtain ⟨k, hk, rfl, hR⟩ := hrel
      have HR := Lib.hid hR
      clear hR
      by_cases hlt : k < 64
      · have hidx := fun w => index23 w H.out.2.1 hlt
        have hb0 := HX.out.2.2.2.2.2 k hlt
        have hst := HX.out.2.2.1 k hlt
        have c1 := HR.out.n0.cell hlt
        have hfr := HR.out.n0.free k
        obtain ⟨n, hn⟩ : ∃ n, n = b.getD k 0 := ⟨_, rfl⟩
        obtain ⟨o, ho⟩ : ∃ o, o = (mix k m zeros64).getD k 0 := ⟨_, rfl⟩
        rw [← hn] at hidx hb0 hst
        rw [← ho] at c1
        obtain ⟨n0, n1⟩ := hb0
        have HS := Lib.hid hst
        clear hn ho hst
        go_wp2_with fail
        go_roundw
        case rel =>
          refine ⟨k + 1, by omega, by go_num, ?_⟩
          rw [← mix_more HL5.out.2.2.2.2 zeros_len hlt, HS.out]
          refine HR.out.put H.out.2.2.2.2.1 (by have := H4.out.2; omega) (fun p hp => ?_) k _
          have := H4.out.2
          rw [List.mem_singleton] at hp
          subst hp
          show w.heap.size ≠ g3
          omega
        case measure => simp [intOf]; omega
      · obtain rfl : k = 64 := by omega
        have hR := HR.out
        rw [mix_all HL5.out.2.2.2.2 zeros_len] at hR
        have HR := Lib.hid hR
        clear hR
        go_wp2_with (first
          | (with_reducible refine wpList_load_to (op := ⟨some 30, _, _, _, _, _⟩) rfl 23 (.tmp 1) rfl (.pointer (some ⟨w.heap.size, 0, none⟩)) rfl (blkV b) HR.out.n1.load ?_)
          | fail)
        refine (HP.out wr HR.out.tab).mono ?_
        rintro r wa0 ⟨rfl, bb⟩
        have K0 := Lib.hid (HR.out.on bb)
        clear bb
        dsimp only
        go_wp2_with (first
          | ((with_reducible refine wpList_store_blk (o := ⟨none, _, _, _, _, _⟩) rfl (.tmp 6) (.tmp 32) rfl rfl wa0.heap.size x rfl rfl Z (Box.made _ _ _) H.out.2.2.1 HL5.out.1 ?_)
             intro wb0 bx kx
             have J0 := Lib.hid (K0.out.laid bx kx)
             clear bx kx)
          | (with_reducible refine wpList_load_to (op := ⟨some 35, _, _, _, _, _⟩) rfl 23 (.tmp 3) rfl (.pointer (some ⟨g3, 0, none⟩)) rfl (blkV m) J0.out.n1.load ?_)
          | fail)
        obtain ⟨g6, hg6⟩ : ∃ g, g = wa0.heap.size := ⟨_, rfl⟩
        rw [← hg6] at J0 ⊢
        clear hg6
        refine (HPM.out wb0 J0.out.tab).mono ?_
        rintro r wa1 ⟨rfl, bb⟩
        have K1 := Lib.hid (J0.out.on bb)
        clear bb
        dsimp only
        go_wp2_with (first
          | ((with_reducible refine wpList_store_blk (o := ⟨none, _, _, _, _, _⟩) rfl (.tmp 8) (.tmp 37) rfl rfl wa1.heap.size y rfl rfl Z (Box.made _ _ _) H.out.2.2.1 HL5.out.2.1 ?_)
             intro wb1 bx kx
             have J1 := Lib.hid (K1.out.laid bx kx)
             clear bx kx)
          | (with_reducible refine wpList_load_to (op := ⟨some 40, _, _, _, _, _⟩) rfl 23 (.tmp 1) rfl (.pointer (some ⟨w.heap.size, 0, none⟩)) rfl (blkV b) J1.out.n3.load ?_)
          | fail)
        obtain ⟨g8, hg8⟩ : ∃ g, g = wa1.heap.size := ⟨_, rfl⟩
        rw [← hg8] at J1 ⊢
        clear hg8
        refine (HQ.out wb1 J1.out.tab).mono ?_
        rintro r wa2 ⟨rfl, bb⟩
        have K2 := Lib.hid (J1.out.on bb)
        clear bb
        dsimp only
        go_wp2_with (first
          | ((with_reducible refine wpList_store_blk (o := ⟨none, _, _, _, _, _⟩) rfl (.tmp 10) (.tmp 42) rfl rfl wa2.heap.size u rfl rfl Z (Box.made _ _ _) H.out.2.2.1 HL5.out.2.2.1 ?_)
             intro wb2 bx kx
             have J2 := Lib.hid (K2.out.laid bx kx)
             clear bx kx)
          | (with_reducible refine wpList_load_to (op := ⟨some 45, _, _, _, _, _⟩) rfl 23 (.tmp 3) rfl (.pointer (some ⟨g3, 0, none⟩)) rfl (blkV m) J2.out.n3.load ?_)
          | fail)
        obtain ⟨g10, hg10⟩ : ∃ g, g = wa2.heap.size := ⟨_, rfl⟩
        rw [← hg10] at J2 ⊢
        clear hg10
        refine (HQM.out wb2 J2.out.tab).mono ?_
        rintro r wa3 ⟨rfl, bb⟩
        have K3 := Lib.hid (J2.out.on bb)
        clear bb
        dsimp only
        go_wp2_with (first
          | ((with_reducible refine wpList_store_blk (o := ⟨none, _, _, _, _, _⟩) rfl (.tmp 12) (.tmp 47) rfl rfl wa3.heap.size v rfl rfl Z (Box.made _ _ _) H.out.2.2.1 HL5.out.2.2.2.1 ?_)
             intro wb3 bx kx
             have J3 := Lib.hid (K3.out.laid bx kx)
             clear bx kx)
          | fail)
        obtain ⟨g12, hg12⟩ : ∃ g, g = wa3.heap.size := ⟨_, rfl⟩
        rw [← hg12] at J3 ⊢
        clear hg12
        go_loopw [49] (fun i wq => ∃ k : Nat, k ≤ 64 ∧ i = .int .i64 k ∧ Know w wq [(g12, v), (g10, u), (g8, y), (g6, x)]) (fun i _ => 64 - (intOf i).toNat)
        case atStart => exact ⟨0, by omega, rfl, ⟨fun p hp => by
          simp only [List.mem_cons, List.not_mem_nil, or_false] at hp
          rcases hp with rfl | rfl | rfl | rfl
          · exact J3.out.n0
          · exact J3.out.n1
          · exact J3.out.n2
          · exact J3.out.n3, J3.out.tab, J3.out.bel⟩⟩
        case round =>
          obtain ⟨k, hk, rfl, hQ⟩ := hrel
          have HQ := Lib.hid hQ
          clear hQ
          by_cases hlt : k < 64
          · have c1 := HQ.out.n0.cell hlt
            have c2 := HQ.out.n1.cell hlt
            have c3 := HQ.out.n2.cell hlt
            have c4 := HQ.out.n3.cell hlt
            rw [HX.out.2.1 k hlt] at c2
            rw [HX.out.1 k hlt] at c4
            have q1 := HX.out.2.2.2.1 k hlt
            have q2 := HX.out.2.2.2.2.1 k hlt
            obtain ⟨Y, hY⟩ : ∃ Y, Y = y.getD k 0 := ⟨_, rfl⟩
            obtain ⟨V, hV⟩ : ∃ V, V = v.getD k 0 := ⟨_, rfl⟩
            rw [← hY] at c3 c4 q1
            rw [← hV] at c1 c2 q2
            obtain ⟨y0, y1⟩ := q1
            obtain ⟨v0, v1⟩ := q2
            clear hY hV
            go_wp2_with fail
            go_quiet (fail)
            go_wp2_with fail
            refine ⟨⟨k + 1, by omega, by go_num, HQ.out.on (below_drewN_refl _ _)⟩, ?_⟩
            simp [intOf]; omega
          · obtain rfl : k = 64 := by omega
            go_wp2_with fail
            refine (awake_any wr HQ.out.tab).mono ?_
            rintro r wz ⟨rfl, bz⟩
            have HZ := Lib.hid (on_trans HQ.out.bel bz)
            clear bz
            go_wp2
            go_ret
            exact ⟨rfl, HZ.out⟩
  · rw [decide_eq_false hw]
    clear hw
    go_wp2_with fail
    refine (awake_any w2 H2.out.tab).mono ?_
    rintro r w8 ⟨rfl, b8⟩
    have H8 := Lib.hid (on_trans H2.out.bel b8)
    clear b8
    go_wp2
    go_ret
    exact ⟨rfl, H8.out⟩
end Go.Proofs.YteoahoepipnkfaaDoor
