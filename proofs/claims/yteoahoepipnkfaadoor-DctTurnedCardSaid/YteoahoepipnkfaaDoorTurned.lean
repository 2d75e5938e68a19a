/-
  DctTurned: the walk.
-/
import Derived.Test.YteoahoepipnkfaaDoorInverse
namespace Go.Proofs.YteoahoepipnkfaaDoor
open Go.RowKit

/-- the block whose rows are the columns of another one, when its first k numbers have been written -/
def turnP (b : List Int) (k : Nat) : List Int := tab fun j => if 8 * (j % 8) + j / 8 < k then b.getD (8 * (j % 8) + j / 8) 0 else 0
theorem turnP_zero (b : List Int) : turnP b 0 = zeros64 := list_eq (tab_len _) zeros_len fun j hj => by
  unfold turnP
  rw [tab_at _ hj, zeros_at, if_neg (by omega)]
theorem turnP_all (b : List Int) : turnP b 64 = turnL b := tab_congr fun j hj => by rw [if_pos (by omega)]
theorem turnP_put (b : List Int) {k : Nat} (hk : k < 64) : (turnP b k).set (k % 8 * 8 + k / 8) (b.getD k 0) = turnP b (k + 1) := by
  unfold turnP
  rw [tab_set _ (by omega)]
  refine tab_congr fun j hj => ?_
  by_cases e : j = k % 8 * 8 + k / 8
  · rw [if_pos e, if_pos (by omega), show 8 * (j % 8) + j / 8 = k by omega]
  · rw [if_neg e]
    by_cases h : 8 * (j % 8) + j / 8 < k
    · rw [if_pos h, if_pos (by omega)]
    · rw [if_neg h, if_neg (by omega)]

set_option maxRecDepth 10000 in
set_option maxHeartbeats 3200000 in
theorem turned_calls (w : World) (b : List Int) (hT : Tab w) (hb : b.length = 64) : Calls Tryd.prog 8 #[blkV b] w (Law w) := by
  obtain ⟨cs, w1, hbv, hw1, hk, _⟩ := one_boxed w b hT hb
  obtain ⟨Z, hZ⟩ : ∃ Z, Z = (cellsI zeros64).toArray := ⟨_, rfl⟩
  have hz : ∀ w, (zeroValue 23).run Tryd.prog w = .ok (.agg Z) w := fun w => by rw [hZ]; exact zero23 w
  have hZs : Z.size = 64 := by rw [hZ]; rfl
  have HL := Lib.hid hk.n0.load
  rw [← hw1] at HL
  have h4 : Know w (w1.alloc (.cells Z 23)) [(w.heap.size + 1, zeros64), (w.heap.size, b)] := by
    have hk1 := on_alloc w1 (.cells Z 23)
    refine ⟨fun p hp => ?_, hk.tab.on hk1, on_trans hk.bel hk1⟩
    rcases List.mem_cons.1 hp with rfl | hp
    · rw [show w.heap.size + 1 = w1.heap.size by omega, hZ]
      exact Blk.made _ _ zeros_len
    · exact (hk.all p hp).on hk1
  rw [← hw1] at h4
  obtain ⟨w2, hw2⟩ : ∃ w2, w2 = (w.alloc (.cells cs 23)).alloc (.cells Z 23) := ⟨_, rfl⟩
  rw [← hw2] at h4
  have H := Lib.hid (And.intro h4 (And.intro hb (And.intro hZs (And.intro hw2.symm hT))))
  rw [hbv]
  clear hT hk hb hbv hZ hZs hw1 h4 HL hw2
  go_enter Tryd.func8, Tryd.ntmps8
  go_wp2_with fail
  rw [H.out.2.2.2.1]
  go_loopw [14] (fun i wr => ∃ k : Nat, k ≤ 64 ∧ i = .int .i64 k ∧ Know w wr [(w.heap.size + 1, turnP b k), (w.heap.size, b)]) (fun i _ => 64 - (intOf i).toNat)
  case atStart => exact ⟨0, by omega, rfl, by rw [turnP_zero]; exact H.out.1⟩
  case round =>
    obtain ⟨k, hk, rfl, hR⟩ := hrel
    have HR := Lib.hid hR
    clear hR
    by_cases hlt : k < 64
    · have c1 := HR.out.n1.cell hlt
      have c2 := HR.out.n0.cell (k := k % 8 * 8 + k / 8) (by omega)
      have hfr := HR.out.n0.free (k % 8 * 8 + k / 8)
      have hm := turnP_put b hlt
      obtain ⟨n, hn⟩ : ∃ n, n = b.getD k 0 := ⟨_, rfl⟩
      obtain ⟨o, ho⟩ : ∃ o, o = (turnP b k).getD (k % 8 * 8 + k / 8) 0 := ⟨_, rfl⟩
      rw [← hn] at c1 hm
      rw [← ho] at c2
      have HM := Lib.hid hm
      clear hn ho hm
      go_wp2_with fail
      refine ⟨⟨k + 1, by omega, by go_num, ?_⟩, by simp [intOf]; omega⟩
      rw [← HM.out]
      exact HR.out.put H.out.2.2.2.2 (Nat.le_succ _) (fun p hp => by rw [List.mem_singleton] at hp; subst hp; exact Nat.ne_of_lt (Nat.lt_succ_self _)) _ _
    · obtain rfl : k = 64 := by omega
      have hR := HR.out
      rw [turnP_all] at hR
      have HR := Lib.hid hR
      clear hR
      have HP := Lib.hid (fun (w : World) (h : Tab w) => forward_any w b h H.out.2.1)
      have HPM := Lib.hid (fun (w : World) (h : Tab w) => forward_any w (turnL b) h (turnL_len b))
      have HQ := Lib.hid (fun (w : World) (h : Tab w) => inverse_any w b h H.out.2.1)
      have HQM := Lib.hid (fun (w : World) (h : Tab w) => inverse_any w (turnL b) h (turnL_len b))
      have t1 := fwdF_turn b
      have t2 := invF_turn b
      have l1 := fwdF_len b
      have l2 := fwdF_len (turnL b)
      have l3 := invF_len b
      have l4 := invF_len (turnL b)
      obtain ⟨m, hm⟩ : ∃ m, m = turnL b := ⟨_, rfl⟩
      rw [← hm] at HR HPM HQM t1 t2 l2 l4
      obtain ⟨⟨x, e⟩, hx⟩ : ∃ R, R = fwdF b := ⟨_, rfl⟩
      obtain ⟨⟨y, f⟩, hy⟩ : ∃ R, R = fwdF m := ⟨_, rfl⟩
      obtain ⟨⟨u, i⟩, hu⟩ : ∃ R, R = invF b := ⟨_, rfl⟩
      obtain ⟨⟨v, j⟩, hv⟩ : ∃ R, R = invF m := ⟨_, rfl⟩
      rw [← hx] at HP t1 l1
      rw [← hy] at HPM t1 l2
      rw [← hu] at HQ t2 l3
      rw [← hv] at HQM t2 l4
      obtain ⟨t1, p1⟩ := t1
      obtain ⟨t2, p2⟩ := t2
      dsimp only at t1 t2 p1 p2 l1 l2 l3 l4
      subst t1
      subst t2
      have HX := Lib.hid (And.intro p1 p2)
      have HL5 := Lib.hid (And.intro l1 (And.intro l2 (And.intro l3 l4)))
      clear p1 p2 l1 l2 l3 l4 hm hx hy hu hv
      go_wp2_with (first
        | (with_reducible refine wpList_load_to (op := ⟨some 29, _, _, _, _, _⟩) rfl 23 (.tmp 1) rfl (.pointer (some ⟨w.heap.size, 0, none⟩)) rfl (blkV b) HR.out.n1.load ?_)
        | fail)
      refine (HP.out wr HR.out.tab).mono ?_
      rintro r wa0 ⟨rfl, bb⟩
      have K0 := Lib.hid (HR.out.on bb)
      clear bb
      dsimp only
      go_wp2_with (first
        | ((with_reducible refine wpList_store_blk (o := ⟨none, _, _, _, _, _⟩) rfl (.tmp 5) (.tmp 31) rfl rfl wa0.heap.size x rfl rfl Z (Box.made _ _ _) H.out.2.2.1 HL5.out.1 ?_)
           intro wb0 bx kx
           have J0 := Lib.hid (K0.out.laid bx kx)
           clear bx kx)
        | (with_reducible refine wpList_load_to (op := ⟨some 34, _, _, _, _, _⟩) rfl 23 (.tmp 3) rfl (.pointer (some ⟨w.heap.size + 1, 0, none⟩)) rfl (blkV m) J0.out.n1.load ?_)
        | fail)
      obtain ⟨g5, hg5⟩ : ∃ g, g = wa0.heap.size := ⟨_, rfl⟩
      rw [← hg5] at J0 ⊢
      clear hg5
      refine (HPM.out wb0 J0.out.tab).mono ?_
      rintro r wa1 ⟨rfl, bb⟩
      have K1 := Lib.hid (J0.out.on bb)
      clear bb
      dsimp only
      go_wp2_with (first
        | ((with_reducible refine wpList_store_blk (o := ⟨none, _, _, _, _, _⟩) rfl (.tmp 7) (.tmp 36) rfl rfl wa1.heap.size y rfl rfl Z (Box.made _ _ _) H.out.2.2.1 HL5.out.2.1 ?_)
           intro wb1 bx kx
           have J1 := Lib.hid (K1.out.laid bx kx)
           clear bx kx)
        | (with_reducible refine wpList_load_to (op := ⟨some 39, _, _, _, _, _⟩) rfl 23 (.tmp 1) rfl (.pointer (some ⟨w.heap.size, 0, none⟩)) rfl (blkV b) J1.out.n3.load ?_)
        | fail)
      obtain ⟨g7, hg7⟩ : ∃ g, g = wa1.heap.size := ⟨_, rfl⟩
      rw [← hg7] at J1 ⊢
      clear hg7
      refine (HQ.out wb1 J1.out.tab).mono ?_
      rintro r wa2 ⟨rfl, bb⟩
      have K2 := Lib.hid (J1.out.on bb)
      clear bb
      dsimp only
      go_wp2_with (first
        | ((with_reducible refine wpList_store_blk (o := ⟨none, _, _, _, _, _⟩) rfl (.tmp 9) (.tmp 41) rfl rfl wa2.heap.size u rfl rfl Z (Box.made _ _ _) H.out.2.2.1 HL5.out.2.2.1 ?_)
           intro wb2 bx kx
           have J2 := Lib.hid (K2.out.laid bx kx)
           clear bx kx)
        | (with_reducible refine wpList_load_to (op := ⟨some 44, _, _, _, _, _⟩) rfl 23 (.tmp 3) rfl (.pointer (some ⟨w.heap.size + 1, 0, none⟩)) rfl (blkV m) J2.out.n3.load ?_)
        | fail)
      obtain ⟨g9, hg9⟩ : ∃ g, g = wa2.heap.size := ⟨_, rfl⟩
      rw [← hg9] at J2 ⊢
      clear hg9
      refine (HQM.out wb2 J2.out.tab).mono ?_
      rintro r wa3 ⟨rfl, bb⟩
      have K3 := Lib.hid (J2.out.on bb)
      clear bb
      dsimp only
      go_wp2_with (first
        | ((with_reducible refine wpList_store_blk (o := ⟨none, _, _, _, _, _⟩) rfl (.tmp 11) (.tmp 46) rfl rfl wa3.heap.size v rfl rfl Z (Box.made _ _ _) H.out.2.2.1 HL5.out.2.2.2 ?_)
           intro wb3 bx kx
           have J3 := Lib.hid (K3.out.laid bx kx)
           clear bx kx)
        | fail)
      obtain ⟨g11, hg11⟩ : ∃ g, g = wa3.heap.size := ⟨_, rfl⟩
      rw [← hg11] at J3 ⊢
      clear hg11
      go_loopw [48] (fun i wq => ∃ k : Nat, k ≤ 64 ∧ i = .int .i64 k ∧ Know w wq [(g11, v), (g9, u), (g7, y), (g5, x)]) (fun i _ => 64 - (intOf i).toNat)
      case atStart => exact ⟨0, by omega, rfl, ⟨fun p hp => by
        simp only [List.mem_cons, List.not_mem_nil, or_false] at hp
        rcases hp with rfl | rfl | rfl | rfl
        · exact J3.out.n0
        · exact J3.out.n1
        · exact J3.out.n2
        · exact J3.out.n3, J3.out.tab, J3.out.bel⟩⟩
      case round =>
        obtain ⟨k, hk, rfl, hQ⟩ := hrel
        have HQ := Lib.hid hQ
        clear hQ
        by_cases hlt : k < 64
        · have c1 := HQ.out.n0.cell (k := k % 8 * 8 + k / 8) (by omega)
          have c2 := HQ.out.n1.cell hlt
          have c3 := HQ.out.n2.cell (k := k % 8 * 8 + k / 8) (by omega)
          have c4 := HQ.out.n3.cell hlt
          rw [HX.out.2 k hlt] at c2
          rw [HX.out.1 k hlt] at c4
          obtain ⟨Y, hY⟩ : ∃ Y, Y = y.getD (k % 8 * 8 + k / 8) 0 := ⟨_, rfl⟩
          obtain ⟨V, hV⟩ : ∃ V, V = v.getD (k % 8 * 8 + k / 8) 0 := ⟨_, rfl⟩
          rw [← hY] at c3 c4
          rw [← hV] at c1 c2
          clear hY hV
          go_wp2_with fail
          go_quiet (fail)
          go_wp2_with fail
          refine ⟨⟨k + 1, by omega, by go_num, HQ.out.on (below_drewN_refl _ _)⟩, ?_⟩
          simp [intOf]; omega
        · obtain rfl : k = 64 := by omega
          go_wp2_with fail
          refine (awake_any wr HQ.out.tab).mono ?_
          rintro r wz ⟨rfl, bz⟩
          have HZ := Lib.hid (on_trans HQ.out.bel bz)
          clear bz
          go_wp2
          go_ret
          exact ⟨rfl, HZ.out⟩
end Go.Proofs.YteoahoepipnkfaaDoor
