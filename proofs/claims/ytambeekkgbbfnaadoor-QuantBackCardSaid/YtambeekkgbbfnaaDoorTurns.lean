/-
  QuantTurns: the mathematics, and the walk.
-/
import Derived.Test.YtambeekkgbbfnaaDoorMoves
namespace Go.Proofs.YtambeekkgbbfnaaDoor
open Go.RowKit

/-- a block turned about -/
def negL (b : List Int) : List Int := tab fun k => -(b.getD k 0)
theorem negL_len (b : List Int) : (negL b).length = 64 := tab_len _
theorem negL_at (b : List Int) {k : Nat} (hk : k < 64) : (negL b).getD k 0 = -(b.getD k 0) := tab_at _ hk
theorem held_neg (z : Int) : held (-z) (-1023) 1023 = - held z (-1023) 1023 := by
  unfold held
  repeat' split
  all_goals omega
theorem dnOf_neg (n d : Int) : dnOf (-n) d = - dnOf n d := by unfold dnOf; rw [rnd_neg, held_neg]
theorem dnOf_small (n d : Int) : -1023 ≤ dnOf n d ∧ dnOf n d ≤ 1023 := by
  unfold dnOf held
  repeat' split
  all_goals omega
theorem wi_neg {b : List Int} {m : Int} (h : Wi b (-m) m) : Wi (negL b) (-m) m := fun j hj => by
  have := h j hj
  rw [negL_at b hj]
  omega
theorem wi_neg_back {b : List Int} {m : Int} (h : Wi (negL b) (-m) m) : Wi b (-m) m := fun j hj => by
  have := h j hj
  rw [negL_at b hj] at this
  omega
theorem checkF_neg (b s : List Int) (m : Int) : checkF (negL b) s m = checkF b s m := by
  unfold checkF
  by_cases h : Wi s 1 255
  · rw [if_pos h, if_pos h]
    by_cases h' : Wi b (-m) m
    · rw [if_pos h', if_pos (wi_neg h')]
    · rw [if_neg h', if_neg (fun e => h' (wi_neg_back e))]
  · rw [if_neg h, if_neg h]
theorem downF_neg (b s : List Int) : (downF (negL b) s).2 = (downF b s).2 ∧ ∀ k, k < 64 → (downF b s).1.getD k 0 = -((downF (negL b) s).1.getD k 0) := by
  unfold downF
  rw [checkF_neg]
  split
  · refine ⟨rfl, fun k hk => ?_⟩
    show (downL b s).getD k 0 = -((downL (negL b) s).getD k 0)
    unfold downL
    rw [tab_at _ hk, tab_at _ hk, negL_at b hk, dnOf_neg, Int.neg_neg]
  · refine ⟨rfl, fun k _ => ?_⟩
    show zeros64.getD k 0 = -(zeros64.getD k 0)
    rw [zeros_at]; rfl
theorem upF_neg (b s : List Int) : (upF (negL b) s).2 = (upF b s).2 ∧ ∀ k, k < 64 → (upF b s).1.getD k 0 = -((upF (negL b) s).1.getD k 0) := by
  unfold upF
  rw [checkF_neg]
  split
  · refine ⟨rfl, fun k hk => ?_⟩
    show (upL b s).getD k 0 = -((upL (negL b) s).getD k 0)
    unfold upL
    rw [tab_at _ hk, tab_at _ hk, negL_at b hk, Int.neg_mul, Int.neg_neg]
  · refine ⟨rfl, fun k _ => ?_⟩
    show zeros64.getD k 0 = -(zeros64.getD k 0)
    rw [zeros_at]; rfl
theorem downF_small (b s : List Int) {k : Nat} (hk : k < 64) : -1023 ≤ (downF b s).1.getD k 0 ∧ (downF b s).1.getD k 0 ≤ 1023 := by
  unfold downF
  split
  · show -1023 ≤ (downL b s).getD k 0 ∧ (downL b s).getD k 0 ≤ 1023
    unfold downL
    rw [tab_at _ hk]
    exact dnOf_small _ _
  · show -1023 ≤ zeros64.getD k 0 ∧ zeros64.getD k 0 ≤ 1023
    rw [zeros_at]; omega
theorem upF_small (b s : List Int) {k : Nat} (hk : k < 64) : -260865 ≤ (upF b s).1.getD k 0 ∧ (upF b s).1.getD k 0 ≤ 260865 := by
  unfold upF
  split
  · next h =>
    obtain ⟨h1, h2⟩ := checkF_zero h
    have a1 := h1 k hk
    have a2 := h2 k hk
    show -260865 ≤ (upL b s).getD k 0 ∧ (upL b s).getD k 0 ≤ 260865
    unfold upL
    rw [tab_at _ hk]
    exact mul_small a2.1 a2.2 a1.1 a1.2
  · show -260865 ≤ zeros64.getD k 0 ∧ zeros64.getD k 0 ≤ 260865
    rw [zeros_at]; omega

/-- a number of the block laid last is written -/
theorem Know.put {w wr : World} {L : List (Nat × List Int)} {g : Nat} {b : List Int} (h : Know w wr ((g, b) :: L)) (hT : Tab w) (hg : w.heap.size ≤ g) (hne : ∀ p ∈ L, p.1 ≠ g) (k : Nat) (z : Int) : Know w (wr.setCell ⟨g, k, none⟩ (.int .i64 z)) ((g, b.set k z) :: L) := by
  have hb : Below w.heap.size w (wr.setCell ⟨g, k, none⟩ (.int .i64 z)) := ((Kept.of_below h.bel (fun i => i = g)).setCell (p := ⟨g, k, none⟩) (fun _ => rfl) _).below (Nat.le_refl _) (fun i hi e => by omega)
  refine ⟨fun p hp => ?_, hT.on hb, hb⟩
  rcases List.mem_cons.1 hp with rfl | hp
  · exact h.n0.put k z
  · exact ⟨(h.all p (.tail _ hp)).box.beside (hne p hp) _, (h.all p (.tail _ hp)).len⟩

set_option maxRecDepth 10000 in
set_option maxHeartbeats 3200000 in
theorem turns_calls (w : World) (b s : List Int) (hT : Tab w) (hb : b.length = 64) (hs : s.length = 64) : Calls Tryd.prog 7 #[blkV b, blkV s] w (Law w) := by
  obtain ⟨cs, cu, w2, hbv, hsv, h2⟩ := two_boxed w b s hb hs
  obtain ⟨Z, hZ⟩ : ∃ Z, Z = (cellsI zeros64).toArray := ⟨_, rfl⟩
  have hz : ∀ w, (zeroValue 26).run Tryd.prog w = .ok (.agg Z) w := fun w => by rw [hZ]; exact zero26 w
  have hZs : Z.size = 64 := by rw [hZ]; rfl
  have H := Lib.hid (And.intro h2 (And.intro hb (And.intro hs (And.intro hZs (And.intro (Know.two hT h2) (And.intro hT (show ∀ w : World, Blk (w.alloc (.cells Z 26)) w.heap.size zeros64 from fun w => by rw [hZ]; exact Blk.made _ _ zeros_len)))))))
  rw [hbv, hsv]
  clear hT h2 hb hs hbv hsv hZ hZs
  go_enter Tryd.func7, Tryd.ntmps7
  go_wp2_with (first
    | (with_reducible refine wpList_load_to (op := ⟨some 17, _, _, _, _, _⟩) rfl 26 (.tmp 2) rfl (.pointer (some ⟨w.heap.size, 0, none⟩)) rfl (blkV b) H.out.1.l1 ?_)
    | fail)
  rw [H.out.1.e]
  refine (refIn_any w2 b (-16777216) 16777216 H.out.2.1).mono ?_
  rintro r w3 ⟨rfl, b3⟩
  have H3 := Lib.hid (H.out.2.2.2.2.1.on b3)
  have hg3 : w.heap.size + 1 + 1 ≤ w3.heap.size := by have := b3.size; have := H.out.1.size; omega
  have HG := Lib.hid hg3
  clear b3 hg3
  by_cases hw : Wi b (-16777216) 16777216
  · rw [decide_eq_true hw]
    have HW := Lib.hid hw
    clear hw
    obtain ⟨m, hm⟩ : ∃ m, m = negL b := ⟨_, rfl⟩
    have hml : m.length = 64 := by rw [hm]; exact negL_len _
    have HM := Lib.hid (And.intro hm hml)
    clear hm hml
    have hld := ((H3.out.n1).on (on_alloc w3 (.cells Z 26))).load
    have HLD := Lib.hid hld
    clear hld
    go_wp2_with (first
      | (with_reducible refine wpList_load_to (op := ⟨some 21, _, _, _, _, _⟩) rfl 26 (.tmp 2) rfl (.pointer (some ⟨w.heap.size, 0, none⟩)) rfl (blkV b) HLD.out ?_)
      | fail)
    have h4 : Know w (w3.alloc (.cells Z 26)) [(w3.heap.size, zeros64), (w.heap.size + 1, s), (w.heap.size, b)] := by
      have hk := on_alloc w3 (.cells Z 26)
      refine ⟨fun p hp => ?_, H3.out.tab.on hk, on_trans H3.out.bel hk⟩
      rcases List.mem_cons.1 hp with rfl | hp
      · exact H.out.2.2.2.2.2.2 w3
      · exact (H3.out.all p hp).on hk
    obtain ⟨w4, hw4⟩ : ∃ w4, w4 = w3.alloc (.cells Z 26) := ⟨_, rfl⟩
    obtain ⟨g5, hg5⟩ : ∃ g, g = w3.heap.size := ⟨_, rfl⟩
    rw [← hw4, ← hg5] at h4 ⊢
    have H4 := Lib.hid (And.intro h4 (show w.heap.size + 1 + 1 ≤ g5 by rw [hg5]; exact HG.out))
    clear h4 hw4 hg5 HLD
    go_loopw [22] (fun i wr => ∃ k : Nat, k ≤ 64 ∧ i = .int .i64 k ∧ Know w wr [(g5, mix k m zeros64), (w.heap.size + 1, s), (w.heap.size, b)]) (fun i _ => 64 - (intOf i).toNat)
    case atStart => exact ⟨0, by omega, rfl, by rw [mix_zero]; exact H4.out.1⟩
    case round =>
      obtain ⟨k, hk, rfl, hR⟩ := hrel
      have HR := Lib.hid hR
      clear hR
      by_cases hlt : k < 64
      · have hidx := fun w => index26 w H.out.2.1 hlt
        have hb0 := HW.out k hlt
        have hst : m.getD k 0 = -(b.getD k 0) := by rw [HM.out.1]; exact negL_at b hlt
        have c1 := HR.out.n0.cell hlt
        have hfr := HR.out.n0.free k
        obtain ⟨n, hn⟩ : ∃ n, n = b.getD k 0 := ⟨_, rfl⟩
        obtain ⟨y, hy⟩ : ∃ y, y = (mix k m zeros64).getD k 0 := ⟨_, rfl⟩
        rw [← hn] at hidx hb0 hst
        rw [← hy] at c1
        obtain ⟨n0, n1⟩ := hb0
        have HS := Lib.hid hst
        clear hn hy hst
        go_wp2_with fail
        go_roundw
        case rel =>
          refine ⟨k + 1, by omega, by go_num, ?_⟩
          rw [← mix_more HM.out.2 zeros_len hlt, HS.out]
          refine HR.out.put H.out.2.2.2.2.2.1 (by have := H4.out.2; omega) (fun p hp => ?_) k _
          have := H4.out.2
          rcases List.mem_cons.1 hp with rfl | hp
          · show w.heap.size + 1 ≠ g5; omega
          · rw [List.mem_singleton] at hp; subst hp; show w.heap.size ≠ g5; omega
        case measure => simp [intOf]; omega
      · obtain rfl : k = 64 := by omega
        have hR := HR.out
        rw [mix_all HM.out.2 zeros_len] at hR
        have HR := Lib.hid hR
        clear hR
        have HD := Lib.hid (fun w => down_any w b s H.out.2.1 H.out.2.2.1)
        have HDM := Lib.hid (fun w => down_any w m s HM.out.2 H.out.2.2.1)
        have HU := Lib.hid (fun w => up_any w b s H.out.2.1 H.out.2.2.1)
        have HUM := Lib.hid (fun w => up_any w m s HM.out.2 H.out.2.2.1)
        have t1 := downF_neg b s
        have t2 := upF_neg b s
        have t3 := fun k (hk : k < 64) => downF_small m s hk
        have t4 := fun k (hk : k < 64) => upF_small m s hk
        rw [← HM.out.1] at t1 t2
        have l1 := downF_len b s
        have l2 := downF_len m s
        have l3 := upF_len b s
        have l4 := upF_len m s
        obtain ⟨⟨x, e⟩, hx⟩ : ∃ R, R = downF b s := ⟨_, rfl⟩
        obtain ⟨⟨y, f⟩, hy⟩ : ∃ R, R = downF m s := ⟨_, rfl⟩
        obtain ⟨⟨u, i⟩, hu⟩ : ∃ R, R = upF b s := ⟨_, rfl⟩
        obtain ⟨⟨v, j⟩, hv⟩ : ∃ R, R = upF m s := ⟨_, rfl⟩
        rw [← hx] at HD t1 l1
        rw [← hy] at HDM t1 t3 l2
        rw [← hu] at HU t2 l3
        rw [← hv] at HUM t2 t4 l4
        obtain ⟨t1, p1⟩ := t1
        obtain ⟨t2, p2⟩ := t2
        dsimp only at t1 t2 p1 p2 t3 t4 l1 l2 l3 l4
        subst t1
        subst t2
        have HP := Lib.hid (And.intro p1 (And.intro p2 (And.intro t3 (And.intro t4 (And.intro l1 (And.intro l2 (And.intro l3 l4)))))))
        clear hx hy hu hv p1 p2 t3 t4 l1 l2 l3 l4
        go_wp2_with (first
          | (with_reducible refine wpList_load_to (op := ⟨some 32, _, _, _, _, _⟩) rfl 26 (.tmp 2) rfl (.pointer (some ⟨w.heap.size, 0, none⟩)) rfl (blkV b) HR.out.n2.load ?_)
          | (with_reducible refine wpList_load_to (op := ⟨some 33, _, _, _, _, _⟩) rfl 26 (.tmp 3) rfl (.pointer (some ⟨w.heap.size + 1, 0, none⟩)) rfl (blkV s) HR.out.n1.load ?_)
          | fail)
        refine (HD.out wr).mono ?_
        rintro r wa0 ⟨rfl, ba⟩
        have K0 := Lib.hid (HR.out.on ba)
        clear ba
        dsimp only
        go_wp2_with (first
          | ((with_reducible refine wpList_store_blk (o := ⟨none, _, _, _, _, _⟩) rfl (.tmp 8) (.tmp 35) rfl rfl wa0.heap.size x rfl rfl Z (Box.made _ _ _) H.out.2.2.2.1 HP.out.2.2.2.2.1 ?_)
             intro wb0 bb kb
             have J0 := Lib.hid (K0.out.laid bb kb)
             clear bb kb)
          | (with_reducible refine wpList_load_to (op := ⟨some 38, _, _, _, _, _⟩) rfl 26 (.tmp 5) rfl (.pointer (some ⟨g5, 0, none⟩)) rfl (blkV m) J0.out.n1.load ?_)
          | (with_reducible refine wpList_load_to (op := ⟨some 39, _, _, _, _, _⟩) rfl 26 (.tmp 3) rfl (.pointer (some ⟨w.heap.size + 1, 0, none⟩)) rfl (blkV s) J0.out.n2.load ?_)
          | fail)
        obtain ⟨g8, hg8⟩ : ∃ g, g = wa0.heap.size := ⟨_, rfl⟩
        rw [← hg8] at J0 ⊢
        clear hg8
        refine (HDM.out wb0).mono ?_
        rintro r wa1 ⟨rfl, ba⟩
        have K1 := Lib.hid (J0.out.on ba)
        clear ba
        dsimp only
        go_wp2_with (first
          | ((with_reducible refine wpList_store_blk (o := ⟨none, _, _, _, _, _⟩) rfl (.tmp 10) (.tmp 41) rfl rfl wa1.heap.size y rfl rfl Z (Box.made _ _ _) H.out.2.2.2.1 HP.out.2.2.2.2.2.1 ?_)
             intro wb1 bb kb
             have J1 := Lib.hid (K1.out.laid bb kb)
             clear bb kb)
          | (with_reducible refine wpList_load_to (op := ⟨some 44, _, _, _, _, _⟩) rfl 26 (.tmp 2) rfl (.pointer (some ⟨w.heap.size, 0, none⟩)) rfl (blkV b) J1.out.n4.load ?_)
          | (with_reducible refine wpList_load_to (op := ⟨some 45, _, _, _, _, _⟩) rfl 26 (.tmp 3) rfl (.pointer (some ⟨w.heap.size + 1, 0, none⟩)) rfl (blkV s) J1.out.n3.load ?_)
          | fail)
        obtain ⟨g10, hg10⟩ : ∃ g, g = wa1.heap.size := ⟨_, rfl⟩
        rw [← hg10] at J1 ⊢
        clear hg10
        refine (HU.out wb1).mono ?_
        rintro r wa2 ⟨rfl, ba⟩
        have K2 := Lib.hid (J1.out.on ba)
        clear ba
        dsimp only
        go_wp2_with (first
          | ((with_reducible refine wpList_store_blk (o := ⟨none, _, _, _, _, _⟩) rfl (.tmp 12) (.tmp 47) rfl rfl wa2.heap.size u rfl rfl Z (Box.made _ _ _) H.out.2.2.2.1 HP.out.2.2.2.2.2.2.1 ?_)
             intro wb2 bb kb
             have J2 := Lib.hid (K2.out.laid bb kb)
             clear bb kb)
          | (with_reducible refine wpList_load_to (op := ⟨some 50, _, _, _, _, _⟩) rfl 26 (.tmp 5) rfl (.pointer (some ⟨g5, 0, none⟩)) rfl (blkV m) J2.out.n3.load ?_)
          | (with_reducible refine wpList_load_to (op := ⟨some 51, _, _, _, _, _⟩) rfl 26 (.tmp 3) rfl (.pointer (some ⟨w.heap.size + 1, 0, none⟩)) rfl (blkV s) J2.out.n4.load ?_)
          | fail)
        obtain ⟨g12, hg12⟩ : ∃ g, g = wa2.heap.size := ⟨_, rfl⟩
        rw [← hg12] at J2 ⊢
        clear hg12
        refine (HUM.out wb2).mono ?_
        rintro r wa3 ⟨rfl, ba⟩
        have K3 := Lib.hid (J2.out.on ba)
        clear ba
        dsimp only
        go_wp2_with (first
          | ((with_reducible refine wpList_store_blk (o := ⟨none, _, _, _, _, _⟩) rfl (.tmp 14) (.tmp 53) rfl rfl wa3.heap.size v rfl rfl Z (Box.made _ _ _) H.out.2.2.2.1 HP.out.2.2.2.2.2.2.2 ?_)
             intro wb3 bb kb
             have J3 := Lib.hid (K3.out.laid bb kb)
             clear bb kb)
          | fail)
        obtain ⟨g14, hg14⟩ : ∃ g, g = wa3.heap.size := ⟨_, rfl⟩
        rw [← hg14] at J3 ⊢
        clear hg14
        go_loopw [55] (fun i wq => ∃ k : Nat, k ≤ 64 ∧ i = .int .i64 k ∧ Know w wq [(g14, v), (g12, u), (g10, y), (g8, x)]) (fun i _ => 64 - (intOf i).toNat)
        case atStart => exact ⟨0, by omega, rfl, ⟨fun p hp => by
          simp only [List.mem_cons, List.not_mem_nil, or_false] at hp
          rcases hp with rfl | rfl | rfl | rfl
          · exact J3.out.n0
          · exact J3.out.n1
          · exact J3.out.n2
          · exact J3.out.n3, J3.out.tab, J3.out.bel⟩⟩
        case round =>
          obtain ⟨k, hk, rfl, hQ⟩ := hrel
          have HQ := Lib.hid hQ
          clear hQ
          by_cases hlt : k < 64
          · have c1 := HQ.out.n0.cell hlt
            have c2 := HQ.out.n1.cell hlt
            have c3 := HQ.out.n2.cell hlt
            have c4 := HQ.out.n3.cell hlt
            rw [HP.out.2.1 k hlt] at c2
            rw [HP.out.1 k hlt] at c4
            have q1 := HP.out.2.2.1 k hlt
            have q2 := HP.out.2.2.2.1 k hlt
            obtain ⟨Y, hY⟩ : ∃ Y, Y = y.getD k 0 := ⟨_, rfl⟩
            obtain ⟨V, hV⟩ : ∃ V, V = v.getD k 0 := ⟨_, rfl⟩
            rw [← hY] at c3 c4 q1
            rw [← hV] at c1 c2 q2
            obtain ⟨y0, y1⟩ := q1
            obtain ⟨v0, v1⟩ := q2
            clear hY hV
            go_wp2_with fail
            go_quiet (fail)
            go_wp2_with fail
            refine ⟨⟨k + 1, by omega, by go_num, HQ.out.on (below_drewN_refl _ _)⟩, ?_⟩
            simp [intOf]; omega
          · obtain rfl : k = 64 := by omega
            go_wp2_with fail
            refine (awake_any wr HQ.out.tab).mono ?_
            rintro r wz ⟨rfl, bz⟩
            have HZ := Lib.hid (on_trans HQ.out.bel bz)
            clear bz
            go_wp2
            go_ret
            exact ⟨rfl, HZ.out⟩
  · rw [decide_eq_false hw]
    clear hw
    go_wp2_with fail
    refine (awake_any w3 H3.out.tab).mono ?_
    rintro r w4 ⟨rfl, b4⟩
    have H4 := Lib.hid (on_trans H3.out.bel b4)
    clear b4
    go_wp2
    go_ret
    exact ⟨rfl, H4.out⟩
end Go.Proofs.YtambeekkgbbfnaaDoor
