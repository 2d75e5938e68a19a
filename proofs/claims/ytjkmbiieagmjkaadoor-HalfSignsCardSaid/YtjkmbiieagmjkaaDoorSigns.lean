/-
  HalfSigns: the walk.
-/
import Derived.Test.YtjkmbiieagmjkaaDoorTurned10
namespace Go.Proofs.YtjkmbiieagmjkaaDoor
open Go.RowKit

/-- four blocks turned about, when the first c numbers have been written -/
def negP4 (f : List Int) (c : Nat) : List Int := (List.range 256).map fun j => if j < c then -(f.getD j 0) else 0
theorem negP4_len (f : List Int) (c : Nat) : (negP4 f c).length = 256 := by rw [negP4, List.length_map, List.length_range]
theorem negP4_at (f : List Int) (c : Nat) {m j : Nat} (hm : m < 4) (hj : j < 64) : fo (negP4 f c) m j = if 64 * m + j < c then -(fo f m j) else 0 := by
  conv => lhs; unfold fo negP4
  rw [List.getD_eq_getElem?_getD, List.getElem?_map, List.getElem?_range (by omega)]
  rfl
theorem negP4_zero (f : List Int) : negP4 f 0 = zeros256 := four_eq (negP4_len _ _) zeros256_len fun m hm j hj => by rw [negP4_at f 0 hm hj, zeros256_at, if_neg (by omega)]
theorem negP4_all (f : List Int) : negP4 f 256 = neg4 f := four_eq (negP4_len _ _) (neg4_len _) fun m hm j hj => by rw [negP4_at f _ hm hj, neg4_at f hm hj, if_pos (by omega)]
theorem negP4_put (f : List Int) {q i : Nat} (hq : q < 4) (hi : i < 64) : (negP4 f (64 * q + i)).set (q * 64 + i) (-(fo f q i)) = negP4 f (64 * q + (i + 1)) :=
  four_eq (by rw [List.length_set, negP4_len]) (negP4_len _ _) fun m hm j hj => by
    rw [fo_set4 (negP4_len _ _) hq hi _ hj, negP4_at f _ hm hj, negP4_at f _ hm hj]
    by_cases e : m = q ∧ j = i
    · rw [if_pos e, if_pos (by omega), e.1, e.2]
    · rw [if_neg e]
      by_cases h : 64 * m + j < 64 * q + i
      · rw [if_pos h, if_pos (by omega)]
      · rw [if_neg h, if_neg (by omega)]
theorem mrgL_bound (f : List Int) {k : Nat} (hk : k < 64) : -1152921504606846976 ≤ (mrgL f).getD k 0 ∧ (mrgL f).getD k 0 ≤ 1152921504606846976 := by
  unfold mrgL
  rw [tab_at _ hk]
  exact rnd_bound _ _

set_option maxRecDepth 10000 in
set_option maxHeartbeats 6400000 in
theorem signs_calls (w : World) (f : List Int) (hT : Tab w) (hf : f.length = 256) : Calls Tryd.prog 8 #[fourV f] w (Law w) := by
  obtain ⟨cs, Z4, w1, hfv, hz4, hw1, hk⟩ := fr4_boxed w f hT hf
  obtain ⟨Z, hZ⟩ : ∃ Z, Z = (cellsI zeros64).toArray := ⟨_, rfl⟩
  have hz' : ∀ w, (zeroValue 23).run Tryd.prog w = .ok (.agg Z) w := fun w => by rw [hZ]; exact zero23 w
  have hZs : Z.size = 64 := by rw [hZ]; rfl
  have H := Lib.hid (And.intro hk (And.intro hT (And.intro hf (And.intro hw1 hZs))))
  rw [hfv]
  clear hT hk hf hfv hZ hZs hw1
  go_enter Tryd.func8, Tryd.ntmps8
  go_wp2_with fail
  rw [H.out.2.2.2.1]
  go_loopw [12] (fun i wr => ∃ q : Nat, q ≤ 4 ∧ i = .int .i64 q ∧ Wm f q ∧ Know w wr [.four (w.heap.size + 1) (negP4 f (64 * q)), .four w.heap.size f]) (fun i _ => 4 - (intOf i).toNat)
  case atStart => exact ⟨0, by omega, rfl, fun k hk => absurd hk (by omega), by rw [Nat.mul_zero, negP4_zero]; exact H.out.1⟩
  case round =>
    obtain ⟨q, hq, rfl, hW, hR⟩ := hrel
    have HR := Lib.hid hR
    have HW := Lib.hid hW
    clear hR hW
    by_cases hq4 : q < 4
    · have HB := Lib.hid (And.intro (fun (w' : World) (h : Know w w' [.four (w.heap.size + 1) (negP4 f (64 * q)), .four w.heap.size f]) => h.f1.loadb hq4) (And.intro (sub_len H.out.2.2.1 hq4) (fun j (hj : j < 64) => sub_at (f := f) (m := q) hj)))
      obtain ⟨b, hb⟩ : ∃ b, b = sub f q := ⟨_, rfl⟩
      rw [← hb] at HB
      have HBB := Lib.hid hb
      clear hb
      go_wp2_with (first
        | (with_reducible refine wpList_load_to (op := ⟨some 17, _, _, _, _, _⟩) rfl 23 (.tmp 16) rfl (.pointer (some ⟨w.heap.size, q * 64, none⟩)) rfl (blkV b) (HB.out.1 _ HR.out) ?_)
        | fail)
      refine (refIn_any wr b (-1048576) 1048576 HB.out.2.1).mono ?_
      rintro r w2 ⟨rfl, bb⟩
      have H2 := Lib.hid (HR.out.on bb)
      clear bb
      by_cases hw : Wi b (-1048576) 1048576
      · rw [decide_eq_true hw]
        have HM4 := Lib.hid (And.intro hw (show Wm f (q + 1) from HW.out.more (by rw [← HBB.out]; exact hw)))
        clear hw
        go_wp2_with (first
          | (with_reducible refine wpList_load_to (op := ⟨some 23, _, _, _, _, _⟩) rfl 23 (.tmp 22) rfl (.pointer (some ⟨w.heap.size, q * 64, none⟩)) rfl (blkV b) (HB.out.1 _ H2.out) ?_)
          | fail)
        go_loopw [24] (fun i wr => ∃ k : Nat, k ≤ 64 ∧ i = .int .i64 k ∧ Know w wr [.four (w.heap.size + 1) (negP4 f (64 * q + k)), .four w.heap.size f]) (fun i _ => 64 - (intOf i).toNat)
        case atStart => exact ⟨0, by omega, rfl, H2.out⟩
        case round =>
          obtain ⟨k, hk, rfl, hR⟩ := hrel
          have HR := Lib.hid hR
          clear hR
          by_cases hlt : k < 64
          · have hidx := fun w => index23 w HB.out.2.1 hlt
            rw [HB.out.2.2 k hlt] at hidx
            have hbn := HM4.out.1 k hlt
            rw [HB.out.2.2 k hlt] at hbn
            have c2 := HR.out.f0.cell (k := q * 64 + k) (by omega)
            have hfr := HR.out.f0.free (q * 64 + k)
            have hm := negP4_put f hq4 hlt
            obtain ⟨n, hn⟩ : ∃ n, n = fo f q k := ⟨_, rfl⟩
            obtain ⟨o, ho⟩ : ∃ o, o = (negP4 f (64 * q + k)).getD (q * 64 + k) 0 := ⟨_, rfl⟩
            rw [← hn] at hidx hm hbn
            rw [← ho] at c2
            obtain ⟨n0, n1⟩ := hbn
            have HM := Lib.hid hm
            clear hn ho hm
            go_wp2_with fail
            have h9 := HR.out.turn (p' := .four (w.heap.size + 1) (negP4 f (64 * q + (k + 1)))) H.out.2.1 (Nat.le_succ _) (fun p hp => by rw [List.mem_singleton] at hp; subst hp; exact Nat.ne_of_lt (Nat.lt_succ_self _)) ((Kept.refl (fun i => i = w.heap.size + 1) _).setCell (p := ⟨w.heap.size + 1, q * 64 + k, none⟩) (fun _ => rfl) (.int .i64 (-n))) (by rw [← HM.out]; exact HR.out.f0.put _ (-n))
            refine ⟨⟨k + 1, by omega, by go_num, h9⟩, by simp [intOf]; omega⟩
          · obtain rfl : k = 64 := by omega
            have hR := HR.out
            rw [show 64 * q + 64 = 64 * (q + 1) by omega] at hR
            have HR := Lib.hid hR
            clear hR
            go_wp2_with fail
            go_roundw
            case rel => exact ⟨q + 1, by omega, by go_num, HM4.out.2, HR.out⟩
            case measure => simp [intOf]; omega
      · rw [decide_eq_false hw]
        clear hw
        go_wp2_with fail
        refine (awake_any w2 H2.out.tab).mono ?_
        rintro r wz ⟨rfl, bz⟩
        have HZ := Lib.hid (on_trans H2.out.bel bz)
        clear bz
        go_wp2
        go_ret
        exact ⟨rfl, HZ.out⟩
    · obtain rfl : q = 4 := by omega
      have hR := HR.out
      rw [show 64 * 4 = 256 from rfl, negP4_all] at hR
      have HR := Lib.hid hR
      clear hR
      obtain ⟨d1, d2, d3⟩ := mrg_signs (w4_sub.2 HW.out)
      have HP := Lib.hid (fun (w : World) (h : Tab w) => merge_any w f h H.out.2.2.1)
      have HPM := Lib.hid (fun (w : World) (h : Tab w) => merge_any w (neg4 f) h (neg4_len f))
      rw [d1] at HP
      rw [d2] at HPM
      have l1 := mrgL_len f
      have l2 := mrgL_len (neg4 f)
      have l3 := fun k (hk : k < 64) => mrgL_bound (neg4 f) hk
      obtain ⟨m, hm⟩ : ∃ m, m = neg4 f := ⟨_, rfl⟩
      rw [← hm] at HR HPM d3 l2 l3
      obtain ⟨x, hx⟩ : ∃ x, x = mrgL f := ⟨_, rfl⟩
      obtain ⟨y, hy⟩ : ∃ y, y = mrgL m := ⟨_, rfl⟩
      rw [← hx] at HP d3 l1
      rw [← hy] at HPM d3 l2 l3
      have HX := Lib.hid (And.intro d3 (And.intro l1 (And.intro l2 l3)))
      clear d1 d2 d3 l1 l2 l3 hm hx hy
      go_wp2_with (first
        | (with_reducible refine wpList_load_to (op := ⟨some 37, _, _, _, _, _⟩) rfl 24 (.tmp 1) rfl (.pointer (some ⟨w.heap.size, 0, none⟩)) rfl (fourV f) HR.out.f1.load ?_)
        | fail)
      refine (HP.out wr HR.out.tab).mono ?_
      rintro r wa0 ⟨rfl, bb⟩
      have K0 := Lib.hid (HR.out.on bb)
      clear bb
      dsimp only
      go_wp2_with (first
        | ((with_reducible refine wpList_store_blk (o := ⟨none, _, _, _, _, _⟩) rfl (.tmp 7) (.tmp 39) rfl rfl wa0.heap.size x rfl rfl Z (Box.made _ _ _) H.out.2.2.2.2 HX.out.2.1 ?_)
           intro wb0 bx kx
           have J0 := Lib.hid (K0.out.laid bx kx)
           clear bx kx)
        | (with_reducible refine wpList_load_to (op := ⟨some 42, _, _, _, _, _⟩) rfl 24 (.tmp 3) rfl (.pointer (some ⟨w.heap.size + 1, 0, none⟩)) rfl (fourV m) J0.out.f1.load ?_)
        | fail)
      obtain ⟨g7, hg7⟩ : ∃ g, g = wa0.heap.size := ⟨_, rfl⟩
      rw [← hg7] at J0 ⊢
      clear hg7
      refine (HPM.out wb0 J0.out.tab).mono ?_
      rintro r wa1 ⟨rfl, bb⟩
      have K1 := Lib.hid (J0.out.on bb)
      clear bb
      dsimp only
      go_wp2_with (first
        | ((with_reducible refine wpList_store_blk (o := ⟨none, _, _, _, _, _⟩) rfl (.tmp 9) (.tmp 44) rfl rfl wa1.heap.size y rfl rfl Z (Box.made _ _ _) H.out.2.2.2.2 HX.out.2.2.1 ?_)
           intro wb1 bx kx
           have J1 := Lib.hid (K1.out.laid bx kx)
           clear bx kx)
        | fail)
      obtain ⟨g9, hg9⟩ : ∃ g, g = wa1.heap.size := ⟨_, rfl⟩
      rw [← hg9] at J1 ⊢
      clear hg9
      go_loopw [46] (fun i wq => ∃ k : Nat, k ≤ 64 ∧ i = .int .i64 k ∧ Know w wq [.blk g9 y, .blk g7 x, .four (w.heap.size + 1) m, .four w.heap.size f]) (fun i _ => 64 - (intOf i).toNat)
      case atStart => exact ⟨0, by omega, rfl, J1.out⟩
      case round =>
        obtain ⟨k, hk, rfl, hQ⟩ := hrel
        have HQ := Lib.hid hQ
        clear hQ
        by_cases hlt : k < 64
        · have c1 := HQ.out.b0.cell hlt
          have c2 := HQ.out.b1.cell hlt
          rw [HX.out.1 k hlt] at c2
          have q1 := HX.out.2.2.2 k hlt
          obtain ⟨Y, hY⟩ : ∃ Y, Y = y.getD k 0 := ⟨_, rfl⟩
          rw [← hY] at c1 c2 q1
          obtain ⟨y0, y1⟩ := q1
          clear hY
          go_wp2_with fail
          go_quiet (fail)
          go_wp2_with fail
          refine ⟨⟨k + 1, by omega, by go_num, HQ.out.on (below_drewN_refl _ _)⟩, ?_⟩
          simp [intOf]; omega
        · obtain rfl : k = 64 := by omega
          go_wp2_with fail
          refine (awake_any wr HQ.out.tab).mono ?_
          rintro r wz ⟨rfl, bz⟩
          have HZ := Lib.hid (on_trans HQ.out.bel bz)
          clear bz
          go_wp2
          go_ret
          exact ⟨rfl, HZ.out⟩
end Go.Proofs.YtjkmbiieagmjkaaDoor
