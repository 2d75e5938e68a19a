/-
  DctForward: the walk.
-/
import Derived.Test.YteoahoepipnkfaaDoorInverse
namespace Go.Proofs.YteoahoepipnkfaaDoor
open Go.RowKit

set_option maxRecDepth 10000 in
set_option maxHeartbeats 3200000 in
theorem forward_calls (w : World) (b : List Int) (u v : Int) (hT : Tab w) (hb : b.length = 64) (hu : isInt u) (hv : isInt v) : Calls Tryd.prog 3 #[blkV b, .int .i64 u, .int .i64 v] w (Law w) := by
  obtain ⟨cs, w1, hbv, hw1, hk, _⟩ := one_boxed w b hT hb
  obtain ⟨Z, hZ⟩ : ∃ Z, Z = (cellsI zeros64).toArray := ⟨_, rfl⟩
  have hz : ∀ w, (zeroValue 23).run Tryd.prog w = .ok (.agg Z) w := fun w => by rw [hZ]; exact zero23 w
  have hZs : Z.size = 64 := by rw [hZ]; rfl
  have HL := Lib.hid hk.n0.load
  rw [← hw1] at HL
  have H := Lib.hid (And.intro hk (And.intro hb (And.intro hZs (And.intro hw1 (And.intro hu hv)))))
  rw [hbv]
  have HP := Lib.hid (fun (w : World) (h : Tab w) => forward_any w b h hb)
  have HQ := Lib.hid (fun w => refForward_any w b hb)
  have hxl := fwdF_len b
  obtain ⟨⟨x, e⟩, hx⟩ : ∃ R, R = fwdF b := ⟨_, rfl⟩
  rw [← hx] at HP HQ hxl
  dsimp only at hxl
  have HX := Lib.hid hxl
  obtain ⟨u0, u1⟩ := hu
  obtain ⟨v0, v1⟩ := hv
  clear hT hk hb hbv hZ hZs hw1 hx hxl
  go_enter Tryd.func3, Tryd.ntmps3
  go_wp2_with (first
    | (with_reducible refine wpList_load_to (op := ⟨some 13, _, _, _, _, _⟩) rfl 23 (.tmp 3) rfl (.pointer (some ⟨w.heap.size, 0, none⟩)) rfl (blkV b) HL.out ?_)
    | fail)
  rw [H.out.2.2.2.1]
  refine (HP.out w1 H.out.1.tab).mono ?_
  rintro r w2 ⟨rfl, bb⟩
  have H2 := Lib.hid (H.out.1.on bb)
  clear bb
  dsimp only
  go_wp2_with (first
    | ((with_reducible refine wpList_store_blk (o := ⟨none, _, _, _, _, _⟩) rfl (.tmp 7) (.tmp 15) rfl rfl w2.heap.size x rfl rfl Z (Box.made _ _ _) H.out.2.2.1 HX.out ?_)
       intro w3 b3 k3
       have H3 := Lib.hid (H2.out.laid b3 k3)
       clear b3 k3)
    | (with_reducible refine wpList_load_to (op := ⟨some 18, _, _, _, _, _⟩) rfl 23 (.tmp 3) rfl (.pointer (some ⟨w.heap.size, 0, none⟩)) rfl (blkV b) H3.out.n1.load ?_)
    | fail)
  obtain ⟨g3, hg3⟩ : ∃ g, g = w2.heap.size := ⟨_, rfl⟩
  rw [← hg3] at H3 ⊢
  clear hg3
  refine (HQ.out w3).mono ?_
  rintro r w4 ⟨rfl, bb⟩
  have H4 := Lib.hid (H3.out.on bb)
  clear bb
  dsimp only
  by_cases h : 0 ≤ u ∧ u < 8 ∧ 0 ≤ v ∧ v < 8
  · have e : waveF u v = wz.getD (8 * u + v).toNat 0 := if_pos h
    obtain ⟨a, rfl⟩ := Int.eq_ofNat_of_zero_le h.1
    obtain ⟨c, rfl⟩ := Int.eq_ofNat_of_zero_le h.2.2.1
    have ha : a < 8 := by omega
    have hc : c < 8 := by omega
    rw [show (8 * (a : Int) + (c : Int)).toNat = 8 * a + c by omega] at e
    have E := Lib.hid e
    clear e h u0 u1 v0 v1
    go_wp2_with (first
      | ((with_reducible refine wpList_store_blk (o := ⟨none, _, _, _, _, _⟩) rfl (.tmp 9) (.tmp 20) rfl rfl w4.heap.size x rfl rfl Z (Box.made _ _ _) H.out.2.2.1 HX.out ?_)
         intro w5 b5 k5
         have H5 := Lib.hid (H4.out.laid b5 k5)
         clear b5 k5)
      | fail)
    obtain ⟨g5, hg5⟩ : ∃ g, g = w4.heap.size := ⟨_, rfl⟩
    rw [← hg5] at H5 ⊢
    clear hg5
    refine (waves_any w5).mono ?_
    rintro r w6 ⟨A, n, rfl, hI, _, bb⟩
    obtain ⟨g, off, hA, _, hcell⟩ := hI.at_ (by omega)
    subst hA
    have H6 := Lib.hid (H5.out.on bb)
    have c1 := hcell (8 * a + c) (by omega)
    rw [← E.out] at c1
    clear hI hcell bb
    obtain ⟨z, hz'⟩ : ∃ z, z = waveF a c := ⟨_, rfl⟩
    rw [← hz'] at c1
    go_wp2_with (first
      | (with_reducible refine wpList_load_to (op := ⟨some 43, _, _, _, _, _⟩) rfl 23 (.tmp 7) rfl (.pointer (some ⟨g3, 0, none⟩)) rfl (blkV x) H6.out.n1.load ?_)
      | (with_reducible refine wpList_load_to (op := ⟨some 44, _, _, _, _, _⟩) rfl 23 (.tmp 9) rfl (.pointer (some ⟨g5, 0, none⟩)) rfl (blkV x) H6.out.n0.load ?_)
      | (with_reducible refine wpList_eql23_when (op := ⟨some 45, _, _, _, _, _⟩) rfl (.tmp 43) (.tmp 44) rfl x HX.out rfl rfl ?_)
      | fail)
    refine (wave_any w6 a c H6.out.tab (by unfold isInt; omega) (by unfold isInt; omega)).mono ?_
    rintro r w7 ⟨rfl, rfl⟩
    rw [← hz']
    clear hz'
    go_wp2_with fail
    refine (awake_any w6 H6.out.tab).mono ?_
    rintro r w8 ⟨rfl, b8⟩
    have H8 := Lib.hid (on_trans H6.out.bel b8)
    clear b8
    go_wp2
    go_ret
    exact ⟨rfl, H8.out⟩
  · have e : waveF u v = 0 := if_neg h
    have E := Lib.hid e
    have hh : u < 0 ∨ 8 ≤ u ∨ (0 ≤ u ∧ u < 8 ∧ v < 0) ∨ (0 ≤ u ∧ u < 8 ∧ 0 ≤ v ∧ 8 ≤ v) := by omega
    clear e h
    rcases hh with h | h | ⟨h, h2, h3⟩ | ⟨h, h2, h3, h4⟩
    all_goals
      go_wp2_with (first
        | ((with_reducible refine wpList_store_blk (o := ⟨none, _, _, _, _, _⟩) rfl (.tmp 9) (.tmp 20) rfl rfl w4.heap.size x rfl rfl Z (Box.made _ _ _) H.out.2.2.1 HX.out ?_)
           intro w5 b5 k5
           have H5 := Lib.hid (H4.out.laid b5 k5)
           clear b5 k5)
        | (with_reducible refine wpList_load_to (op := ⟨some 43, _, _, _, _, _⟩) rfl 23 (.tmp 7) rfl (.pointer (some ⟨g3, 0, none⟩)) rfl (blkV x) H5.out.n1.load ?_)
        | (with_reducible refine wpList_load_to (op := ⟨some 44, _, _, _, _, _⟩) rfl 23 (.tmp 9) rfl (.pointer (some ⟨w4.heap.size, 0, none⟩)) rfl (blkV x) H5.out.n0.load ?_)
        | (with_reducible refine wpList_eql23_when (op := ⟨some 45, _, _, _, _, _⟩) rfl (.tmp 43) (.tmp 44) rfl x HX.out rfl rfl ?_)
        | fail)
      refine (wave_any w5 u v H5.out.tab H.out.2.2.2.2.1 H.out.2.2.2.2.2).mono ?_
      rintro r w7 ⟨rfl, rfl⟩
      rw [E.out]
      go_wp2_with fail
      refine (awake_any w5 H5.out.tab).mono ?_
      rintro r w8 ⟨rfl, b8⟩
      have H8 := Lib.hid (on_trans H5.out.bel b8)
      clear b8
      go_wp2
      go_ret
      exact ⟨rfl, H8.out⟩
end Go.Proofs.YteoahoepipnkfaaDoor
