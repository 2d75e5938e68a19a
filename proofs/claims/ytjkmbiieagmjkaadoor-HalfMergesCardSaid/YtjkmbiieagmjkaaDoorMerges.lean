/-
  HalfMerges: the walk.
-/
import Derived.Test.YtjkmbiieagmjkaaDoorTold10
namespace Go.Proofs.YtjkmbiieagmjkaaDoor
open Go.RowKit

set_option maxRecDepth 10000 in
set_option maxHeartbeats 6400000 in
theorem merges_calls (w : World) (f : List Int) (h u i : Int) (hT : Tab w) (hf : f.length = 256) (hh : isInt h) (hu : isInt u) (hi : isInt i) : Calls Tryd.prog 3 #[fourV f, .int .i64 h, .int .i64 u, .int .i64 i] w (Law w) := by
  obtain ⟨cs, w1, hfv, hw1, hk, _⟩ := one4_boxed w f hT hf
  obtain ⟨Z, hZ⟩ : ∃ Z, Z = (cellsI zeros64).toArray := ⟨_, rfl⟩
  have hz' : ∀ w, (zeroValue 23).run Tryd.prog w = .ok (.agg Z) w := fun w => by rw [hZ]; exact zero23 w
  have hZs : Z.size = 64 := by rw [hZ]; rfl
  have HL := Lib.hid hk.f0.load
  rw [← hw1] at HL
  have H := Lib.hid (And.intro hk (And.intro hZs (And.intro hw1 (And.intro hh (And.intro hu hi)))))
  rw [hfv]
  have HP := Lib.hid (fun (w : World) (h : Tab w) => merge_any w f h hf)
  have HQ := Lib.hid (fun (w : World) (h : Tab w) => refMerge_any w f h hf)
  have hxl := mrgF_len f
  obtain ⟨⟨x, e⟩, hx⟩ : ∃ R, R = mrgF f := ⟨_, rfl⟩
  rw [← hx] at HP HQ hxl
  dsimp only at hxl
  have HX := Lib.hid hxl
  obtain ⟨h0, h1⟩ := hh
  obtain ⟨u0, u1⟩ := hu
  obtain ⟨i0, i1⟩ := hi
  clear hT hk hf hfv hZ hZs hw1 hx hxl
  go_enter Tryd.func3, Tryd.ntmps3
  go_wp2_with (first
    | (with_reducible refine wpList_load_to (op := ⟨some 15, _, _, _, _, _⟩) rfl 24 (.tmp 4) rfl (.pointer (some ⟨w.heap.size, 0, none⟩)) rfl (fourV f) HL.out ?_)
    | fail)
  rw [H.out.2.2.1]
  refine (HP.out w1 H.out.1.tab).mono ?_
  rintro r w2 ⟨rfl, bb⟩
  have H2 := Lib.hid (H.out.1.on bb)
  clear bb
  dsimp only
  go_wp2_with (first
    | ((with_reducible refine wpList_store_blk (o := ⟨none, _, _, _, _, _⟩) rfl (.tmp 9) (.tmp 17) rfl rfl w2.heap.size x rfl rfl Z (Box.made _ _ _) H.out.2.1 HX.out ?_)
       intro w3 b3 k3
       have H3 := Lib.hid (H2.out.laid b3 k3)
       clear b3 k3)
    | (with_reducible refine wpList_load_to (op := ⟨some 20, _, _, _, _, _⟩) rfl 24 (.tmp 4) rfl (.pointer (some ⟨w.heap.size, 0, none⟩)) rfl (fourV f) H3.out.f1.load ?_)
    | fail)
  obtain ⟨g3, hg3⟩ : ∃ g, g = w2.heap.size := ⟨_, rfl⟩
  rw [← hg3] at H3 ⊢
  clear hg3
  refine (HQ.out w3 H3.out.tab).mono ?_
  rintro r w4 ⟨rfl, bb⟩
  have H4 := Lib.hid (H3.out.on bb)
  clear bb
  dsimp only
  by_cases hc : (h = 0 ∨ h = 1) ∧ (0 ≤ u ∧ u < 8) ∧ 0 ≤ i ∧ i < 4
  · obtain ⟨hh, ⟨hu0, hu1⟩, hi0, hi1⟩ := hc
    obtain ⟨b, rfl⟩ := Int.eq_ofNat_of_zero_le hu0
    obtain ⟨c, rfl⟩ := Int.eq_ofNat_of_zero_le hi0
    clear h0 h1 u0 u1 i0 i1
    rcases hh with rfl | rfl
    · have ep : partF 0 b c = hv 0 b c := by
        unfold partF
        rw [if_pos (by omega)]
        rfl
      have hz0 : hv 0 b c = hz.getD (4 * b + c) 0 := by
        unfold hv
        rw [show 32 * 0 + 4 * b + c = 4 * b + c by omega]
      have E := Lib.hid (ep.trans hz0)
      clear ep hz0
      go_wp2_with (first
        | ((with_reducible refine wpList_store_blk (o := ⟨none, _, _, _, _, _⟩) rfl (.tmp 11) (.tmp 22) rfl rfl w4.heap.size x rfl rfl Z (Box.made _ _ _) H.out.2.1 HX.out ?_)
           intro w5 b5 k5
           have H5 := Lib.hid (H4.out.laid b5 k5)
           clear b5 k5)
        | fail)
      obtain ⟨g5, hg5⟩ : ∃ g, g = w4.heap.size := ⟨_, rfl⟩
      rw [← hg5] at H5 ⊢
      clear hg5
      refine (parts_any w5).mono ?_
      rintro r w6 ⟨A, n, rfl, hI, _, bb⟩
      obtain ⟨g, off, hA, _, _⟩ := hI.at_ (by omega)
      subst hA
      have c1 := il_cell hI (j := 4 * b + c) (by omega)
      rw [← E.out] at c1
      have H6 := Lib.hid (H5.out.on bb)
      clear hI bb
      obtain ⟨z, hzz⟩ : ∃ z, z = partF 0 b c := ⟨_, rfl⟩
      rw [← hzz] at c1
      go_wp2_with (first
        | (with_reducible refine wpList_load_to (op := ⟨some 56, _, _, _, _, _⟩) rfl 23 (.tmp 9) rfl (.pointer (some ⟨g3, 0, none⟩)) rfl (blkV x) H6.out.b1.load ?_)
        | (with_reducible refine wpList_load_to (op := ⟨some 57, _, _, _, _, _⟩) rfl 23 (.tmp 11) rfl (.pointer (some ⟨g5, 0, none⟩)) rfl (blkV x) H6.out.b0.load ?_)
        | (with_reducible refine wpList_eql23_when (op := ⟨some 58, _, _, _, _, _⟩) rfl (.tmp 56) (.tmp 57) rfl x HX.out rfl rfl ?_)
        | fail)
      refine (part_any w6 0 b c H6.out.tab (by unfold isInt; omega) (by unfold isInt; omega) (by unfold isInt; omega)).mono ?_
      rintro r w7 ⟨rfl, rfl⟩
      rw [← hzz]
      clear hzz
      go_wp2_with fail
      refine (awake_any w6 H6.out.tab).mono ?_
      rintro r w8 ⟨rfl, b8⟩
      have H8 := Lib.hid (on_trans H6.out.bel b8)
      clear b8
      go_wp2
      go_ret
      exact ⟨rfl, H8.out⟩
    · have ep : partF 1 b c = hv 1 b c := by
        unfold partF
        rw [if_pos (by omega)]
        rfl
      have hz0 : hv 1 b c = hz.getD (32 + 4 * b + c) 0 := by
        unfold hv
        rw [show 32 * 1 + 4 * b + c = 32 + 4 * b + c by omega]
      have E := Lib.hid (ep.trans hz0)
      clear ep hz0
      go_wp2_with (first
        | ((with_reducible refine wpList_store_blk (o := ⟨none, _, _, _, _, _⟩) rfl (.tmp 11) (.tmp 22) rfl rfl w4.heap.size x rfl rfl Z (Box.made _ _ _) H.out.2.1 HX.out ?_)
           intro w5 b5 k5
           have H5 := Lib.hid (H4.out.laid b5 k5)
           clear b5 k5)
        | fail)
      obtain ⟨g5, hg5⟩ : ∃ g, g = w4.heap.size := ⟨_, rfl⟩
      rw [← hg5] at H5 ⊢
      clear hg5
      refine (parts_any w5).mono ?_
      rintro r w6 ⟨A, n, rfl, hI, _, bb⟩
      obtain ⟨g, off, hA, _, _⟩ := hI.at_ (by omega)
      subst hA
      have c1 := il_cell hI (j := 32 + 4 * b + c) (by omega)
      rw [← E.out] at c1
      have H6 := Lib.hid (H5.out.on bb)
      clear hI bb
      obtain ⟨z, hzz⟩ : ∃ z, z = partF 1 b c := ⟨_, rfl⟩
      rw [← hzz] at c1
      go_wp2_with (first
        | (with_reducible refine wpList_load_to (op := ⟨some 56, _, _, _, _, _⟩) rfl 23 (.tmp 9) rfl (.pointer (some ⟨g3, 0, none⟩)) rfl (blkV x) H6.out.b1.load ?_)
        | (with_reducible refine wpList_load_to (op := ⟨some 57, _, _, _, _, _⟩) rfl 23 (.tmp 11) rfl (.pointer (some ⟨g5, 0, none⟩)) rfl (blkV x) H6.out.b0.load ?_)
        | (with_reducible refine wpList_eql23_when (op := ⟨some 58, _, _, _, _, _⟩) rfl (.tmp 56) (.tmp 57) rfl x HX.out rfl rfl ?_)
        | fail)
      refine (part_any w6 1 b c H6.out.tab (by unfold isInt; omega) (by unfold isInt; omega) (by unfold isInt; omega)).mono ?_
      rintro r w7 ⟨rfl, rfl⟩
      rw [← hzz]
      clear hzz
      go_wp2_with fail
      refine (awake_any w6 H6.out.tab).mono ?_
      rintro r w8 ⟨rfl, b8⟩
      have H8 := Lib.hid (on_trans H6.out.bel b8)
      clear b8
      go_wp2
      go_ret
      exact ⟨rfl, H8.out⟩
  · have ep : partF h u i = 0 := by
      unfold partF
      rw [if_neg (by omega)]
    have E := Lib.hid ep
    have hq : (h ≠ 0 ∧ h ≠ 1) ∨ ((h = 0 ∨ h = 1) ∧ (u < 0 ∨ (0 ≤ u ∧ 8 ≤ u) ∨ (0 ≤ u ∧ u < 8 ∧ i < 0) ∨ (0 ≤ u ∧ u < 8 ∧ 0 ≤ i ∧ 4 ≤ i))) := by omega
    clear ep hc
    rcases hq with ⟨n0, n1⟩ | ⟨rfl | rfl, a | ⟨a, b⟩ | ⟨a, b, c⟩ | ⟨a, b, c, d⟩⟩
    case inl =>
      have e0 : (h == 0) = false := by simpa using n0
      have e1 : (h == 1) = false := by simpa using n1
      go_wp2_with (first
        | ((with_reducible refine wpList_store_blk (o := ⟨none, _, _, _, _, _⟩) rfl (.tmp 11) (.tmp 22) rfl rfl w4.heap.size x rfl rfl Z (Box.made _ _ _) H.out.2.1 HX.out ?_)
           intro w5 b5 k5
           have H5 := Lib.hid (H4.out.laid b5 k5)
           clear b5 k5)
        | (with_reducible refine wpList_load_to (op := ⟨some 56, _, _, _, _, _⟩) rfl 23 (.tmp 9) rfl (.pointer (some ⟨g3, 0, none⟩)) rfl (blkV x) H5.out.b1.load ?_)
        | (with_reducible refine wpList_load_to (op := ⟨some 57, _, _, _, _, _⟩) rfl 23 (.tmp 11) rfl (.pointer (some ⟨w4.heap.size, 0, none⟩)) rfl (blkV x) H5.out.b0.load ?_)
        | (with_reducible refine wpList_eql23_when (op := ⟨some 58, _, _, _, _, _⟩) rfl (.tmp 56) (.tmp 57) rfl x HX.out rfl rfl ?_)
        | fail)
      refine (part_any w5 _ u i H5.out.tab (by unfold isInt; omega) (by unfold isInt; omega) (by unfold isInt; omega)).mono ?_
      rintro r w7 ⟨rfl, rfl⟩
      rw [E.out]
      go_wp2_with fail
      refine (awake_any w5 H5.out.tab).mono ?_
      rintro r w8 ⟨rfl, b8⟩
      have H8 := Lib.hid (on_trans H5.out.bel b8)
      clear b8
      go_wp2
      go_ret
      exact ⟨rfl, H8.out⟩
    all_goals
      go_wp2_with (first
        | ((with_reducible refine wpList_store_blk (o := ⟨none, _, _, _, _, _⟩) rfl (.tmp 11) (.tmp 22) rfl rfl w4.heap.size x rfl rfl Z (Box.made _ _ _) H.out.2.1 HX.out ?_)
           intro w5 b5 k5
           have H5 := Lib.hid (H4.out.laid b5 k5)
           clear b5 k5)
        | (with_reducible refine wpList_load_to (op := ⟨some 56, _, _, _, _, _⟩) rfl 23 (.tmp 9) rfl (.pointer (some ⟨g3, 0, none⟩)) rfl (blkV x) H5.out.b1.load ?_)
        | (with_reducible refine wpList_load_to (op := ⟨some 57, _, _, _, _, _⟩) rfl 23 (.tmp 11) rfl (.pointer (some ⟨w4.heap.size, 0, none⟩)) rfl (blkV x) H5.out.b0.load ?_)
        | (with_reducible refine wpList_eql23_when (op := ⟨some 58, _, _, _, _, _⟩) rfl (.tmp 56) (.tmp 57) rfl x HX.out rfl rfl ?_)
        | fail)
      refine (part_any w5 _ u i H5.out.tab (by unfold isInt; omega) (by unfold isInt; omega) (by unfold isInt; omega)).mono ?_
      rintro r w7 ⟨rfl, rfl⟩
      rw [E.out]
      go_wp2_with fail
      refine (awake_any w5 H5.out.tab).mono ?_
      rintro r w8 ⟨rfl, b8⟩
      have H8 := Lib.hid (on_trans H5.out.bel b8)
      clear b8
      go_wp2
      go_ret
      exact ⟨rfl, H8.out⟩
end Go.Proofs.YtjkmbiieagmjkaaDoor
