/-
  RoomFree: how many sectors any bytes need, and the free extents of any disk, are the document's, or why there are none; extents stay as they were.
-/
import Derived.Test.YtcgajomngcgchaaLBase
import Derived.Test.YtcgajomngcgchaaRefFree
namespace Go.Proofs.Ytcgajomngcgchaa
open Go.RowKit

set_option maxHeartbeats 3200000 in
set_option maxRecDepth 20000 in
theorem rfree_calls (w : World) (m : Int) (A : Option Addr) (n c : Nat) (l : List X) (b : Int) (hw : I64 m) (hx : Xl (fun _ => True) w A n c l) (h64 : W64 l) (hz : I64 b) : Calls Try.prog 3 #[.int .i64 m, .slice A n c, .int .i64 b] w (Law w) := by
  obtain ⟨hw0, hw1⟩ := hw
  obtain ⟨hz0, hz1⟩ := hz
  have hmax := hx.max
  have hcap := hx.cap
  unfold maxLen at hmax
  have HX := Lib.hid (And.intro hx (And.intro h64 hx.lenX))
  clear hx h64
  by_cases hf : Few m n
  · have hd : decide (Few m n) = true := decide_eq_true hf
    have hn : n ≤ 200 := hf.2
    clear hf
    go_enter Try.func3, Try.ntmps3
    go_wp2_with (first
      | (go_at_call 10
         refine Calls.mono (few_any m A n c w) ?_
         rintro e w1 ⟨rfl, rfl⟩)
      | ((with_reducible refine wpList_append_own2 (o := ⟨some 19, _, _, _, _, _⟩) el_ext rfl (.tmp 17) (.tmp 18) rfl w1.heap.size (.slice (some ⟨w1.heap.size, 0, none⟩) 0 0) 0 [] rfl (empty_own w1) (fun _ => True) A n c (cellsX l) rfl (HX.out.1.on (on_alloc _ _)) (cellsX_one _) (by omega) (by simp) ?_)
         intro v' w2 hown hk hnil
         obtain ⟨g, c2, hv, hx2, hg, b2⟩ := copy_own hown hk hnil
         subst hv
         have H2 := Lib.hid (And.intro hx2 (And.intro hg b2))
         clear hown hk hnil hx2 hg b2))
    by_cases h0 : newE m l = 0
    · have hm := newE_iff.1 h0
      have m0 : 1 ≤ m := hm.1.1
      have m1 : m ≤ 4096 := hm.1.2
      have hF := (free_all w2 m _ _ n c2 l H2.out.1 HX.out.2.1 (by omega)).mono (R' := FreeGood m l w2) fun r w' h => h.resolve_left fun h => h.1 h0
      refine Calls.mono hF ?_
      rintro e w3 ⟨_, fs, v, rfl, hown, hfr, b3⟩
      obtain ⟨A3, c3, hv, hx3⟩ := rd_of_own hown
      subst hv
      have hR := (refNew_any w3 m _ A n c l ((HX.out.1.on H2.out.2.2).on b3) (by omega)).mono (R' := RGood m l w3) fun r w' h => h.resolve_left fun h => h.1 h0
      obtain ⟨n3, hn3⟩ : ∃ n3, fs.length = n3 := ⟨_, rfl⟩
      rw [hn3] at hx3 ⊢
      have H3 := Lib.hid (And.intro hx3 (And.intro hfr (And.intro b3 hR)))
      clear hF hown hfr b3 hx3 hR hm hn3 h0
      go_wp2_with fail
      refine Calls.mono H3.out.2.2.2 ?_
      rintro e w4 ⟨_, A4, n4, c4, u, rfl, hbl, hus, b4⟩
      obtain ⟨w5, hw5⟩ : ∃ w5, w4.alloc (.cells #[.slice A4 n4 c4] 30) = w5 := ⟨_, rfl⟩
      have b5 : Below w4.heap.size w4 w5 := by rw [← hw5]; exact on_alloc _ _
      have d0 : w5.cell? ⟨w4.heap.size, 0, none⟩ = some (.slice A4 n4 c4) := by rw [← hw5]; exact (Box.made _ _ _).cell 0
      have hb45 := on_trans b4 b5
      have HX5 := Lib.hid (And.intro ((H2.out.1.on H3.out.2.2.1).on hb45) (And.intro (((HX.out.1.on H2.out.2.2).on H3.out.2.2.1).on hb45) (on_trans (on_trans H2.out.2.2 H3.out.2.2.1) hb45)))
      have HG3 := Lib.hid (H3.out.1.on hb45)
      obtain ⟨u', hul', hcan', hus'⟩ := frees_can H3.out.2.1 m0
      have huu : u' = u := hus'.only hus
      subst huu
      have HCan := Lib.hid hcan'
      have HRF := Lib.hid (refFree_any w5 _ A4 n4 c4 u' (hbl.on b5) (by have := hbl.lenB; omega))
      clear b4 b5 hb45 hbl hus hul' hcan' hus'
      obtain ⟨nd, hnd⟩ : ∃ nd, needF b = nd := ⟨_, rfl⟩
      have HND := Lib.hid hnd
      clear hnd
      go_wp2_with fail
      refine Calls.mono (need_any b _ hz1) ?_
      rintro e w6 ⟨rfl, rfl⟩
      rw [HND.out]
      go_wp2_with fail
      refine Calls.mono (refNeed_any b _ hz1) ?_
      rintro e w7 ⟨rfl, rfl⟩
      rw [HND.out]
      go_wp2_with fail
      refine Calls.mono HRF.out ?_
      rintro e w8 ⟨A8, n8, c8, fs8, rfl, hx8, hcan8, b8⟩
      have hfe : fs = fs8 := HCan.out.only hcan8
      subst hfe
      have hn8 : n8 = n3 := by have := hx8.lenX; have := HG3.out.lenX; omega
      subst hn8
      have HS8 := Lib.hid (same_any w8 _ _ A3 A8 n8 c3 c8 fs (HG3.out.on b8) hx8)
      have HX8 := Lib.hid (And.intro ((HX5.out.1.on b8)) (And.intro (HX5.out.2.1.on b8) (on_trans HX5.out.2.2 b8)))
      clear hx8 hcan8 b8
      go_wp2_with fail
      refine Calls.mono HS8.out ?_
      rintro e w9 ⟨rfl, b9⟩
      have HS9 := Lib.hid (same_any w9 _ _ _ A n _ c l (HX8.out.1.on b9) (HX8.out.2.1.on b9))
      have H9 := Lib.hid (on_trans HX8.out.2.2 b9)
      clear b9
      go_wp2_with fail
      refine Calls.mono HS9.out ?_
      rintro e w10 ⟨rfl, b10⟩
      have H10 := Lib.hid (on_trans H9.out b10)
      clear b10
      go_wp2_with (go_at_call 11
                   refine Calls.mono (awake_any _) ?_
                   rintro e w11 ⟨rfl, b11⟩
                   have H11 := Lib.hid b11
                   clear b11)
      go_ret
      exact ⟨rfl, on_trans H10.out H11.out⟩
    · obtain ⟨z, hz⟩ : ∃ z, newE m l = z := ⟨_, rfl⟩
      have hp := newE_pos h0
      rw [hz] at hp
      have hzb : (z != 0) = true := by simp; omega
      have hF := (free_all w2 m _ _ n c2 l H2.out.1 HX.out.2.1 (by omega)).mono (R' := FreeBad m l w2) fun r w' h => h.resolve_right fun h => h0 h.1
      refine Calls.mono hF ?_
      rintro e w3 ⟨_, rfl, b3⟩
      have hR := (refNew_any w3 m _ A n c l ((HX.out.1.on H2.out.2.2).on b3) (by omega)).mono (R' := RBad m l w3) fun r w' h => h.resolve_right fun h => h0 h.1
      have H3 := Lib.hid (And.intro b3 hR)
      have HZ := Lib.hid hz
      clear hF b3 hR h0
      rw [hz]
      clear hz
      go_wp2_with fail
      refine Calls.mono H3.out.2 ?_
      rintro e w4 ⟨_, rfl, b4⟩
      rw [HZ.out]
      obtain ⟨wz, hwz⟩ : ∃ wz, w4.alloc (.cells #[.slice none 0 0] 30) = wz := ⟨_, rfl⟩
      have bz : Box wz w4.heap.size 30 #[.slice none 0 0] := by rw [← hwz]; exact Box.made _ _ _
      have kz : Below w4.heap.size w4 wz := by rw [← hwz]; exact on_alloc _ _
      have z0 : wz.cell? ⟨w4.heap.size, 0, none⟩ = some (.slice none 0 0) := bz.cell 0
      have z2 := bz.free 0
      obtain ⟨w5, hw5⟩ : ∃ w5, wz.setCell ⟨w4.heap.size, 0, none⟩ (.slice none 0 0) = w5 := ⟨_, rfl⟩
      have b5 : Below w4.heap.size w4 w5 := by rw [← hw5]; exact Below.setCell (p := ⟨w4.heap.size, 0, none⟩) kz (Nat.le_refl _) _
      have d0 : w5.cell? ⟨w4.heap.size, 0, none⟩ = some (.slice none 0 0) := by
        rw [← hw5]
        have := (bz.put 0 (.slice none 0 0)).cell 0
        simpa using this
      have hb45 := on_trans b4 b5
      have HX5 := Lib.hid (And.intro ((H2.out.1.on H3.out.1).on hb45) (And.intro (((HX.out.1.on H2.out.2.2).on H3.out.1).on hb45) (on_trans (on_trans H2.out.2.2 H3.out.1) hb45)))
      have HG3 := Lib.hid (show Xl (fun _ => True) w5 none 0 0 [] from Rd.nil_ w5)
      have HCan := Lib.hid (show Can [] [] from ⟨trivial, fun k hk => by simp at hk⟩)
      have HRF := Lib.hid (refFree_any w5 (fun _ => True) none 0 0 [] (Rd.nil_ w5) (by omega))
      clear b4 b5 hb45 bz kz
      obtain ⟨nd, hnd⟩ : ∃ nd, needF b = nd := ⟨_, rfl⟩
      have HND := Lib.hid hnd
      clear hnd
      go_wp2_with fail
      refine Calls.mono (need_any b _ hz1) ?_
      rintro e w6 ⟨rfl, rfl⟩
      rw [HND.out]
      go_wp2_with fail
      refine Calls.mono (refNeed_any b _ hz1) ?_
      rintro e w7 ⟨rfl, rfl⟩
      rw [HND.out]
      go_wp2_with fail
      refine Calls.mono HRF.out ?_
      rintro e w8 ⟨A8, n8, c8, fs8, rfl, hx8, hcan8, b8⟩
      have hfe : [] = fs8 := HCan.out.only hcan8
      subst hfe
      have hn8 : n8 = 0 := by have := hx8.lenX; simpa using this.symm
      subst hn8
      have HS8 := Lib.hid (same_any w8 _ _ none A8 0 0 c8 [] (HG3.out.on b8) hx8)
      have HX8 := Lib.hid (And.intro ((HX5.out.1.on b8)) (And.intro (HX5.out.2.1.on b8) (on_trans HX5.out.2.2 b8)))
      clear hx8 hcan8 b8
      go_wp2_with fail
      refine Calls.mono HS8.out ?_
      rintro e w9 ⟨rfl, b9⟩
      have HS9 := Lib.hid (same_any w9 _ _ _ A n _ c l (HX8.out.1.on b9) (HX8.out.2.1.on b9))
      have H9 := Lib.hid (on_trans HX8.out.2.2 b9)
      clear b9
      go_wp2_with fail
      refine Calls.mono HS9.out ?_
      rintro e w10 ⟨rfl, b10⟩
      have H10 := Lib.hid (on_trans H9.out b10)
      clear b10
      go_wp2_with (go_at_call 11
                   refine Calls.mono (awake_any _) ?_
                   rintro e w11 ⟨rfl, b11⟩
                   have H11 := Lib.hid b11
                   clear b11)
      go_ret
      exact ⟨rfl, on_trans H10.out H11.out⟩
  · have hd : decide (Few m n) = false := decide_eq_false hf
    clear hf
    go_enter Try.func3, Try.ntmps3
    go_wp2_with (first
      | (go_at_call 10
         refine Calls.mono (few_any m A n c w) ?_
         rintro e w1 ⟨rfl, rfl⟩)
      | (go_at_call 11
         refine Calls.mono (awake_any _) ?_
         rintro e w2 ⟨rfl, b2⟩
         have H2 := Lib.hid b2
         clear b2))
    go_ret
    exact ⟨rfl, H2.out⟩
end Go.Proofs.Ytcgajomngcgchaa
