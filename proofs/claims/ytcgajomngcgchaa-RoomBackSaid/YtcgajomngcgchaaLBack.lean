/-
  RoomBack: what is taken and given leaves the map as it was; a copy does not show what is done to the one it was made of.
-/
import Derived.Test.YtcgajomngcgchaaLBase
namespace Go.Proofs.Ytcgajomngcgchaa
open Go.RowKit

theorem can_back {u : List Bool} {fs : List X} (h : Can u fs) {size : Int} (h1 : 1 ≤ size) (hi : takeI fs size < fs.length) :
    (∀ f ∈ midI (takeL fs size) ((fs.getD (takeI fs size) (0, 0)).1, size), ¬ Meets ((fs.getD (takeI fs size) (0, 0)).1, size) f) ∧ giveL (takeL fs size) ((fs.getD (takeI fs size) (0, 0)).1, size) = fs := by
  obtain ⟨hle, hc⟩ := can_take h h1 hi
  have hm := getD_mem hi
  have hr := h.rise.at_ _ hm
  obtain ⟨f, hf⟩ : ∃ f, fs.getD (takeI fs size) (0, 0) = f := ⟨_, rfl⟩
  rw [hf] at hle hc hm hr ⊢
  have ok : Ok (mark u (f.1, size) true).length (f.1, size) := by rw [mark_len]; exact ⟨hr.1, h1, by simp only; omega⟩
  have hno : ∀ x ∈ midI (takeL fs size) (f.1, size), ¬ Meets (f.1, size) x := fun x hx hmt => by
    obtain ⟨k, hk, hin, hu⟩ := (hc.meets ok).1 ⟨x, hx, hmt⟩
    rw [mark_len] at hk
    rw [mark_at _ _ _ _ hk, if_pos hin] at hu
    cases hu
  refine ⟨hno, ?_⟩
  have hg := hc.give ok hno
  have e : giveL (takeL fs size) (f.1, size) = (takeL fs size).take (fromI (takeL fs size) (f.1, size)) ++ whole (f.1, size) (midI (takeL fs size) (f.1, size)) :: (takeL fs size).drop (toI (takeL fs size) (f.1, size)) := by
    unfold giveL; simp
  rw [e]
  refine hg.only' h (by rw [mark_len, mark_len]) fun i hi2 => ?_
  rw [mark_len, mark_len] at hi2
  rw [mark_at _ _ _ _ (by rw [mark_len]; exact hi2), mark_at _ _ _ _ hi2]
  by_cases hin : f.1 ≤ (i : Int) ∧ (i : Int) < f.1 + size
  · rw [if_pos hin, (h.mem i hi2).2 ⟨f, hm, by omega, by omega⟩]
  · rw [if_neg hin, if_neg hin]

set_option maxHeartbeats 3200000 in
set_option maxRecDepth 20000 in
theorem back_calls (w : World) (m : Int) (A : Option Addr) (n c : Nat) (l : List X) (size : Int) (hw : I64 m) (hx : Xl (fun _ => True) w A n c l) (h64 : W64 l) (hz : I64 size) : Calls Try.prog 6 #[.int .i64 m, .slice A n c, .int .i64 size] w (Law w) := by
  obtain ⟨hw0, hw1⟩ := hw
  obtain ⟨hz0, hz1⟩ := hz
  have hmax := hx.max
  have hcap := hx.cap
  unfold maxLen at hmax
  have HX := Lib.hid (And.intro hx (And.intro h64 hx.lenX))
  clear hx h64
  by_cases hf : Few m n
  · have hd : decide (Few m n) = true := decide_eq_true hf
    have hn : n ≤ 200 := hf.2
    clear hf
    go_enter Try.func6, Try.ntmps6
    go_wp2_with (first
      | (go_at_call 10
         refine Calls.mono (few_any m A n c w) ?_
         rintro e w1 ⟨rfl, rfl⟩)
      | ((with_reducible refine wpList_append_own2 (o := ⟨some 22, _, _, _, _, _⟩) el_ext rfl (.tmp 20) (.tmp 21) rfl w1.heap.size (.slice (some ⟨w1.heap.size, 0, none⟩) 0 0) 0 [] rfl (empty_own w1) (fun _ => True) A n c (cellsX l) rfl (HX.out.1.on (on_alloc _ _)) (cellsX_one _) (by omega) (by simp) ?_)
         intro v' w2 hown hk hnil
         obtain ⟨g, c2, hv, hx2, hg, b2⟩ := copy_own hown hk hnil
         subst hv
         have H2 := Lib.hid (And.intro hx2 (And.intro hg b2))
         clear hown hk hnil hx2 hg b2))
    by_cases h0 : newE m l = 0
    · have hF := (new_any w2 m _ _ n c2 l H2.out.1 HX.out.2.1 (by omega)).mono (R' := NewGood m l w2) fun r w' h => h.resolve_left fun h => h.1 h0
      refine Calls.mono hF ?_
      rintro e w3 ⟨_, g3, fs, A3, q, c3, rfl, hM, hfr, hg3, b3⟩
      have hm := newE_iff.1 h0
      have m0 : 1 ≤ m := hm.1.1
      have m1 : m ≤ 4096 := hm.1.2
      obtain ⟨u, hul, hcan, hus⟩ := frees_can hfr m0
      have hql : q ≤ 4096 := by have := can_len hcan; have := hM.row.lenX; omega
      have H3 := Lib.hid (And.intro hM (And.intro hfr (And.intro (on_trans H2.out.2.2 b3) (And.intro hcan (And.intro hul (And.intro hm.2.1 (Nat.le_trans H2.out.2.2.size hg3)))))))
      clear hF hM hfr hul hcan hus hm b3 h0
      go_wp2_with fail
      refine Calls.mono (copy_any w3 g3 m fs A3 q c3 H3.out.1 (by omega)) ?_
      rintro e wc ⟨gc, Ac, qc, cc, rfl, mc, hgc, xc, bc⟩
      have hqc : qc = q := by have := mc.row.lenX; have := H3.out.1.row.lenX; omega
      subst hqc
      have HF := Lib.hid (mfree_any wc g3 m fs A3 qc c3 (H3.out.1.on bc) (by omega))
      have HC0 := Lib.hid (And.intro mc (And.intro hgc (And.intro xc bc)))
      clear mc hgc xc bc
      go_wp2_with fail
      refine Calls.mono HF.out ?_
      rintro e w4 ⟨v4, rfl, hown4, b4⟩
      obtain ⟨Aw, cw, hv4, hx4⟩ := rd_of_own hown4
      subst hv4
      obtain ⟨q, hq⟩ : ∃ q, fs.length = q := ⟨_, rfl⟩
      have hq9 : q ≤ 9000 := by have := H3.out.1.row.lenX; omega
      rw [hq]
      rw [hq] at hx4
      have HC := Lib.hid (And.intro (HC0.out.1.on b4) (And.intro HC0.out.2.1 (And.intro trivial (And.intro trivial (And.intro (HC0.out.2.2.1.on b4) (And.intro trivial H3.out.1.box.lt))))))
      have HW := Lib.hid (And.intro hx4 (And.intro HC0.out.2.2.2.size (on_trans (on_trans H3.out.2.2.1 HC0.out.2.2.2) b4)))
      have HM4 := Lib.hid (H3.out.1.on (on_trans HC0.out.2.2.2 b4))
      have HT := Lib.hid (take_all w4 g3 m fs A3 qc c3 HM4.out H3.out.2.1.rise (by omega) (by omega) size)
      clear hown4 hx4 b4
      go_wp2_with fail
      refine Calls.mono HT.out ?_
      intro e w5 hy
      rcases hy with ⟨hlt, hy⟩ | ⟨hge, hi, hy⟩ | ⟨hge, hi, hy⟩
      · obtain ⟨rfl, b5⟩ := hy
        have k5 : Kept (fun i => i = g3) w4 w5 := Kept.of_below b5 _
        have M5 : Mm w5 g3 m fs A3 qc c3 := HM4.out.on b5
        obtain ⟨wz, hwz⟩ : ∃ wz, w5.alloc (.cells #[.int .i64 0, .int .i64 0] 42) = wz := ⟨_, rfl⟩
        have bz : Box wz w5.heap.size 42 #[.int .i64 0, .int .i64 0] := by rw [← hwz]; exact Box.made _ _ _
        have kz : Below w5.heap.size w5 wz := by rw [← hwz]; exact on_alloc _ _
        have z0 : wz.cell? ⟨w5.heap.size, 0, none⟩ = some (.int .i64 0) := bz.cell 0
        have z1 : wz.cell? ⟨w5.heap.size, 1, none⟩ = some (.int .i64 0) := bz.cell 1
        have z2 := bz.free 0
        have z3 := bz.free 1
        obtain ⟨w6, hw6⟩ : ∃ w6, (wz.setCell ⟨w5.heap.size, 0, none⟩ (.int .i64 0)).setCell ⟨w5.heap.size, 1, none⟩ (.int .i64 0) = w6 := ⟨_, rfl⟩
        have b6 : Below w5.heap.size w5 w6 := by
          rw [← hw6]
          exact Below.setCell (p := ⟨w5.heap.size, 1, none⟩) (Below.setCell (p := ⟨w5.heap.size, 0, none⟩) kz (Nat.le_refl _) _) (Nat.le_refl _) _
        clear bz kz
        have cx6 := (HC.out.2.2.2.2.1.kept k5 (fun b hb e => by have := HC.out.2.2.2.2.2.2; have := hb.1; omega)).on b6
        have bc6 := (k5.box HC.out.1.box (fun e => by have := HC.out.2.2.2.2.2.2; have := HC.out.2.1; omega)).on b6
        have wx6 := (HW.out.1.kept k5 (fun b hb e => by have := HC.out.2.2.2.2.2.2; have := HW.out.2.1; omega)).on b6
        have mc6 : Mm w6 gc m fs Ac qc cc := ⟨bc6, cx6.mono (fun b _ hb => hb.2)⟩
        have hlo4 : w1.heap.size ≤ w4.heap.size := HW.out.2.2.size
        have H6 := Lib.hid (show Below w1.heap.size w1 w6 from (HW.out.2.2.trans (k5.below hlo4 (fun i hi e => by have := H3.out.2.2.2.2.2.2; omega))).trans (b6.mono (Nat.le_trans hlo4 k5.size)))
        have HF6 := Lib.hid (mfree_any w6 gc m fs Ac qc cc mc6 (by omega))
        have HWx := Lib.hid wx6
        have M6 := M5.on b6
        clear cx6 bc6 wx6 mc6 b6 hlo4
        go_wp2_with fail
        refine Calls.mono HF6.out ?_
        rintro e w7 ⟨v7, rfl, hown7, b7⟩
        obtain ⟨A7, c7, hv7, hx7⟩ := rd_of_own hown7
        subst hv7
        rw [hq]
        rw [hq] at hx7
        have HS7 := Lib.hid (same_any w7 _ _ A7 Aw q c7 cw fs hx7 (HWx.out.on b7))
        have H7 := Lib.hid b7
        clear hown7 hx7 b7
        go_wp2_with fail
        refine Calls.mono HS7.out ?_
        rintro e w8 ⟨rfl, b8⟩
        have M8 := M6.on (on_trans H7.out b8)
        have HWy := Lib.hid (HWx.out.on (on_trans H7.out b8))
        have HQ := Lib.hid (on_trans H6.out (on_trans H7.out b8))
        have H8 := Lib.hid (on_trans H7.out b8)
        obtain ⟨A8, q8, c8, M8⟩ : ∃ A n c, Mm w8 g3 m fs A n c := ⟨_, _, _, M8⟩
        clear b8
        have HF9 := Lib.hid (mfree_any w8 g3 m fs A8 q8 c8 M8 (by have := M8.row.lenX; omega))
        clear M8
        go_wp2_with fail
        refine Calls.mono HF9.out ?_
        rintro e w9 ⟨v9, rfl, hown9, b9⟩
        obtain ⟨A9, c9, hv9, hx9⟩ := rd_of_own hown9
        subst hv9
        rw [hq]
        rw [hq] at hx9
        have HS9 := Lib.hid (same_any w9 _ _ A9 Aw q c9 cw fs hx9 (HWy.out.on b9))
        have H9 := Lib.hid b9
        clear hown9 hx9 b9
        go_wp2_with (first
          | (go_at_call 16
             refine Calls.mono HS9.out ?_
             rintro e w10 ⟨rfl, b10⟩
             have H10 := Lib.hid b10
             clear b10)
          | (go_at_call 11
             refine Calls.mono (awake_any _) ?_
             rintro e w11 ⟨rfl, b11⟩
             have H11 := Lib.hid b11
             clear b11))
        go_ret
        exact ⟨rfl, on_trans (on_trans (on_trans HQ.out H9.out) H10.out) H11.out⟩
      · clear hi
        obtain ⟨rfl, b5⟩ := hy
        have k5 : Kept (fun i => i = g3) w4 w5 := Kept.of_below b5 _
        have M5 : Mm w5 g3 m fs A3 qc c3 := HM4.out.on b5
        obtain ⟨wz, hwz⟩ : ∃ wz, w5.alloc (.cells #[.int .i64 0, .int .i64 0] 42) = wz := ⟨_, rfl⟩
        have bz : Box wz w5.heap.size 42 #[.int .i64 0, .int .i64 0] := by rw [← hwz]; exact Box.made _ _ _
        have kz : Below w5.heap.size w5 wz := by rw [← hwz]; exact on_alloc _ _
        have z0 : wz.cell? ⟨w5.heap.size, 0, none⟩ = some (.int .i64 0) := bz.cell 0
        have z1 : wz.cell? ⟨w5.heap.size, 1, none⟩ = some (.int .i64 0) := bz.cell 1
        have z2 := bz.free 0
        have z3 := bz.free 1
        obtain ⟨w6, hw6⟩ : ∃ w6, (wz.setCell ⟨w5.heap.size, 0, none⟩ (.int .i64 0)).setCell ⟨w5.heap.size, 1, none⟩ (.int .i64 0) = w6 := ⟨_, rfl⟩
        have b6 : Below w5.heap.size w5 w6 := by
          rw [← hw6]
          exact Below.setCell (p := ⟨w5.heap.size, 1, none⟩) (Below.setCell (p := ⟨w5.heap.size, 0, none⟩) kz (Nat.le_refl _) _) (Nat.le_refl _) _
        clear bz kz
        have cx6 := (HC.out.2.2.2.2.1.kept k5 (fun b hb e => by have := HC.out.2.2.2.2.2.2; have := hb.1; omega)).on b6
        have bc6 := (k5.box HC.out.1.box (fun e => by have := HC.out.2.2.2.2.2.2; have := HC.out.2.1; omega)).on b6
        have wx6 := (HW.out.1.kept k5 (fun b hb e => by have := HC.out.2.2.2.2.2.2; have := HW.out.2.1; omega)).on b6
        have mc6 : Mm w6 gc m fs Ac qc cc := ⟨bc6, cx6.mono (fun b _ hb => hb.2)⟩
        have hlo4 : w1.heap.size ≤ w4.heap.size := HW.out.2.2.size
        have H6 := Lib.hid (show Below w1.heap.size w1 w6 from (HW.out.2.2.trans (k5.below hlo4 (fun i hi e => by have := H3.out.2.2.2.2.2.2; omega))).trans (b6.mono (Nat.le_trans hlo4 k5.size)))
        have HF6 := Lib.hid (mfree_any w6 gc m fs Ac qc cc mc6 (by omega))
        have HWx := Lib.hid wx6
        have M6 := M5.on b6
        clear cx6 bc6 wx6 mc6 b6 hlo4
        go_wp2_with fail
        refine Calls.mono HF6.out ?_
        rintro e w7 ⟨v7, rfl, hown7, b7⟩
        obtain ⟨A7, c7, hv7, hx7⟩ := rd_of_own hown7
        subst hv7
        rw [hq]
        rw [hq] at hx7
        have HS7 := Lib.hid (same_any w7 _ _ A7 Aw q c7 cw fs hx7 (HWx.out.on b7))
        have H7 := Lib.hid b7
        clear hown7 hx7 b7
        go_wp2_with fail
        refine Calls.mono HS7.out ?_
        rintro e w8 ⟨rfl, b8⟩
        have M8 := M6.on (on_trans H7.out b8)
        have HWy := Lib.hid (HWx.out.on (on_trans H7.out b8))
        have HQ := Lib.hid (on_trans H6.out (on_trans H7.out b8))
        have H8 := Lib.hid (on_trans H7.out b8)
        obtain ⟨A8, q8, c8, M8⟩ : ∃ A n c, Mm w8 g3 m fs A n c := ⟨_, _, _, M8⟩
        clear b8
        have HF9 := Lib.hid (mfree_any w8 g3 m fs A8 q8 c8 M8 (by have := M8.row.lenX; omega))
        clear M8
        go_wp2_with fail
        refine Calls.mono HF9.out ?_
        rintro e w9 ⟨v9, rfl, hown9, b9⟩
        obtain ⟨A9, c9, hv9, hx9⟩ := rd_of_own hown9
        subst hv9
        rw [hq]
        rw [hq] at hx9
        have HS9 := Lib.hid (same_any w9 _ _ A9 Aw q c9 cw fs hx9 (HWy.out.on b9))
        have H9 := Lib.hid b9
        clear hown9 hx9 b9
        go_wp2_with (first
          | (go_at_call 16
             refine Calls.mono HS9.out ?_
             rintro e w10 ⟨rfl, b10⟩
             have H10 := Lib.hid b10
             clear b10)
          | (go_at_call 11
             refine Calls.mono (awake_any _) ?_
             rintro e w11 ⟨rfl, b11⟩
             have H11 := Lib.hid b11
             clear b11))
        go_ret
        exact ⟨rfl, on_trans (on_trans (on_trans HQ.out H9.out) H10.out) H11.out⟩
      · obtain ⟨rfl, hm5, k5⟩ := hy
        obtain ⟨A5, q5, c5, M5⟩ := hm5
        have hbk := can_back H3.out.2.2.2.1 hge hi
        have hct := can_take H3.out.2.2.2.1 hge hi
        have hrz := H3.out.2.1.rise.at_ _ (getD_mem hi)
        obtain ⟨X0, X1, hxy⟩ : ∃ x y : Int, fs.getD (takeI fs size) (0, 0) = (x, y) := ⟨_, _, rfl⟩
        rw [hxy] at hbk hct hrz ⊢
        simp only at hbk hct hrz ⊢
        obtain ⟨fs', hfs'⟩ : ∃ fs', takeL fs size = fs' := ⟨_, rfl⟩
        rw [hfs'] at hbk hct M5
        have hok : Ok m (X0, size) := ⟨hrz.1, hge, by have := hrz.2.2; have := hct.1; simp only; omega⟩
        have HK := Lib.hid (And.intro hbk (And.intro hct.2 hok))
        clear hbk hct hrz hxy hfs' hok hi
        obtain ⟨w6, hw6⟩ : ∃ w6, w5.alloc (.cells #[.int .i64 X0, .int .i64 size] 42) = w6 := ⟨_, rfl⟩
        have b6 : Below w5.heap.size w5 w6 := by rw [← hw6]; exact on_alloc _ _
        have bx6 : Box w6 w5.heap.size 42 #[.int .i64 X0, .int .i64 size] := by rw [← hw6]; exact Box.made _ _ _
        have cx6 := (HC.out.2.2.2.2.1.kept k5 (fun b hb e => by have := HC.out.2.2.2.2.2.2; have := hb.1; omega)).on b6
        have bc6 := (k5.box HC.out.1.box (fun e => by have := HC.out.2.2.2.2.2.2; have := HC.out.2.1; omega)).on b6
        have wx6 := (HW.out.1.kept k5 (fun b hb e => by have := HC.out.2.2.2.2.2.2; have := HW.out.2.1; omega)).on b6
        have mc6 : Mm w6 gc m fs Ac qc cc := ⟨bc6, cx6.mono (fun b _ hb => hb.2)⟩
        have hlo4 : w1.heap.size ≤ w4.heap.size := HW.out.2.2.size
        have H6 := Lib.hid (show Below w1.heap.size w1 w6 from (HW.out.2.2.trans (k5.below hlo4 (fun i hi e => by have := H3.out.2.2.2.2.2.2; omega))).trans (b6.mono (Nat.le_trans hlo4 k5.size)))
        have HF6 := Lib.hid (mfree_any w6 gc m fs Ac qc cc mc6 (by omega))
        have HWx := Lib.hid wx6
        have M6 := M5.on b6
        clear cx6 bc6 wx6 mc6 b6 hlo4
        go_wp2_with fail
        refine Calls.mono HF6.out ?_
        rintro e w7 ⟨v7, rfl, hown7, b7⟩
        obtain ⟨A7, c7, hv7, hx7⟩ := rd_of_own hown7
        subst hv7
        rw [hq]
        rw [hq] at hx7
        have HS7 := Lib.hid (same_any w7 _ _ A7 Aw q c7 cw fs hx7 (HWx.out.on b7))
        have H7 := Lib.hid b7
        clear hown7 hx7 b7
        go_wp2_with fail
        refine Calls.mono HS7.out ?_
        rintro e w8 ⟨rfl, b8⟩
        have M8 := M6.on (on_trans H7.out b8)
        have bx8 := bx6.on (on_trans H7.out b8)
        have x0 : w8.cell? ⟨w5.heap.size, 0, none⟩ = some (.int .i64 X0) := bx8.cell 0
        have x1 : w8.cell? ⟨w5.heap.size, 1, none⟩ = some (.int .i64 size) := bx8.cell 1
        have HG := give_any w8 g3 m fs' A5 q5 c5 M8 _ HK.out.2.1 (by rw [mark_len]; exact H3.out.2.2.2.2.1) (by omega) (by have := can_len HK.out.2.1; rw [mark_len] at this; have := M8.row.lenX; have := H3.out.2.2.2.2.1; omega) X0 size HK.out.2.2
        have HGv := Lib.hid (HG.mono (R' := fun r w' => r = .returned (.int .i64 0) ∧ (∃ A n c, Mm w' g3 m fs A n c) ∧ Kept (fun i => i = g3) w8 w') (fun r w' h => by
          rcases h with ⟨⟨f, hf, hmt⟩, _⟩ | ⟨_, h1, h2, h3⟩
          · exact absurd hmt (HK.out.1.1 f hf)
          · rw [HK.out.1.2] at h2; exact ⟨h1, h2, h3⟩))
        have HWy0 := Lib.hid (HWx.out.on (on_trans H7.out b8))
        have HQ0 := Lib.hid (on_trans H6.out (on_trans H7.out b8))
        have H8 := Lib.hid (on_trans H7.out b8)
        clear M8 bx8 HG
        clear b8
        go_wp2_with fail
        refine Calls.mono HGv.out ?_
        rintro e w8' ⟨rfl, hm8, k8⟩
        obtain ⟨A8, q8, c8, M8⟩ := hm8
        have HWy := Lib.hid (HWy0.out.kept k8 (fun b hb e => by have := HC.out.2.2.2.2.2.2; have := HW.out.2.1; omega))
        have HQ := Lib.hid (show Below w1.heap.size w1 w8' from HQ0.out.trans (k8.below HQ0.out.size (fun i hi e => by have := H3.out.2.2.2.2.2.2; omega)))
        clear k8
        have HF9 := Lib.hid (mfree_any w8' g3 m fs A8 q8 c8 M8 (by have := M8.row.lenX; omega))
        clear M8
        go_wp2_with fail
        refine Calls.mono HF9.out ?_
        rintro e w9 ⟨v9, rfl, hown9, b9⟩
        obtain ⟨A9, c9, hv9, hx9⟩ := rd_of_own hown9
        subst hv9
        rw [hq]
        rw [hq] at hx9
        have HS9 := Lib.hid (same_any w9 _ _ A9 Aw q c9 cw fs hx9 (HWy.out.on b9))
        have H9 := Lib.hid b9
        clear hown9 hx9 b9
        go_wp2_with (first
          | (go_at_call 16
             refine Calls.mono HS9.out ?_
             rintro e w10 ⟨rfl, b10⟩
             have H10 := Lib.hid b10
             clear b10)
          | (go_at_call 11
             refine Calls.mono (awake_any _) ?_
             rintro e w11 ⟨rfl, b11⟩
             have H11 := Lib.hid b11
             clear b11))
        go_ret
        exact ⟨rfl, on_trans (on_trans (on_trans HQ.out H9.out) H10.out) H11.out⟩
    · have hF := (new_any w2 m _ _ n c2 l H2.out.1 HX.out.2.1 (by omega)).mono (R' := NewBad m l w2) fun r w' h => h.resolve_right fun h => h0 h.1
      obtain ⟨z, hz⟩ : ∃ z, newE m l = z := ⟨_, rfl⟩
      have hp := newE_pos h0
      rw [hz] at hp
      have hzb : (z != 0) = true := by simp; omega
      refine Calls.mono hF ?_
      rintro e w3 ⟨_, rfl, b3⟩
      have H3 := Lib.hid (on_trans H2.out.2.2 b3)
      clear hF b3 h0
      rw [hz]
      clear hz
      go_wp2_with (go_at_call 11
                   refine Calls.mono (awake_any _) ?_
                   rintro e w5 ⟨rfl, b5⟩
                   have H5 := Lib.hid b5
                   clear b5)
      go_ret
      exact ⟨rfl, on_trans H3.out H5.out⟩
  · have hd : decide (Few m n) = false := decide_eq_false hf
    clear hf
    go_enter Try.func6, Try.ntmps6
    go_wp2_with (first
      | (go_at_call 10
         refine Calls.mono (few_any m A n c w) ?_
         rintro e w1 ⟨rfl, rfl⟩)
      | (go_at_call 11
         refine Calls.mono (awake_any _) ?_
         rintro e w2 ⟨rfl, b2⟩
         have H2 := Lib.hid b2
         clear b2))
    go_ret
    exact ⟨rfl, H2.out⟩
end Go.Proofs.Ytcgajomngcgchaa
