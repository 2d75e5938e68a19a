/-
  The contract of the program's Head.
-/
import Derived.Test.YtgipngedmblnmaaDoorWTabs
import Derived.Test.YtgipngedmblnmaaDoorRBody
namespace Go.Proofs.YtgipngedmblnmaaDoor
open Go.RowKit

set_option maxHeartbeats 800000 in
theorem scanPartsBox_any (w : World) (k : Int) : Calls Tryd.prog 33 #[.int .i64 k] w fun e w' => ∃ g, e = .returned (.slice (some ⟨g, 0, none⟩) (sparB k).length (sparB k).length) ∧ w.heap.size ≤ g ∧ Box w' g 5 (cellsOf (sparB k)).toArray ∧ Below w.heap.size w w' := by
  by_cases h0 : k = 0
  · subst h0
    have HS := Lib.hid (Box.made w 5 (cellsOf [1, 1, 0]).toArray)
    go_enter Tryd.func33, Tryd.ntmps33
    go_wp2_with fail
    go_ret
    exact ⟨w.heap.size, rfl, Nat.le_refl _, HS.out, on_alloc _ _⟩
  · have e : sparB k = [3, 1, 0, 2, 17, 3, 17] := if_neg h0
    rw [e]
    have h0' : (k == 0) = false := by simpa using h0
    have HS := Lib.hid (Box.made w 5 (cellsOf [3, 1, 0, 2, 17, 3, 17]).toArray)
    clear e
    go_enter Tryd.func33, Tryd.ntmps33
    go_wp2_with fail
    go_ret
    exact ⟨w.heap.size, rfl, Nat.le_refl _, HS.out, on_alloc _ _⟩
/-- a stream's header so far: a row of one's own -/
structure Hst (w wr : World) (gh : Nat) (W H K R : Int) (v : Value) (n : Nat) (l : List Int) : Prop where
  box : Box wr gh 33 #[.int .i64 W, .int .i64 H, .int .i64 K, .int .i64 R]
  own : wr.ownsRow w.heap.size 5 1 v n (cellsOf l)
  bel : Below w.heap.size w wr
  fit : Fit l
  few : n ≤ 1000
theorem Hst.on {w wr w' : World} {gh : Nat} {W H K R : Int} {v : Value} {n : Nat} {l : List Int} (h : Hst w wr gh W H K R v n l) (k : Below wr.heap.size wr w') : Hst w w' gh W H K R v n l :=
  ⟨h.box.on k, own_on h.own k, on_trans h.bel k, h.fit, h.few⟩
/-- the second half: the scan's segment -/
def HeadY (w : World) (l : List Int) (e : Ending) (w' : World) : Prop := TellsY w l 0 e w'
set_option maxRecDepth 10000 in
set_option maxHeartbeats 6400000 in
theorem head_any (w : World) (W H K R : Int) : Calls Tryd.prog 13 #[.agg #[.int .i64 W, .int .i64 H, .int .i64 K, .int .i64 R]] w (TellsY w (headF W H K R).1 (headF W H K R).2) := by
  obtain ⟨gh, hgh⟩ : ∃ gh, gh = w.heap.size := ⟨_, rfl⟩
  obtain ⟨w1, hw1⟩ : ∃ x, w.alloc (.cells #[.int .i64 W, .int .i64 H, .int .i64 K, .int .i64 R] 33) = x := ⟨_, rfl⟩
  have b1 : Box w1 gh 33 #[.int .i64 W, .int .i64 H, .int .i64 K, .int .i64 R] := by rw [hgh, ← hw1]; exact Box.made _ _ _
  have k1 : Below w.heap.size w w1 := by rw [← hw1]; exact on_alloc _ _
  have d0 : w1.cell? ⟨gh, 0, none⟩ = some (.int .i64 W) := b1.cell 0
  have d1 : w1.cell? ⟨gh, 1, none⟩ = some (.int .i64 H) := b1.cell 1
  have d2 : w1.cell? ⟨gh, 2, none⟩ = some (.int .i64 K) := b1.cell 2
  have d3 : w1.cell? ⟨gh, 3, none⟩ = some (.int .i64 R) := b1.cell 3
  have HR := Lib.hid (rightS_any w1 W H K R)
  have H1 := Lib.hid (And.intro hw1 (And.intro hgh (And.intro b1 k1)))
  rw [hgh] at d0 d1 d2 d3
  clear hgh hw1 b1 k1
  by_cases hr : ¬ RightS W H K R
  · have e : headF W H K R = ([], 1) := if_neg hr
    rw [e]
    go_enter Tryd.func13, Tryd.ntmps13
    go_upto_region 1 with fail
    rw [H1.out.1]
    go_wp2_with fail
    refine Calls.mono HR.out ?_
    rintro e w2 ⟨rfl, b2⟩
    rw [decide_eq_false hr]
    have H2 := Lib.hid (on_trans H1.out.2.2.2 b2)
    clear b2 hr
    go_wp2_with fail
    go_ret2
    exact ⟨none, 0, rfl, sl_nil _ _, H2.out⟩
  have hr' : RightS W H K R := by simpa using hr
  have e : headF W H K R = (headB W H K R, 0) := if_pos hr'
  rw [e]
  have hb := hr'
  unfold RightS at hb
  obtain ⟨⟨W0, W1⟩, ⟨H0', H1'⟩, ⟨K0, K1⟩, R0, R1⟩ := hb
  have Hr := Lib.hid hr'
  clear hr hr' e
  go_enter Tryd.func13, Tryd.ntmps13
  go_upto_region 1 with fail
  rw [H1.out.1]
  go_wp2_with fail
  refine Calls.mono HR.out ?_
  rintro e w2 ⟨rfl, b2⟩
  rw [decide_eq_true Hr.out]
  have bx2 := H1.out.2.2.1.on b2
  obtain ⟨w3, hw3⟩ : ∃ x, w2.alloc (.cells #[.int .u8 8] 5) = x := ⟨_, rfl⟩
  have s3 : Sl w3 (fun b => b = w2.heap.size) (some ⟨w2.heap.size, 0, none⟩) 1 1 [8] := by rw [← hw3]; exact sl_lit w2 [8] (by unfold Fit; decide) (by decide)
  have k3 : Below w2.heap.size w2 w3 := by rw [← hw3]; exact on_alloc _ _
  have bx3 := bx2.on k3
  have c1 : w3.cell? ⟨gh, 1, none⟩ = some (.int .i64 H) := bx3.cell 1
  have HP1 := Lib.hid (putBox_any w3 _ (some ⟨w2.heap.size, 0, none⟩) 1 1 [8] H 2 true s3 (by omega) (by omega) (by omega) (by decide))
  have H3 := Lib.hid (And.intro hw3 (And.intro bx3 (on_trans (on_trans H1.out.2.2.2 b2) k3)))
  rw [← H1.out.2.1] at d0 d1 d2 d3
  rw [← H1.out.2.1]
  clear b2 bx2 s3 k3 bx3 hw3 HR d0 d1 d2 d3
  go_upto_region 4 with fail
  rw [H3.out.1]
  go_wp2_with fail
  refine Calls.mono HP1.out ?_
  rintro e w4 ⟨g4, rfl, hg4, x4, k4⟩
  rw [told_be2] at x4
  have hl4 : ([8] ++ be2 H : List Int).length = 3 := rfl
  have s4 : Sl w4 (fun b => b = g4) (some ⟨g4, 0, none⟩) 3 3 ([8] ++ be2 H) := sl_of_box x4 (fit_app (by unfold Fit; decide) (fit_be2 H)) hl4 (by decide) rfl
  have bx4 := H3.out.2.1.on k4
  have c0 : w4.cell? ⟨gh, 0, none⟩ = some (.int .i64 W) := bx4.cell 0
  have HP2 := Lib.hid (putBox_any w4 _ (some ⟨g4, 0, none⟩) 3 3 ([8] ++ be2 H) W 2 true s4 (by omega) (by omega) (by omega) (by decide))
  have H4 := Lib.hid (And.intro bx4 (on_trans H3.out.2.2 k4))
  clear hg4 x4 hl4 s4 bx4 k4 HP1 c1
  go_wp2_with fail
  refine Calls.mono HP2.out ?_
  rintro e w5 ⟨g5, rfl, hg5, x5, k5⟩
  rw [told_be2] at x5
  have bx5 := H4.out.1.on k5
  obtain ⟨w6, hw6⟩ : ∃ x, w5.alloc (.cells #[.int .u8 255, .int .u8 216] 5) = x := ⟨_, rfl⟩
  have xl : Box w6 w5.heap.size 5 (cellsOf [255, 216]).toArray := by rw [← hw6]; exact Box.made _ _ _
  have k6 : Below w5.heap.size w5 w6 := by rw [← hw6]; exact on_alloc _ _
  have bx6 := bx5.on k6
  have c2 : (w5.alloc (.cells #[.int .u8 255, .int .u8 216] 5)).cell? ⟨gh, 2, none⟩ = some (.int .i64 K) := (bx5.alloc _).cell 2
  have HF := Lib.hid (frameParts_any w6 K K0 K1)
  have H6 := Lib.hid (And.intro hw6 (And.intro bx6 (And.intro xl (And.intro (x5.on k6) (And.intro (on_trans (on_trans H4.out.2 k5) k6) (And.intro (show w.heap.size ≤ g5 from Nat.le_trans (H4.out.2).size hg5) x5.lt))))))
  clear hg5 x5 k5 bx5 hw6 xl k6 bx6 HP2 c0
  go_wp2_with fail
  rw [H6.out.1]
  refine Calls.mono HF.out ?_
  rintro e w7 ⟨A7, c7, rfl, s7, k7⟩
  have H7 := Lib.hid (And.intro s7 (And.intro (H6.out.2.1.on k7) (And.intro (H6.out.2.2.1.on k7) (And.intro (H6.out.2.2.2.1.on k7) (on_trans H6.out.2.2.2.2.1 k7)))))
  obtain ⟨m7, hm7⟩ : ∃ m, m = (partsB K).length := ⟨_, rfl⟩
  have hm7b : m7 ≤ 10 := by rw [hm7]; unfold partsB; split <;> simp
  rw [← hm7] at H7 ⊢
  have Hm7 := Lib.hid hm7
  have o7 : w7.ownsRow w.heap.size 5 1 (.slice (some ⟨g5, 0, none⟩) 5 5) 5 (cellsOf ([8] ++ be2 H ++ be2 W)) := own_of_box H7.out.2.2.2.1 rfl H6.out.2.2.2.2.2.1 (by decide)
  have HO7 := Lib.hid (And.intro o7 H7.out.2.2.2.2.size)
  clear s7 k7 hm7 o7 HF c2
  go_wp2_with (first
    | ((with_reducible refine wpList_append_z (o := ⟨some 24, _, _, _, _, _⟩) rfl (.tmp 20) (.tmp 23) rfl w.heap.size (.slice (some ⟨g5, 0, none⟩) 5 5) 5 ([8] ++ be2 H ++ be2 W) rfl HO7.out.1 (fun b => w6.heap.size ≤ b) A7 m7 c7 (partsB K) rfl H7.out.1 ?hs HO7.out.2 ?_)
       case hs => omega
       intro v8 w8 hg8
       obtain ⟨A8, c8, hv8⟩ := hg8.val
       subst hv8
       have H8 := Lib.hid hg8
       clear hg8)
    | fail)
  have b8 : Below w.heap.size w w8 := H7.out.2.2.2.2.trans (H8.out.lo HO7.out.1 HO7.out.2)
  have bx8 := H8.out.box HO7.out.1 H7.out.2.1 (by decide)
  have hf8 : Fit (frameB W H K) := by rw [frameB_parts]; exact fit_app (fit_app (fit_app (by unfold Fit; decide) (fit_be2 H)) (fit_be2 W)) (partsB_fit K)
  have o8 := H8.out.own
  rw [show [8] ++ be2 H ++ be2 W ++ partsB K = frameB W H K from rfl] at o8
  obtain ⟨Ax, cx, ex, s8⟩ := sl_of_own' o8 hf8
  cases ex
  have hg5l : (Value.slice (some ⟨g5, 0, none⟩) 5 5).ownBlock ≠ some w5.heap.size := fun e => by
    have h1 : g5 = w5.heap.size := by injection e
    have := H6.out.2.2.2.2.2.2
    omega
  have xl8 : Box w8 w5.heap.size 5 (cellsOf [255, 216]).toArray := H8.out.kep.box H7.out.2.2.1 hg5l
  have ol8 : w8.ownsRow w.heap.size 5 1 (.slice (some ⟨w5.heap.size, 0, none⟩) 2 2) 2 (cellsOf [255, 216]) := own_of_box xl8 rfl (by have := H6.out.2.2.2.2.2; omega) (by decide)
  have ad := addSegment_any w8 w.heap.size (.slice (some ⟨w5.heap.size, 0, none⟩) 2 2) 2 [255, 216] ol8 b8.size (by omega) 192 (by omega) (by omega) (by unfold Fit; decide) _ A8 (5 + m7) c8 (frameB W H K) s8 (by omega) (fun i hi e => by
    have h3 : w5.heap.size = i := by injection e
    rcases H8.out.whr with e1 | e1
    · rw [e1] at hi
      have h4 : g5 = i := by injection hi
      have := H6.out.2.2.2.2.2.2
      omega
    · have h5 := e1 i hi
      have h6 := H7.out.2.2.1.lt
      omega)
  have HAd := Lib.hid ad
  have H9 := Lib.hid (And.intro b8 (And.intro bx8 (And.intro ol8 hf8)))
  clear b8 bx8 hf8 o8 s8 xl8 ol8 ad
  refine Calls.mono HAd.out ?_
  rintro e w10 ⟨v10, rfl, g10, f10⟩
  obtain ⟨A10, c10, rfl⟩ := g10.val
  obtain ⟨n10, hn10⟩ : ∃ n, n = 2 + 2 + 2 + (5 + m7) := ⟨_, rfl⟩
  rw [← hn10] at g10 f10 ⊢
  have h10 : Hst w w10 gh W H K R (.slice A10 n10 c10) n10 ([255, 216] ++ segB 192 (frameB W H K)) :=
    ⟨g10.box H9.out.2.2.1 H9.out.2.1 (by decide), g10.own, H9.out.1.trans (g10.lo H9.out.2.2.1 H9.out.1.size), fit_app (by unfold Fit; decide) (fit_seg (by omega) (by omega) H9.out.2.2.2), by omega⟩
  have c3 : w10.cell? ⟨gh, 3, none⟩ = some (.int .i64 R) := h10.box.cell 3
  have H10 := Lib.hid h10
  clear g10 f10 hn10 h10 HAd
  by_cases hR : R = 0
  · subst hR
    have hR' : ((0 : Int) != 0) = false := rfl
    go_wp2_with fail
    refine Calls.mono (scanEnd_any w10) ?_
    rintro e w11 ⟨rfl, b11⟩
    obtain ⟨gs, hgs⟩ : ∃ gs, gs = w11.heap.size := ⟨_, rfl⟩
    have hz65 : ∀ w, (zeroValue 65).run Tryd.prog w = .ok (.agg #[.int .u8 0, .int .u8 0, .int .u8 0]) w := fun w => by kernel_rfl
    obtain ⟨w12, hw12⟩ : ∃ x, w11.alloc (.cells #[.int .u8 0, .int .u8 63, .int .u8 0] 65) = x := ⟨_, rfl⟩
    have bs12 : Box w12 gs 65 #[.int .u8 0, .int .u8 63, .int .u8 0] := by rw [hgs, ← hw12]; exact Box.made _ _ _
    have k12 : Below w11.heap.size w11 w12 := by rw [← hw12]; exact on_alloc _ _
    have h12 := (H10.out.on b11).on k12
    have c12 : w12.cell? ⟨gh, 2, none⟩ = some (.int .i64 K) := h12.box.cell 2
    have HC := Lib.hid (scanPartsBox_any w12.drew K)
    obtain ⟨z, hz⟩ : ∃ z, z = (sparB K).length := ⟨_, rfl⟩
    have hz7 : z ≤ 7 := by rw [hz]; exact sparB_len K
    rw [← hz] at HC
    have H12 := Lib.hid (And.intro hw12 (And.intro hgs (And.intro bs12 (And.intro h12 hz))))
    clear b11 hgs hw12 bs12 k12 h12 hz
    go_upto_region 10 with fail
    rw [H12.out.1, ← H12.out.2.1]
    go_region_law
      (first
        | (go_simp
           go_at_call 33
           with_reducible refine Calls.mono HC.out ?_
           rintro e w13 ⟨g13, rfl, hg13, x13, k13⟩
           have h13 := (H12.out.2.2.2.1.on (on_drew w12)).on k13
           have bs13 := (H12.out.2.2.1.on (on_drew w12)).on k13
           have M13 := Lib.hid (And.intro h13 (And.intro (own_of_box (base := w.heap.size) x13 H12.out.2.2.2.2.symm (Nat.le_trans (H12.out.2.2.2.1.on (on_drew w12)).bel.size hg13) (by simp only [maxLen]; omega)) (And.intro (show Sl w13 (fun b => b = gs) (some ⟨gs, 0, none⟩) 3 3 [0, 63, 0] from ⟨⟨by unfold Fit; decide, fun _ => ⟨gs, 0, rfl, bs13.lt, rfl, fun i hi => by
             rw [Nat.zero_add, bs13.cell i]
             match i, hi with
             | 0, _ => rfl
             | 1, _ => rfl
             | 2, _ => rfl⟩⟩, rfl, by omega, by decide, fun e => by cases e⟩) (And.intro hg13 (H12.out.2.2.2.1.on (on_drew w12)).own))))
           clear h13 bs13 hg13 x13 k13)
        | ((refine step_append_z rfl (.tmp 38) (.tmp 39) rfl w.heap.size (.slice (some ⟨g13, 0, none⟩) z z) z (sparB K) rfl M13.out.2.1 (fun b => b = gs) (some ⟨gs, 0, none⟩) 3 3 [0, 63, 0] rfl M13.out.2.2.1 ?hs ?hb (some 40) rfl ?_)
           case hs => omega
           case hb => exact M13.out.1.bel.size
           intro v14 w14 hg14
           obtain ⟨A14, c14, hv14⟩ := hg14.val
           subst hv14
           have hlt : ∀ i, (Value.slice A10 n10 c10).ownBlock = some i → i < w12.drew.heap.size := fun i hi => by
             obtain ⟨_, cs, hh⟩ := own_block3 M13.out.2.2.2.2 hi
             exact (Array.getElem?_eq_some_iff.1 hh).1
           have hap : Apart (.slice (some ⟨g13, 0, none⟩) z z) (.slice A10 n10 c10) := fun i hi e => by
             have h1 : g13 = i := by injection hi
             have h2 := hlt i e
             have h3 := M13.out.2.2.2.1
             omega
           obtain ⟨o14, a14⟩ := hg14.pair M13.out.1.own hap
           have b14 : Below w.heap.size w w14 := M13.out.1.bel.trans (hg14.lo M13.out.2.1 M13.out.1.bel.size)
           have own14 := hg14.own
           rw [← scanB_parts] at own14
           have hfs : Fit (scanB K) := by rw [scanB_parts]; exact fit_app (sparB_fit K) (by unfold Fit; decide)
           obtain ⟨Ay, cy, ey, s14⟩ := sl_of_own' own14 hfs
           cases ey
           have ad := addSegment_any w14 w.heap.size (.slice A10 n10 c10) n10 ([255, 216] ++ segB 192 (frameB W H K)) o14 b14.size (by have := M13.out.1.few; omega) 218 (by omega) (by omega) M13.out.1.fit _ A14 (z + 3) c14 (scanB K) s14 (by omega) (fun i hi e => a14 i hi e)
           have M14 := Lib.hid (And.intro ad (And.intro o14 (And.intro b14 hfs)))
           clear hg14 hlt hap a14 own14 s14 ad o14 b14 hfs)
        | (go_simp
           go_at_call 25
           with_reducible refine Calls.mono M14.out.1 ?_
           rintro e w15 ⟨v15, rfl, g15, _⟩
           obtain ⟨A15, c15, rfl⟩ := g15.val
           have M15 := Lib.hid g15
           clear g15))
    all_goals
      go_wp2_with fail
      go_ret2
      obtain ⟨Af, cf, ef, sf⟩ := sl_of_own M15.out.own (fit_app M13.out.1.fit (fit_seg (by omega) (by omega) M14.out.2.2.2))
      cases ef
      have hll := own_len M15.out.own
      have eqb : ([255, 216] ++ segB 192 (frameB W H K)) ++ segB 218 (scanB K) = headB W H K 0 := by unfold headB; rw [if_neg (by omega)]; simp
      rw [eqb] at sf hll
      refine ⟨A15, c15, by rw [hll]; rfl, by rw [hll]; exact sf, M14.out.2.2.1.trans (M15.out.lo M14.out.2.1 M14.out.2.2.1.size)⟩
  · have hR' : (R != 0) = true := by simpa using hR
    have s0 : Sl w10 (fun _ => False) none 0 0 [] := sl_nil _ _
    have HP := Lib.hid (putBox_any w10 _ none 0 0 [] R 2 true s0 (by omega) (by omega) (by omega) (by decide))
    clear s0
    go_wp2_with fail
    refine Calls.mono HP.out ?_
    rintro e w11b ⟨g11, rfl, hg11, x11, k11⟩
    rw [told_be2, List.nil_append] at x11
    have h11 := H10.out.on k11
    have s11 : Sl w11b (fun b => b = g11) (some ⟨g11, 0, none⟩) 2 2 (be2 R) := sl_of_box x11 (fit_be2 R) rfl (by decide) rfl
    have hltb : ∀ i, (Value.slice A10 n10 c10).ownBlock = some i → i < w10.heap.size := fun i hi => by
      obtain ⟨_, cs, hh⟩ := own_block3 H10.out.own hi
      exact (Array.getElem?_eq_some_iff.1 hh).1
    have ad := addSegment_any w11b w.heap.size (.slice A10 n10 c10) n10 _ h11.own h11.bel.size (by have := h11.few; omega) 221 (by omega) (by omega) h11.fit _ (some ⟨g11, 0, none⟩) 2 2 (be2 R) s11 (by omega) (fun i hi e => by
      have h1 : i = g11 := hi
      have := hltb i e
      omega)
    have HAd2 := Lib.hid ad
    have H11 := Lib.hid h11
    clear hg11 x11 k11 h11 s11 hltb ad HP
    go_wp2_with fail
    refine Calls.mono HAd2.out ?_
    rintro e w14b ⟨v14b, rfl, g14b, f14b⟩
    obtain ⟨A14b, c14b, rfl⟩ := g14b.val
    obtain ⟨n14, hn14⟩ : ∃ n, n = n10 + 2 + 2 + 2 := ⟨_, rfl⟩
    have hfw : n10 ≤ 30 := by have := own_len H10.out.own; rw [← this]; simp [segB, be2, frameB]; split <;> simp
    rw [← hn14] at g14b ⊢
    have H14 := Lib.hid (show Hst w w14b gh W H K R (.slice A14b n14 c14b) n14 ([255, 216] ++ segB 192 (frameB W H K) ++ segB 221 (be2 R)) from
      ⟨g14b.box H11.out.own H11.out.box (by decide), g14b.own, H11.out.bel.trans (g14b.lo H11.out.own H11.out.bel.size), fit_app H11.out.fit (fit_seg (by omega) (by omega) (fit_be2 R)), by omega⟩)
    clear g14b f14b hn14 HAd2 c3 hfw
    go_wp2_with fail
    refine Calls.mono (scanEnd_any w14b) ?_
    rintro e w11 ⟨rfl, b11⟩
    obtain ⟨gs, hgs⟩ : ∃ gs, gs = w11.heap.size := ⟨_, rfl⟩
    have hz65 : ∀ w, (zeroValue 65).run Tryd.prog w = .ok (.agg #[.int .u8 0, .int .u8 0, .int .u8 0]) w := fun w => by kernel_rfl
    obtain ⟨w12, hw12⟩ : ∃ x, w11.alloc (.cells #[.int .u8 0, .int .u8 63, .int .u8 0] 65) = x := ⟨_, rfl⟩
    have bs12 : Box w12 gs 65 #[.int .u8 0, .int .u8 63, .int .u8 0] := by rw [hgs, ← hw12]; exact Box.made _ _ _
    have k12 : Below w11.heap.size w11 w12 := by rw [← hw12]; exact on_alloc _ _
    have h12 := (H14.out.on b11).on k12
    have c12 : w12.cell? ⟨gh, 2, none⟩ = some (.int .i64 K) := h12.box.cell 2
    have HC := Lib.hid (scanPartsBox_any w12.drew K)
    obtain ⟨z, hz⟩ : ∃ z, z = (sparB K).length := ⟨_, rfl⟩
    have hz7 : z ≤ 7 := by rw [hz]; exact sparB_len K
    rw [← hz] at HC
    have H12 := Lib.hid (And.intro hw12 (And.intro hgs (And.intro bs12 (And.intro h12 hz))))
    clear b11 hgs hw12 bs12 k12 h12 hz
    go_upto_region 10 with fail
    rw [H12.out.1, ← H12.out.2.1]
    go_region_law
      (first
        | (go_simp
           go_at_call 33
           with_reducible refine Calls.mono HC.out ?_
           rintro e w13 ⟨g13, rfl, hg13, x13, k13⟩
           have h13 := (H12.out.2.2.2.1.on (on_drew w12)).on k13
           have bs13 := (H12.out.2.2.1.on (on_drew w12)).on k13
           have M13 := Lib.hid (And.intro h13 (And.intro (own_of_box (base := w.heap.size) x13 H12.out.2.2.2.2.symm (Nat.le_trans (H12.out.2.2.2.1.on (on_drew w12)).bel.size hg13) (by simp only [maxLen]; omega)) (And.intro (show Sl w13 (fun b => b = gs) (some ⟨gs, 0, none⟩) 3 3 [0, 63, 0] from ⟨⟨by unfold Fit; decide, fun _ => ⟨gs, 0, rfl, bs13.lt, rfl, fun i hi => by
             rw [Nat.zero_add, bs13.cell i]
             match i, hi with
             | 0, _ => rfl
             | 1, _ => rfl
             | 2, _ => rfl⟩⟩, rfl, by omega, by decide, fun e => by cases e⟩) (And.intro hg13 (H12.out.2.2.2.1.on (on_drew w12)).own))))
           clear h13 bs13 hg13 x13 k13)
        | ((refine step_append_z rfl (.tmp 38) (.tmp 39) rfl w.heap.size (.slice (some ⟨g13, 0, none⟩) z z) z (sparB K) rfl M13.out.2.1 (fun b => b = gs) (some ⟨gs, 0, none⟩) 3 3 [0, 63, 0] rfl M13.out.2.2.1 ?hs ?hb (some 40) rfl ?_)
           case hs => omega
           case hb => exact M13.out.1.bel.size
           intro v14 w14 hg14
           obtain ⟨A14, c14, hv14⟩ := hg14.val
           subst hv14
           have hlt : ∀ i, (Value.slice A14b n14 c14b).ownBlock = some i → i < w12.drew.heap.size := fun i hi => by
             obtain ⟨_, cs, hh⟩ := own_block3 M13.out.2.2.2.2 hi
             exact (Array.getElem?_eq_some_iff.1 hh).1
           have hap : Apart (.slice (some ⟨g13, 0, none⟩) z z) (.slice A14b n14 c14b) := fun i hi e => by
             have h1 : g13 = i := by injection hi
             have h2 := hlt i e
             have h3 := M13.out.2.2.2.1
             omega
           obtain ⟨o14, a14⟩ := hg14.pair M13.out.1.own hap
           have b14 : Below w.heap.size w w14 := M13.out.1.bel.trans (hg14.lo M13.out.2.1 M13.out.1.bel.size)
           have own14 := hg14.own
           rw [← scanB_parts] at own14
           have hfs : Fit (scanB K) := by rw [scanB_parts]; exact fit_app (sparB_fit K) (by unfold Fit; decide)
           obtain ⟨Ay, cy, ey, s14⟩ := sl_of_own' own14 hfs
           cases ey
           have ad := addSegment_any w14 w.heap.size (.slice A14b n14 c14b) n14 ([255, 216] ++ segB 192 (frameB W H K) ++ segB 221 (be2 R)) o14 b14.size (by have := M13.out.1.few; omega) 218 (by omega) (by omega) M13.out.1.fit _ A14 (z + 3) c14 (scanB K) s14 (by omega) (fun i hi e => a14 i hi e)
           have M14 := Lib.hid (And.intro ad (And.intro o14 (And.intro b14 hfs)))
           clear hg14 hlt hap a14 own14 s14 ad o14 b14 hfs)
        | (go_simp
           go_at_call 25
           with_reducible refine Calls.mono M14.out.1 ?_
           rintro e w15 ⟨v15, rfl, g15, _⟩
           obtain ⟨A15, c15, rfl⟩ := g15.val
           have M15 := Lib.hid g15
           clear g15))
    all_goals
      go_wp2_with fail
      go_ret2
      obtain ⟨Af, cf, ef, sf⟩ := sl_of_own M15.out.own (fit_app M13.out.1.fit (fit_seg (by omega) (by omega) M14.out.2.2.2))
      cases ef
      have hll := own_len M15.out.own
      have eqb : ([255, 216] ++ segB 192 (frameB W H K) ++ segB 221 (be2 R)) ++ segB 218 (scanB K) = headB W H K R := by unfold headB; rw [if_pos (by omega)]
      rw [eqb] at sf hll
      refine ⟨A15, c15, by rw [hll]; rfl, by rw [hll]; exact sf, M14.out.2.2.1.trans (M15.out.lo M14.out.2.1 M14.out.2.2.1.size)⟩
end Go.Proofs.YtgipngedmblnmaaDoor
