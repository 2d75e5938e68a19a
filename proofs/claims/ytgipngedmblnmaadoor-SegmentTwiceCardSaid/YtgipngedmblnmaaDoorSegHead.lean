/-
  The contracts of the reference's Right and Head. The contract of the reference's Head. The contract of the reference's Head, whatever it is asked.
-/
import Derived.Test.YtgipngedmblnmaaDoorSegPut
namespace Go.Proofs.YtgipngedmblnmaaDoor
open Go.RowKit

set_option maxHeartbeats 1600000 in
theorem refRightS_any (w : World) (W H K R : Int) : Calls Tryd.prog 16 #[.agg #[.int .i64 W, .int .i64 H, .int .i64 K, .int .i64 R]] w fun e w' => e = .returned (.bool (decide (RightS W H K R))) ∧ Below w.heap.size w w' := by
  by_cases hr : RightS W H K R
  · have E := Lib.hid (decide_eq_true hr)
    obtain ⟨⟨a, b⟩, ⟨c, d⟩, ⟨e, f⟩, g, h⟩ := hr
    go_enter Tryd.func16, Tryd.ntmps16
    go_wp2_with fail
    go_ret
    exact ⟨by rw [E.out]; rfl, on_alloc _ _⟩
  · have E := Lib.hid (decide_eq_false hr)
    have hc : W < 1 ∨ (1 ≤ W ∧ 128 < W) ∨ (1 ≤ W ∧ W ≤ 128 ∧ H < 1) ∨ (1 ≤ W ∧ W ≤ 128 ∧ 1 ≤ H ∧ 128 < H) ∨ (1 ≤ W ∧ W ≤ 128 ∧ 1 ≤ H ∧ H ≤ 128 ∧ K < 0) ∨ (1 ≤ W ∧ W ≤ 128 ∧ 1 ≤ H ∧ H ≤ 128 ∧ 0 ≤ K ∧ 3 < K) ∨
      (1 ≤ W ∧ W ≤ 128 ∧ 1 ≤ H ∧ H ≤ 128 ∧ 0 ≤ K ∧ K ≤ 3 ∧ R < 0) ∨ (1 ≤ W ∧ W ≤ 128 ∧ 1 ≤ H ∧ H ≤ 128 ∧ 0 ≤ K ∧ K ≤ 3 ∧ 0 ≤ R ∧ 65535 < R) := by unfold RightS at hr; omega
    clear hr
    rcases hc with a | ⟨a, b⟩ | ⟨a, b, c⟩ | ⟨a, b, c, d⟩ | ⟨a, b, c, d, e⟩ | ⟨a, b, c, d, e, f⟩ | ⟨a, b, c, d, e, f, g⟩ | ⟨a, b, c, d, e, f, g, h⟩
    case inr.inr.inr.inr.inr.inr.inr =>
      have D := Lib.hid (decide_eq_false (show ¬ R ≤ 65535 by omega))
      go_enter Tryd.func16, Tryd.ntmps16
      go_wp2_with fail
      go_ret
      exact ⟨by rw [E.out, ← D.out]; rfl, on_alloc _ _⟩
    all_goals
      go_enter Tryd.func16, Tryd.ntmps16
      go_wp2_with fail
      go_ret
      exact ⟨by rw [E.out]; rfl, on_alloc _ _⟩
/-- bytes and no error -/
def TellsY (w : World) (l : List Int) (f : Int) (e : Ending) (w' : World) : Prop := ∃ A c, e = .returned (.tuple #[.slice A l.length c, .int .i64 f]) ∧ Sl w' (fun b => w.heap.size ≤ b) A l.length c l ∧ Below w.heap.size w w'
theorem sl_lit (w : World) (l : List Int) (hf : Fit l) (hm : l.length ≤ maxLen) : Sl (w.alloc (.cells (cellsOf l).toArray 5)) (fun b => b = w.heap.size) (some ⟨w.heap.size, 0, none⟩) l.length l.length l :=
  sl_of_box (l := l) (K := fun b => b = w.heap.size) (Box.made w 5 (cellsOf l).toArray) hf rfl hm rfl
theorem fit_seg {m : Int} {b : List Int} (h0 : 0 ≤ m) (h1 : m ≤ 255) (hb : Fit b) : Fit (segB m b) := fit_app (fit_app (fun z hz => by simp at hz; omega) (fit_be2 _)) hb
theorem Row.sl {w wr : World} {A : Option Addr} {n c : Nat} {l : List Int} (h : Row w wr (.slice A n c) n l) (hf : Fit l) : Sl wr (fun b => w.heap.size ≤ b) A n c l := by
  obtain ⟨A', c', e, hs⟩ := sl_of_own h.own hf
  cases e
  exact hs
end Go.Proofs.YtgipngedmblnmaaDoor

namespace Go.Proofs.YtgipngedmblnmaaDoor
open Go.RowKit

set_option maxRecDepth 10000 in
set_option maxHeartbeats 3200000 in
theorem head_0_1 (w0 : World) (W H R : Int) (hr : RightS W H 0 R) (hR : 0 < R) : Calls Tryd.prog 14 #[.agg #[.int .i64 W, .int .i64 H, .int .i64 0, .int .i64 R]] w0 (TellsY w0 (headB W H 0 R) 0) := by
  obtain ⟨w1, hw1⟩ : ∃ w1, w0.alloc (.cells #[.int .i64 W, .int .i64 H, .int .i64 0, .int .i64 R] 33) = w1 := ⟨_, rfl⟩
  have b1 : Box w1 w0.heap.size 33 #[.int .i64 W, .int .i64 H, .int .i64 0, .int .i64 R] := by rw [← hw1]; exact Box.made _ _ _
  have k1 : Below w0.heap.size w0 w1 := by rw [← hw1]; exact on_alloc _ _
  have HR := Lib.hid (refRightS_any w1 W H 0 R)
  rw [decide_eq_true hr] at HR
  have HW := Lib.hid (And.intro hw1 (And.intro k1 b1))
  obtain ⟨⟨W0, W1⟩, ⟨H0, H1⟩, _, R0, R1⟩ := hr
  clear hw1 k1 b1
  go_enter Tryd.func14, Tryd.ntmps14
  go_wp2_with fail
  rw [HW.out.1]
  refine Calls.mono HR.out ?_
  rintro e w2 ⟨rfl, b2⟩
  have H2 := Lib.hid b2
  have B2 := Lib.hid (HW.out.2.2.on b2)
  clear b2
  obtain ⟨w3, hw3⟩ : ∃ w3, w2.alloc (.cells #[.int .u8 8] 5) = w3 := ⟨_, rfl⟩
  have R3 := Lib.hid (show Row w2 w3 (.slice (some ⟨w2.heap.size, 0, none⟩) 1 1) 1 [8] by rw [← hw3]; exact row_lit w2 [8] (show 1 ≤ maxLen by decide))
  have HT := Lib.hid (told2_any w3 H (by omega) (by omega))
  have HW3 := Lib.hid hw3
  have c1 : (w2.alloc (.cells #[.int .u8 8] 5)).cell? ⟨w0.heap.size, 1, none⟩ = some (.int .i64 H) := by rw [hw3]; exact (B2.out.on R3.out.bel).cell 1
  clear hw3
  go_wp2_with fail
  rw [HW3.out]
  refine Calls.mono HT.out ?_
  rintro e w4 ⟨A4, c4, rfl, s4, b4⟩
  have S4 := Lib.hid s4
  have R4 := Lib.hid (R3.out.on b4)
  clear s4 b4 c1
  go_wp2_with (first
    | ((with_reducible refine wpList_append_y (o := ⟨some 15, _, _, _, _, _⟩) rfl (.tmp 11) (.tmp 14) rfl _ (.slice (some ⟨w2.heap.size, 0, none⟩) 1 1) 1 [8] rfl R4.out.own _ A4 2 c4 (be2 H) rfl S4.out ?hs ?hb ?_)
       case hs => omega
       case hb => exact R4.out.bel.size
       intro v7 w7 hown7 bq
       obtain ⟨A5, c5, hv7⟩ := own_slice hown7
       subst hv7
       have R5 := Lib.hid (bq.row R4.out hown7)
       have K5 := Lib.hid bq
       obtain ⟨w5, hw5⟩ : ∃ w5, w5 = w7 := ⟨_, rfl⟩
       subst hw5
       clear hown7 bq)
    | (refine wpList_load_to (op := ⟨some 18, _, _, _, _, _⟩) rfl 3 (.tmp 17) rfl (.pointer (some ⟨w0.heap.size, 0, none⟩)) rfl (.int .i64 W) ?ld ?_
       case ld =>
         have c : w5.cell? ⟨w0.heap.size, 0, none⟩ = some (.int .i64 W) := (B2.out.on R5.out.bel).cell 0
         go_simp)
    | fail)
  have HT6 := Lib.hid (told2_any w5 W (by omega) (by omega))
  refine Calls.mono HT6.out ?_
  rintro e w6 ⟨A6, c6, rfl, s6, b6⟩
  have S6 := Lib.hid s6
  have R6 := Lib.hid (R5.out.on b6)
  clear s6 b6
  go_wp2_with (first
    | ((with_reducible refine wpList_append_y (o := ⟨some 20, _, _, _, _, _⟩) rfl (.tmp 16) (.tmp 19) rfl _ (.slice A5 3 c5) 3 ([8] ++ be2 H) rfl R6.out.own _ A6 2 c6 (be2 W) rfl S6.out ?hs ?hb ?_)
       case hs => omega
       case hb => exact R6.out.bel.size
       intro v7 wq hown7 bq
       obtain ⟨A7, c7, hv7⟩ := own_slice hown7
       subst hv7
       have R7 := Lib.hid (bq.row R6.out hown7)
       have K7 := Lib.hid bq
       obtain ⟨w7, hw7⟩ : ∃ w7, w7 = wq := ⟨_, rfl⟩
       subst hw7
       clear hown7 bq
       have cK : (w7.alloc (.cells #[.int .u8 3, .int .u8 1, .int .u8 0, .int .u8 2, .int .u8 17, .int .u8 3, .int .u8 17, .int .u8 0, .int .u8 63, .int .u8 0] 5)).cell? ⟨w0.heap.size, 2, none⟩ = some (.int .i64 0) := (B2.out.on (on_trans R7.out.bel (on_alloc _ _))).cell 2
       have R9 := Lib.hid (show Row w2 ((w7.alloc (.cells #[.int .u8 3, .int .u8 1, .int .u8 0, .int .u8 2, .int .u8 17, .int .u8 3, .int .u8 17, .int .u8 0, .int .u8 63, .int .u8 0] 5)).alloc (.cells #[.int .u8 1, .int .u8 1, .int .u8 17, .int .u8 0] 5)) (.slice A7 5 c7) 5 ([8] ++ be2 H ++ be2 W) from R7.out.on (on_trans (on_alloc _ _) (on_alloc _ _)))
       have S9 := Lib.hid (show Sl ((w7.alloc (.cells #[.int .u8 3, .int .u8 1, .int .u8 0, .int .u8 2, .int .u8 17, .int .u8 3, .int .u8 17, .int .u8 0, .int .u8 63, .int .u8 0] 5)).alloc (.cells #[.int .u8 1, .int .u8 1, .int .u8 17, .int .u8 0] 5)) (fun _ => True) (some ⟨w7.heap.size + 1, 0, none⟩) 4 4 [1, 1, 17, 0] by
         have h := sl_lit (w7.alloc (.cells #[.int .u8 3, .int .u8 1, .int .u8 0, .int .u8 2, .int .u8 17, .int .u8 3, .int .u8 17, .int .u8 0, .int .u8 63, .int .u8 0] 5)) [1, 1, 17, 0] (by unfold Fit; decide) (show 4 ≤ maxLen by decide)
         rw [show (w7.alloc (.cells #[.int .u8 3, .int .u8 1, .int .u8 0, .int .u8 2, .int .u8 17, .int .u8 3, .int .u8 17, .int .u8 0, .int .u8 63, .int .u8 0] 5)).heap.size = w7.heap.size + 1 by simp] at h
         exact h.mono' (fun _ _ => trivial)))
    | ((with_reducible refine wpList_append_y (o := ⟨some 27, _, _, _, _, _⟩) rfl (.tmp 25) (.tmp 26) rfl _ (.slice A7 5 c7) 5 ([8] ++ be2 H ++ be2 W) rfl R9.out.own _ (some ⟨w7.heap.size + 1, 0, none⟩) 4 4 [1, 1, 17, 0] rfl S9.out ?hs ?hb ?_)
       case hs => omega
       case hb => exact R9.out.bel.size
       intro v7 wq hown7 bq
       obtain ⟨A10, c10, hv7⟩ := own_slice hown7
       subst hv7
       have R10 := Lib.hid (bq.row R9.out hown7)
       have K10 := Lib.hid bq
       obtain ⟨w10, hw10⟩ : ∃ w10, w10 = wq := ⟨_, rfl⟩
       subst hw10
       clear hown7 bq)
    | fail)
  obtain ⟨w11, hw11⟩ : ∃ w11, w10.alloc (.cells #[.int .u8 1, .int .u8 1, .int .u8 0, .int .u8 0, .int .u8 63, .int .u8 0] 5) = w11 := ⟨_, rfl⟩
  have k11 : Below w10.heap.size w10 w11 := by rw [← hw11]; exact on_alloc _ _
  have SS := Lib.hid (show Sl w11 (fun _ => True) (some ⟨w10.heap.size, 0, none⟩) 6 6 [1, 1, 0, 0, 63, 0] by rw [← hw11]; exact (sl_lit w10 [1, 1, 0, 0, 63, 0] (by unfold Fit; decide) (show 6 ≤ maxLen by decide)).mono' (fun _ _ => trivial))
  obtain ⟨w12, hw12⟩ : ∃ w12, w11.alloc (.cells #[.int .u8 255, .int .u8 216] 5) = w12 := ⟨_, rfl⟩
  have hs11 : w11.heap.size = w10.heap.size + 1 := by rw [← hw11]; simp
  have r12 : Row w11 w12 (.slice (some ⟨w10.heap.size + 1, 0, none⟩) 2 2) 2 [255, 216] := by rw [← hw12, ← hs11]; exact row_lit w11 [255, 216] (show 2 ≤ maxLen by decide)
  rw [hw11, hw12]
  have R12 := Lib.hid r12
  have F10 := Lib.hid (show Row w2 w10 (.slice A10 9 c10) 9 ([8] ++ be2 H ++ be2 W ++ [1, 1, 17, 0]) from R10.out)
  have HP := Lib.hid (put_any w12 _ 192 A10 9 c10 ([8] ++ be2 H ++ be2 W ++ [1, 1, 17, 0]) (((F10.out.sl (fit_app (fit_app (fit_app (by unfold Fit; decide) (fit_be2 H)) (fit_be2 W)) (by unfold Fit; decide))).on k11).on r12.bel) (by omega) (by omega) (by omega))
  have HK := Lib.hid (And.intro k11 R10.out.bel)
  clear k11 r12 hw11 hw12 hs11
  refine Calls.mono HP.out ?_
  rintro e w13 ⟨A13, c13, rfl, s13, b13⟩
  have S13 := Lib.hid s13
  have R13 := Lib.hid (R12.out.on b13)
  clear s13 b13
  go_wp2_with (first
    | ((with_reducible refine wpList_append_y (o := ⟨some 41, _, _, _, _, _⟩) rfl (.tmp 38) (.tmp 40) rfl _ (.slice (some ⟨w10.heap.size + 1, 0, none⟩) 2 2) 2 [255, 216] rfl R13.out.own _ A13 13 c13 (segB 192 ([8] ++ be2 H ++ be2 W ++ [1, 1, 17, 0])) rfl S13.out ?hs ?hb ?_)
       case hs => omega
       case hb => exact R13.out.bel.size
       intro v7 wq hown7 bq
       obtain ⟨A14, c14, hv7⟩ := own_slice hown7
       subst hv7
       have R14 := Lib.hid (bq.row R13.out hown7)
       have K14 := Lib.hid bq
       obtain ⟨w14, hw14⟩ : ∃ w14, w14 = wq := ⟨_, rfl⟩
       subst hw14
       clear hown7 bq
       have cR : w14.cell? ⟨w0.heap.size, 3, none⟩ = some (.int .i64 R) := (((B2.out.on HK.out.2).on HK.out.1).on R14.out.bel).cell 3)
    | fail)
  have HT15 := Lib.hid (told2_any w14 R (by omega) (by omega))
  refine Calls.mono HT15.out ?_
  rintro e w15 ⟨A15, c15, rfl, s15, b15⟩
  have HP16 := Lib.hid (put_any w15 _ 221 A15 2 c15 (be2 R) s15 (by omega) (by omega) (by omega))
  have R15 := Lib.hid (R14.out.on b15)
  clear s15 b15 cR
  go_wp2_with fail
  refine Calls.mono HP16.out ?_
  rintro e w16 ⟨A16, c16, rfl, s16, b16⟩
  have S16 := Lib.hid s16
  have R16 := Lib.hid (R15.out.on b16)
  clear s16 b16
  go_wp2_with (first
    | ((with_reducible refine wpList_append_y (o := ⟨some 50, _, _, _, _, _⟩) rfl (.tmp 45) (.tmp 49) rfl _ (.slice A14 15 c14) 15 ([255, 216] ++ segB 192 ([8] ++ be2 H ++ be2 W ++ [1, 1, 17, 0])) rfl R16.out.own _ A16 6 c16 (segB 221 (be2 R)) rfl S16.out ?hs ?hb ?_)
       case hs => omega
       case hb => exact R16.out.bel.size
       intro v7 wq hown7 bq
       obtain ⟨A17, c17, hv7⟩ := own_slice hown7
       subst hv7
       have R17 := Lib.hid (bq.row R16.out hown7)
       have K17 := Lib.hid bq
       obtain ⟨w17, hw17⟩ : ∃ w17, w17 = wq := ⟨_, rfl⟩
       subst hw17
       clear hown7 bq)
    | fail)
  have HP18 := Lib.hid (put_any w17 _ 218 (some ⟨w10.heap.size, 0, none⟩) 6 6 [1, 1, 0, 0, 63, 0] (SS.out.on R17.out.bel) (by omega) (by omega) (by omega))
  refine Calls.mono HP18.out ?_
  rintro e w18 ⟨A18, c18, rfl, s18, b18⟩
  have S18 := Lib.hid s18
  have R18 := Lib.hid (R17.out.on b18)
  clear s18 b18
  go_wp2_with (first
    | ((with_reducible refine wpList_append_y (o := ⟨some 54, _, _, _, _, _⟩) rfl (.tmp 51) (.tmp 53) rfl _ (.slice A17 21 c17) 21 (([255, 216] ++ segB 192 ([8] ++ be2 H ++ be2 W ++ [1, 1, 17, 0])) ++ segB 221 (be2 R)) rfl R18.out.own _ A18 10 c18 (segB 218 [1, 1, 0, 0, 63, 0]) rfl S18.out ?hs ?hb ?_)
       case hs => omega
       case hb => exact R18.out.bel.size
       intro v7 wq hown7 bq
       obtain ⟨A19, c19, hv7⟩ := own_slice hown7
       subst hv7
       have R19 := Lib.hid (bq.row R18.out hown7)
       have K19 := Lib.hid bq
       obtain ⟨w19, hw19⟩ : ∃ w19, w19 = wq := ⟨_, rfl⟩
       subst hw19
       clear hown7 bq)
    | fail)
  have el : headB W H 0 R = (([255, 216] ++ segB 192 ([8] ++ be2 H ++ be2 W ++ [1, 1, 17, 0])) ++ segB 221 (be2 R)) ++ segB 218 [1, 1, 0, 0, 63, 0] := by
    unfold headB
    rw [if_pos hR]
    rfl
  have hf : Fit ((([255, 216] ++ segB 192 ([8] ++ be2 H ++ be2 W ++ [1, 1, 17, 0])) ++ segB 221 (be2 R)) ++ segB 218 [1, 1, 0, 0, 63, 0]) := fit_app (fit_app (fit_app (by unfold Fit; decide) (fit_seg (by omega) (by omega) (fit_app (fit_app (fit_app (by unfold Fit; decide) (fit_be2 H)) (fit_be2 W)) (by unfold Fit; decide)))) (fit_seg (by omega) (by omega) (fit_be2 R))) (fit_seg (by omega) (by omega) (by unfold Fit; decide))
  have hl := R19.out.len
  have hs := R19.out.sl hf
  rw [← el] at hl hs
  have HE := Lib.hid (And.intro hl hs)
  clear el hf hl hs
  go_ret2
  unfold TellsY
  rw [HE.out.1]
  have kb := on_trans (on_trans HW.out.2.1 H2.out) (on_trans HK.out.2 HK.out.1)
  exact ⟨A19, c19, rfl, HE.out.2.mono' (fun b h => Nat.le_trans kb.size h), on_trans kb R19.out.bel⟩

set_option maxRecDepth 10000 in
set_option maxHeartbeats 3200000 in
theorem head_0_0 (w0 : World) (W H : Int) (hr : RightS W H 0 0) : Calls Tryd.prog 14 #[.agg #[.int .i64 W, .int .i64 H, .int .i64 0, .int .i64 0]] w0 (TellsY w0 (headB W H 0 0) 0) := by
  obtain ⟨w1, hw1⟩ : ∃ w1, w0.alloc (.cells #[.int .i64 W, .int .i64 H, .int .i64 0, .int .i64 0] 33) = w1 := ⟨_, rfl⟩
  have b1 : Box w1 w0.heap.size 33 #[.int .i64 W, .int .i64 H, .int .i64 0, .int .i64 0] := by rw [← hw1]; exact Box.made _ _ _
  have k1 : Below w0.heap.size w0 w1 := by rw [← hw1]; exact on_alloc _ _
  have HR := Lib.hid (refRightS_any w1 W H 0 0)
  rw [decide_eq_true hr] at HR
  have HW := Lib.hid (And.intro hw1 (And.intro k1 b1))
  obtain ⟨⟨W0, W1⟩, ⟨H0, H1⟩, _, R0, R1⟩ := hr
  clear hw1 k1 b1
  go_enter Tryd.func14, Tryd.ntmps14
  go_wp2_with fail
  rw [HW.out.1]
  refine Calls.mono HR.out ?_
  rintro e w2 ⟨rfl, b2⟩
  have H2 := Lib.hid b2
  have B2 := Lib.hid (HW.out.2.2.on b2)
  clear b2
  obtain ⟨w3, hw3⟩ : ∃ w3, w2.alloc (.cells #[.int .u8 8] 5) = w3 := ⟨_, rfl⟩
  have R3 := Lib.hid (show Row w2 w3 (.slice (some ⟨w2.heap.size, 0, none⟩) 1 1) 1 [8] by rw [← hw3]; exact row_lit w2 [8] (show 1 ≤ maxLen by decide))
  have HT := Lib.hid (told2_any w3 H (by omega) (by omega))
  have HW3 := Lib.hid hw3
  have c1 : (w2.alloc (.cells #[.int .u8 8] 5)).cell? ⟨w0.heap.size, 1, none⟩ = some (.int .i64 H) := by rw [hw3]; exact (B2.out.on R3.out.bel).cell 1
  clear hw3
  go_wp2_with fail
  rw [HW3.out]
  refine Calls.mono HT.out ?_
  rintro e w4 ⟨A4, c4, rfl, s4, b4⟩
  have S4 := Lib.hid s4
  have R4 := Lib.hid (R3.out.on b4)
  clear s4 b4 c1
  go_wp2_with (first
    | ((with_reducible refine wpList_append_y (o := ⟨some 15, _, _, _, _, _⟩) rfl (.tmp 11) (.tmp 14) rfl _ (.slice (some ⟨w2.heap.size, 0, none⟩) 1 1) 1 [8] rfl R4.out.own _ A4 2 c4 (be2 H) rfl S4.out ?hs ?hb ?_)
       case hs => omega
       case hb => exact R4.out.bel.size
       intro v7 w7 hown7 bq
       obtain ⟨A5, c5, hv7⟩ := own_slice hown7
       subst hv7
       have R5 := Lib.hid (bq.row R4.out hown7)
       have K5 := Lib.hid bq
       obtain ⟨w5, hw5⟩ : ∃ w5, w5 = w7 := ⟨_, rfl⟩
       subst hw5
       clear hown7 bq)
    | (refine wpList_load_to (op := ⟨some 18, _, _, _, _, _⟩) rfl 3 (.tmp 17) rfl (.pointer (some ⟨w0.heap.size, 0, none⟩)) rfl (.int .i64 W) ?ld ?_
       case ld =>
         have c : w5.cell? ⟨w0.heap.size, 0, none⟩ = some (.int .i64 W) := (B2.out.on R5.out.bel).cell 0
         go_simp)
    | fail)
  have HT6 := Lib.hid (told2_any w5 W (by omega) (by omega))
  refine Calls.mono HT6.out ?_
  rintro e w6 ⟨A6, c6, rfl, s6, b6⟩
  have S6 := Lib.hid s6
  have R6 := Lib.hid (R5.out.on b6)
  clear s6 b6
  go_wp2_with (first
    | ((with_reducible refine wpList_append_y (o := ⟨some 20, _, _, _, _, _⟩) rfl (.tmp 16) (.tmp 19) rfl _ (.slice A5 3 c5) 3 ([8] ++ be2 H) rfl R6.out.own _ A6 2 c6 (be2 W) rfl S6.out ?hs ?hb ?_)
       case hs => omega
       case hb => exact R6.out.bel.size
       intro v7 wq hown7 bq
       obtain ⟨A7, c7, hv7⟩ := own_slice hown7
       subst hv7
       have R7 := Lib.hid (bq.row R6.out hown7)
       have K7 := Lib.hid bq
       obtain ⟨w7, hw7⟩ : ∃ w7, w7 = wq := ⟨_, rfl⟩
       subst hw7
       clear hown7 bq
       have cK : (w7.alloc (.cells #[.int .u8 3, .int .u8 1, .int .u8 0, .int .u8 2, .int .u8 17, .int .u8 3, .int .u8 17, .int .u8 0, .int .u8 63, .int .u8 0] 5)).cell? ⟨w0.heap.size, 2, none⟩ = some (.int .i64 0) := (B2.out.on (on_trans R7.out.bel (on_alloc _ _))).cell 2
       have R9 := Lib.hid (show Row w2 ((w7.alloc (.cells #[.int .u8 3, .int .u8 1, .int .u8 0, .int .u8 2, .int .u8 17, .int .u8 3, .int .u8 17, .int .u8 0, .int .u8 63, .int .u8 0] 5)).alloc (.cells #[.int .u8 1, .int .u8 1, .int .u8 17, .int .u8 0] 5)) (.slice A7 5 c7) 5 ([8] ++ be2 H ++ be2 W) from R7.out.on (on_trans (on_alloc _ _) (on_alloc _ _)))
       have S9 := Lib.hid (show Sl ((w7.alloc (.cells #[.int .u8 3, .int .u8 1, .int .u8 0, .int .u8 2, .int .u8 17, .int .u8 3, .int .u8 17, .int .u8 0, .int .u8 63, .int .u8 0] 5)).alloc (.cells #[.int .u8 1, .int .u8 1, .int .u8 17, .int .u8 0] 5)) (fun _ => True) (some ⟨w7.heap.size + 1, 0, none⟩) 4 4 [1, 1, 17, 0] by
         have h := sl_lit (w7.alloc (.cells #[.int .u8 3, .int .u8 1, .int .u8 0, .int .u8 2, .int .u8 17, .int .u8 3, .int .u8 17, .int .u8 0, .int .u8 63, .int .u8 0] 5)) [1, 1, 17, 0] (by unfold Fit; decide) (show 4 ≤ maxLen by decide)
         rw [show (w7.alloc (.cells #[.int .u8 3, .int .u8 1, .int .u8 0, .int .u8 2, .int .u8 17, .int .u8 3, .int .u8 17, .int .u8 0, .int .u8 63, .int .u8 0] 5)).heap.size = w7.heap.size + 1 by simp] at h
         exact h.mono' (fun _ _ => trivial)))
    | ((with_reducible refine wpList_append_y (o := ⟨some 27, _, _, _, _, _⟩) rfl (.tmp 25) (.tmp 26) rfl _ (.slice A7 5 c7) 5 ([8] ++ be2 H ++ be2 W) rfl R9.out.own _ (some ⟨w7.heap.size + 1, 0, none⟩) 4 4 [1, 1, 17, 0] rfl S9.out ?hs ?hb ?_)
       case hs => omega
       case hb => exact R9.out.bel.size
       intro v7 wq hown7 bq
       obtain ⟨A10, c10, hv7⟩ := own_slice hown7
       subst hv7
       have R10 := Lib.hid (bq.row R9.out hown7)
       have K10 := Lib.hid bq
       obtain ⟨w10, hw10⟩ : ∃ w10, w10 = wq := ⟨_, rfl⟩
       subst hw10
       clear hown7 bq)
    | fail)
  obtain ⟨w11, hw11⟩ : ∃ w11, w10.alloc (.cells #[.int .u8 1, .int .u8 1, .int .u8 0, .int .u8 0, .int .u8 63, .int .u8 0] 5) = w11 := ⟨_, rfl⟩
  have k11 : Below w10.heap.size w10 w11 := by rw [← hw11]; exact on_alloc _ _
  have SS := Lib.hid (show Sl w11 (fun _ => True) (some ⟨w10.heap.size, 0, none⟩) 6 6 [1, 1, 0, 0, 63, 0] by rw [← hw11]; exact (sl_lit w10 [1, 1, 0, 0, 63, 0] (by unfold Fit; decide) (show 6 ≤ maxLen by decide)).mono' (fun _ _ => trivial))
  obtain ⟨w12, hw12⟩ : ∃ w12, w11.alloc (.cells #[.int .u8 255, .int .u8 216] 5) = w12 := ⟨_, rfl⟩
  have hs11 : w11.heap.size = w10.heap.size + 1 := by rw [← hw11]; simp
  have r12 : Row w11 w12 (.slice (some ⟨w10.heap.size + 1, 0, none⟩) 2 2) 2 [255, 216] := by rw [← hw12, ← hs11]; exact row_lit w11 [255, 216] (show 2 ≤ maxLen by decide)
  rw [hw11, hw12]
  have R12 := Lib.hid r12
  have F10 := Lib.hid (show Row w2 w10 (.slice A10 9 c10) 9 ([8] ++ be2 H ++ be2 W ++ [1, 1, 17, 0]) from R10.out)
  have HP := Lib.hid (put_any w12 _ 192 A10 9 c10 ([8] ++ be2 H ++ be2 W ++ [1, 1, 17, 0]) (((F10.out.sl (fit_app (fit_app (fit_app (by unfold Fit; decide) (fit_be2 H)) (fit_be2 W)) (by unfold Fit; decide))).on k11).on r12.bel) (by omega) (by omega) (by omega))
  have HK := Lib.hid (And.intro k11 R10.out.bel)
  clear k11 r12 hw11 hw12 hs11
  refine Calls.mono HP.out ?_
  rintro e w13 ⟨A13, c13, rfl, s13, b13⟩
  have S13 := Lib.hid s13
  have R13 := Lib.hid (R12.out.on b13)
  clear s13 b13
  go_wp2_with (first
    | ((with_reducible refine wpList_append_y (o := ⟨some 41, _, _, _, _, _⟩) rfl (.tmp 38) (.tmp 40) rfl _ (.slice (some ⟨w10.heap.size + 1, 0, none⟩) 2 2) 2 [255, 216] rfl R13.out.own _ A13 13 c13 (segB 192 ([8] ++ be2 H ++ be2 W ++ [1, 1, 17, 0])) rfl S13.out ?hs ?hb ?_)
       case hs => omega
       case hb => exact R13.out.bel.size
       intro v7 wq hown7 bq
       obtain ⟨A14, c14, hv7⟩ := own_slice hown7
       subst hv7
       have R14 := Lib.hid (bq.row R13.out hown7)
       have K14 := Lib.hid bq
       obtain ⟨w14, hw14⟩ : ∃ w14, w14 = wq := ⟨_, rfl⟩
       subst hw14
       clear hown7 bq
       have cR : w14.cell? ⟨w0.heap.size, 3, none⟩ = some (.int .i64 0) := (((B2.out.on HK.out.2).on HK.out.1).on R14.out.bel).cell 3)
    | fail)
  have HP18 := Lib.hid (put_any w14 _ 218 (some ⟨w10.heap.size, 0, none⟩) 6 6 [1, 1, 0, 0, 63, 0] (SS.out.on R14.out.bel) (by omega) (by omega) (by omega))
  refine Calls.mono HP18.out ?_
  rintro e w18 ⟨A18, c18, rfl, s18, b18⟩
  have S18 := Lib.hid s18
  have R18 := Lib.hid (R14.out.on b18)
  clear s18 b18
  go_wp2_with (first
    | ((with_reducible refine wpList_append_y (o := ⟨some 54, _, _, _, _, _⟩) rfl (.tmp 51) (.tmp 53) rfl _ (.slice A14 15 c14) 15 ([255, 216] ++ segB 192 ([8] ++ be2 H ++ be2 W ++ [1, 1, 17, 0])) rfl R18.out.own _ A18 10 c18 (segB 218 [1, 1, 0, 0, 63, 0]) rfl S18.out ?hs ?hb ?_)
       case hs => omega
       case hb => exact R18.out.bel.size
       intro v7 wq hown7 bq
       obtain ⟨A19, c19, hv7⟩ := own_slice hown7
       subst hv7
       have R19 := Lib.hid (bq.row R18.out hown7)
       have K19 := Lib.hid bq
       obtain ⟨w19, hw19⟩ : ∃ w19, w19 = wq := ⟨_, rfl⟩
       subst hw19
       clear hown7 bq)
    | fail)
  have el : headB W H 0 0 = ([255, 216] ++ segB 192 ([8] ++ be2 H ++ be2 W ++ [1, 1, 17, 0])) ++ segB 218 [1, 1, 0, 0, 63, 0] := by
    unfold headB
    rw [if_neg (by omega), List.append_nil]
    rfl
  have hf : Fit (([255, 216] ++ segB 192 ([8] ++ be2 H ++ be2 W ++ [1, 1, 17, 0])) ++ segB 218 [1, 1, 0, 0, 63, 0]) := fit_app (fit_app (by unfold Fit; decide) (fit_seg (by omega) (by omega) (fit_app (fit_app (fit_app (by unfold Fit; decide) (fit_be2 H)) (fit_be2 W)) (by unfold Fit; decide)))) (fit_seg (by omega) (by omega) (by unfold Fit; decide))
  have hl := R19.out.len
  have hs := R19.out.sl hf
  rw [← el] at hl hs
  have HE := Lib.hid (And.intro hl hs)
  clear el hf hl hs
  go_ret2
  unfold TellsY
  rw [HE.out.1]
  have kb := on_trans (on_trans HW.out.2.1 H2.out) (on_trans HK.out.2 HK.out.1)
  exact ⟨A19, c19, rfl, HE.out.2.mono' (fun b h => Nat.le_trans kb.size h), on_trans kb R19.out.bel⟩

set_option maxRecDepth 10000 in
set_option maxHeartbeats 3200000 in
theorem head_1_1 (w0 : World) (W H R : Int) (hr : RightS W H 1 R) (hR : 0 < R) : Calls Tryd.prog 14 #[.agg #[.int .i64 W, .int .i64 H, .int .i64 1, .int .i64 R]] w0 (TellsY w0 (headB W H 1 R) 0) := by
  obtain ⟨w1, hw1⟩ : ∃ w1, w0.alloc (.cells #[.int .i64 W, .int .i64 H, .int .i64 1, .int .i64 R] 33) = w1 := ⟨_, rfl⟩
  have b1 : Box w1 w0.heap.size 33 #[.int .i64 W, .int .i64 H, .int .i64 1, .int .i64 R] := by rw [← hw1]; exact Box.made _ _ _
  have k1 : Below w0.heap.size w0 w1 := by rw [← hw1]; exact on_alloc _ _
  have HR := Lib.hid (refRightS_any w1 W H 1 R)
  rw [decide_eq_true hr] at HR
  have HW := Lib.hid (And.intro hw1 (And.intro k1 b1))
  obtain ⟨⟨W0, W1⟩, ⟨H0, H1⟩, _, R0, R1⟩ := hr
  clear hw1 k1 b1
  go_enter Tryd.func14, Tryd.ntmps14
  go_wp2_with fail
  rw [HW.out.1]
  refine Calls.mono HR.out ?_
  rintro e w2 ⟨rfl, b2⟩
  have H2 := Lib.hid b2
  have B2 := Lib.hid (HW.out.2.2.on b2)
  clear b2
  obtain ⟨w3, hw3⟩ : ∃ w3, w2.alloc (.cells #[.int .u8 8] 5) = w3 := ⟨_, rfl⟩
  have R3 := Lib.hid (show Row w2 w3 (.slice (some ⟨w2.heap.size, 0, none⟩) 1 1) 1 [8] by rw [← hw3]; exact row_lit w2 [8] (show 1 ≤ maxLen by decide))
  have HT := Lib.hid (told2_any w3 H (by omega) (by omega))
  have HW3 := Lib.hid hw3
  have c1 : (w2.alloc (.cells #[.int .u8 8] 5)).cell? ⟨w0.heap.size, 1, none⟩ = some (.int .i64 H) := by rw [hw3]; exact (B2.out.on R3.out.bel).cell 1
  clear hw3
  go_wp2_with fail
  rw [HW3.out]
  refine Calls.mono HT.out ?_
  rintro e w4 ⟨A4, c4, rfl, s4, b4⟩
  have S4 := Lib.hid s4
  have R4 := Lib.hid (R3.out.on b4)
  clear s4 b4 c1
  go_wp2_with (first
    | ((with_reducible refine wpList_append_y (o := ⟨some 15, _, _, _, _, _⟩) rfl (.tmp 11) (.tmp 14) rfl _ (.slice (some ⟨w2.heap.size, 0, none⟩) 1 1) 1 [8] rfl R4.out.own _ A4 2 c4 (be2 H) rfl S4.out ?hs ?hb ?_)
       case hs => omega
       case hb => exact R4.out.bel.size
       intro v7 w7 hown7 bq
       obtain ⟨A5, c5, hv7⟩ := own_slice hown7
       subst hv7
       have R5 := Lib.hid (bq.row R4.out hown7)
       have K5 := Lib.hid bq
       obtain ⟨w5, hw5⟩ : ∃ w5, w5 = w7 := ⟨_, rfl⟩
       subst hw5
       clear hown7 bq)
    | (refine wpList_load_to (op := ⟨some 18, _, _, _, _, _⟩) rfl 3 (.tmp 17) rfl (.pointer (some ⟨w0.heap.size, 0, none⟩)) rfl (.int .i64 W) ?ld ?_
       case ld =>
         have c : w5.cell? ⟨w0.heap.size, 0, none⟩ = some (.int .i64 W) := (B2.out.on R5.out.bel).cell 0
         go_simp)
    | fail)
  have HT6 := Lib.hid (told2_any w5 W (by omega) (by omega))
  refine Calls.mono HT6.out ?_
  rintro e w6 ⟨A6, c6, rfl, s6, b6⟩
  have S6 := Lib.hid s6
  have R6 := Lib.hid (R5.out.on b6)
  clear s6 b6
  go_wp2_with (first
    | ((with_reducible refine wpList_append_y (o := ⟨some 20, _, _, _, _, _⟩) rfl (.tmp 16) (.tmp 19) rfl _ (.slice A5 3 c5) 3 ([8] ++ be2 H) rfl R6.out.own _ A6 2 c6 (be2 W) rfl S6.out ?hs ?hb ?_)
       case hs => omega
       case hb => exact R6.out.bel.size
       intro v7 wq hown7 bq
       obtain ⟨A7, c7, hv7⟩ := own_slice hown7
       subst hv7
       have R7 := Lib.hid (bq.row R6.out hown7)
       have K7 := Lib.hid bq
       obtain ⟨w7, hw7⟩ : ∃ w7, w7 = wq := ⟨_, rfl⟩
       subst hw7
       clear hown7 bq
       have cK : (w7.alloc (.cells #[.int .u8 3, .int .u8 1, .int .u8 0, .int .u8 2, .int .u8 17, .int .u8 3, .int .u8 17, .int .u8 0, .int .u8 63, .int .u8 0] 5)).cell? ⟨w0.heap.size, 2, none⟩ = some (.int .i64 1) := (B2.out.on (on_trans R7.out.bel (on_alloc _ _))).cell 2
       have cH1 : ((w7.alloc (.cells #[.int .u8 3, .int .u8 1, .int .u8 0, .int .u8 2, .int .u8 17, .int .u8 3, .int .u8 17, .int .u8 0, .int .u8 63, .int .u8 0] 5)).alloc (.cells #[.int .u8 17, .int .u8 17, .int .u8 33, .int .u8 34] 5)).cell? ⟨w0.heap.size, 2, none⟩ = some (.int .i64 1) := (B2.out.on (on_trans R7.out.bel (on_trans (on_alloc _ _) (on_alloc _ _)))).cell 2
       have cH2 : ((w7.alloc (.cells #[.int .u8 3, .int .u8 1, .int .u8 0, .int .u8 2, .int .u8 17, .int .u8 3, .int .u8 17, .int .u8 0, .int .u8 63, .int .u8 0] 5)).alloc (.cells #[.int .u8 17, .int .u8 17, .int .u8 33, .int .u8 34] 5)).cell? ⟨w7.heap.size + 1, 1, none⟩ = some (.int .u8 17) := by
         have h := (Box.made (w7.alloc (.cells #[.int .u8 3, .int .u8 1, .int .u8 0, .int .u8 2, .int .u8 17, .int .u8 3, .int .u8 17, .int .u8 0, .int .u8 63, .int .u8 0] 5)) 5 #[.int .u8 17, .int .u8 17, .int .u8 33, .int .u8 34]).cell 1
         rw [show (w7.alloc (.cells #[.int .u8 3, .int .u8 1, .int .u8 0, .int .u8 2, .int .u8 17, .int .u8 3, .int .u8 17, .int .u8 0, .int .u8 63, .int .u8 0] 5)).heap.size = w7.heap.size + 1 by simp] at h
         exact h
       have R9 := Lib.hid (show Row w2 (((w7.alloc (.cells #[.int .u8 3, .int .u8 1, .int .u8 0, .int .u8 2, .int .u8 17, .int .u8 3, .int .u8 17, .int .u8 0, .int .u8 63, .int .u8 0] 5)).alloc (.cells #[.int .u8 17, .int .u8 17, .int .u8 33, .int .u8 34] 5)).alloc (.cells #[.int .u8 3, .int .u8 1, .int .u8 17, .int .u8 0, .int .u8 2, .int .u8 17, .int .u8 1, .int .u8 3, .int .u8 17, .int .u8 1] 5)) (.slice A7 5 c7) 5 ([8] ++ be2 H ++ be2 W) from R7.out.on (on_trans (on_trans (on_alloc _ _) (on_alloc _ _)) (on_alloc _ _)))
       have S9 := Lib.hid (show Sl (((w7.alloc (.cells #[.int .u8 3, .int .u8 1, .int .u8 0, .int .u8 2, .int .u8 17, .int .u8 3, .int .u8 17, .int .u8 0, .int .u8 63, .int .u8 0] 5)).alloc (.cells #[.int .u8 17, .int .u8 17, .int .u8 33, .int .u8 34] 5)).alloc (.cells #[.int .u8 3, .int .u8 1, .int .u8 17, .int .u8 0, .int .u8 2, .int .u8 17, .int .u8 1, .int .u8 3, .int .u8 17, .int .u8 1] 5)) (fun _ => True) (some ⟨w7.heap.size + 1 + 1, 0, none⟩) 10 10 [3, 1, 17, 0, 2, 17, 1, 3, 17, 1] by
         have h := sl_lit ((w7.alloc (.cells #[.int .u8 3, .int .u8 1, .int .u8 0, .int .u8 2, .int .u8 17, .int .u8 3, .int .u8 17, .int .u8 0, .int .u8 63, .int .u8 0] 5)).alloc (.cells #[.int .u8 17, .int .u8 17, .int .u8 33, .int .u8 34] 5)) [3, 1, 17, 0, 2, 17, 1, 3, 17, 1] (by unfold Fit; decide) (show 10 ≤ maxLen by decide)
         rw [show ((w7.alloc (.cells #[.int .u8 3, .int .u8 1, .int .u8 0, .int .u8 2, .int .u8 17, .int .u8 3, .int .u8 17, .int .u8 0, .int .u8 63, .int .u8 0] 5)).alloc (.cells #[.int .u8 17, .int .u8 17, .int .u8 33, .int .u8 34] 5)).heap.size = w7.heap.size + 1 + 1 by simp] at h
         exact h.mono' (fun _ _ => trivial)))
    | ((with_reducible refine wpList_append_y (o := ⟨some 37, _, _, _, _, _⟩) rfl (.tmp 30) (.tmp 36) rfl _ (.slice A7 5 c7) 5 ([8] ++ be2 H ++ be2 W) rfl R9.out.own _ (some ⟨w7.heap.size + 1 + 1, 0, none⟩) 10 10 [3, 1, 17, 0, 2, 17, 1, 3, 17, 1] rfl S9.out ?hs ?hb ?_)
       case hs => omega
       case hb => exact R9.out.bel.size
       intro v7 wq hown7 bq
       obtain ⟨A10, c10, hv7⟩ := own_slice hown7
       subst hv7
       have R10 := Lib.hid (bq.row R9.out hown7)
       have K10 := Lib.hid bq
       obtain ⟨w10, hw10⟩ : ∃ w10, w10 = wq := ⟨_, rfl⟩
       subst hw10
       clear hown7 bq)
    | fail)
  obtain ⟨w11, hw11⟩ : ∃ w11, w11 = w10 := ⟨_, rfl⟩
  have k11 : Below w10.heap.size w10 w11 := by rw [hw11]; exact Below.refl _ _
  have SS := Lib.hid (show Sl w11 (fun _ => True) (some ⟨w7.heap.size, 0, none⟩) 10 10 [3, 1, 0, 2, 17, 3, 17, 0, 63, 0] by
    rw [hw11]
    have h0 := (sl_lit w7 [3, 1, 0, 2, 17, 3, 17, 0, 63, 0] (by unfold Fit; decide) (show 10 ≤ maxLen by decide)).kept (Kept.of_below (on_trans (on_alloc (w7.alloc (.cells #[.int .u8 3, .int .u8 1, .int .u8 0, .int .u8 2, .int .u8 17, .int .u8 3, .int .u8 17, .int .u8 0, .int .u8 63, .int .u8 0] 5)) (.cells #[.int .u8 17, .int .u8 17, .int .u8 33, .int .u8 34] 5)) (on_alloc ((w7.alloc (.cells #[.int .u8 3, .int .u8 1, .int .u8 0, .int .u8 2, .int .u8 17, .int .u8 3, .int .u8 17, .int .u8 0, .int .u8 63, .int .u8 0] 5)).alloc (.cells #[.int .u8 17, .int .u8 17, .int .u8 33, .int .u8 34] 5)) (.cells #[.int .u8 3, .int .u8 1, .int .u8 17, .int .u8 0, .int .u8 2, .int .u8 17, .int .u8 1, .int .u8 3, .int .u8 17, .int .u8 1] 5))) (fun _ => False)) (fun _ _ h => h)
    have h1 := h0.kept K10.out (fun b hb e => by
      have hb' : b = w7.heap.size := hb
      obtain ⟨_, cs, hh⟩ := own_block3 R7.out.own e
      have := (Array.getElem?_eq_some_iff.1 hh).1
      omega)
    exact h1.mono' (fun _ _ => trivial))
  obtain ⟨w12, hw12⟩ : ∃ w12, w11.alloc (.cells #[.int .u8 255, .int .u8 216] 5) = w12 := ⟨_, rfl⟩
  have r12 : Row w11 w12 (.slice (some ⟨w11.heap.size, 0, none⟩) 2 2) 2 [255, 216] := by rw [← hw12]; exact row_lit w11 [255, 216] (show 2 ≤ maxLen by decide)
  rw [← hw11, hw12]
  have R12 := Lib.hid r12
  have F10 := Lib.hid (show Row w2 w10 (.slice A10 15 c10) 15 ([8] ++ be2 H ++ be2 W ++ [3, 1, 17, 0, 2, 17, 1, 3, 17, 1]) from R10.out)
  have HP := Lib.hid (put_any w12 _ 192 A10 15 c10 ([8] ++ be2 H ++ be2 W ++ [3, 1, 17, 0, 2, 17, 1, 3, 17, 1]) (((F10.out.sl (fit_app (fit_app (fit_app (by unfold Fit; decide) (fit_be2 H)) (fit_be2 W)) (by unfold Fit; decide))).on k11).on r12.bel) (by omega) (by omega) (by omega))
  have HK := Lib.hid (And.intro k11 R10.out.bel)
  clear k11 r12 hw11 hw12
  refine Calls.mono HP.out ?_
  rintro e w13 ⟨A13, c13, rfl, s13, b13⟩
  have S13 := Lib.hid s13
  have R13 := Lib.hid (R12.out.on b13)
  clear s13 b13
  go_wp2_with (first
    | ((with_reducible refine wpList_append_y (o := ⟨some 41, _, _, _, _, _⟩) rfl (.tmp 38) (.tmp 40) rfl _ (.slice (some ⟨w11.heap.size, 0, none⟩) 2 2) 2 [255, 216] rfl R13.out.own _ A13 19 c13 (segB 192 ([8] ++ be2 H ++ be2 W ++ [3, 1, 17, 0, 2, 17, 1, 3, 17, 1])) rfl S13.out ?hs ?hb ?_)
       case hs => omega
       case hb => exact R13.out.bel.size
       intro v7 wq hown7 bq
       obtain ⟨A14, c14, hv7⟩ := own_slice hown7
       subst hv7
       have R14 := Lib.hid (bq.row R13.out hown7)
       have K14 := Lib.hid bq
       obtain ⟨w14, hw14⟩ : ∃ w14, w14 = wq := ⟨_, rfl⟩
       subst hw14
       clear hown7 bq
       have cR : w14.cell? ⟨w0.heap.size, 3, none⟩ = some (.int .i64 R) := (((B2.out.on HK.out.2).on HK.out.1).on R14.out.bel).cell 3)
    | fail)
  have HT15 := Lib.hid (told2_any w14 R (by omega) (by omega))
  refine Calls.mono HT15.out ?_
  rintro e w15 ⟨A15, c15, rfl, s15, b15⟩
  have HP16 := Lib.hid (put_any w15 _ 221 A15 2 c15 (be2 R) s15 (by omega) (by omega) (by omega))
  have R15 := Lib.hid (R14.out.on b15)
  clear s15 b15 cR
  go_wp2_with fail
  refine Calls.mono HP16.out ?_
  rintro e w16 ⟨A16, c16, rfl, s16, b16⟩
  have S16 := Lib.hid s16
  have R16 := Lib.hid (R15.out.on b16)
  clear s16 b16
  go_wp2_with (first
    | ((with_reducible refine wpList_append_y (o := ⟨some 50, _, _, _, _, _⟩) rfl (.tmp 45) (.tmp 49) rfl _ (.slice A14 21 c14) 21 ([255, 216] ++ segB 192 ([8] ++ be2 H ++ be2 W ++ [3, 1, 17, 0, 2, 17, 1, 3, 17, 1])) rfl R16.out.own _ A16 6 c16 (segB 221 (be2 R)) rfl S16.out ?hs ?hb ?_)
       case hs => omega
       case hb => exact R16.out.bel.size
       intro v7 wq hown7 bq
       obtain ⟨A17, c17, hv7⟩ := own_slice hown7
       subst hv7
       have R17 := Lib.hid (bq.row R16.out hown7)
       have K17 := Lib.hid bq
       obtain ⟨w17, hw17⟩ : ∃ w17, w17 = wq := ⟨_, rfl⟩
       subst hw17
       clear hown7 bq)
    | fail)
  have HP18 := Lib.hid (put_any w17 _ 218 (some ⟨w7.heap.size, 0, none⟩) 10 10 [3, 1, 0, 2, 17, 3, 17, 0, 63, 0] (SS.out.on R17.out.bel) (by omega) (by omega) (by omega))
  refine Calls.mono HP18.out ?_
  rintro e w18 ⟨A18, c18, rfl, s18, b18⟩
  have S18 := Lib.hid s18
  have R18 := Lib.hid (R17.out.on b18)
  clear s18 b18
  go_wp2_with (first
    | ((with_reducible refine wpList_append_y (o := ⟨some 54, _, _, _, _, _⟩) rfl (.tmp 51) (.tmp 53) rfl _ (.slice A17 27 c17) 27 (([255, 216] ++ segB 192 ([8] ++ be2 H ++ be2 W ++ [3, 1, 17, 0, 2, 17, 1, 3, 17, 1])) ++ segB 221 (be2 R)) rfl R18.out.own _ A18 14 c18 (segB 218 [3, 1, 0, 2, 17, 3, 17, 0, 63, 0]) rfl S18.out ?hs ?hb ?_)
       case hs => omega
       case hb => exact R18.out.bel.size
       intro v7 wq hown7 bq
       obtain ⟨A19, c19, hv7⟩ := own_slice hown7
       subst hv7
       have R19 := Lib.hid (bq.row R18.out hown7)
       have K19 := Lib.hid bq
       obtain ⟨w19, hw19⟩ : ∃ w19, w19 = wq := ⟨_, rfl⟩
       subst hw19
       clear hown7 bq)
    | fail)
  have el : headB W H 1 R = (([255, 216] ++ segB 192 ([8] ++ be2 H ++ be2 W ++ [3, 1, 17, 0, 2, 17, 1, 3, 17, 1])) ++ segB 221 (be2 R)) ++ segB 218 [3, 1, 0, 2, 17, 3, 17, 0, 63, 0] := by
    unfold headB
    rw [if_pos hR]
    rfl
  have hf : Fit ((([255, 216] ++ segB 192 ([8] ++ be2 H ++ be2 W ++ [3, 1, 17, 0, 2, 17, 1, 3, 17, 1])) ++ segB 221 (be2 R)) ++ segB 218 [3, 1, 0, 2, 17, 3, 17, 0, 63, 0]) := fit_app (fit_app (fit_app (by unfold Fit; decide) (fit_seg (by omega) (by omega) (fit_app (fit_app (fit_app (by unfold Fit; decide) (fit_be2 H)) (fit_be2 W)) (by unfold Fit; decide)))) (fit_seg (by omega) (by omega) (fit_be2 R))) (fit_seg (by omega) (by omega) (by unfold Fit; decide))
  have hl := R19.out.len
  have hs := R19.out.sl hf
  rw [← el] at hl hs
  have HE := Lib.hid (And.intro hl hs)
  clear el hf hl hs
  go_ret2
  unfold TellsY
  rw [HE.out.1]
  have kb := on_trans (on_trans HW.out.2.1 H2.out) (on_trans HK.out.2 HK.out.1)
  exact ⟨A19, c19, rfl, HE.out.2.mono' (fun b h => Nat.le_trans kb.size h), on_trans kb R19.out.bel⟩

set_option maxRecDepth 10000 in
set_option maxHeartbeats 3200000 in
theorem head_1_0 (w0 : World) (W H : Int) (hr : RightS W H 1 0) : Calls Tryd.prog 14 #[.agg #[.int .i64 W, .int .i64 H, .int .i64 1, .int .i64 0]] w0 (TellsY w0 (headB W H 1 0) 0) := by
  obtain ⟨w1, hw1⟩ : ∃ w1, w0.alloc (.cells #[.int .i64 W, .int .i64 H, .int .i64 1, .int .i64 0] 33) = w1 := ⟨_, rfl⟩
  have b1 : Box w1 w0.heap.size 33 #[.int .i64 W, .int .i64 H, .int .i64 1, .int .i64 0] := by rw [← hw1]; exact Box.made _ _ _
  have k1 : Below w0.heap.size w0 w1 := by rw [← hw1]; exact on_alloc _ _
  have HR := Lib.hid (refRightS_any w1 W H 1 0)
  rw [decide_eq_true hr] at HR
  have HW := Lib.hid (And.intro hw1 (And.intro k1 b1))
  obtain ⟨⟨W0, W1⟩, ⟨H0, H1⟩, _, R0, R1⟩ := hr
  clear hw1 k1 b1
  go_enter Tryd.func14, Tryd.ntmps14
  go_wp2_with fail
  rw [HW.out.1]
  refine Calls.mono HR.out ?_
  rintro e w2 ⟨rfl, b2⟩
  have H2 := Lib.hid b2
  have B2 := Lib.hid (HW.out.2.2.on b2)
  clear b2
  obtain ⟨w3, hw3⟩ : ∃ w3, w2.alloc (.cells #[.int .u8 8] 5) = w3 := ⟨_, rfl⟩
  have R3 := Lib.hid (show Row w2 w3 (.slice (some ⟨w2.heap.size, 0, none⟩) 1 1) 1 [8] by rw [← hw3]; exact row_lit w2 [8] (show 1 ≤ maxLen by decide))
  have HT := Lib.hid (told2_any w3 H (by omega) (by omega))
  have HW3 := Lib.hid hw3
  have c1 : (w2.alloc (.cells #[.int .u8 8] 5)).cell? ⟨w0.heap.size, 1, none⟩ = some (.int .i64 H) := by rw [hw3]; exact (B2.out.on R3.out.bel).cell 1
  clear hw3
  go_wp2_with fail
  rw [HW3.out]
  refine Calls.mono HT.out ?_
  rintro e w4 ⟨A4, c4, rfl, s4, b4⟩
  have S4 := Lib.hid s4
  have R4 := Lib.hid (R3.out.on b4)
  clear s4 b4 c1
  go_wp2_with (first
    | ((with_reducible refine wpList_append_y (o := ⟨some 15, _, _, _, _, _⟩) rfl (.tmp 11) (.tmp 14) rfl _ (.slice (some ⟨w2.heap.size, 0, none⟩) 1 1) 1 [8] rfl R4.out.own _ A4 2 c4 (be2 H) rfl S4.out ?hs ?hb ?_)
       case hs => omega
       case hb => exact R4.out.bel.size
       intro v7 w7 hown7 bq
       obtain ⟨A5, c5, hv7⟩ := own_slice hown7
       subst hv7
       have R5 := Lib.hid (bq.row R4.out hown7)
       have K5 := Lib.hid bq
       obtain ⟨w5, hw5⟩ : ∃ w5, w5 = w7 := ⟨_, rfl⟩
       subst hw5
       clear hown7 bq)
    | (refine wpList_load_to (op := ⟨some 18, _, _, _, _, _⟩) rfl 3 (.tmp 17) rfl (.pointer (some ⟨w0.heap.size, 0, none⟩)) rfl (.int .i64 W) ?ld ?_
       case ld =>
         have c : w5.cell? ⟨w0.heap.size, 0, none⟩ = some (.int .i64 W) := (B2.out.on R5.out.bel).cell 0
         go_simp)
    | fail)
  have HT6 := Lib.hid (told2_any w5 W (by omega) (by omega))
  refine Calls.mono HT6.out ?_
  rintro e w6 ⟨A6, c6, rfl, s6, b6⟩
  have S6 := Lib.hid s6
  have R6 := Lib.hid (R5.out.on b6)
  clear s6 b6
  go_wp2_with (first
    | ((with_reducible refine wpList_append_y (o := ⟨some 20, _, _, _, _, _⟩) rfl (.tmp 16) (.tmp 19) rfl _ (.slice A5 3 c5) 3 ([8] ++ be2 H) rfl R6.out.own _ A6 2 c6 (be2 W) rfl S6.out ?hs ?hb ?_)
       case hs => omega
       case hb => exact R6.out.bel.size
       intro v7 wq hown7 bq
       obtain ⟨A7, c7, hv7⟩ := own_slice hown7
       subst hv7
       have R7 := Lib.hid (bq.row R6.out hown7)
       have K7 := Lib.hid bq
       obtain ⟨w7, hw7⟩ : ∃ w7, w7 = wq := ⟨_, rfl⟩
       subst hw7
       clear hown7 bq
       have cK : (w7.alloc (.cells #[.int .u8 3, .int .u8 1, .int .u8 0, .int .u8 2, .int .u8 17, .int .u8 3, .int .u8 17, .int .u8 0, .int .u8 63, .int .u8 0] 5)).cell? ⟨w0.heap.size, 2, none⟩ = some (.int .i64 1) := (B2.out.on (on_trans R7.out.bel (on_alloc _ _))).cell 2
       have cH1 : ((w7.alloc (.cells #[.int .u8 3, .int .u8 1, .int .u8 0, .int .u8 2, .int .u8 17, .int .u8 3, .int .u8 17, .int .u8 0, .int .u8 63, .int .u8 0] 5)).alloc (.cells #[.int .u8 17, .int .u8 17, .int .u8 33, .int .u8 34] 5)).cell? ⟨w0.heap.size, 2, none⟩ = some (.int .i64 1) := (B2.out.on (on_trans R7.out.bel (on_trans (on_alloc _ _) (on_alloc _ _)))).cell 2
       have cH2 : ((w7.alloc (.cells #[.int .u8 3, .int .u8 1, .int .u8 0, .int .u8 2, .int .u8 17, .int .u8 3, .int .u8 17, .int .u8 0, .int .u8 63, .int .u8 0] 5)).alloc (.cells #[.int .u8 17, .int .u8 17, .int .u8 33, .int .u8 34] 5)).cell? ⟨w7.heap.size + 1, 1, none⟩ = some (.int .u8 17) := by
         have h := (Box.made (w7.alloc (.cells #[.int .u8 3, .int .u8 1, .int .u8 0, .int .u8 2, .int .u8 17, .int .u8 3, .int .u8 17, .int .u8 0, .int .u8 63, .int .u8 0] 5)) 5 #[.int .u8 17, .int .u8 17, .int .u8 33, .int .u8 34]).cell 1
         rw [show (w7.alloc (.cells #[.int .u8 3, .int .u8 1, .int .u8 0, .int .u8 2, .int .u8 17, .int .u8 3, .int .u8 17, .int .u8 0, .int .u8 63, .int .u8 0] 5)).heap.size = w7.heap.size + 1 by simp] at h
         exact h
       have R9 := Lib.hid (show Row w2 (((w7.alloc (.cells #[.int .u8 3, .int .u8 1, .int .u8 0, .int .u8 2, .int .u8 17, .int .u8 3, .int .u8 17, .int .u8 0, .int .u8 63, .int .u8 0] 5)).alloc (.cells #[.int .u8 17, .int .u8 17, .int .u8 33, .int .u8 34] 5)).alloc (.cells #[.int .u8 3, .int .u8 1, .int .u8 17, .int .u8 0, .int .u8 2, .int .u8 17, .int .u8 1, .int .u8 3, .int .u8 17, .int .u8 1] 5)) (.slice A7 5 c7) 5 ([8] ++ be2 H ++ be2 W) from R7.out.on (on_trans (on_trans (on_alloc _ _) (on_alloc _ _)) (on_alloc _ _)))
       have S9 := Lib.hid (show Sl (((w7.alloc (.cells #[.int .u8 3, .int .u8 1, .int .u8 0, .int .u8 2, .int .u8 17, .int .u8 3, .int .u8 17, .int .u8 0, .int .u8 63, .int .u8 0] 5)).alloc (.cells #[.int .u8 17, .int .u8 17, .int .u8 33, .int .u8 34] 5)).alloc (.cells #[.int .u8 3, .int .u8 1, .int .u8 17, .int .u8 0, .int .u8 2, .int .u8 17, .int .u8 1, .int .u8 3, .int .u8 17, .int .u8 1] 5)) (fun _ => True) (some ⟨w7.heap.size + 1 + 1, 0, none⟩) 10 10 [3, 1, 17, 0, 2, 17, 1, 3, 17, 1] by
         have h := sl_lit ((w7.alloc (.cells #[.int .u8 3, .int .u8 1, .int .u8 0, .int .u8 2, .int .u8 17, .int .u8 3, .int .u8 17, .int .u8 0, .int .u8 63, .int .u8 0] 5)).alloc (.cells #[.int .u8 17, .int .u8 17, .int .u8 33, .int .u8 34] 5)) [3, 1, 17, 0, 2, 17, 1, 3, 17, 1] (by unfold Fit; decide) (show 10 ≤ maxLen by decide)
         rw [show ((w7.alloc (.cells #[.int .u8 3, .int .u8 1, .int .u8 0, .int .u8 2, .int .u8 17, .int .u8 3, .int .u8 17, .int .u8 0, .int .u8 63, .int .u8 0] 5)).alloc (.cells #[.int .u8 17, .int .u8 17, .int .u8 33, .int .u8 34] 5)).heap.size = w7.heap.size + 1 + 1 by simp] at h
         exact h.mono' (fun _ _ => trivial)))
    | ((with_reducible refine wpList_append_y (o := ⟨some 37, _, _, _, _, _⟩) rfl (.tmp 30) (.tmp 36) rfl _ (.slice A7 5 c7) 5 ([8] ++ be2 H ++ be2 W) rfl R9.out.own _ (some ⟨w7.heap.size + 1 + 1, 0, none⟩) 10 10 [3, 1, 17, 0, 2, 17, 1, 3, 17, 1] rfl S9.out ?hs ?hb ?_)
       case hs => omega
       case hb => exact R9.out.bel.size
       intro v7 wq hown7 bq
       obtain ⟨A10, c10, hv7⟩ := own_slice hown7
       subst hv7
       have R10 := Lib.hid (bq.row R9.out hown7)
       have K10 := Lib.hid bq
       obtain ⟨w10, hw10⟩ : ∃ w10, w10 = wq := ⟨_, rfl⟩
       subst hw10
       clear hown7 bq)
    | fail)
  obtain ⟨w11, hw11⟩ : ∃ w11, w11 = w10 := ⟨_, rfl⟩
  have k11 : Below w10.heap.size w10 w11 := by rw [hw11]; exact Below.refl _ _
  have SS := Lib.hid (show Sl w11 (fun _ => True) (some ⟨w7.heap.size, 0, none⟩) 10 10 [3, 1, 0, 2, 17, 3, 17, 0, 63, 0] by
    rw [hw11]
    have h0 := (sl_lit w7 [3, 1, 0, 2, 17, 3, 17, 0, 63, 0] (by unfold Fit; decide) (show 10 ≤ maxLen by decide)).kept (Kept.of_below (on_trans (on_alloc (w7.alloc (.cells #[.int .u8 3, .int .u8 1, .int .u8 0, .int .u8 2, .int .u8 17, .int .u8 3, .int .u8 17, .int .u8 0, .int .u8 63, .int .u8 0] 5)) (.cells #[.int .u8 17, .int .u8 17, .int .u8 33, .int .u8 34] 5)) (on_alloc ((w7.alloc (.cells #[.int .u8 3, .int .u8 1, .int .u8 0, .int .u8 2, .int .u8 17, .int .u8 3, .int .u8 17, .int .u8 0, .int .u8 63, .int .u8 0] 5)).alloc (.cells #[.int .u8 17, .int .u8 17, .int .u8 33, .int .u8 34] 5)) (.cells #[.int .u8 3, .int .u8 1, .int .u8 17, .int .u8 0, .int .u8 2, .int .u8 17, .int .u8 1, .int .u8 3, .int .u8 17, .int .u8 1] 5))) (fun _ => False)) (fun _ _ h => h)
    have h1 := h0.kept K10.out (fun b hb e => by
      have hb' : b = w7.heap.size := hb
      obtain ⟨_, cs, hh⟩ := own_block3 R7.out.own e
      have := (Array.getElem?_eq_some_iff.1 hh).1
      omega)
    exact h1.mono' (fun _ _ => trivial))
  obtain ⟨w12, hw12⟩ : ∃ w12, w11.alloc (.cells #[.int .u8 255, .int .u8 216] 5) = w12 := ⟨_, rfl⟩
  have r12 : Row w11 w12 (.slice (some ⟨w11.heap.size, 0, none⟩) 2 2) 2 [255, 216] := by rw [← hw12]; exact row_lit w11 [255, 216] (show 2 ≤ maxLen by decide)
  rw [← hw11, hw12]
  have R12 := Lib.hid r12
  have F10 := Lib.hid (show Row w2 w10 (.slice A10 15 c10) 15 ([8] ++ be2 H ++ be2 W ++ [3, 1, 17, 0, 2, 17, 1, 3, 17, 1]) from R10.out)
  have HP := Lib.hid (put_any w12 _ 192 A10 15 c10 ([8] ++ be2 H ++ be2 W ++ [3, 1, 17, 0, 2, 17, 1, 3, 17, 1]) (((F10.out.sl (fit_app (fit_app (fit_app (by unfold Fit; decide) (fit_be2 H)) (fit_be2 W)) (by unfold Fit; decide))).on k11).on r12.bel) (by omega) (by omega) (by omega))
  have HK := Lib.hid (And.intro k11 R10.out.bel)
  clear k11 r12 hw11 hw12
  refine Calls.mono HP.out ?_
  rintro e w13 ⟨A13, c13, rfl, s13, b13⟩
  have S13 := Lib.hid s13
  have R13 := Lib.hid (R12.out.on b13)
  clear s13 b13
  go_wp2_with (first
    | ((with_reducible refine wpList_append_y (o := ⟨some 41, _, _, _, _, _⟩) rfl (.tmp 38) (.tmp 40) rfl _ (.slice (some ⟨w11.heap.size, 0, none⟩) 2 2) 2 [255, 216] rfl R13.out.own _ A13 19 c13 (segB 192 ([8] ++ be2 H ++ be2 W ++ [3, 1, 17, 0, 2, 17, 1, 3, 17, 1])) rfl S13.out ?hs ?hb ?_)
       case hs => omega
       case hb => exact R13.out.bel.size
       intro v7 wq hown7 bq
       obtain ⟨A14, c14, hv7⟩ := own_slice hown7
       subst hv7
       have R14 := Lib.hid (bq.row R13.out hown7)
       have K14 := Lib.hid bq
       obtain ⟨w14, hw14⟩ : ∃ w14, w14 = wq := ⟨_, rfl⟩
       subst hw14
       clear hown7 bq
       have cR : w14.cell? ⟨w0.heap.size, 3, none⟩ = some (.int .i64 0) := (((B2.out.on HK.out.2).on HK.out.1).on R14.out.bel).cell 3)
    | fail)
  have HP18 := Lib.hid (put_any w14 _ 218 (some ⟨w7.heap.size, 0, none⟩) 10 10 [3, 1, 0, 2, 17, 3, 17, 0, 63, 0] (SS.out.on R14.out.bel) (by omega) (by omega) (by omega))
  refine Calls.mono HP18.out ?_
  rintro e w18 ⟨A18, c18, rfl, s18, b18⟩
  have S18 := Lib.hid s18
  have R18 := Lib.hid (R14.out.on b18)
  clear s18 b18
  go_wp2_with (first
    | ((with_reducible refine wpList_append_y (o := ⟨some 54, _, _, _, _, _⟩) rfl (.tmp 51) (.tmp 53) rfl _ (.slice A14 21 c14) 21 ([255, 216] ++ segB 192 ([8] ++ be2 H ++ be2 W ++ [3, 1, 17, 0, 2, 17, 1, 3, 17, 1])) rfl R18.out.own _ A18 14 c18 (segB 218 [3, 1, 0, 2, 17, 3, 17, 0, 63, 0]) rfl S18.out ?hs ?hb ?_)
       case hs => omega
       case hb => exact R18.out.bel.size
       intro v7 wq hown7 bq
       obtain ⟨A19, c19, hv7⟩ := own_slice hown7
       subst hv7
       have R19 := Lib.hid (bq.row R18.out hown7)
       have K19 := Lib.hid bq
       obtain ⟨w19, hw19⟩ : ∃ w19, w19 = wq := ⟨_, rfl⟩
       subst hw19
       clear hown7 bq)
    | fail)
  have el : headB W H 1 0 = ([255, 216] ++ segB 192 ([8] ++ be2 H ++ be2 W ++ [3, 1, 17, 0, 2, 17, 1, 3, 17, 1])) ++ segB 218 [3, 1, 0, 2, 17, 3, 17, 0, 63, 0] := by
    unfold headB
    rw [if_neg (by omega), List.append_nil]
    rfl
  have hf : Fit (([255, 216] ++ segB 192 ([8] ++ be2 H ++ be2 W ++ [3, 1, 17, 0, 2, 17, 1, 3, 17, 1])) ++ segB 218 [3, 1, 0, 2, 17, 3, 17, 0, 63, 0]) := fit_app (fit_app (by unfold Fit; decide) (fit_seg (by omega) (by omega) (fit_app (fit_app (fit_app (by unfold Fit; decide) (fit_be2 H)) (fit_be2 W)) (by unfold Fit; decide)))) (fit_seg (by omega) (by omega) (by unfold Fit; decide))
  have hl := R19.out.len
  have hs := R19.out.sl hf
  rw [← el] at hl hs
  have HE := Lib.hid (And.intro hl hs)
  clear el hf hl hs
  go_ret2
  unfold TellsY
  rw [HE.out.1]
  have kb := on_trans (on_trans HW.out.2.1 H2.out) (on_trans HK.out.2 HK.out.1)
  exact ⟨A19, c19, rfl, HE.out.2.mono' (fun b h => Nat.le_trans kb.size h), on_trans kb R19.out.bel⟩

set_option maxRecDepth 10000 in
set_option maxHeartbeats 3200000 in
theorem head_2_1 (w0 : World) (W H R : Int) (hr : RightS W H 2 R) (hR : 0 < R) : Calls Tryd.prog 14 #[.agg #[.int .i64 W, .int .i64 H, .int .i64 2, .int .i64 R]] w0 (TellsY w0 (headB W H 2 R) 0) := by
  obtain ⟨w1, hw1⟩ : ∃ w1, w0.alloc (.cells #[.int .i64 W, .int .i64 H, .int .i64 2, .int .i64 R] 33) = w1 := ⟨_, rfl⟩
  have b1 : Box w1 w0.heap.size 33 #[.int .i64 W, .int .i64 H, .int .i64 2, .int .i64 R] := by rw [← hw1]; exact Box.made _ _ _
  have k1 : Below w0.heap.size w0 w1 := by rw [← hw1]; exact on_alloc _ _
  have HR := Lib.hid (refRightS_any w1 W H 2 R)
  rw [decide_eq_true hr] at HR
  have HW := Lib.hid (And.intro hw1 (And.intro k1 b1))
  obtain ⟨⟨W0, W1⟩, ⟨H0, H1⟩, _, R0, R1⟩ := hr
  clear hw1 k1 b1
  go_enter Tryd.func14, Tryd.ntmps14
  go_wp2_with fail
  rw [HW.out.1]
  refine Calls.mono HR.out ?_
  rintro e w2 ⟨rfl, b2⟩
  have H2 := Lib.hid b2
  have B2 := Lib.hid (HW.out.2.2.on b2)
  clear b2
  obtain ⟨w3, hw3⟩ : ∃ w3, w2.alloc (.cells #[.int .u8 8] 5) = w3 := ⟨_, rfl⟩
  have R3 := Lib.hid (show Row w2 w3 (.slice (some ⟨w2.heap.size, 0, none⟩) 1 1) 1 [8] by rw [← hw3]; exact row_lit w2 [8] (show 1 ≤ maxLen by decide))
  have HT := Lib.hid (told2_any w3 H (by omega) (by omega))
  have HW3 := Lib.hid hw3
  have c1 : (w2.alloc (.cells #[.int .u8 8] 5)).cell? ⟨w0.heap.size, 1, none⟩ = some (.int .i64 H) := by rw [hw3]; exact (B2.out.on R3.out.bel).cell 1
  clear hw3
  go_wp2_with fail
  rw [HW3.out]
  refine Calls.mono HT.out ?_
  rintro e w4 ⟨A4, c4, rfl, s4, b4⟩
  have S4 := Lib.hid s4
  have R4 := Lib.hid (R3.out.on b4)
  clear s4 b4 c1
  go_wp2_with (first
    | ((with_reducible refine wpList_append_y (o := ⟨some 15, _, _, _, _, _⟩) rfl (.tmp 11) (.tmp 14) rfl _ (.slice (some ⟨w2.heap.size, 0, none⟩) 1 1) 1 [8] rfl R4.out.own _ A4 2 c4 (be2 H) rfl S4.out ?hs ?hb ?_)
       case hs => omega
       case hb => exact R4.out.bel.size
       intro v7 w7 hown7 bq
       obtain ⟨A5, c5, hv7⟩ := own_slice hown7
       subst hv7
       have R5 := Lib.hid (bq.row R4.out hown7)
       have K5 := Lib.hid bq
       obtain ⟨w5, hw5⟩ : ∃ w5, w5 = w7 := ⟨_, rfl⟩
       subst hw5
       clear hown7 bq)
    | (refine wpList_load_to (op := ⟨some 18, _, _, _, _, _⟩) rfl 3 (.tmp 17) rfl (.pointer (some ⟨w0.heap.size, 0, none⟩)) rfl (.int .i64 W) ?ld ?_
       case ld =>
         have c : w5.cell? ⟨w0.heap.size, 0, none⟩ = some (.int .i64 W) := (B2.out.on R5.out.bel).cell 0
         go_simp)
    | fail)
  have HT6 := Lib.hid (told2_any w5 W (by omega) (by omega))
  refine Calls.mono HT6.out ?_
  rintro e w6 ⟨A6, c6, rfl, s6, b6⟩
  have S6 := Lib.hid s6
  have R6 := Lib.hid (R5.out.on b6)
  clear s6 b6
  go_wp2_with (first
    | ((with_reducible refine wpList_append_y (o := ⟨some 20, _, _, _, _, _⟩) rfl (.tmp 16) (.tmp 19) rfl _ (.slice A5 3 c5) 3 ([8] ++ be2 H) rfl R6.out.own _ A6 2 c6 (be2 W) rfl S6.out ?hs ?hb ?_)
       case hs => omega
       case hb => exact R6.out.bel.size
       intro v7 wq hown7 bq
       obtain ⟨A7, c7, hv7⟩ := own_slice hown7
       subst hv7
       have R7 := Lib.hid (bq.row R6.out hown7)
       have K7 := Lib.hid bq
       obtain ⟨w7, hw7⟩ : ∃ w7, w7 = wq := ⟨_, rfl⟩
       subst hw7
       clear hown7 bq
       have cK : (w7.alloc (.cells #[.int .u8 3, .int .u8 1, .int .u8 0, .int .u8 2, .int .u8 17, .int .u8 3, .int .u8 17, .int .u8 0, .int .u8 63, .int .u8 0] 5)).cell? ⟨w0.heap.size, 2, none⟩ = some (.int .i64 2) := (B2.out.on (on_trans R7.out.bel (on_alloc _ _))).cell 2
       have cH1 : ((w7.alloc (.cells #[.int .u8 3, .int .u8 1, .int .u8 0, .int .u8 2, .int .u8 17, .int .u8 3, .int .u8 17, .int .u8 0, .int .u8 63, .int .u8 0] 5)).alloc (.cells #[.int .u8 17, .int .u8 17, .int .u8 33, .int .u8 34] 5)).cell? ⟨w0.heap.size, 2, none⟩ = some (.int .i64 2) := (B2.out.on (on_trans R7.out.bel (on_trans (on_alloc _ _) (on_alloc _ _)))).cell 2
       have cH2 : ((w7.alloc (.cells #[.int .u8 3, .int .u8 1, .int .u8 0, .int .u8 2, .int .u8 17, .int .u8 3, .int .u8 17, .int .u8 0, .int .u8 63, .int .u8 0] 5)).alloc (.cells #[.int .u8 17, .int .u8 17, .int .u8 33, .int .u8 34] 5)).cell? ⟨w7.heap.size + 1, 2, none⟩ = some (.int .u8 33) := by
         have h := (Box.made (w7.alloc (.cells #[.int .u8 3, .int .u8 1, .int .u8 0, .int .u8 2, .int .u8 17, .int .u8 3, .int .u8 17, .int .u8 0, .int .u8 63, .int .u8 0] 5)) 5 #[.int .u8 17, .int .u8 17, .int .u8 33, .int .u8 34]).cell 2
         rw [show (w7.alloc (.cells #[.int .u8 3, .int .u8 1, .int .u8 0, .int .u8 2, .int .u8 17, .int .u8 3, .int .u8 17, .int .u8 0, .int .u8 63, .int .u8 0] 5)).heap.size = w7.heap.size + 1 by simp] at h
         exact h
       have R9 := Lib.hid (show Row w2 (((w7.alloc (.cells #[.int .u8 3, .int .u8 1, .int .u8 0, .int .u8 2, .int .u8 17, .int .u8 3, .int .u8 17, .int .u8 0, .int .u8 63, .int .u8 0] 5)).alloc (.cells #[.int .u8 17, .int .u8 17, .int .u8 33, .int .u8 34] 5)).alloc (.cells #[.int .u8 3, .int .u8 1, .int .u8 33, .int .u8 0, .int .u8 2, .int .u8 17, .int .u8 1, .int .u8 3, .int .u8 17, .int .u8 1] 5)) (.slice A7 5 c7) 5 ([8] ++ be2 H ++ be2 W) from R7.out.on (on_trans (on_trans (on_alloc _ _) (on_alloc _ _)) (on_alloc _ _)))
       have S9 := Lib.hid (show Sl (((w7.alloc (.cells #[.int .u8 3, .int .u8 1, .int .u8 0, .int .u8 2, .int .u8 17, .int .u8 3, .int .u8 17, .int .u8 0, .int .u8 63, .int .u8 0] 5)).alloc (.cells #[.int .u8 17, .int .u8 17, .int .u8 33, .int .u8 34] 5)).alloc (.cells #[.int .u8 3, .int .u8 1, .int .u8 33, .int .u8 0, .int .u8 2, .int .u8 17, .int .u8 1, .int .u8 3, .int .u8 17, .int .u8 1] 5)) (fun _ => True) (some ⟨w7.heap.size + 1 + 1, 0, none⟩) 10 10 [3, 1, 33, 0, 2, 17, 1, 3, 17, 1] by
         have h := sl_lit ((w7.alloc (.cells #[.int .u8 3, .int .u8 1, .int .u8 0, .int .u8 2, .int .u8 17, .int .u8 3, .int .u8 17, .int .u8 0, .int .u8 63, .int .u8 0] 5)).alloc (.cells #[.int .u8 17, .int .u8 17, .int .u8 33, .int .u8 34] 5)) [3, 1, 33, 0, 2, 17, 1, 3, 17, 1] (by unfold Fit; decide) (show 10 ≤ maxLen by decide)
         rw [show ((w7.alloc (.cells #[.int .u8 3, .int .u8 1, .int .u8 0, .int .u8 2, .int .u8 17, .int .u8 3, .int .u8 17, .int .u8 0, .int .u8 63, .int .u8 0] 5)).alloc (.cells #[.int .u8 17, .int .u8 17, .int .u8 33, .int .u8 34] 5)).heap.size = w7.heap.size + 1 + 1 by simp] at h
         exact h.mono' (fun _ _ => trivial)))
    | ((with_reducible refine wpList_append_y (o := ⟨some 37, _, _, _, _, _⟩) rfl (.tmp 30) (.tmp 36) rfl _ (.slice A7 5 c7) 5 ([8] ++ be2 H ++ be2 W) rfl R9.out.own _ (some ⟨w7.heap.size + 1 + 1, 0, none⟩) 10 10 [3, 1, 33, 0, 2, 17, 1, 3, 17, 1] rfl S9.out ?hs ?hb ?_)
       case hs => omega
       case hb => exact R9.out.bel.size
       intro v7 wq hown7 bq
       obtain ⟨A10, c10, hv7⟩ := own_slice hown7
       subst hv7
       have R10 := Lib.hid (bq.row R9.out hown7)
       have K10 := Lib.hid bq
       obtain ⟨w10, hw10⟩ : ∃ w10, w10 = wq := ⟨_, rfl⟩
       subst hw10
       clear hown7 bq)
    | fail)
  obtain ⟨w11, hw11⟩ : ∃ w11, w11 = w10 := ⟨_, rfl⟩
  have k11 : Below w10.heap.size w10 w11 := by rw [hw11]; exact Below.refl _ _
  have SS := Lib.hid (show Sl w11 (fun _ => True) (some ⟨w7.heap.size, 0, none⟩) 10 10 [3, 1, 0, 2, 17, 3, 17, 0, 63, 0] by
    rw [hw11]
    have h0 := (sl_lit w7 [3, 1, 0, 2, 17, 3, 17, 0, 63, 0] (by unfold Fit; decide) (show 10 ≤ maxLen by decide)).kept (Kept.of_below (on_trans (on_alloc (w7.alloc (.cells #[.int .u8 3, .int .u8 1, .int .u8 0, .int .u8 2, .int .u8 17, .int .u8 3, .int .u8 17, .int .u8 0, .int .u8 63, .int .u8 0] 5)) (.cells #[.int .u8 17, .int .u8 17, .int .u8 33, .int .u8 34] 5)) (on_alloc ((w7.alloc (.cells #[.int .u8 3, .int .u8 1, .int .u8 0, .int .u8 2, .int .u8 17, .int .u8 3, .int .u8 17, .int .u8 0, .int .u8 63, .int .u8 0] 5)).alloc (.cells #[.int .u8 17, .int .u8 17, .int .u8 33, .int .u8 34] 5)) (.cells #[.int .u8 3, .int .u8 1, .int .u8 33, .int .u8 0, .int .u8 2, .int .u8 17, .int .u8 1, .int .u8 3, .int .u8 17, .int .u8 1] 5))) (fun _ => False)) (fun _ _ h => h)
    have h1 := h0.kept K10.out (fun b hb e => by
      have hb' : b = w7.heap.size := hb
      obtain ⟨_, cs, hh⟩ := own_block3 R7.out.own e
      have := (Array.getElem?_eq_some_iff.1 hh).1
      omega)
    exact h1.mono' (fun _ _ => trivial))
  obtain ⟨w12, hw12⟩ : ∃ w12, w11.alloc (.cells #[.int .u8 255, .int .u8 216] 5) = w12 := ⟨_, rfl⟩
  have r12 : Row w11 w12 (.slice (some ⟨w11.heap.size, 0, none⟩) 2 2) 2 [255, 216] := by rw [← hw12]; exact row_lit w11 [255, 216] (show 2 ≤ maxLen by decide)
  rw [← hw11, hw12]
  have R12 := Lib.hid r12
  have F10 := Lib.hid (show Row w2 w10 (.slice A10 15 c10) 15 ([8] ++ be2 H ++ be2 W ++ [3, 1, 33, 0, 2, 17, 1, 3, 17, 1]) from R10.out)
  have HP := Lib.hid (put_any w12 _ 192 A10 15 c10 ([8] ++ be2 H ++ be2 W ++ [3, 1, 33, 0, 2, 17, 1, 3, 17, 1]) (((F10.out.sl (fit_app (fit_app (fit_app (by unfold Fit; decide) (fit_be2 H)) (fit_be2 W)) (by unfold Fit; decide))).on k11).on r12.bel) (by omega) (by omega) (by omega))
  have HK := Lib.hid (And.intro k11 R10.out.bel)
  clear k11 r12 hw11 hw12
  refine Calls.mono HP.out ?_
  rintro e w13 ⟨A13, c13, rfl, s13, b13⟩
  have S13 := Lib.hid s13
  have R13 := Lib.hid (R12.out.on b13)
  clear s13 b13
  go_wp2_with (first
    | ((with_reducible refine wpList_append_y (o := ⟨some 41, _, _, _, _, _⟩) rfl (.tmp 38) (.tmp 40) rfl _ (.slice (some ⟨w11.heap.size, 0, none⟩) 2 2) 2 [255, 216] rfl R13.out.own _ A13 19 c13 (segB 192 ([8] ++ be2 H ++ be2 W ++ [3, 1, 33, 0, 2, 17, 1, 3, 17, 1])) rfl S13.out ?hs ?hb ?_)
       case hs => omega
       case hb => exact R13.out.bel.size
       intro v7 wq hown7 bq
       obtain ⟨A14, c14, hv7⟩ := own_slice hown7
       subst hv7
       have R14 := Lib.hid (bq.row R13.out hown7)
       have K14 := Lib.hid bq
       obtain ⟨w14, hw14⟩ : ∃ w14, w14 = wq := ⟨_, rfl⟩
       subst hw14
       clear hown7 bq
       have cR : w14.cell? ⟨w0.heap.size, 3, none⟩ = some (.int .i64 R) := (((B2.out.on HK.out.2).on HK.out.1).on R14.out.bel).cell 3)
    | fail)
  have HT15 := Lib.hid (told2_any w14 R (by omega) (by omega))
  refine Calls.mono HT15.out ?_
  rintro e w15 ⟨A15, c15, rfl, s15, b15⟩
  have HP16 := Lib.hid (put_any w15 _ 221 A15 2 c15 (be2 R) s15 (by omega) (by omega) (by omega))
  have R15 := Lib.hid (R14.out.on b15)
  clear s15 b15 cR
  go_wp2_with fail
  refine Calls.mono HP16.out ?_
  rintro e w16 ⟨A16, c16, rfl, s16, b16⟩
  have S16 := Lib.hid s16
  have R16 := Lib.hid (R15.out.on b16)
  clear s16 b16
  go_wp2_with (first
    | ((with_reducible refine wpList_append_y (o := ⟨some 50, _, _, _, _, _⟩) rfl (.tmp 45) (.tmp 49) rfl _ (.slice A14 21 c14) 21 ([255, 216] ++ segB 192 ([8] ++ be2 H ++ be2 W ++ [3, 1, 33, 0, 2, 17, 1, 3, 17, 1])) rfl R16.out.own _ A16 6 c16 (segB 221 (be2 R)) rfl S16.out ?hs ?hb ?_)
       case hs => omega
       case hb => exact R16.out.bel.size
       intro v7 wq hown7 bq
       obtain ⟨A17, c17, hv7⟩ := own_slice hown7
       subst hv7
       have R17 := Lib.hid (bq.row R16.out hown7)
       have K17 := Lib.hid bq
       obtain ⟨w17, hw17⟩ : ∃ w17, w17 = wq := ⟨_, rfl⟩
       subst hw17
       clear hown7 bq)
    | fail)
  have HP18 := Lib.hid (put_any w17 _ 218 (some ⟨w7.heap.size, 0, none⟩) 10 10 [3, 1, 0, 2, 17, 3, 17, 0, 63, 0] (SS.out.on R17.out.bel) (by omega) (by omega) (by omega))
  refine Calls.mono HP18.out ?_
  rintro e w18 ⟨A18, c18, rfl, s18, b18⟩
  have S18 := Lib.hid s18
  have R18 := Lib.hid (R17.out.on b18)
  clear s18 b18
  go_wp2_with (first
    | ((with_reducible refine wpList_append_y (o := ⟨some 54, _, _, _, _, _⟩) rfl (.tmp 51) (.tmp 53) rfl _ (.slice A17 27 c17) 27 (([255, 216] ++ segB 192 ([8] ++ be2 H ++ be2 W ++ [3, 1, 33, 0, 2, 17, 1, 3, 17, 1])) ++ segB 221 (be2 R)) rfl R18.out.own _ A18 14 c18 (segB 218 [3, 1, 0, 2, 17, 3, 17, 0, 63, 0]) rfl S18.out ?hs ?hb ?_)
       case hs => omega
       case hb => exact R18.out.bel.size
       intro v7 wq hown7 bq
       obtain ⟨A19, c19, hv7⟩ := own_slice hown7
       subst hv7
       have R19 := Lib.hid (bq.row R18.out hown7)
       have K19 := Lib.hid bq
       obtain ⟨w19, hw19⟩ : ∃ w19, w19 = wq := ⟨_, rfl⟩
       subst hw19
       clear hown7 bq)
    | fail)
  have el : headB W H 2 R = (([255, 216] ++ segB 192 ([8] ++ be2 H ++ be2 W ++ [3, 1, 33, 0, 2, 17, 1, 3, 17, 1])) ++ segB 221 (be2 R)) ++ segB 218 [3, 1, 0, 2, 17, 3, 17, 0, 63, 0] := by
    unfold headB
    rw [if_pos hR]
    rfl
  have hf : Fit ((([255, 216] ++ segB 192 ([8] ++ be2 H ++ be2 W ++ [3, 1, 33, 0, 2, 17, 1, 3, 17, 1])) ++ segB 221 (be2 R)) ++ segB 218 [3, 1, 0, 2, 17, 3, 17, 0, 63, 0]) := fit_app (fit_app (fit_app (by unfold Fit; decide) (fit_seg (by omega) (by omega) (fit_app (fit_app (fit_app (by unfold Fit; decide) (fit_be2 H)) (fit_be2 W)) (by unfold Fit; decide)))) (fit_seg (by omega) (by omega) (fit_be2 R))) (fit_seg (by omega) (by omega) (by unfold Fit; decide))
  have hl := R19.out.len
  have hs := R19.out.sl hf
  rw [← el] at hl hs
  have HE := Lib.hid (And.intro hl hs)
  clear el hf hl hs
  go_ret2
  unfold TellsY
  rw [HE.out.1]
  have kb := on_trans (on_trans HW.out.2.1 H2.out) (on_trans HK.out.2 HK.out.1)
  exact ⟨A19, c19, rfl, HE.out.2.mono' (fun b h => Nat.le_trans kb.size h), on_trans kb R19.out.bel⟩

set_option maxRecDepth 10000 in
set_option maxHeartbeats 3200000 in
theorem head_2_0 (w0 : World) (W H : Int) (hr : RightS W H 2 0) : Calls Tryd.prog 14 #[.agg #[.int .i64 W, .int .i64 H, .int .i64 2, .int .i64 0]] w0 (TellsY w0 (headB W H 2 0) 0) := by
  obtain ⟨w1, hw1⟩ : ∃ w1, w0.alloc (.cells #[.int .i64 W, .int .i64 H, .int .i64 2, .int .i64 0] 33) = w1 := ⟨_, rfl⟩
  have b1 : Box w1 w0.heap.size 33 #[.int .i64 W, .int .i64 H, .int .i64 2, .int .i64 0] := by rw [← hw1]; exact Box.made _ _ _
  have k1 : Below w0.heap.size w0 w1 := by rw [← hw1]; exact on_alloc _ _
  have HR := Lib.hid (refRightS_any w1 W H 2 0)
  rw [decide_eq_true hr] at HR
  have HW := Lib.hid (And.intro hw1 (And.intro k1 b1))
  obtain ⟨⟨W0, W1⟩, ⟨H0, H1⟩, _, R0, R1⟩ := hr
  clear hw1 k1 b1
  go_enter Tryd.func14, Tryd.ntmps14
  go_wp2_with fail
  rw [HW.out.1]
  refine Calls.mono HR.out ?_
  rintro e w2 ⟨rfl, b2⟩
  have H2 := Lib.hid b2
  have B2 := Lib.hid (HW.out.2.2.on b2)
  clear b2
  obtain ⟨w3, hw3⟩ : ∃ w3, w2.alloc (.cells #[.int .u8 8] 5) = w3 := ⟨_, rfl⟩
  have R3 := Lib.hid (show Row w2 w3 (.slice (some ⟨w2.heap.size, 0, none⟩) 1 1) 1 [8] by rw [← hw3]; exact row_lit w2 [8] (show 1 ≤ maxLen by decide))
  have HT := Lib.hid (told2_any w3 H (by omega) (by omega))
  have HW3 := Lib.hid hw3
  have c1 : (w2.alloc (.cells #[.int .u8 8] 5)).cell? ⟨w0.heap.size, 1, none⟩ = some (.int .i64 H) := by rw [hw3]; exact (B2.out.on R3.out.bel).cell 1
  clear hw3
  go_wp2_with fail
  rw [HW3.out]
  refine Calls.mono HT.out ?_
  rintro e w4 ⟨A4, c4, rfl, s4, b4⟩
  have S4 := Lib.hid s4
  have R4 := Lib.hid (R3.out.on b4)
  clear s4 b4 c1
  go_wp2_with (first
    | ((with_reducible refine wpList_append_y (o := ⟨some 15, _, _, _, _, _⟩) rfl (.tmp 11) (.tmp 14) rfl _ (.slice (some ⟨w2.heap.size, 0, none⟩) 1 1) 1 [8] rfl R4.out.own _ A4 2 c4 (be2 H) rfl S4.out ?hs ?hb ?_)
       case hs => omega
       case hb => exact R4.out.bel.size
       intro v7 w7 hown7 bq
       obtain ⟨A5, c5, hv7⟩ := own_slice hown7
       subst hv7
       have R5 := Lib.hid (bq.row R4.out hown7)
       have K5 := Lib.hid bq
       obtain ⟨w5, hw5⟩ : ∃ w5, w5 = w7 := ⟨_, rfl⟩
       subst hw5
       clear hown7 bq)
    | (refine wpList_load_to (op := ⟨some 18, _, _, _, _, _⟩) rfl 3 (.tmp 17) rfl (.pointer (some ⟨w0.heap.size, 0, none⟩)) rfl (.int .i64 W) ?ld ?_
       case ld =>
         have c : w5.cell? ⟨w0.heap.size, 0, none⟩ = some (.int .i64 W) := (B2.out.on R5.out.bel).cell 0
         go_simp)
    | fail)
  have HT6 := Lib.hid (told2_any w5 W (by omega) (by omega))
  refine Calls.mono HT6.out ?_
  rintro e w6 ⟨A6, c6, rfl, s6, b6⟩
  have S6 := Lib.hid s6
  have R6 := Lib.hid (R5.out.on b6)
  clear s6 b6
  go_wp2_with (first
    | ((with_reducible refine wpList_append_y (o := ⟨some 20, _, _, _, _, _⟩) rfl (.tmp 16) (.tmp 19) rfl _ (.slice A5 3 c5) 3 ([8] ++ be2 H) rfl R6.out.own _ A6 2 c6 (be2 W) rfl S6.out ?hs ?hb ?_)
       case hs => omega
       case hb => exact R6.out.bel.size
       intro v7 wq hown7 bq
       obtain ⟨A7, c7, hv7⟩ := own_slice hown7
       subst hv7
       have R7 := Lib.hid (bq.row R6.out hown7)
       have K7 := Lib.hid bq
       obtain ⟨w7, hw7⟩ : ∃ w7, w7 = wq := ⟨_, rfl⟩
       subst hw7
       clear hown7 bq
       have cK : (w7.alloc (.cells #[.int .u8 3, .int .u8 1, .int .u8 0, .int .u8 2, .int .u8 17, .int .u8 3, .int .u8 17, .int .u8 0, .int .u8 63, .int .u8 0] 5)).cell? ⟨w0.heap.size, 2, none⟩ = some (.int .i64 2) := (B2.out.on (on_trans R7.out.bel (on_alloc _ _))).cell 2
       have cH1 : ((w7.alloc (.cells #[.int .u8 3, .int .u8 1, .int .u8 0, .int .u8 2, .int .u8 17, .int .u8 3, .int .u8 17, .int .u8 0, .int .u8 63, .int .u8 0] 5)).alloc (.cells #[.int .u8 17, .int .u8 17, .int .u8 33, .int .u8 34] 5)).cell? ⟨w0.heap.size, 2, none⟩ = some (.int .i64 2) := (B2.out.on (on_trans R7.out.bel (on_trans (on_alloc _ _) (on_alloc _ _)))).cell 2
       have cH2 : ((w7.alloc (.cells #[.int .u8 3, .int .u8 1, .int .u8 0, .int .u8 2, .int .u8 17, .int .u8 3, .int .u8 17, .int .u8 0, .int .u8 63, .int .u8 0] 5)).alloc (.cells #[.int .u8 17, .int .u8 17, .int .u8 33, .int .u8 34] 5)).cell? ⟨w7.heap.size + 1, 2, none⟩ = some (.int .u8 33) := by
         have h := (Box.made (w7.alloc (.cells #[.int .u8 3, .int .u8 1, .int .u8 0, .int .u8 2, .int .u8 17, .int .u8 3, .int .u8 17, .int .u8 0, .int .u8 63, .int .u8 0] 5)) 5 #[.int .u8 17, .int .u8 17, .int .u8 33, .int .u8 34]).cell 2
         rw [show (w7.alloc (.cells #[.int .u8 3, .int .u8 1, .int .u8 0, .int .u8 2, .int .u8 17, .int .u8 3, .int .u8 17, .int .u8 0, .int .u8 63, .int .u8 0] 5)).heap.size = w7.heap.size + 1 by simp] at h
         exact h
       have R9 := Lib.hid (show Row w2 (((w7.alloc (.cells #[.int .u8 3, .int .u8 1, .int .u8 0, .int .u8 2, .int .u8 17, .int .u8 3, .int .u8 17, .int .u8 0, .int .u8 63, .int .u8 0] 5)).alloc (.cells #[.int .u8 17, .int .u8 17, .int .u8 33, .int .u8 34] 5)).alloc (.cells #[.int .u8 3, .int .u8 1, .int .u8 33, .int .u8 0, .int .u8 2, .int .u8 17, .int .u8 1, .int .u8 3, .int .u8 17, .int .u8 1] 5)) (.slice A7 5 c7) 5 ([8] ++ be2 H ++ be2 W) from R7.out.on (on_trans (on_trans (on_alloc _ _) (on_alloc _ _)) (on_alloc _ _)))
       have S9 := Lib.hid (show Sl (((w7.alloc (.cells #[.int .u8 3, .int .u8 1, .int .u8 0, .int .u8 2, .int .u8 17, .int .u8 3, .int .u8 17, .int .u8 0, .int .u8 63, .int .u8 0] 5)).alloc (.cells #[.int .u8 17, .int .u8 17, .int .u8 33, .int .u8 34] 5)).alloc (.cells #[.int .u8 3, .int .u8 1, .int .u8 33, .int .u8 0, .int .u8 2, .int .u8 17, .int .u8 1, .int .u8 3, .int .u8 17, .int .u8 1] 5)) (fun _ => True) (some ⟨w7.heap.size + 1 + 1, 0, none⟩) 10 10 [3, 1, 33, 0, 2, 17, 1, 3, 17, 1] by
         have h := sl_lit ((w7.alloc (.cells #[.int .u8 3, .int .u8 1, .int .u8 0, .int .u8 2, .int .u8 17, .int .u8 3, .int .u8 17, .int .u8 0, .int .u8 63, .int .u8 0] 5)).alloc (.cells #[.int .u8 17, .int .u8 17, .int .u8 33, .int .u8 34] 5)) [3, 1, 33, 0, 2, 17, 1, 3, 17, 1] (by unfold Fit; decide) (show 10 ≤ maxLen by decide)
         rw [show ((w7.alloc (.cells #[.int .u8 3, .int .u8 1, .int .u8 0, .int .u8 2, .int .u8 17, .int .u8 3, .int .u8 17, .int .u8 0, .int .u8 63, .int .u8 0] 5)).alloc (.cells #[.int .u8 17, .int .u8 17, .int .u8 33, .int .u8 34] 5)).heap.size = w7.heap.size + 1 + 1 by simp] at h
         exact h.mono' (fun _ _ => trivial)))
    | ((with_reducible refine wpList_append_y (o := ⟨some 37, _, _, _, _, _⟩) rfl (.tmp 30) (.tmp 36) rfl _ (.slice A7 5 c7) 5 ([8] ++ be2 H ++ be2 W) rfl R9.out.own _ (some ⟨w7.heap.size + 1 + 1, 0, none⟩) 10 10 [3, 1, 33, 0, 2, 17, 1, 3, 17, 1] rfl S9.out ?hs ?hb ?_)
       case hs => omega
       case hb => exact R9.out.bel.size
       intro v7 wq hown7 bq
       obtain ⟨A10, c10, hv7⟩ := own_slice hown7
       subst hv7
       have R10 := Lib.hid (bq.row R9.out hown7)
       have K10 := Lib.hid bq
       obtain ⟨w10, hw10⟩ : ∃ w10, w10 = wq := ⟨_, rfl⟩
       subst hw10
       clear hown7 bq)
    | fail)
  obtain ⟨w11, hw11⟩ : ∃ w11, w11 = w10 := ⟨_, rfl⟩
  have k11 : Below w10.heap.size w10 w11 := by rw [hw11]; exact Below.refl _ _
  have SS := Lib.hid (show Sl w11 (fun _ => True) (some ⟨w7.heap.size, 0, none⟩) 10 10 [3, 1, 0, 2, 17, 3, 17, 0, 63, 0] by
    rw [hw11]
    have h0 := (sl_lit w7 [3, 1, 0, 2, 17, 3, 17, 0, 63, 0] (by unfold Fit; decide) (show 10 ≤ maxLen by decide)).kept (Kept.of_below (on_trans (on_alloc (w7.alloc (.cells #[.int .u8 3, .int .u8 1, .int .u8 0, .int .u8 2, .int .u8 17, .int .u8 3, .int .u8 17, .int .u8 0, .int .u8 63, .int .u8 0] 5)) (.cells #[.int .u8 17, .int .u8 17, .int .u8 33, .int .u8 34] 5)) (on_alloc ((w7.alloc (.cells #[.int .u8 3, .int .u8 1, .int .u8 0, .int .u8 2, .int .u8 17, .int .u8 3, .int .u8 17, .int .u8 0, .int .u8 63, .int .u8 0] 5)).alloc (.cells #[.int .u8 17, .int .u8 17, .int .u8 33, .int .u8 34] 5)) (.cells #[.int .u8 3, .int .u8 1, .int .u8 33, .int .u8 0, .int .u8 2, .int .u8 17, .int .u8 1, .int .u8 3, .int .u8 17, .int .u8 1] 5))) (fun _ => False)) (fun _ _ h => h)
    have h1 := h0.kept K10.out (fun b hb e => by
      have hb' : b = w7.heap.size := hb
      obtain ⟨_, cs, hh⟩ := own_block3 R7.out.own e
      have := (Array.getElem?_eq_some_iff.1 hh).1
      omega)
    exact h1.mono' (fun _ _ => trivial))
  obtain ⟨w12, hw12⟩ : ∃ w12, w11.alloc (.cells #[.int .u8 255, .int .u8 216] 5) = w12 := ⟨_, rfl⟩
  have r12 : Row w11 w12 (.slice (some ⟨w11.heap.size, 0, none⟩) 2 2) 2 [255, 216] := by rw [← hw12]; exact row_lit w11 [255, 216] (show 2 ≤ maxLen by decide)
  rw [← hw11, hw12]
  have R12 := Lib.hid r12
  have F10 := Lib.hid (show Row w2 w10 (.slice A10 15 c10) 15 ([8] ++ be2 H ++ be2 W ++ [3, 1, 33, 0, 2, 17, 1, 3, 17, 1]) from R10.out)
  have HP := Lib.hid (put_any w12 _ 192 A10 15 c10 ([8] ++ be2 H ++ be2 W ++ [3, 1, 33, 0, 2, 17, 1, 3, 17, 1]) (((F10.out.sl (fit_app (fit_app (fit_app (by unfold Fit; decide) (fit_be2 H)) (fit_be2 W)) (by unfold Fit; decide))).on k11).on r12.bel) (by omega) (by omega) (by omega))
  have HK := Lib.hid (And.intro k11 R10.out.bel)
  clear k11 r12 hw11 hw12
  refine Calls.mono HP.out ?_
  rintro e w13 ⟨A13, c13, rfl, s13, b13⟩
  have S13 := Lib.hid s13
  have R13 := Lib.hid (R12.out.on b13)
  clear s13 b13
  go_wp2_with (first
    | ((with_reducible refine wpList_append_y (o := ⟨some 41, _, _, _, _, _⟩) rfl (.tmp 38) (.tmp 40) rfl _ (.slice (some ⟨w11.heap.size, 0, none⟩) 2 2) 2 [255, 216] rfl R13.out.own _ A13 19 c13 (segB 192 ([8] ++ be2 H ++ be2 W ++ [3, 1, 33, 0, 2, 17, 1, 3, 17, 1])) rfl S13.out ?hs ?hb ?_)
       case hs => omega
       case hb => exact R13.out.bel.size
       intro v7 wq hown7 bq
       obtain ⟨A14, c14, hv7⟩ := own_slice hown7
       subst hv7
       have R14 := Lib.hid (bq.row R13.out hown7)
       have K14 := Lib.hid bq
       obtain ⟨w14, hw14⟩ : ∃ w14, w14 = wq := ⟨_, rfl⟩
       subst hw14
       clear hown7 bq
       have cR : w14.cell? ⟨w0.heap.size, 3, none⟩ = some (.int .i64 0) := (((B2.out.on HK.out.2).on HK.out.1).on R14.out.bel).cell 3)
    | fail)
  have HP18 := Lib.hid (put_any w14 _ 218 (some ⟨w7.heap.size, 0, none⟩) 10 10 [3, 1, 0, 2, 17, 3, 17, 0, 63, 0] (SS.out.on R14.out.bel) (by omega) (by omega) (by omega))
  refine Calls.mono HP18.out ?_
  rintro e w18 ⟨A18, c18, rfl, s18, b18⟩
  have S18 := Lib.hid s18
  have R18 := Lib.hid (R14.out.on b18)
  clear s18 b18
  go_wp2_with (first
    | ((with_reducible refine wpList_append_y (o := ⟨some 54, _, _, _, _, _⟩) rfl (.tmp 51) (.tmp 53) rfl _ (.slice A14 21 c14) 21 ([255, 216] ++ segB 192 ([8] ++ be2 H ++ be2 W ++ [3, 1, 33, 0, 2, 17, 1, 3, 17, 1])) rfl R18.out.own _ A18 14 c18 (segB 218 [3, 1, 0, 2, 17, 3, 17, 0, 63, 0]) rfl S18.out ?hs ?hb ?_)
       case hs => omega
       case hb => exact R18.out.bel.size
       intro v7 wq hown7 bq
       obtain ⟨A19, c19, hv7⟩ := own_slice hown7
       subst hv7
       have R19 := Lib.hid (bq.row R18.out hown7)
       have K19 := Lib.hid bq
       obtain ⟨w19, hw19⟩ : ∃ w19, w19 = wq := ⟨_, rfl⟩
       subst hw19
       clear hown7 bq)
    | fail)
  have el : headB W H 2 0 = ([255, 216] ++ segB 192 ([8] ++ be2 H ++ be2 W ++ [3, 1, 33, 0, 2, 17, 1, 3, 17, 1])) ++ segB 218 [3, 1, 0, 2, 17, 3, 17, 0, 63, 0] := by
    unfold headB
    rw [if_neg (by omega), List.append_nil]
    rfl
  have hf : Fit (([255, 216] ++ segB 192 ([8] ++ be2 H ++ be2 W ++ [3, 1, 33, 0, 2, 17, 1, 3, 17, 1])) ++ segB 218 [3, 1, 0, 2, 17, 3, 17, 0, 63, 0]) := fit_app (fit_app (by unfold Fit; decide) (fit_seg (by omega) (by omega) (fit_app (fit_app (fit_app (by unfold Fit; decide) (fit_be2 H)) (fit_be2 W)) (by unfold Fit; decide)))) (fit_seg (by omega) (by omega) (by unfold Fit; decide))
  have hl := R19.out.len
  have hs := R19.out.sl hf
  rw [← el] at hl hs
  have HE := Lib.hid (And.intro hl hs)
  clear el hf hl hs
  go_ret2
  unfold TellsY
  rw [HE.out.1]
  have kb := on_trans (on_trans HW.out.2.1 H2.out) (on_trans HK.out.2 HK.out.1)
  exact ⟨A19, c19, rfl, HE.out.2.mono' (fun b h => Nat.le_trans kb.size h), on_trans kb R19.out.bel⟩

set_option maxRecDepth 10000 in
set_option maxHeartbeats 3200000 in
theorem head_3_1 (w0 : World) (W H R : Int) (hr : RightS W H 3 R) (hR : 0 < R) : Calls Tryd.prog 14 #[.agg #[.int .i64 W, .int .i64 H, .int .i64 3, .int .i64 R]] w0 (TellsY w0 (headB W H 3 R) 0) := by
  obtain ⟨w1, hw1⟩ : ∃ w1, w0.alloc (.cells #[.int .i64 W, .int .i64 H, .int .i64 3, .int .i64 R] 33) = w1 := ⟨_, rfl⟩
  have b1 : Box w1 w0.heap.size 33 #[.int .i64 W, .int .i64 H, .int .i64 3, .int .i64 R] := by rw [← hw1]; exact Box.made _ _ _
  have k1 : Below w0.heap.size w0 w1 := by rw [← hw1]; exact on_alloc _ _
  have HR := Lib.hid (refRightS_any w1 W H 3 R)
  rw [decide_eq_true hr] at HR
  have HW := Lib.hid (And.intro hw1 (And.intro k1 b1))
  obtain ⟨⟨W0, W1⟩, ⟨H0, H1⟩, _, R0, R1⟩ := hr
  clear hw1 k1 b1
  go_enter Tryd.func14, Tryd.ntmps14
  go_wp2_with fail
  rw [HW.out.1]
  refine Calls.mono HR.out ?_
  rintro e w2 ⟨rfl, b2⟩
  have H2 := Lib.hid b2
  have B2 := Lib.hid (HW.out.2.2.on b2)
  clear b2
  obtain ⟨w3, hw3⟩ : ∃ w3, w2.alloc (.cells #[.int .u8 8] 5) = w3 := ⟨_, rfl⟩
  have R3 := Lib.hid (show Row w2 w3 (.slice (some ⟨w2.heap.size, 0, none⟩) 1 1) 1 [8] by rw [← hw3]; exact row_lit w2 [8] (show 1 ≤ maxLen by decide))
  have HT := Lib.hid (told2_any w3 H (by omega) (by omega))
  have HW3 := Lib.hid hw3
  have c1 : (w2.alloc (.cells #[.int .u8 8] 5)).cell? ⟨w0.heap.size, 1, none⟩ = some (.int .i64 H) := by rw [hw3]; exact (B2.out.on R3.out.bel).cell 1
  clear hw3
  go_wp2_with fail
  rw [HW3.out]
  refine Calls.mono HT.out ?_
  rintro e w4 ⟨A4, c4, rfl, s4, b4⟩
  have S4 := Lib.hid s4
  have R4 := Lib.hid (R3.out.on b4)
  clear s4 b4 c1
  go_wp2_with (first
    | ((with_reducible refine wpList_append_y (o := ⟨some 15, _, _, _, _, _⟩) rfl (.tmp 11) (.tmp 14) rfl _ (.slice (some ⟨w2.heap.size, 0, none⟩) 1 1) 1 [8] rfl R4.out.own _ A4 2 c4 (be2 H) rfl S4.out ?hs ?hb ?_)
       case hs => omega
       case hb => exact R4.out.bel.size
       intro v7 w7 hown7 bq
       obtain ⟨A5, c5, hv7⟩ := own_slice hown7
       subst hv7
       have R5 := Lib.hid (bq.row R4.out hown7)
       have K5 := Lib.hid bq
       obtain ⟨w5, hw5⟩ : ∃ w5, w5 = w7 := ⟨_, rfl⟩
       subst hw5
       clear hown7 bq)
    | (refine wpList_load_to (op := ⟨some 18, _, _, _, _, _⟩) rfl 3 (.tmp 17) rfl (.pointer (some ⟨w0.heap.size, 0, none⟩)) rfl (.int .i64 W) ?ld ?_
       case ld =>
         have c : w5.cell? ⟨w0.heap.size, 0, none⟩ = some (.int .i64 W) := (B2.out.on R5.out.bel).cell 0
         go_simp)
    | fail)
  have HT6 := Lib.hid (told2_any w5 W (by omega) (by omega))
  refine Calls.mono HT6.out ?_
  rintro e w6 ⟨A6, c6, rfl, s6, b6⟩
  have S6 := Lib.hid s6
  have R6 := Lib.hid (R5.out.on b6)
  clear s6 b6
  go_wp2_with (first
    | ((with_reducible refine wpList_append_y (o := ⟨some 20, _, _, _, _, _⟩) rfl (.tmp 16) (.tmp 19) rfl _ (.slice A5 3 c5) 3 ([8] ++ be2 H) rfl R6.out.own _ A6 2 c6 (be2 W) rfl S6.out ?hs ?hb ?_)
       case hs => omega
       case hb => exact R6.out.bel.size
       intro v7 wq hown7 bq
       obtain ⟨A7, c7, hv7⟩ := own_slice hown7
       subst hv7
       have R7 := Lib.hid (bq.row R6.out hown7)
       have K7 := Lib.hid bq
       obtain ⟨w7, hw7⟩ : ∃ w7, w7 = wq := ⟨_, rfl⟩
       subst hw7
       clear hown7 bq
       have cK : (w7.alloc (.cells #[.int .u8 3, .int .u8 1, .int .u8 0, .int .u8 2, .int .u8 17, .int .u8 3, .int .u8 17, .int .u8 0, .int .u8 63, .int .u8 0] 5)).cell? ⟨w0.heap.size, 2, none⟩ = some (.int .i64 3) := (B2.out.on (on_trans R7.out.bel (on_alloc _ _))).cell 2
       have cH1 : ((w7.alloc (.cells #[.int .u8 3, .int .u8 1, .int .u8 0, .int .u8 2, .int .u8 17, .int .u8 3, .int .u8 17, .int .u8 0, .int .u8 63, .int .u8 0] 5)).alloc (.cells #[.int .u8 17, .int .u8 17, .int .u8 33, .int .u8 34] 5)).cell? ⟨w0.heap.size, 2, none⟩ = some (.int .i64 3) := (B2.out.on (on_trans R7.out.bel (on_trans (on_alloc _ _) (on_alloc _ _)))).cell 2
       have cH2 : ((w7.alloc (.cells #[.int .u8 3, .int .u8 1, .int .u8 0, .int .u8 2, .int .u8 17, .int .u8 3, .int .u8 17, .int .u8 0, .int .u8 63, .int .u8 0] 5)).alloc (.cells #[.int .u8 17, .int .u8 17, .int .u8 33, .int .u8 34] 5)).cell? ⟨w7.heap.size + 1, 3, none⟩ = some (.int .u8 34) := by
         have h := (Box.made (w7.alloc (.cells #[.int .u8 3, .int .u8 1, .int .u8 0, .int .u8 2, .int .u8 17, .int .u8 3, .int .u8 17, .int .u8 0, .int .u8 63, .int .u8 0] 5)) 5 #[.int .u8 17, .int .u8 17, .int .u8 33, .int .u8 34]).cell 3
         rw [show (w7.alloc (.cells #[.int .u8 3, .int .u8 1, .int .u8 0, .int .u8 2, .int .u8 17, .int .u8 3, .int .u8 17, .int .u8 0, .int .u8 63, .int .u8 0] 5)).heap.size = w7.heap.size + 1 by simp] at h
         exact h
       have R9 := Lib.hid (show Row w2 (((w7.alloc (.cells #[.int .u8 3, .int .u8 1, .int .u8 0, .int .u8 2, .int .u8 17, .int .u8 3, .int .u8 17, .int .u8 0, .int .u8 63, .int .u8 0] 5)).alloc (.cells #[.int .u8 17, .int .u8 17, .int .u8 33, .int .u8 34] 5)).alloc (.cells #[.int .u8 3, .int .u8 1, .int .u8 34, .int .u8 0, .int .u8 2, .int .u8 17, .int .u8 1, .int .u8 3, .int .u8 17, .int .u8 1] 5)) (.slice A7 5 c7) 5 ([8] ++ be2 H ++ be2 W) from R7.out.on (on_trans (on_trans (on_alloc _ _) (on_alloc _ _)) (on_alloc _ _)))
       have S9 := Lib.hid (show Sl (((w7.alloc (.cells #[.int .u8 3, .int .u8 1, .int .u8 0, .int .u8 2, .int .u8 17, .int .u8 3, .int .u8 17, .int .u8 0, .int .u8 63, .int .u8 0] 5)).alloc (.cells #[.int .u8 17, .int .u8 17, .int .u8 33, .int .u8 34] 5)).alloc (.cells #[.int .u8 3, .int .u8 1, .int .u8 34, .int .u8 0, .int .u8 2, .int .u8 17, .int .u8 1, .int .u8 3, .int .u8 17, .int .u8 1] 5)) (fun _ => True) (some ⟨w7.heap.size + 1 + 1, 0, none⟩) 10 10 [3, 1, 34, 0, 2, 17, 1, 3, 17, 1] by
         have h := sl_lit ((w7.alloc (.cells #[.int .u8 3, .int .u8 1, .int .u8 0, .int .u8 2, .int .u8 17, .int .u8 3, .int .u8 17, .int .u8 0, .int .u8 63, .int .u8 0] 5)).alloc (.cells #[.int .u8 17, .int .u8 17, .int .u8 33, .int .u8 34] 5)) [3, 1, 34, 0, 2, 17, 1, 3, 17, 1] (by unfold Fit; decide) (show 10 ≤ maxLen by decide)
         rw [show ((w7.alloc (.cells #[.int .u8 3, .int .u8 1, .int .u8 0, .int .u8 2, .int .u8 17, .int .u8 3, .int .u8 17, .int .u8 0, .int .u8 63, .int .u8 0] 5)).alloc (.cells #[.int .u8 17, .int .u8 17, .int .u8 33, .int .u8 34] 5)).heap.size = w7.heap.size + 1 + 1 by simp] at h
         exact h.mono' (fun _ _ => trivial)))
    | ((with_reducible refine wpList_append_y (o := ⟨some 37, _, _, _, _, _⟩) rfl (.tmp 30) (.tmp 36) rfl _ (.slice A7 5 c7) 5 ([8] ++ be2 H ++ be2 W) rfl R9.out.own _ (some ⟨w7.heap.size + 1 + 1, 0, none⟩) 10 10 [3, 1, 34, 0, 2, 17, 1, 3, 17, 1] rfl S9.out ?hs ?hb ?_)
       case hs => omega
       case hb => exact R9.out.bel.size
       intro v7 wq hown7 bq
       obtain ⟨A10, c10, hv7⟩ := own_slice hown7
       subst hv7
       have R10 := Lib.hid (bq.row R9.out hown7)
       have K10 := Lib.hid bq
       obtain ⟨w10, hw10⟩ : ∃ w10, w10 = wq := ⟨_, rfl⟩
       subst hw10
       clear hown7 bq)
    | fail)
  obtain ⟨w11, hw11⟩ : ∃ w11, w11 = w10 := ⟨_, rfl⟩
  have k11 : Below w10.heap.size w10 w11 := by rw [hw11]; exact Below.refl _ _
  have SS := Lib.hid (show Sl w11 (fun _ => True) (some ⟨w7.heap.size, 0, none⟩) 10 10 [3, 1, 0, 2, 17, 3, 17, 0, 63, 0] by
    rw [hw11]
    have h0 := (sl_lit w7 [3, 1, 0, 2, 17, 3, 17, 0, 63, 0] (by unfold Fit; decide) (show 10 ≤ maxLen by decide)).kept (Kept.of_below (on_trans (on_alloc (w7.alloc (.cells #[.int .u8 3, .int .u8 1, .int .u8 0, .int .u8 2, .int .u8 17, .int .u8 3, .int .u8 17, .int .u8 0, .int .u8 63, .int .u8 0] 5)) (.cells #[.int .u8 17, .int .u8 17, .int .u8 33, .int .u8 34] 5)) (on_alloc ((w7.alloc (.cells #[.int .u8 3, .int .u8 1, .int .u8 0, .int .u8 2, .int .u8 17, .int .u8 3, .int .u8 17, .int .u8 0, .int .u8 63, .int .u8 0] 5)).alloc (.cells #[.int .u8 17, .int .u8 17, .int .u8 33, .int .u8 34] 5)) (.cells #[.int .u8 3, .int .u8 1, .int .u8 34, .int .u8 0, .int .u8 2, .int .u8 17, .int .u8 1, .int .u8 3, .int .u8 17, .int .u8 1] 5))) (fun _ => False)) (fun _ _ h => h)
    have h1 := h0.kept K10.out (fun b hb e => by
      have hb' : b = w7.heap.size := hb
      obtain ⟨_, cs, hh⟩ := own_block3 R7.out.own e
      have := (Array.getElem?_eq_some_iff.1 hh).1
      omega)
    exact h1.mono' (fun _ _ => trivial))
  obtain ⟨w12, hw12⟩ : ∃ w12, w11.alloc (.cells #[.int .u8 255, .int .u8 216] 5) = w12 := ⟨_, rfl⟩
  have r12 : Row w11 w12 (.slice (some ⟨w11.heap.size, 0, none⟩) 2 2) 2 [255, 216] := by rw [← hw12]; exact row_lit w11 [255, 216] (show 2 ≤ maxLen by decide)
  rw [← hw11, hw12]
  have R12 := Lib.hid r12
  have F10 := Lib.hid (show Row w2 w10 (.slice A10 15 c10) 15 ([8] ++ be2 H ++ be2 W ++ [3, 1, 34, 0, 2, 17, 1, 3, 17, 1]) from R10.out)
  have HP := Lib.hid (put_any w12 _ 192 A10 15 c10 ([8] ++ be2 H ++ be2 W ++ [3, 1, 34, 0, 2, 17, 1, 3, 17, 1]) (((F10.out.sl (fit_app (fit_app (fit_app (by unfold Fit; decide) (fit_be2 H)) (fit_be2 W)) (by unfold Fit; decide))).on k11).on r12.bel) (by omega) (by omega) (by omega))
  have HK := Lib.hid (And.intro k11 R10.out.bel)
  clear k11 r12 hw11 hw12
  refine Calls.mono HP.out ?_
  rintro e w13 ⟨A13, c13, rfl, s13, b13⟩
  have S13 := Lib.hid s13
  have R13 := Lib.hid (R12.out.on b13)
  clear s13 b13
  go_wp2_with (first
    | ((with_reducible refine wpList_append_y (o := ⟨some 41, _, _, _, _, _⟩) rfl (.tmp 38) (.tmp 40) rfl _ (.slice (some ⟨w11.heap.size, 0, none⟩) 2 2) 2 [255, 216] rfl R13.out.own _ A13 19 c13 (segB 192 ([8] ++ be2 H ++ be2 W ++ [3, 1, 34, 0, 2, 17, 1, 3, 17, 1])) rfl S13.out ?hs ?hb ?_)
       case hs => omega
       case hb => exact R13.out.bel.size
       intro v7 wq hown7 bq
       obtain ⟨A14, c14, hv7⟩ := own_slice hown7
       subst hv7
       have R14 := Lib.hid (bq.row R13.out hown7)
       have K14 := Lib.hid bq
       obtain ⟨w14, hw14⟩ : ∃ w14, w14 = wq := ⟨_, rfl⟩
       subst hw14
       clear hown7 bq
       have cR : w14.cell? ⟨w0.heap.size, 3, none⟩ = some (.int .i64 R) := (((B2.out.on HK.out.2).on HK.out.1).on R14.out.bel).cell 3)
    | fail)
  have HT15 := Lib.hid (told2_any w14 R (by omega) (by omega))
  refine Calls.mono HT15.out ?_
  rintro e w15 ⟨A15, c15, rfl, s15, b15⟩
  have HP16 := Lib.hid (put_any w15 _ 221 A15 2 c15 (be2 R) s15 (by omega) (by omega) (by omega))
  have R15 := Lib.hid (R14.out.on b15)
  clear s15 b15 cR
  go_wp2_with fail
  refine Calls.mono HP16.out ?_
  rintro e w16 ⟨A16, c16, rfl, s16, b16⟩
  have S16 := Lib.hid s16
  have R16 := Lib.hid (R15.out.on b16)
  clear s16 b16
  go_wp2_with (first
    | ((with_reducible refine wpList_append_y (o := ⟨some 50, _, _, _, _, _⟩) rfl (.tmp 45) (.tmp 49) rfl _ (.slice A14 21 c14) 21 ([255, 216] ++ segB 192 ([8] ++ be2 H ++ be2 W ++ [3, 1, 34, 0, 2, 17, 1, 3, 17, 1])) rfl R16.out.own _ A16 6 c16 (segB 221 (be2 R)) rfl S16.out ?hs ?hb ?_)
       case hs => omega
       case hb => exact R16.out.bel.size
       intro v7 wq hown7 bq
       obtain ⟨A17, c17, hv7⟩ := own_slice hown7
       subst hv7
       have R17 := Lib.hid (bq.row R16.out hown7)
       have K17 := Lib.hid bq
       obtain ⟨w17, hw17⟩ : ∃ w17, w17 = wq := ⟨_, rfl⟩
       subst hw17
       clear hown7 bq)
    | fail)
  have HP18 := Lib.hid (put_any w17 _ 218 (some ⟨w7.heap.size, 0, none⟩) 10 10 [3, 1, 0, 2, 17, 3, 17, 0, 63, 0] (SS.out.on R17.out.bel) (by omega) (by omega) (by omega))
  refine Calls.mono HP18.out ?_
  rintro e w18 ⟨A18, c18, rfl, s18, b18⟩
  have S18 := Lib.hid s18
  have R18 := Lib.hid (R17.out.on b18)
  clear s18 b18
  go_wp2_with (first
    | ((with_reducible refine wpList_append_y (o := ⟨some 54, _, _, _, _, _⟩) rfl (.tmp 51) (.tmp 53) rfl _ (.slice A17 27 c17) 27 (([255, 216] ++ segB 192 ([8] ++ be2 H ++ be2 W ++ [3, 1, 34, 0, 2, 17, 1, 3, 17, 1])) ++ segB 221 (be2 R)) rfl R18.out.own _ A18 14 c18 (segB 218 [3, 1, 0, 2, 17, 3, 17, 0, 63, 0]) rfl S18.out ?hs ?hb ?_)
       case hs => omega
       case hb => exact R18.out.bel.size
       intro v7 wq hown7 bq
       obtain ⟨A19, c19, hv7⟩ := own_slice hown7
       subst hv7
       have R19 := Lib.hid (bq.row R18.out hown7)
       have K19 := Lib.hid bq
       obtain ⟨w19, hw19⟩ : ∃ w19, w19 = wq := ⟨_, rfl⟩
       subst hw19
       clear hown7 bq)
    | fail)
  have el : headB W H 3 R = (([255, 216] ++ segB 192 ([8] ++ be2 H ++ be2 W ++ [3, 1, 34, 0, 2, 17, 1, 3, 17, 1])) ++ segB 221 (be2 R)) ++ segB 218 [3, 1, 0, 2, 17, 3, 17, 0, 63, 0] := by
    unfold headB
    rw [if_pos hR]
    rfl
  have hf : Fit ((([255, 216] ++ segB 192 ([8] ++ be2 H ++ be2 W ++ [3, 1, 34, 0, 2, 17, 1, 3, 17, 1])) ++ segB 221 (be2 R)) ++ segB 218 [3, 1, 0, 2, 17, 3, 17, 0, 63, 0]) := fit_app (fit_app (fit_app (by unfold Fit; decide) (fit_seg (by omega) (by omega) (fit_app (fit_app (fit_app (by unfold Fit; decide) (fit_be2 H)) (fit_be2 W)) (by unfold Fit; decide)))) (fit_seg (by omega) (by omega) (fit_be2 R))) (fit_seg (by omega) (by omega) (by unfold Fit; decide))
  have hl := R19.out.len
  have hs := R19.out.sl hf
  rw [← el] at hl hs
  have HE := Lib.hid (And.intro hl hs)
  clear el hf hl hs
  go_ret2
  unfold TellsY
  rw [HE.out.1]
  have kb := on_trans (on_trans HW.out.2.1 H2.out) (on_trans HK.out.2 HK.out.1)
  exact ⟨A19, c19, rfl, HE.out.2.mono' (fun b h => Nat.le_trans kb.size h), on_trans kb R19.out.bel⟩

set_option maxRecDepth 10000 in
set_option maxHeartbeats 3200000 in
theorem head_3_0 (w0 : World) (W H : Int) (hr : RightS W H 3 0) : Calls Tryd.prog 14 #[.agg #[.int .i64 W, .int .i64 H, .int .i64 3, .int .i64 0]] w0 (TellsY w0 (headB W H 3 0) 0) := by
  obtain ⟨w1, hw1⟩ : ∃ w1, w0.alloc (.cells #[.int .i64 W, .int .i64 H, .int .i64 3, .int .i64 0] 33) = w1 := ⟨_, rfl⟩
  have b1 : Box w1 w0.heap.size 33 #[.int .i64 W, .int .i64 H, .int .i64 3, .int .i64 0] := by rw [← hw1]; exact Box.made _ _ _
  have k1 : Below w0.heap.size w0 w1 := by rw [← hw1]; exact on_alloc _ _
  have HR := Lib.hid (refRightS_any w1 W H 3 0)
  rw [decide_eq_true hr] at HR
  have HW := Lib.hid (And.intro hw1 (And.intro k1 b1))
  obtain ⟨⟨W0, W1⟩, ⟨H0, H1⟩, _, R0, R1⟩ := hr
  clear hw1 k1 b1
  go_enter Tryd.func14, Tryd.ntmps14
  go_wp2_with fail
  rw [HW.out.1]
  refine Calls.mono HR.out ?_
  rintro e w2 ⟨rfl, b2⟩
  have H2 := Lib.hid b2
  have B2 := Lib.hid (HW.out.2.2.on b2)
  clear b2
  obtain ⟨w3, hw3⟩ : ∃ w3, w2.alloc (.cells #[.int .u8 8] 5) = w3 := ⟨_, rfl⟩
  have R3 := Lib.hid (show Row w2 w3 (.slice (some ⟨w2.heap.size, 0, none⟩) 1 1) 1 [8] by rw [← hw3]; exact row_lit w2 [8] (show 1 ≤ maxLen by decide))
  have HT := Lib.hid (told2_any w3 H (by omega) (by omega))
  have HW3 := Lib.hid hw3
  have c1 : (w2.alloc (.cells #[.int .u8 8] 5)).cell? ⟨w0.heap.size, 1, none⟩ = some (.int .i64 H) := by rw [hw3]; exact (B2.out.on R3.out.bel).cell 1
  clear hw3
  go_wp2_with fail
  rw [HW3.out]
  refine Calls.mono HT.out ?_
  rintro e w4 ⟨A4, c4, rfl, s4, b4⟩
  have S4 := Lib.hid s4
  have R4 := Lib.hid (R3.out.on b4)
  clear s4 b4 c1
  go_wp2_with (first
    | ((with_reducible refine wpList_append_y (o := ⟨some 15, _, _, _, _, _⟩) rfl (.tmp 11) (.tmp 14) rfl _ (.slice (some ⟨w2.heap.size, 0, none⟩) 1 1) 1 [8] rfl R4.out.own _ A4 2 c4 (be2 H) rfl S4.out ?hs ?hb ?_)
       case hs => omega
       case hb => exact R4.out.bel.size
       intro v7 w7 hown7 bq
       obtain ⟨A5, c5, hv7⟩ := own_slice hown7
       subst hv7
       have R5 := Lib.hid (bq.row R4.out hown7)
       have K5 := Lib.hid bq
       obtain ⟨w5, hw5⟩ : ∃ w5, w5 = w7 := ⟨_, rfl⟩
       subst hw5
       clear hown7 bq)
    | (refine wpList_load_to (op := ⟨some 18, _, _, _, _, _⟩) rfl 3 (.tmp 17) rfl (.pointer (some ⟨w0.heap.size, 0, none⟩)) rfl (.int .i64 W) ?ld ?_
       case ld =>
         have c : w5.cell? ⟨w0.heap.size, 0, none⟩ = some (.int .i64 W) := (B2.out.on R5.out.bel).cell 0
         go_simp)
    | fail)
  have HT6 := Lib.hid (told2_any w5 W (by omega) (by omega))
  refine Calls.mono HT6.out ?_
  rintro e w6 ⟨A6, c6, rfl, s6, b6⟩
  have S6 := Lib.hid s6
  have R6 := Lib.hid (R5.out.on b6)
  clear s6 b6
  go_wp2_with (first
    | ((with_reducible refine wpList_append_y (o := ⟨some 20, _, _, _, _, _⟩) rfl (.tmp 16) (.tmp 19) rfl _ (.slice A5 3 c5) 3 ([8] ++ be2 H) rfl R6.out.own _ A6 2 c6 (be2 W) rfl S6.out ?hs ?hb ?_)
       case hs => omega
       case hb => exact R6.out.bel.size
       intro v7 wq hown7 bq
       obtain ⟨A7, c7, hv7⟩ := own_slice hown7
       subst hv7
       have R7 := Lib.hid (bq.row R6.out hown7)
       have K7 := Lib.hid bq
       obtain ⟨w7, hw7⟩ : ∃ w7, w7 = wq := ⟨_, rfl⟩
       subst hw7
       clear hown7 bq
       have cK : (w7.alloc (.cells #[.int .u8 3, .int .u8 1, .int .u8 0, .int .u8 2, .int .u8 17, .int .u8 3, .int .u8 17, .int .u8 0, .int .u8 63, .int .u8 0] 5)).cell? ⟨w0.heap.size, 2, none⟩ = some (.int .i64 3) := (B2.out.on (on_trans R7.out.bel (on_alloc _ _))).cell 2
       have cH1 : ((w7.alloc (.cells #[.int .u8 3, .int .u8 1, .int .u8 0, .int .u8 2, .int .u8 17, .int .u8 3, .int .u8 17, .int .u8 0, .int .u8 63, .int .u8 0] 5)).alloc (.cells #[.int .u8 17, .int .u8 17, .int .u8 33, .int .u8 34] 5)).cell? ⟨w0.heap.size, 2, none⟩ = some (.int .i64 3) := (B2.out.on (on_trans R7.out.bel (on_trans (on_alloc _ _) (on_alloc _ _)))).cell 2
       have cH2 : ((w7.alloc (.cells #[.int .u8 3, .int .u8 1, .int .u8 0, .int .u8 2, .int .u8 17, .int .u8 3, .int .u8 17, .int .u8 0, .int .u8 63, .int .u8 0] 5)).alloc (.cells #[.int .u8 17, .int .u8 17, .int .u8 33, .int .u8 34] 5)).cell? ⟨w7.heap.size + 1, 3, none⟩ = some (.int .u8 34) := by
         have h := (Box.made (w7.alloc (.cells #[.int .u8 3, .int .u8 1, .int .u8 0, .int .u8 2, .int .u8 17, .int .u8 3, .int .u8 17, .int .u8 0, .int .u8 63, .int .u8 0] 5)) 5 #[.int .u8 17, .int .u8 17, .int .u8 33, .int .u8 34]).cell 3
         rw [show (w7.alloc (.cells #[.int .u8 3, .int .u8 1, .int .u8 0, .int .u8 2, .int .u8 17, .int .u8 3, .int .u8 17, .int .u8 0, .int .u8 63, .int .u8 0] 5)).heap.size = w7.heap.size + 1 by simp] at h
         exact h
       have R9 := Lib.hid (show Row w2 (((w7.alloc (.cells #[.int .u8 3, .int .u8 1, .int .u8 0, .int .u8 2, .int .u8 17, .int .u8 3, .int .u8 17, .int .u8 0, .int .u8 63, .int .u8 0] 5)).alloc (.cells #[.int .u8 17, .int .u8 17, .int .u8 33, .int .u8 34] 5)).alloc (.cells #[.int .u8 3, .int .u8 1, .int .u8 34, .int .u8 0, .int .u8 2, .int .u8 17, .int .u8 1, .int .u8 3, .int .u8 17, .int .u8 1] 5)) (.slice A7 5 c7) 5 ([8] ++ be2 H ++ be2 W) from R7.out.on (on_trans (on_trans (on_alloc _ _) (on_alloc _ _)) (on_alloc _ _)))
       have S9 := Lib.hid (show Sl (((w7.alloc (.cells #[.int .u8 3, .int .u8 1, .int .u8 0, .int .u8 2, .int .u8 17, .int .u8 3, .int .u8 17, .int .u8 0, .int .u8 63, .int .u8 0] 5)).alloc (.cells #[.int .u8 17, .int .u8 17, .int .u8 33, .int .u8 34] 5)).alloc (.cells #[.int .u8 3, .int .u8 1, .int .u8 34, .int .u8 0, .int .u8 2, .int .u8 17, .int .u8 1, .int .u8 3, .int .u8 17, .int .u8 1] 5)) (fun _ => True) (some ⟨w7.heap.size + 1 + 1, 0, none⟩) 10 10 [3, 1, 34, 0, 2, 17, 1, 3, 17, 1] by
         have h := sl_lit ((w7.alloc (.cells #[.int .u8 3, .int .u8 1, .int .u8 0, .int .u8 2, .int .u8 17, .int .u8 3, .int .u8 17, .int .u8 0, .int .u8 63, .int .u8 0] 5)).alloc (.cells #[.int .u8 17, .int .u8 17, .int .u8 33, .int .u8 34] 5)) [3, 1, 34, 0, 2, 17, 1, 3, 17, 1] (by unfold Fit; decide) (show 10 ≤ maxLen by decide)
         rw [show ((w7.alloc (.cells #[.int .u8 3, .int .u8 1, .int .u8 0, .int .u8 2, .int .u8 17, .int .u8 3, .int .u8 17, .int .u8 0, .int .u8 63, .int .u8 0] 5)).alloc (.cells #[.int .u8 17, .int .u8 17, .int .u8 33, .int .u8 34] 5)).heap.size = w7.heap.size + 1 + 1 by simp] at h
         exact h.mono' (fun _ _ => trivial)))
    | ((with_reducible refine wpList_append_y (o := ⟨some 37, _, _, _, _, _⟩) rfl (.tmp 30) (.tmp 36) rfl _ (.slice A7 5 c7) 5 ([8] ++ be2 H ++ be2 W) rfl R9.out.own _ (some ⟨w7.heap.size + 1 + 1, 0, none⟩) 10 10 [3, 1, 34, 0, 2, 17, 1, 3, 17, 1] rfl S9.out ?hs ?hb ?_)
       case hs => omega
       case hb => exact R9.out.bel.size
       intro v7 wq hown7 bq
       obtain ⟨A10, c10, hv7⟩ := own_slice hown7
       subst hv7
       have R10 := Lib.hid (bq.row R9.out hown7)
       have K10 := Lib.hid bq
       obtain ⟨w10, hw10⟩ : ∃ w10, w10 = wq := ⟨_, rfl⟩
       subst hw10
       clear hown7 bq)
    | fail)
  obtain ⟨w11, hw11⟩ : ∃ w11, w11 = w10 := ⟨_, rfl⟩
  have k11 : Below w10.heap.size w10 w11 := by rw [hw11]; exact Below.refl _ _
  have SS := Lib.hid (show Sl w11 (fun _ => True) (some ⟨w7.heap.size, 0, none⟩) 10 10 [3, 1, 0, 2, 17, 3, 17, 0, 63, 0] by
    rw [hw11]
    have h0 := (sl_lit w7 [3, 1, 0, 2, 17, 3, 17, 0, 63, 0] (by unfold Fit; decide) (show 10 ≤ maxLen by decide)).kept (Kept.of_below (on_trans (on_alloc (w7.alloc (.cells #[.int .u8 3, .int .u8 1, .int .u8 0, .int .u8 2, .int .u8 17, .int .u8 3, .int .u8 17, .int .u8 0, .int .u8 63, .int .u8 0] 5)) (.cells #[.int .u8 17, .int .u8 17, .int .u8 33, .int .u8 34] 5)) (on_alloc ((w7.alloc (.cells #[.int .u8 3, .int .u8 1, .int .u8 0, .int .u8 2, .int .u8 17, .int .u8 3, .int .u8 17, .int .u8 0, .int .u8 63, .int .u8 0] 5)).alloc (.cells #[.int .u8 17, .int .u8 17, .int .u8 33, .int .u8 34] 5)) (.cells #[.int .u8 3, .int .u8 1, .int .u8 34, .int .u8 0, .int .u8 2, .int .u8 17, .int .u8 1, .int .u8 3, .int .u8 17, .int .u8 1] 5))) (fun _ => False)) (fun _ _ h => h)
    have h1 := h0.kept K10.out (fun b hb e => by
      have hb' : b = w7.heap.size := hb
      obtain ⟨_, cs, hh⟩ := own_block3 R7.out.own e
      have := (Array.getElem?_eq_some_iff.1 hh).1
      omega)
    exact h1.mono' (fun _ _ => trivial))
  obtain ⟨w12, hw12⟩ : ∃ w12, w11.alloc (.cells #[.int .u8 255, .int .u8 216] 5) = w12 := ⟨_, rfl⟩
  have r12 : Row w11 w12 (.slice (some ⟨w11.heap.size, 0, none⟩) 2 2) 2 [255, 216] := by rw [← hw12]; exact row_lit w11 [255, 216] (show 2 ≤ maxLen by decide)
  rw [← hw11, hw12]
  have R12 := Lib.hid r12
  have F10 := Lib.hid (show Row w2 w10 (.slice A10 15 c10) 15 ([8] ++ be2 H ++ be2 W ++ [3, 1, 34, 0, 2, 17, 1, 3, 17, 1]) from R10.out)
  have HP := Lib.hid (put_any w12 _ 192 A10 15 c10 ([8] ++ be2 H ++ be2 W ++ [3, 1, 34, 0, 2, 17, 1, 3, 17, 1]) (((F10.out.sl (fit_app (fit_app (fit_app (by unfold Fit; decide) (fit_be2 H)) (fit_be2 W)) (by unfold Fit; decide))).on k11).on r12.bel) (by omega) (by omega) (by omega))
  have HK := Lib.hid (And.intro k11 R10.out.bel)
  clear k11 r12 hw11 hw12
  refine Calls.mono HP.out ?_
  rintro e w13 ⟨A13, c13, rfl, s13, b13⟩
  have S13 := Lib.hid s13
  have R13 := Lib.hid (R12.out.on b13)
  clear s13 b13
  go_wp2_with (first
    | ((with_reducible refine wpList_append_y (o := ⟨some 41, _, _, _, _, _⟩) rfl (.tmp 38) (.tmp 40) rfl _ (.slice (some ⟨w11.heap.size, 0, none⟩) 2 2) 2 [255, 216] rfl R13.out.own _ A13 19 c13 (segB 192 ([8] ++ be2 H ++ be2 W ++ [3, 1, 34, 0, 2, 17, 1, 3, 17, 1])) rfl S13.out ?hs ?hb ?_)
       case hs => omega
       case hb => exact R13.out.bel.size
       intro v7 wq hown7 bq
       obtain ⟨A14, c14, hv7⟩ := own_slice hown7
       subst hv7
       have R14 := Lib.hid (bq.row R13.out hown7)
       have K14 := Lib.hid bq
       obtain ⟨w14, hw14⟩ : ∃ w14, w14 = wq := ⟨_, rfl⟩
       subst hw14
       clear hown7 bq
       have cR : w14.cell? ⟨w0.heap.size, 3, none⟩ = some (.int .i64 0) := (((B2.out.on HK.out.2).on HK.out.1).on R14.out.bel).cell 3)
    | fail)
  have HP18 := Lib.hid (put_any w14 _ 218 (some ⟨w7.heap.size, 0, none⟩) 10 10 [3, 1, 0, 2, 17, 3, 17, 0, 63, 0] (SS.out.on R14.out.bel) (by omega) (by omega) (by omega))
  refine Calls.mono HP18.out ?_
  rintro e w18 ⟨A18, c18, rfl, s18, b18⟩
  have S18 := Lib.hid s18
  have R18 := Lib.hid (R14.out.on b18)
  clear s18 b18
  go_wp2_with (first
    | ((with_reducible refine wpList_append_y (o := ⟨some 54, _, _, _, _, _⟩) rfl (.tmp 51) (.tmp 53) rfl _ (.slice A14 21 c14) 21 ([255, 216] ++ segB 192 ([8] ++ be2 H ++ be2 W ++ [3, 1, 34, 0, 2, 17, 1, 3, 17, 1])) rfl R18.out.own _ A18 14 c18 (segB 218 [3, 1, 0, 2, 17, 3, 17, 0, 63, 0]) rfl S18.out ?hs ?hb ?_)
       case hs => omega
       case hb => exact R18.out.bel.size
       intro v7 wq hown7 bq
       obtain ⟨A19, c19, hv7⟩ := own_slice hown7
       subst hv7
       have R19 := Lib.hid (bq.row R18.out hown7)
       have K19 := Lib.hid bq
       obtain ⟨w19, hw19⟩ : ∃ w19, w19 = wq := ⟨_, rfl⟩
       subst hw19
       clear hown7 bq)
    | fail)
  have el : headB W H 3 0 = ([255, 216] ++ segB 192 ([8] ++ be2 H ++ be2 W ++ [3, 1, 34, 0, 2, 17, 1, 3, 17, 1])) ++ segB 218 [3, 1, 0, 2, 17, 3, 17, 0, 63, 0] := by
    unfold headB
    rw [if_neg (by omega), List.append_nil]
    rfl
  have hf : Fit (([255, 216] ++ segB 192 ([8] ++ be2 H ++ be2 W ++ [3, 1, 34, 0, 2, 17, 1, 3, 17, 1])) ++ segB 218 [3, 1, 0, 2, 17, 3, 17, 0, 63, 0]) := fit_app (fit_app (by unfold Fit; decide) (fit_seg (by omega) (by omega) (fit_app (fit_app (fit_app (by unfold Fit; decide) (fit_be2 H)) (fit_be2 W)) (by unfold Fit; decide)))) (fit_seg (by omega) (by omega) (by unfold Fit; decide))
  have hl := R19.out.len
  have hs := R19.out.sl hf
  rw [← el] at hl hs
  have HE := Lib.hid (And.intro hl hs)
  clear el hf hl hs
  go_ret2
  unfold TellsY
  rw [HE.out.1]
  have kb := on_trans (on_trans HW.out.2.1 H2.out) (on_trans HK.out.2 HK.out.1)
  exact ⟨A19, c19, rfl, HE.out.2.mono' (fun b h => Nat.le_trans kb.size h), on_trans kb R19.out.bel⟩
end Go.Proofs.YtgipngedmblnmaaDoor

namespace Go.Proofs.YtgipngedmblnmaaDoor
open Go.RowKit

/-- what Head tells -/
def headF (W H K R : Int) : List Int × Int := if RightS W H K R then (headB W H K R, 0) else ([], 1)
theorem sl_nil (w : World) (K : Nat → Prop) : Sl w K none 0 0 [] := ⟨⟨fit_nil, fun h => absurd h (by simp)⟩, rfl, Nat.le_refl _, Nat.zero_le _, fun _ => rfl⟩
set_option maxHeartbeats 1600000 in
theorem refHead_any (w0 : World) (W H K R : Int) : Calls Tryd.prog 14 #[.agg #[.int .i64 W, .int .i64 H, .int .i64 K, .int .i64 R]] w0 (TellsY w0 (headF W H K R).1 (headF W H K R).2) := by
  by_cases hr : RightS W H K R
  · have e : headF W H K R = (headB W H K R, 0) := if_pos hr
    rw [e]
    have hK : K = 0 ∨ K = 1 ∨ K = 2 ∨ K = 3 := by have := hr.2.2.1; omega
    have hR : 0 < R ∨ R = 0 := by have := hr.2.2.2; omega
    rcases hK with rfl | rfl | rfl | rfl <;> rcases hR with hR | rfl
    · exact head_0_1 w0 W H R hr hR
    · exact head_0_0 w0 W H hr
    · exact head_1_1 w0 W H R hr hR
    · exact head_1_0 w0 W H hr
    · exact head_2_1 w0 W H R hr hR
    · exact head_2_0 w0 W H hr
    · exact head_3_1 w0 W H R hr hR
    · exact head_3_0 w0 W H hr
  · have e : headF W H K R = ([], 1) := if_neg hr
    rw [e]
    obtain ⟨w1, hw1⟩ : ∃ w1, w0.alloc (.cells #[.int .i64 W, .int .i64 H, .int .i64 K, .int .i64 R] 33) = w1 := ⟨_, rfl⟩
    have k1 : Below w0.heap.size w0 w1 := by rw [← hw1]; exact on_alloc _ _
    have HR := Lib.hid (refRightS_any w1 W H K R)
    rw [decide_eq_false hr] at HR
    have HW := Lib.hid (And.intro hw1 k1)
    clear hw1 k1 hr e
    go_enter Tryd.func14, Tryd.ntmps14
    go_wp2_with fail
    rw [HW.out.1]
    refine Calls.mono HR.out ?_
    rintro e w2 ⟨rfl, b2⟩
    have H2 := Lib.hid (on_trans HW.out.2 b2)
    clear b2
    go_wp2_with fail
    go_ret2
    exact ⟨none, 0, rfl, sl_nil _ _, H2.out⟩
end Go.Proofs.YtgipngedmblnmaaDoor
