/-
  CursorBack: the walk, a number that has room.
-/
import Derived.Test.YthjnknhdnogaeaaBackBase
namespace Go.Proofs.Ythjnknhdnogaeaa
open Go.RowKit

set_option maxHeartbeats 2000000 in
theorem back_fits (w : World) (K : Nat → Prop) (A : Option Addr) (n c : Nat) (l : List Int) (v z : Int) (big : Bool) (wd : Nat) (h : Sl w K A n c l) (hz : 0 ≤ z ∧ z ≤ 255) (hn : n ≤ 4000) (hwd : wrap64 (2 ^ (z % 4).toNat) = (wd : Int)) (hok : okWidth wd)
    (hv1 : v ≤ 9223372036854775807) (hv : 0 ≤ v) (h4 : wd ≤ 4) (P : Int) (hP : wrap64 (2 ^ (8 * wd)) = P) (hPP : v < P) (hPe : Hid ((256 : Int) ^ wd = P)) :
    Calls Try.prog 7 #[.int .i64 v, .int .u8 z, .bool big, .slice A n c] w fun e w' => e = .returned (.bool true) ∧ Below w.heap.size w w' := by
  have hn2 : ¬ (4000 : Int) < (n : Int) := by omega
  have hwd8 : wd ≤ 8 := by have := of_decide_eq_true hok; omega
  have hwd0 : 1 ≤ wd := by have := of_decide_eq_true hok; omega
  have hmf : ∀ (fn : Fn) (first cap : Array Value) (w : World), (Instr.makeFunc fn first cap).run Try.prog w = .ok (.func fn first cap) w := fun _ _ _ _ => rfl
  have HOK := Lib.hid hok
  have H := Lib.hid (h.mono (K' := fun b => b < w.heap.size) (fun _ hb _ => hb))
  have hM1 := hv1
  have HM := back_room v wd big P hv hPP hPe
  clear hok h
  go_enter Try.func7, Try.ntmps7
  go_wp2_with fail
  clear hwd
  obtain ⟨W0, hW0⟩ : ∃ W0, W0 = (w.alloc (.cells #[.int .i64 wd] 3)).alloc (.cells #[.int .i64 0] 3) := ⟨_, rfl⟩
  obtain ⟨a0, a1, bw⟩ := two w wd W0 hW0
  rw [← hW0]
  have HA := Lib.hid (And.intro a0 (And.intro a1 bw))
  clear hW0 a0 a1 bw
  refine (put_nil W0 v wd big HOK.out hv1).mono ?_
  rintro e w1 ⟨A1, c1, rfl, s1, b1⟩
  have HB := Lib.hid (And.intro s1 b1)
  clear s1 b1
  go_wp2_with fail
  obtain ⟨a0, a1, bw⟩ := HA.out
  have k1 : Kept (fun _ => False) W0 w1 := Kept.of_below HB.out.2 _
  have f1 : Below w.heap.size w w1 := bw.trans (HB.out.2.mono bw.size)
  refine (try27 w1 A1 c1 big w.heap.size (w.heap.size + 1) wd (.int .i64 0) _ _ v HB.out.1 HOK.out HM.out hM1 (k1.box a0 (fun h => h)) (k1.box a1 (fun h => h))).mono ?_
  rintro e w2 ⟨rfl, k2, r1⟩
  rw [if_pos rfl] at r1
  have r0 := k2.box (k1.box a0 (fun h => h)) (by omega)
  have f2 : Below w.heap.size w w2 := f1.trans (k2.below f1.size (by omega))
  have cw : w2.cell? ⟨w.heap.size, 0, none⟩ = some (.int .i64 wd) := r0.cell 0
  have cm : w2.cell? ⟨w.heap.size + 1, 0, none⟩ = some (.int .i64 v) := r1.cell 0
  have HC := Lib.hid (And.intro r0 f2)
  clear a0 a1 bw k1 f1 k2 r1 r0 f2 HA HB
  have hb8 : ((wd : Int) == 8) = false := by simp; omega
  go_wp2_with fail
  have HF : Hid (w.heap.size + 1 < w2.heap.size) := back_lt HC.out.1 cm
  clear cw cm hb8 hP
  obtain ⟨r0, f2⟩ := HC.out
  have g0 := r0.alloc (.cells #[.int .i64 0] 3)
  have g1 := Box.made w2 3 #[.int .i64 0]
  have f3 : Below w.heap.size w (w2.alloc (.cells #[.int .i64 0] 3)) := f2.alloc f2.size _
  obtain ⟨W3, hW3⟩ : ∃ W3, W3 = w2.alloc (.cells #[.int .i64 0] 3) := ⟨_, rfl⟩
  rw [← hW3] at g0 g1 f3 ⊢
  refine (own_any W3 _ A n c l (H.out.below f3 (fun _ _ h => h)) (by omega)).mono ?_
  rintro e w4 ⟨A4, c4, rfl, s4, b4⟩
  have k4 : Kept (fun _ => False) W3 w4 := Kept.of_below b4 _
  have HD := Lib.hid (And.intro (k4.box g0 (fun h => h)) (And.intro (k4.box g1 (fun h => h)) (And.intro s4 (f3.trans (b4.mono f3.size)))))
  clear r0 f2 g0 g1 f3 hW3 s4 b4 k4 HC
  go_wp2_with fail
  obtain ⟨g0, g1, s4, f4⟩ := HD.out
  by_cases hs : n < wd
  · refine (try28_up w4 A4 n c4 big w.heap.size w2.heap.size (.int .i64 0) 3 (by omega) g1 (short28 _ _ _ A4 n c4 big w.heap.size w2.heap.size wd (opened_cur w4 A4 n c4 big) HOK.out hs (by omega) ((opened_kept w4 A4 n c4 big (fun _ => False)).box g0 (fun h => h)))).mono ?_
    rintro e w5 ⟨rfl, k5, r5⟩
    have f5 : Below w.heap.size w w5 := f4.trans (k5.below f4.size (by have := HF.out; omega))
    have HE := Lib.hid f5
    clear g0 g1 s4 f4 k5 r5 f5
    go_wp2_with fail
    refine (awake_any _).mono ?_
    rintro e w6 ⟨rfl, b6⟩
    have HG := Lib.hid b6
    clear b6
    go_wp2
    go_ret
    exact ⟨rfl, HE.out.trans (HG.out.mono HE.out.size)⟩
  · obtain ⟨X, HX⟩ : ∃ X : Int, Hid (val big (l.take wd) = X) := ⟨_, rfl⟩
    by_cases hX : X ≤ 9223372036854775807
    · have hX0 : 0 ≤ X := by rw [← HX.out]; exact (val_bounds big _ (H.out.bts.fit.take wd)).1
      refine (try28_ok w4 A4 n c4 big w.heap.size w2.heap.size wd (.int .i64 0) _ l X s4 HOK.out (by omega) HX.out hX g0 g1).mono ?_
      rintro e w5 ⟨rfl, k5, r5⟩
      rw [if_pos rfl] at r5
      have f5 : Below w.heap.size w w5 := f4.trans (k5.below f4.size (by have := HF.out; omega))
      have q0 := k5.box g0 (by have := HF.out; omega)
      have cw : w5.cell? ⟨w.heap.size, 0, none⟩ = some (.int .i64 wd) := q0.cell 0
      have ck : w5.cell? ⟨w2.heap.size, 0, none⟩ = some (.int .i64 X) := r5.cell 0
      have hsA := H.out.below f5 (fun _ _ h => h)
      have hbA := sl_str_cut hsA (m := wd) (by omega)
      obtain ⟨S, hS⟩ : ∃ S, S = strOfNums (l.take wd) := ⟨_, rfl⟩
      have HT := Lib.hid (And.intro hS (And.intro f5 (And.intro hsA (And.intro q0 r5))))
      have hwn : (wd : Int) ≤ (n : Int) := by omega
      have hcap := hsA.cap
      have hmax := hsA.max
      unfold maxLen at hmax
      clear g0 g1 s4 f4 k5 r5 f5 q0 hsA hS hbA
      go_wp2_with fail
      have hcut : (if c = 0 then A else Option.map (fun x => x.add 0) A) = A := cut0 A c
      have hlo : (0 : Int) ≤ (wd : Int) := by omega
      have hwc : (wd : Int) ≤ (c : Int) := by omega
      have hwc2 : wd ≤ c := by omega
      have cv0 := sl_str (HT.out.2.2.1.drew.cutTo (m := wd) (by omega))
      rw [← HT.out.1] at cv0
      have K5 := Lib.hid (And.intro cw (And.intro ck cv0))
      go_region_held (fun w' => w'.cell? ⟨w.heap.size, 0, none⟩ = some (.int .i64 wd) ∧ w'.cell? ⟨w2.heap.size, 0, none⟩ = some (.int .i64 X) ∧ (convert 22 9 (.slice A wd c)).run Try.prog w' = .ok (.string S) w')
        (first
          | exact K5.out
          | exact K6.out
          | exact K7.out)
        (first
          | (go_at_call 12
             refine (put_nil _ X wd big HOK.out hX).mono ?_
             rintro e w6 ⟨A6, c6, rfl, s6, b6⟩
             have cv1 := sl_str s6
             rw [back_told HX.out hX0 (H.out.bts.fit.take wd) (by have := H.out.len; rw [List.length_take]; omega), ← HT.out.1] at cv1
             have K6 := back_keep HT.out.1 HT.out.2.2.1 HT.out.2.2.2.1 HT.out.2.2.2.2 b6 (by omega)
             have HU := Lib.hid b6
             clear s6 b6)
          | (go_at_call 10
             refine (awake_any _).mono ?_
             rintro e w7 ⟨rfl, b7⟩
             have HV := Lib.hid b7
             have K7 := back_keep7 K6 HT.out.1 HT.out.2.2.1 HU.out b7 (by omega)
             clear b7))
      all_goals
        go_wp2
        go_ret
        exact ⟨rfl, below3 HT.out.2.1 HU.out HV.out⟩

    · refine (try28_up w4 A4 n c4 big w.heap.size w2.heap.size (.int .i64 0) 2 (by omega) g1 (range28 _ _ _ A4 n c4 big w.heap.size w2.heap.size wd _ l X (opened_cur w4 A4 n c4 big) (s4.kept (opened_kept w4 A4 n c4 big (fun _ => False)) (fun _ _ h => h)) HOK.out (by omega) HX.out (by omega) ((opened_kept w4 A4 n c4 big (fun _ => False)).box g0 (fun h => h)))).mono ?_
      rintro e w5 ⟨rfl, k5, r5⟩
      have f5 : Below w.heap.size w w5 := f4.trans (k5.below f4.size (by have := HF.out; omega))
      have HE := Lib.hid f5
      clear g0 g1 s4 f4 k5 r5 f5
      go_wp2_with fail
      refine (awake_any _).mono ?_
      rintro e w6 ⟨rfl, b6⟩
      have HG := Lib.hid b6
      clear b6
      go_wp2
      go_ret
      exact ⟨rfl, HE.out.trans (HG.out.mono HE.out.size)⟩

end Go.Proofs.Ythjnknhdnogaeaa
