/-
  The contracts of plane's Crop and of its closure.
-/
import Derived.Test.YtadlaljohlpabaaQMade
import Derived.Test.YtadlaljohlpabaaPCrop
namespace Go.Proofs.Ytadlaljohlpabaa
open Go.RowKit

theorem calls29 (args : Array Value) (w : World) : (callFunc 29 args).run Try.prog w = .ok (.enter 29 args) w := by kernel_rfl
/-- four boxes: the argument, two numbers, what is told -/
theorem crop_made (w : World) (P : Array Value) (x y : Int) : ∃ w2, (((w.alloc (.cells P 24)).alloc (.cells #[.int .i64 x] 3)).alloc (.cells #[.int .i64 y] 3)).alloc (.cells #[.int .i64 0, .int .i64 0, .slice none 0 0] 24) = w2 ∧
    Box w2 w.heap.size 24 P ∧ Box w2 (w.heap.size + 1) 3 #[.int .i64 x] ∧ Box w2 (w.heap.size + 1 + 1) 3 #[.int .i64 y] ∧ Box w2 (w.heap.size + 1 + 1 + 1) 24 #[.int .i64 0, .int .i64 0, .slice none 0 0] ∧ Below w.heap.size w w2 := by
  have a1 := Box.made w 24 P
  have a2 := Box.made (w.alloc (.cells P 24)) 3 #[.int .i64 x]
  have a3 := Box.made ((w.alloc (.cells P 24)).alloc (.cells #[.int .i64 x] 3)) 3 #[.int .i64 y]
  have a4 := Box.made (((w.alloc (.cells P 24)).alloc (.cells #[.int .i64 x] 3)).alloc (.cells #[.int .i64 y] 3)) 24 #[.int .i64 0, .int .i64 0, .slice none 0 0]
  refine ⟨_, rfl, ((a1.alloc _).alloc _).alloc _, ?_, ?_, ?_, on_trans (on_trans (on_trans (on_alloc _ _) (on_alloc _ _)) (on_alloc _ _)) (on_alloc _ _)⟩
  · have := (a2.alloc (.cells #[.int .i64 y] 3)).alloc (.cells #[.int .i64 0, .int .i64 0, .slice none 0 0] 24)
    rwa [show (w.alloc (.cells P 24)).heap.size = w.heap.size + 1 by simp] at this
  · have := a3.alloc (.cells #[.int .i64 0, .int .i64 0, .slice none 0 0] 24)
    rwa [show ((w.alloc (.cells P 24)).alloc (.cells #[.int .i64 x] 3)).heap.size = w.heap.size + 1 + 1 by simp] at this
  · rwa [show (((w.alloc (.cells P 24)).alloc (.cells #[.int .i64 x] 3)).alloc (.cells #[.int .i64 y] 3)).heap.size = w.heap.size + 1 + 1 + 1 by simp] at a4

set_option maxHeartbeats 1600000 in
theorem cropT_any (w : World) (gP gX gY : Nat) (W H x y a b : Nat) (A : Option Addr) (n c : Nat) (xs : List Int) (bP : Box w gP 24 #[.int .i64 (W : Int), .int .i64 (H : Int), .slice A n c]) (bX : Box w gX 3 #[.int .i64 (x : Int)]) (bY : Box w gY 3 #[.int .i64 (y : Int)])
    (hI : Ia w A n c xs) (hr : RightP xs W H) (hx : x ≤ 128) (hy : y ≤ 128) (ha : a < 128) (hb : b < 128) :
    Calls Try.prog 29 #[.int .i64 (a : Int), .int .i64 (b : Int), .pointer (some ⟨gP, 0, none⟩), .pointer (some ⟨gX, 0, none⟩), .pointer (some ⟨gY, 0, none⟩)] w (Atd w (atL xs W H ((x + a : Nat) : Int) ((y + b : Nat) : Int))) := by
  have HA := Lib.hid (sample_any w W H A n c xs ((x : Int) + (a : Int)) ((y : Int) + (b : Int)) hI hr)
  rw [Int.natCast_add, Int.natCast_add]
  unfold Atd at HA
  have cX : w.cell? ⟨gX, 0, none⟩ = some (.int .i64 (x : Int)) := bX.cell 0
  have cY : w.cell? ⟨gY, 0, none⟩ = some (.int .i64 (y : Int)) := bY.cell 0
  have HP := Lib.hid bP
  clear hI hr bP bX bY
  go_enter Try.func29, Try.ntmps29
  go_wp2_with (first
    | (with_reducible refine wpList_load_to (op := ⟨some 8, _, _, _, _, _⟩) rfl 24 (.tmp 2) rfl (.pointer (some ⟨gP, 0, none⟩)) rfl (.agg #[.int .i64 (W : Int), .int .i64 (H : Int), .slice A n c]) (load_plane HP.out rfl) ?_)
    | fail)
  refine Calls.mono HA.out ?_
  rintro e w5 ⟨rfl, b5⟩
  have H5 := Lib.hid b5
  clear b5
  go_wp2_with fail
  go_ret
  exact ⟨rfl, H5.out⟩

set_option maxHeartbeats 3200000 in
theorem crop_good (w0 : World) (W H x y w h : Nat) (A : Option Addr) (n c : Nat) (xs : List Int) (hI : Ia w0 A n c xs) (hr : RightP xs W H) (hw : 1 ≤ w ∧ w ≤ 128) (hh : 1 ≤ h ∧ h ≤ 128) (hx : x ≤ 128) (hy : y ≤ 128) :
    Calls Try.prog 12 #[.agg #[.int .i64 (W : Int), .int .i64 (H : Int), .slice A n c], .int .i64 (x : Int), .int .i64 (y : Int), .int .i64 (w : Int), .int .i64 (h : Int)] w0 (PTells w0 ((w : Int), (h : Int), cropL xs W H x y w h, 0)) := by
  have hn : n = W * H := by rw [← hI.len, hr.len]
  have hwh := hr.small
  have HR := Lib.hid (fun w1 (k : Below w0.heap.size w0 w1) => right_any w1 (W : Int) (H : Int) A n c xs (hI.on k) (by omega))
  unfold Righted at HR
  rw [decide_eq_true hr.int] at HR
  have HS := Lib.hid (fun w1 => sized_any w1 (w : Int) (h : Int))
  rw [decide_eq_true (show Sizd (w : Int) (h : Int) from ⟨⟨by omega, by omega⟩, by omega, by omega⟩)] at HS
  obtain ⟨w2, hw2, b0, b1, b2, b3, k2⟩ := crop_made w0 #[.int .i64 (W : Int), .int .i64 (H : Int), .slice A n c] (x : Int) (y : Int)
  have HM := Lib.hid (fun (w4 : World) (k : Below w2.heap.size w2 w4) => made_any 29 #[.pointer (some ⟨w0.heap.size, 0, none⟩), .pointer (some ⟨w0.heap.size + 1, 0, none⟩), .pointer (some ⟨w0.heap.size + 1 + 1, 0, none⟩)] calls29 w4 w h (fun i k => atL xs W H ((x + i : Nat) : Int) ((y + k : Nat) : Int)) hw hh
    fun a b w5 ha hb k5 => cropT_any w5 w0.heap.size (w0.heap.size + 1) (w0.heap.size + 1 + 1) W H x y a b A n c xs ((b0.on k).on k5) ((b1.on k).on k5) ((b2.on k).on k5) (hI.on (on_trans k2 (on_trans k k5))) hr hx hy (by omega) (by omega))
  have HW := Lib.hid (And.intro hw2 (And.intro k2 (And.intro b0 (And.intro b1 (And.intro b2 b3)))))
  have hmf : ∀ (fn : Fn) (first cap : Array Value) (w : World), (Instr.makeFunc fn first cap).run Try.prog w = .ok (.func fn first cap) w := fun _ _ _ _ => rfl
  clear hI hr hw2 k2 b0 b1 b2 b3 hwh hn hw hh
  go_enter Try.func12, Try.ntmps12
  go_wp2_with (first
    | (with_reducible refine wpList_load_to (op := ⟨some 13, _, _, _, _, _⟩) rfl 24 (.tmp 5) rfl (.pointer (some ⟨w0.heap.size, 0, none⟩)) rfl (.agg #[.int .i64 (W : Int), .int .i64 (H : Int), .slice A n c]) (load_plane (by rw [HW.out.1]; exact HW.out.2.2.1) rfl) ?_)
    | fail)
  rw [HW.out.1]
  refine Calls.mono (HR.out w2 HW.out.2.1) ?_
  rintro e w4 ⟨rfl, b4⟩
  have H4 := Lib.hid b4
  have cX : w4.cell? ⟨w0.heap.size + 1, 0, none⟩ = some (.int .i64 (x : Int)) := (HW.out.2.2.2.1.on b4).cell 0
  have cY : w4.cell? ⟨w0.heap.size + 1 + 1, 0, none⟩ = some (.int .i64 (y : Int)) := (HW.out.2.2.2.2.1.on b4).cell 0
  clear b4
  go_wp2_with fail
  refine Calls.mono (HS.out w4) ?_
  rintro e wx ⟨rfl, rfl⟩
  go_wp2_with fail
  refine Calls.mono (HM.out w4 H4.out) ?_
  rintro e w6 ⟨A6, n6, c6, rfl, hO, b6⟩
  have H6 := Lib.hid (And.intro hO (And.intro (on_trans HW.out.2.1 (on_trans H4.out b6)) ((HW.out.2.2.2.2.2.on H4.out).on b6)))
  clear hO b6
  go_wp2_with (first
    | ((with_reducible refine wpList_store_plane (o := ⟨none, _, _, _, _, _⟩) rfl (.tmp 10) (.tmp 42) rfl rfl (w0.heap.size + 1 + 1 + 1) #[.int .i64 (w : Int), .int .i64 (h : Int), .slice A6 n6 c6] rfl ?ho rfl rfl _ H6.out.2.2 rfl ?_)
       case ho => simp [Value.oneCell']
       intro w9 b9 k9
       have H9 := Lib.hid (And.intro b9 k9)
       clear b9 k9)
    | fail)
  refine bodyPost_ret (v := .tuple #[.agg #[.int .i64 (w : Int), .int .i64 (h : Int), .slice A6 n6 c6], .int .i64 0]) (results_ct (fn := Try.f12) Try.results12 _ _ (w0.heap.size + 1 + 1 + 1) _ _ rfl rfl (loadVar_plane H9.out.1 rfl)) rfl ?_
  have s4 : w0.heap.size + 1 + 1 + 1 < w4.heap.size := (HW.out.2.2.2.2.2.on H4.out).lt
  exact ⟨A6, n6, c6, rfl, (H6.out.1.down (by omega)).kept H9.out.2 (fun b off e hb => by have := (H6.out.1.new b off e).1; omega), H6.out.2.1.trans (H9.out.2.below H6.out.2.1.size (fun i hi e => by omega))⟩
end Go.Proofs.Ytadlaljohlpabaa
