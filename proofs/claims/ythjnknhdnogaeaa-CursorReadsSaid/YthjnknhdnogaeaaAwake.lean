/-
  The contract of the laws' awake.
-/
import Derived.Test.YthjnknhdnogaeaaTry
namespace Go.Proofs.Ythjnknhdnogaeaa
open Go.RowKit

theorem calls32 (args : Array Value) (w : World) : (callFunc 32 args).run Try.prog w = .ok (.enter 32 args) w := by kernel_rfl
theorem calls33 (args : Array Value) (w : World) : (callFunc 33 args).run Try.prog w = .ok (.enter 33 args) w := by kernel_rfl

theorem bts12 (w : World) (b : Nat) (K : Nat → Prop) (hK : K b) (h : Box w b 5 #[.int .u8 1, .int .u8 2]) : Bts w K (some ⟨b, 0, none⟩) [1, 2] := by
  refine ⟨by intro z hz; simp at hz; omega, fun _ => ⟨b, 0, rfl, h.lt, hK, fun i hi => ?_⟩⟩
  rw [Nat.zero_add, h.cell i]
  match i, hi with
  | 0, _ => rfl
  | 1, _ => rfl

set_option maxHeartbeats 400000 in
theorem aw1 (w : World) (g s b v : Nat) (x : Value) (h : Cur w g s (some ⟨b, 0, none⟩) 2 2 true 0) (hb : Box w b 5 #[.int .u8 1, .int .u8 2]) (hv : Box w v 3 #[x]) :
    Calls Try.prog 32 #[.pointer (some ⟨g, 0, none⟩), .pointer (some ⟨v, 0, none⟩)] w fun e w1 => e = .returned (.tuple #[]) ∧ Kept (fun i => i = v ∨ i = g) w w1 ∧ Box w1 v 3 #[.int .i64 258] := by
  have hn := number_ok w g s (some ⟨b, 0, none⟩) 2 2 true 0 2 [1, 2] (fun _ => True) 258 h (by decide) (by omega) (by omega) (by omega) rfl (bts12 w b _ trivial hb) (by decide) (by omega)
  have hgv : v ≠ g := hv.apart h.own (by decide)
  have HN := Lib.hid hn
  have HV := Lib.hid hv
  clear hn h hb
  go_enter Try.func32, Try.ntmps32
  go_wp2_with fail
  refine HN.out.mono ?_
  rintro e w' ⟨rfl, k, rfl⟩
  have hv2 : Box ((w.drewN k).setCell ⟨g, 1, none⟩ (.int .i64 ((0 + 2 : Nat) : Int))) v 3 #[x] := (HV.out.drewN k).beside (p := ⟨g, 1, none⟩) hgv _
  have c0 : ((w.drewN k).setCell ⟨g, 1, none⟩ (.int .i64 ((0 + 2 : Nat) : Int))).cell? ⟨v, 0, none⟩ = some x := hv2.cell 0
  have f0 := hv2.free 0
  have hk : Kept (fun i => i = v ∨ i = g) w ((w.drewN k).setCell ⟨g, 1, none⟩ (.int .i64 ((0 + 2 : Nat) : Int))) := ((Kept.refl _ w).drewN k).setCell (p := ⟨g, 1, none⟩) (fun _ => .inr rfl) _
  have HH := Lib.hid (And.intro hk hv2)
  clear hk hv2
  obtain ⟨W, hW⟩ : ∃ W, W = (w.drewN k).setCell ⟨g, 1, none⟩ (.int .i64 ((0 + 2 : Nat) : Int)) := ⟨_, rfl⟩
  rw [← hW] at c0 f0 HH ⊢
  clear hW
  go_wp2
  go_end0
  exact ⟨rfl, HH.out.1.setCell (p := ⟨v, 0, none⟩) (fun _ => .inl rfl) _, by simpa using HH.out.2.put 0 (.int .i64 258)⟩

set_option maxHeartbeats 400000 in
theorem aw2 (w : World) (g s b v : Nat) (x : Int) (h : Cur w g s (some ⟨b, 0, none⟩) 2 2 true 0) (hv : Box w v 3 #[.int .i64 x]) :
    Calls Try.prog 33 #[.pointer (some ⟨g, 0, none⟩), .pointer (some ⟨v, 0, none⟩)] w fun e w1 => e = .panicked (gaveUp s 3) ∧ Kept (fun i => i = v ∨ i = g) w w1 ∧ Box w1 v 3 #[.int .i64 x] := by
  have c0 : w.cell? ⟨v, 0, none⟩ = some (.int .i64 x) := hv.cell 0
  have HV := Lib.hid hv
  have H := Lib.hid h
  clear hv h
  go_enter Try.func33, Try.ntmps33
  go_region_dies
  all_goals
    refine (number_short _ g s (some ⟨b, 0, none⟩) 2 2 true 0 4 ?_ (by decide) (by omega) (by omega) (by omega)).mono ?_
    · exact ⟨H.out.own, H.out.src⟩
    rintro r w' ⟨rfl, k, rfl⟩
    exact ⟨rfl, rfl, by rw [drew_drewN]; exact (Kept.refl _ w).drewN _, HV.out⟩

theorem aw_try1 (w : World) (b v : Nat) (x : Value) (hb : Box w b 5 #[.int .u8 1, .int .u8 2]) (hv : Box w v 3 #[x]) :
    Calls Try.prog 14 #[.slice (some ⟨b, 0, none⟩) 2 2, .bool true, .func (.func 32) #[] #[.pointer (some ⟨v, 0, none⟩)]] w fun e w' => e = .returned (.int .i64 0) ∧ Kept (fun i => i = v) w w' ∧ Box w' v 3 #[.int .i64 258] := by
  have ko := opened_kept w (some ⟨b, 0, none⟩) 2 2 true (fun _ => False)
  have h := try_ret_kept w (some ⟨b, 0, none⟩) 2 2 true 32 #[.pointer (some ⟨v, 0, none⟩)] calls32 (fun i => i = v) (fun i e => by subst e; exact hv.lt) (fun w1 => Box w1 v 3 #[.int .i64 258])
    (aw1 _ _ _ b v x (opened_cur w (some ⟨b, 0, none⟩) 2 2 true) (ko.box hb (fun h => h)) (ko.box hv (fun h => h)))
  refine h.mono ?_
  rintro e w' ⟨rfl, hk, w1, hq, hk1⟩
  refine ⟨rfl, hk, hk1.box hq ?_⟩
  have := hv.lt
  omega

theorem aw_try2 (w : World) (b v : Nat) (x : Int) (hv : Box w v 3 #[.int .i64 x]) :
    Calls Try.prog 14 #[.slice (some ⟨b, 0, none⟩) 2 2, .bool true, .func (.func 33) #[] #[.pointer (some ⟨v, 0, none⟩)]] w fun e w' => e = .returned (.int .i64 3) ∧ Kept (fun i => i = v) w w' ∧ Box w' v 3 #[.int .i64 x] := by
  have ko := opened_kept w (some ⟨b, 0, none⟩) 2 2 true (fun _ => False)
  have h := try_up_kept w (some ⟨b, 0, none⟩) 2 2 true 33 #[.pointer (some ⟨v, 0, none⟩)] calls33 (fun i => i = v) (fun i e => by subst e; exact hv.lt) (fun w1 => Box w1 v 3 #[.int .i64 x]) 3
    (aw2 _ _ _ b v x (opened_cur w (some ⟨b, 0, none⟩) 2 2 true) (ko.box hv (fun h => h)))
  refine h.mono ?_
  rintro e w' ⟨rfl, hk, w1, hq, hk1⟩
  refine ⟨rfl, hk, hk1.box hq ?_⟩
  have := hv.lt
  omega

set_option maxHeartbeats 400000 in
theorem awake_any (w : World) : Calls Try.prog 10 #[] w fun e w' => e = .returned (.bool true) ∧ Below w.heap.size w w' := by
  have hmf : ∀ (fn : Fn) (first cap : Array Value) (w : World), (Instr.makeFunc fn first cap).run Try.prog w = .ok (.func fn first cap) w := fun _ _ _ _ => rfl
  go_enter Try.func10, Try.ntmps10
  go_wp2_with fail
  refine (aw_try1 _ (w.heap.size + 1) w.heap.size (.int .i64 0) ?_ ?_).mono ?_
  · have h := Box.made (w.alloc (.cells #[.int .i64 0] 3)) 5 #[.int .u8 1, .int .u8 2]
    simp only [World.size_alloc] at h
    exact h
  · exact (Box.made w 3 _).alloc _
  rintro e w1 ⟨rfl, hk1, hb1⟩
  have b1 : Below w.heap.size w w1 := ((((Below.refl _ w).alloc (Nat.le_refl _) _).alloc (by simp) _).trans (hk1.below (by simp; omega) (by omega)))
  have HH := Lib.hid (And.intro b1 hb1)
  clear hk1 hb1 b1
  go_wp2_with fail
  have hb2 := HH.out.2.alloc (.cells #[.int .u8 1, .int .u8 2] 5)
  refine (aw_try2 _ w1.heap.size w.heap.size 258 hb2).mono ?_
  rintro e w2 ⟨rfl, hk2, hb3⟩
  have b2 : Below w.heap.size w w2 := (HH.out.1.alloc HH.out.1.size _).trans (hk2.below (by have := HH.out.1.size; simp; omega) (by omega))
  have c0 : w2.cell? ⟨w.heap.size, 0, none⟩ = some (.int .i64 258) := hb3.cell 0
  have HB := Lib.hid b2
  clear hk2 hb3 b2 hb2 HH
  go_wp2
  go_ret
  exact ⟨rfl, HB.out⟩

end Go.Proofs.Ythjnknhdnogaeaa
