/-
  The contracts of a cursor's Number. The contracts of what Try defers. The contracts of Try, over the contract of the function that reads. The contract of the laws' own: bytes in memory of their own.
-/
import Derived.Test.YtgipngedmblnmaaDoorCFail
import Derived.Deep.RegionWith
import Derived.RegionDies
import Derived.Lib.Builder
import Derived.Laws.AppendOwnNone
namespace Go.Proofs.YtgipngedmblnmaaDoor
open Go.RowKit

theorem number_val (big : Bool) (A : Option Addr) (K : Nat → Prop) (l : List Int) (v : Int) (m c : Nat) (w : World) (hm : m ≤ 8) (h0 : 0 < m) (el : l.length = m) (ev : val big l = v) (h : Bts w K A l) :
    Calls Tryd.prog 57 #[.slice A m c, .bool big] w fun r w' => r = .returned (.int .u64 v) ∧ w = w' := by
  subst el
  subst ev
  obtain ⟨b, off, rfl, _, _, hc⟩ := h.at_ h0
  cases big
  · exact number_little b off c l w hm h.fit hc
  · exact number_big b off c l w hm h.fit hc

section
variable (w : World) (g s : Nat) (A : Option Addr) (n c : Nat) (big : Bool) (at_ : Nat)

set_option maxHeartbeats 400000 in
theorem number_arg (m : Int) (h : Cur w g s A n c big at_) (hm : decide (m = 1 ∨ m = 2 ∨ m = 4 ∨ m = 8) = false) :
    Calls Tryd.prog 40 #[.pointer (some ⟨g, 0, none⟩), .int .i64 m] w fun r w' => r = .panicked (gaveUp s 1) ∧ w = w' := by
  have H := Lib.hid h
  have c0 := h.c0
  have s2 := h.s2
  have HI := Lib.hid (isSize_any m w)
  have HM := Lib.hid hm
  clear h hm
  go_enter Tryd.func40, Tryd.ntmps40
  go_wp2_with (first
    | (go_at_call 56; refine (reads_is g s true _ c0 s2).mono ?_; rintro r w' ⟨rfl, rfl⟩)
    | (go_at_call 50; refine HI.out.mono ?_; rw [HM.out]; rintro r w' ⟨rfl, rfl⟩)
    | (go_at_call 55; refine (fail_up _ g s A n c big at_ _ H.out (by decide)).mono ?_; rintro r w' ⟨rfl, rfl⟩))
  exact ⟨rfl, rfl, rfl⟩

set_option maxHeartbeats 400000 in
theorem number_short (m : Int) (h : Cur w g s A n c big at_) (hm : decide (m = 1 ∨ m = 2 ∨ m = 4 ∨ m = 8) = true) (hat : at_ ≤ n) (hn : n ≤ 9223372036854775807) (hs : ((n - at_ : Nat) : Int) < m) :
    Calls Tryd.prog 40 #[.pointer (some ⟨g, 0, none⟩), .int .i64 m] w fun r w' => r = .panicked (gaveUp s 3) ∧ ∃ k, w' = w.drewN k := by
  have H := Lib.hid h
  have c0 := h.c0
  have s1 := h.s1
  have s2 := h.s2
  have HI := Lib.hid (isSize_any m w)
  have HM := Lib.hid hm
  clear h hm
  go_enter Tryd.func40, Tryd.ntmps40
  go_wp2_with (first
    | (go_at_call 56; refine (reads_is g s true _ c0 s2).mono ?_; rintro r w' ⟨rfl, rfl⟩)
    | (go_at_call 50; refine HI.out.mono ?_; rw [HM.out]; rintro r w' ⟨rfl, rfl⟩))
  go_region_dies
  all_goals
    refine (next_up _ g s A n c big at_ m ?_ hat hn hs).mono ?_
    · exact ⟨H.out.own, H.out.src⟩
    rintro r w' ⟨rfl, k, rfl⟩
    exact ⟨rfl, rfl, ⟨_, drew_drewN w k⟩⟩

set_option maxHeartbeats 400000 in
theorem number_ok (m : Nat) (l : List Int) (K : Nat → Prop) (v : Int) (h : Cur w g s A n c big at_) (hm : decide ((m : Int) = 1 ∨ (m : Int) = 2 ∨ (m : Int) = 4 ∨ (m : Int) = 8) = true) (hat : at_ + m ≤ n) (hc : n ≤ c) (hn : c ≤ 9223372036854775807)
    (hl : l.length = n) (hb : Bts w K A l) (ev : val big ((l.drop at_).take m) = v) (hv : v ≤ 9223372036854775807) :
    Calls Tryd.prog 40 #[.pointer (some ⟨g, 0, none⟩), .int .i64 m] w fun r w' => r = .returned (.int .i64 v) ∧ ∃ k, w' = (w.drewN k).setCell ⟨g, 1, none⟩ (.int .i64 ((at_ + m : Nat) : Int)) := by
  have H := Lib.hid h
  have c0 := h.c0
  have s1 := h.s1
  have s2 := h.s2
  have HI := Lib.hid (isSize_any m w)
  have HM := Lib.hid hm
  have c1 := h.c1
  have f1 := h.own.free 1
  have v0 : 0 ≤ v := by rw [← ev]; exact (val_bounds big _ ((hb.fit.drop at_).take m)).1
  have HV := Lib.hid ev
  have HL := Lib.hid hl
  have HB := Lib.hid hb
  have hm8 : m ≤ 8 := by have := of_decide_eq_true hm; omega
  have hm0 : 0 < m := by have := of_decide_eq_true hm; omega
  clear h hm ev hl hb
  go_enter Tryd.func40, Tryd.ntmps40
  go_wp2_with (first
    | (go_at_call 56; refine (reads_is g s true _ c0 s2).mono ?_; rintro r w' ⟨rfl, rfl⟩)
    | (go_at_call 50; refine HI.out.mono ?_; rw [HM.out]; rintro r w' ⟨rfl, rfl⟩))
  go_quiet ((first
    | (go_at_call 58; refine Calls.quiet_of (next_is _ g s A n c big at_ m ?_ hat hc hn); exact ⟨H.out.own, H.out.src⟩)
    | (go_at_call 57; refine Calls.quiet_of_same ((number_val big _ K ((l.drop at_).take m) v m _ _ hm8 hm0 ?_ HV.out ?_).mono (fun _ _ h => ⟨h.1, h.2.symm⟩)); (rw [List.length_take, List.length_drop]; have := HL.out; omega); exact (HB.out.drewN _).cut (by rw [HL.out]; exact hat) (by rw [HL.out]; exact hc))))
  go_wp2
  go_ret
  exact ⟨rfl, ⟨_, rfl⟩⟩

set_option maxHeartbeats 400000 in
theorem number_range (m : Nat) (l : List Int) (K : Nat → Prop) (v : Int) (h : Cur w g s A n c big at_) (hm : decide ((m : Int) = 1 ∨ (m : Int) = 2 ∨ (m : Int) = 4 ∨ (m : Int) = 8) = true) (hat : at_ + m ≤ n) (hc : n ≤ c) (hn : c ≤ 9223372036854775807)
    (hl : l.length = n) (hb : Bts w K A l) (ev : val big ((l.drop at_).take m) = v) (hv : 9223372036854775807 < v) :
    Calls Tryd.prog 40 #[.pointer (some ⟨g, 0, none⟩), .int .i64 m] w fun r w' => r = .panicked (gaveUp s 2) ∧ ∃ k, w' = w.drewN k := by
  have H := Lib.hid h
  have c0 := h.c0
  have s1 := h.s1
  have s2 := h.s2
  have HI := Lib.hid (isSize_any m w)
  have HM := Lib.hid hm
  have HV := Lib.hid ev
  have HL := Lib.hid hl
  have HB := Lib.hid hb
  have hm8 : m ≤ 8 := by have := of_decide_eq_true hm; omega
  have hm0 : 0 < m := by have := of_decide_eq_true hm; omega
  clear h hm ev hl hb
  go_enter Tryd.func40, Tryd.ntmps40
  go_wp2_with (first
    | (go_at_call 56; refine (reads_is g s true _ c0 s2).mono ?_; rintro r w' ⟨rfl, rfl⟩)
    | (go_at_call 50; refine HI.out.mono ?_; rw [HM.out]; rintro r w' ⟨rfl, rfl⟩))
  go_quiet ((first
    | (go_at_call 58; refine Calls.quiet_of (next_is _ g s A n c big at_ m ?_ hat hc hn); exact ⟨H.out.own, H.out.src⟩)
    | (go_at_call 57; refine Calls.quiet_of_same ((number_val big _ K ((l.drop at_).take m) v m _ _ hm8 hm0 ?_ HV.out ?_).mono (fun _ _ h => ⟨h.1, h.2.symm⟩)); (rw [List.length_take, List.length_drop]; have := HL.out; omega); exact (HB.out.drewN _).cut (by rw [HL.out]; exact hat) (by rw [HL.out]; exact hc))))
  go_wp2_with (go_at_call 55; refine (fail_up _ g s A n c big at_ _ (H.out.drewN _) (by decide)).mono ?_; rintro r w' ⟨rfl, rfl⟩)
  exact ⟨rfl, rfl, ⟨_, rfl⟩⟩

set_option maxHeartbeats 400000 in
theorem end_more (h : Cur w g s A n c big at_) (hat : at_ < n) (hn : n ≤ 9223372036854775807) :
    Calls Tryd.prog 59 #[.pointer (some ⟨g, 0, none⟩)] w fun r w' => r = .panicked (gaveUp s 5) ∧ ∃ k, w' = w.drewN k := by
  have H := Lib.hid h
  clear h
  go_enter Tryd.func59, Tryd.ntmps59
  go_wp2_with (first
    | (go_at_call 70; refine (left_is _ g s A n c big at_ H.out (by omega) hn).mono ?_; rintro r w' ⟨rfl, k, rfl⟩; have h2 := H.out.drewN k)
    | (go_at_call 55; refine (fail_up _ g s A n c big at_ _ h2 (by decide)).mono ?_; rintro r w' ⟨rfl, rfl⟩))
  exact ⟨rfl, rfl, ⟨_, rfl⟩⟩

set_option maxHeartbeats 400000 in
theorem end_ok (h : Cur w g s A n c big n) (hn : n ≤ 9223372036854775807) :
    Calls Tryd.prog 59 #[.pointer (some ⟨g, 0, none⟩)] w fun r w' => r = .returned (.tuple #[]) ∧ ∃ k, w' = w.drewN k := by
  have H := Lib.hid h
  clear h
  go_enter Tryd.func59, Tryd.ntmps59
  go_wp2_with (go_at_call 70; refine (left_is _ g s A n c big n H.out (by omega) hn).mono ?_; rintro r w' ⟨rfl, k, rfl⟩)
  all_goals go_end0
  exact ⟨rfl, ⟨_, rfl⟩⟩

end

end Go.Proofs.YtgipngedmblnmaaDoor

namespace Go.Proofs.YtgipngedmblnmaaDoor
open Go.RowKit

/-- the source is closed -/
def shut (w : World) (s : Nat) : World := ((w.setCell ⟨s, 0, none⟩ (.slice none 0 0)).setCell ⟨s, 1, none⟩ (.bool false)).setCell ⟨s, 2, none⟩ (.bool false)

set_option maxHeartbeats 400000 in
theorem catch_idle (w : World) (f r s : Nat) (x0 x1 x2 : Value) (hf : Box w f 91 #[.pointer (some ⟨s, 0, none⟩)]) (hs : Box w s 93 #[x0, x1, x2]) :
    CallsD Tryd.prog 54 #[.pointer (some ⟨f, 0, none⟩), .pointer (some ⟨r, 0, none⟩)] .returning w fun e u' w' => e = .returned (.tuple #[]) ∧ u' = .returning ∧ w' = shut w s := by
  have cf : w.cell? ⟨f, 0, none⟩ = some (.pointer (some ⟨s, 0, none⟩)) := hf.cell 0
  have cs0 : w.cell? ⟨s, 0, none⟩ = some x0 := hs.cell 0
  have cs1 : w.cell? ⟨s, 1, none⟩ = some x1 := hs.cell 1
  have cs2 : w.cell? ⟨s, 2, none⟩ = some x2 := hs.cell 2
  have fs0 := hs.free 0
  have fs1 := hs.free 1
  have fs2 := hs.free 2
  refine callsD_of_wpS Tryd.func54 rfl fun c₀ cs hu => ?_
  simp only [Tryd.ntmps54, List.size_toArray, List.length_cons, List.length_nil, Nat.reduceAdd, Nat.reduceSub, Array.replicate_succ, Array.replicate_zero, List.push_toArray, List.append_toArray, List.nil_append, List.cons_append]
  apply wpS_seq
  refine wpS_of_wp ?_
  go_wp2
  simp only [Exit.thenS]
  apply wpS_seq
  apply wpS_region
  simp [wpOpsS, go_sem, recoverD, hu, Exit.thenS]
  apply wpS_seq
  refine wpS_of_wp ?_
  go_wp2
  exact ⟨rfl, .returning, by cases c₀; simp_all, _, results_none rfl _ _ _, rfl, rfl, rfl⟩

set_option maxHeartbeats 400000 in
theorem catch_up (w : World) (f r s : Nat) (x0 x1 x2 v : Value) (e : Int) (older : List PanicEntry) (hf : Box w f 91 #[.pointer (some ⟨s, 0, none⟩)]) (hs : Box w s 93 #[x0, x1, x2]) (hr : Box w r 38 #[v]) :
    CallsD Tryd.prog 54 #[.pointer (some ⟨f, 0, none⟩), .pointer (some ⟨r, 0, none⟩)] (.panicking ({ v := .iface 95 (.agg #[.pointer (some ⟨s, 0, none⟩), .int .i64 e]), recovered := false } :: older)) w fun e' u' w' =>
      e' = .returned (.tuple #[]) ∧ u' = .panicking ({ v := .iface 95 (.agg #[.pointer (some ⟨s, 0, none⟩), .int .i64 e]), recovered := true } :: older) ∧ w' = (((shut w s).alloc (.cells #[.pointer (some ⟨s, 0, none⟩), .int .i64 e] 95))).setCell ⟨r, 0, none⟩ (.int .i64 e) := by
  have cf : w.cell? ⟨f, 0, none⟩ = some (.pointer (some ⟨s, 0, none⟩)) := hf.cell 0
  have cs0 : w.cell? ⟨s, 0, none⟩ = some x0 := hs.cell 0
  have cs1 : w.cell? ⟨s, 1, none⟩ = some x1 := hs.cell 1
  have cs2 : w.cell? ⟨s, 2, none⟩ = some x2 := hs.cell 2
  have fs0 := hs.free 0
  have fs1 := hs.free 1
  have fs2 := hs.free 2
  have cr : w.cell? ⟨r, 0, none⟩ = some v := hr.cell 0
  have fr := hr.free 0
  have n1 : f ≠ s := hf.apart hs (by decide)
  have n2 : r ≠ s := hr.apart hs (by decide)
  have n3 := n1.symm
  have n4 := n2.symm
  have ta : ∀ (x : Value) (w : World), (Instr.typeAssert (.iface 95 x) 20 95 true).run Tryd.prog w = .ok (.tuple #[x, .bool true]) w := fun _ _ => by kernel_rfl
  have np : ∀ (w : World), (binOp .neq 91 (.pointer (some ⟨s, 0, none⟩)) (.pointer (some ⟨s, 0, none⟩))).run Tryd.prog w = .ok (.bool false) w := fun w => by
    have hj0 : (Tryd.prog.info? 93).isSome = true := by kernel_rfl
    obtain ⟨j, hj⟩ := Option.isSome_iff_exists.1 hj0
    exact Lib.run_neq_ptr_same w _ Tryd.underlying91 hj
  have cf2 : ∀ o : Obj, ((((w.setCell ⟨s, 0, none⟩ (.slice none 0 0)).setCell ⟨s, 1, none⟩ (.bool false)).setCell ⟨s, 2, none⟩ (.bool false)).alloc o).cell? ⟨f, 0, none⟩ = some (.pointer (some ⟨s, 0, none⟩)) := fun o =>
    (((((hf.beside (p := ⟨s, 0, none⟩) n1 _).beside (p := ⟨s, 1, none⟩) n1 _).beside (p := ⟨s, 2, none⟩) n1 _).alloc o).cell 0)
  have cr2 : ∀ o : Obj, ((((w.setCell ⟨s, 0, none⟩ (.slice none 0 0)).setCell ⟨s, 1, none⟩ (.bool false)).setCell ⟨s, 2, none⟩ (.bool false)).alloc o).cell? ⟨r, 0, none⟩ = some v := fun o =>
    (((((hr.beside (p := ⟨s, 0, none⟩) n2 _).beside (p := ⟨s, 1, none⟩) n2 _).beside (p := ⟨s, 2, none⟩) n2 _).alloc o).cell 0)
  have fr2 : ∀ o : Obj, ((((w.setCell ⟨s, 0, none⟩ (.slice none 0 0)).setCell ⟨s, 1, none⟩ (.bool false)).setCell ⟨s, 2, none⟩ (.bool false)).alloc o).frozen? ⟨r, 0, none⟩ = false := fun o =>
    (((((hr.beside (p := ⟨s, 0, none⟩) n2 _).beside (p := ⟨s, 1, none⟩) n2 _).beside (p := ⟨s, 2, none⟩) n2 _).alloc o).free 0)
  refine callsD_of_wpS Tryd.func54 rfl fun c₀ cs hu => ?_
  simp only [Tryd.ntmps54, List.size_toArray, List.length_cons, List.length_nil, Nat.reduceAdd, Nat.reduceSub, Array.replicate_succ, Array.replicate_zero, List.push_toArray, List.append_toArray, List.nil_append, List.cons_append]
  apply wpS_seq
  refine wpS_of_wp ?_
  go_wp2
  simp only [Exit.thenS]
  apply wpS_seq
  apply wpS_region
  simp [wpOpsS, go_sem, recoverD, hu, Exit.thenS]
  refine wpS_of_wp ?_
  go_wp2
  exact ⟨rfl, _, rfl, _, results_none rfl _ _ _, rfl, rfl, rfl⟩

set_option maxHeartbeats 400000 in
theorem catch_other (w : World) (f r s : Nat) (x0 x1 x2 : Value) (t : ByteArray) (older : List PanicEntry) (hf : Box w f 91 #[.pointer (some ⟨s, 0, none⟩)]) (hs : Box w s 93 #[x0, x1, x2]) :
    CallsD Tryd.prog 54 #[.pointer (some ⟨f, 0, none⟩), .pointer (some ⟨r, 0, none⟩)] (.panicking ({ v := .iface 9 (.string t), recovered := false } :: older)) w fun e' u' w' =>
      e' = .panicked [{ v := .iface 9 (.string t), recovered := false }] ∧ u' = .panicking ({ v := .iface 9 (.string t), recovered := true } :: older) ∧ w' = (shut w s).alloc (.cells #[.pointer none, .int .i64 0] 95) := by
  have cf : w.cell? ⟨f, 0, none⟩ = some (.pointer (some ⟨s, 0, none⟩)) := hf.cell 0
  have cs0 : w.cell? ⟨s, 0, none⟩ = some x0 := hs.cell 0
  have cs1 : w.cell? ⟨s, 1, none⟩ = some x1 := hs.cell 1
  have cs2 : w.cell? ⟨s, 2, none⟩ = some x2 := hs.cell 2
  have fs0 := hs.free 0
  have fs1 := hs.free 1
  have fs2 := hs.free 2
  have ta : ∀ (w : World), (Instr.typeAssert (.iface 9 (.string t)) 20 95 true).run Tryd.prog w = .ok (.tuple #[.agg #[.pointer none, .int .i64 0], .bool false]) w := fun _ => by kernel_rfl
  refine callsD_of_wpS Tryd.func54 rfl fun c₀ cs hu => ?_
  simp only [Tryd.ntmps54, List.size_toArray, List.length_cons, List.length_nil, Nat.reduceAdd, Nat.reduceSub, Array.replicate_succ, Array.replicate_zero, List.push_toArray, List.append_toArray, List.nil_append, List.cons_append]
  apply wpS_seq
  refine wpS_of_wp ?_
  go_wp2
  simp only [Exit.thenS]
  apply wpS_seq
  apply wpS_region
  simp [wpOpsS, go_sem, recoverD, hu, Exit.thenS]
  refine wpS_of_wp ?_
  go_wp2
  exact ⟨rfl, _, rfl, rfl, rfl, rfl⟩

end Go.Proofs.YtgipngedmblnmaaDoor

namespace Go.Proofs.YtgipngedmblnmaaDoor
open Go.RowKit

/-- the world in which the function that reads is called -/
def opened (w : World) (A : Option Addr) (n c : Nat) (big : Bool) : World :=
  (((w.alloc (.cells #[.int .i64 0] 38)).alloc (.cells #[.slice A n c, .bool big, .bool true] 93)).alloc (.cells #[.pointer (some ⟨w.heap.size + 1, 0, none⟩)] 91)).alloc (.cells #[.pointer (some ⟨w.heap.size + 1, 0, none⟩), .int .i64 0] 98)

/-- what stands of Try's own when the function that reads has ended -/
structure Stands (w w1 : World) : Prop where
  res : Box w1 w.heap.size 38 #[.int .i64 0]
  src : ∃ x0 x1 x2, Box w1 (w.heap.size + 1) 93 #[x0, x1, x2]
  var : Box w1 (w.heap.size + 1 + 1) 91 #[.pointer (some ⟨w.heap.size + 1, 0, none⟩)]

theorem Box.shut {w : World} {g : Nat} {t : TypeId} {cs : Array Value} (h : Box w g t cs) {s : Nat} (hs : g ≠ s) : Box (shut w s) g t cs :=
  ((h.beside (p := ⟨s, 0, none⟩) hs _).beside (p := ⟨s, 1, none⟩) hs _).beside (p := ⟨s, 2, none⟩) hs _

section
variable (w : World) (A : Option Addr) (n c : Nat) (big : Bool) (G : FuncId) (caps : Array Value) (hcf : ∀ (args : Array Value) (w : World), (callFunc G args).run Tryd.prog w = .ok (.enter G args) w) (R : World → Prop) (hR : ∀ w1, R w1 → Stands w w1)
include hcf hR

set_option maxHeartbeats 400000 in
theorem try_ret
    (hG : Calls Tryd.prog G (#[.pointer (some ⟨w.heap.size + 1 + 1 + 1, 0, none⟩)] ++ caps) (opened w A n c big) fun e w1 => e = .returned (.tuple #[]) ∧ R w1) :
    Calls Tryd.prog 37 #[.slice A n c, .bool big, .func (.func G) #[] caps] w fun e w' => e = .returned (.int .i64 0) ∧ ∃ w1, R w1 ∧ w' = shut (w1.setCell ⟨w.heap.size, 0, none⟩ (.int .i64 0)) (w.heap.size + 1) := by
  have hmf : ∀ (fn : Fn) (first cap : Array Value) (w : World), (Instr.makeFunc fn first cap).run Tryd.prog w = .ok (.func fn first cap) w := fun _ _ _ _ => rfl
  have hnf : ∀ (w : World), (binOp .eql 76 (.func (.func G) #[] caps) .nilFunc).run Tryd.prog w = .ok (.bool false) w := fun _ => by kernel_rfl
  have HG := Lib.hid hG
  have HR := Lib.hid hR
  clear hG hR
  go_enter_defers Tryd.func37, Tryd.ntmps37
  go_wp2_with fail
  refine HG.out.mono ?_
  rintro e w1 ⟨rfl, r1⟩
  have st := HR.out w1 r1
  have c0 : w1.cell? ⟨w.heap.size, 0, none⟩ = some (.int .i64 0) := st.res.cell 0
  have f0 := st.res.free 0
  go_wp2
  obtain ⟨x0, x1, x2, hs⟩ := st.src
  refine leaves_cons (f := 54) (args := #[.pointer (some ⟨w.heap.size + 1 + 1, 0, none⟩), .pointer (some ⟨w.heap.size, 0, none⟩)]) (by simp) (by simp [go_sem]) ?_
  refine (catch_idle _ (w.heap.size + 1 + 1) w.heap.size (w.heap.size + 1) x0 x1 x2 ?_ ?_).mono ?_
  · exact st.var.beside (p := ⟨w.heap.size, 0, none⟩) (by simp; omega) _
  · exact hs.beside (p := ⟨w.heap.size, 0, none⟩) (by simp) _
  rintro e u' w'' ⟨rfl, rfl, rfl⟩
  have cr : (YtgipngedmblnmaaDoor.shut (w1.setCell ⟨w.heap.size, 0, none⟩ (.int .i64 0)) (w.heap.size + 1)).cell? ⟨w.heap.size, 0, none⟩ = some (.int .i64 0) :=
    ((st.res.put 0 (.int .i64 0)).shut (by simp)).cell 0
  refine ⟨.int .i64 0, ?_, rfl, w1, r1, rfl⟩
  simp [results, Tryd.results37, go_sem, cr]

set_option maxHeartbeats 400000 in
theorem try_up (k : Int)
    (hG : Calls Tryd.prog G (#[.pointer (some ⟨w.heap.size + 1 + 1 + 1, 0, none⟩)] ++ caps) (opened w A n c big) fun e w1 => e = .panicked (gaveUp (w.heap.size + 1) k) ∧ R w1) :
    Calls Tryd.prog 37 #[.slice A n c, .bool big, .func (.func G) #[] caps] w fun e w' => e = .returned (.int .i64 k) ∧
      ∃ w1, R w1 ∧ w' = ((shut w1 (w.heap.size + 1)).alloc (.cells #[.pointer (some ⟨w.heap.size + 1, 0, none⟩), .int .i64 k] 95)).setCell ⟨w.heap.size, 0, none⟩ (.int .i64 k) := by
  have hmf : ∀ (fn : Fn) (first cap : Array Value) (w : World), (Instr.makeFunc fn first cap).run Tryd.prog w = .ok (.func fn first cap) w := fun _ _ _ _ => rfl
  have hnf : ∀ (w : World), (binOp .eql 76 (.func (.func G) #[] caps) .nilFunc).run Tryd.prog w = .ok (.bool false) w := fun _ => by kernel_rfl
  have HG := Lib.hid hG
  have HR := Lib.hid hR
  clear hG hR
  go_enter_defers Tryd.func37, Tryd.ntmps37
  go_wp2_with fail
  refine HG.out.mono ?_
  rintro e w1 ⟨rfl, r1⟩
  have st := HR.out w1 r1
  obtain ⟨x0, x1, x2, hs⟩ := st.src
  refine leaves_cons (f := 54) (args := #[.pointer (some ⟨w.heap.size + 1 + 1, 0, none⟩), .pointer (some ⟨w.heap.size, 0, none⟩)]) (by simp) (by simp [go_sem]) ?_
  refine (catch_up w1 (w.heap.size + 1 + 1) w.heap.size (w.heap.size + 1) x0 x1 x2 (.int .i64 0) k [] st.var hs st.res).mono ?_
  rintro e u' w'' ⟨rfl, rfl, rfl⟩
  have cr : (((YtgipngedmblnmaaDoor.shut w1 (w.heap.size + 1)).alloc (.cells #[.pointer (some ⟨w.heap.size + 1, 0, none⟩), .int .i64 k] 95)).setCell ⟨w.heap.size, 0, none⟩ (.int .i64 k)).cell? ⟨w.heap.size, 0, none⟩ = some (.int .i64 k) :=
    (((st.res.shut (by simp)).alloc _).put 0 (.int .i64 k)).cell 0
  refine ⟨.int .i64 k, ?_, rfl, w1, r1, rfl⟩
  simp [results, Tryd.results37, go_sem, cr]

set_option maxHeartbeats 400000 in
theorem try_other (t : ByteArray)
    (hG : Calls Tryd.prog G (#[.pointer (some ⟨w.heap.size + 1 + 1 + 1, 0, none⟩)] ++ caps) (opened w A n c big) fun e w1 => e = .panicked [{ v := .iface 9 (.string t), recovered := false }] ∧ R w1) :
    Calls Tryd.prog 37 #[.slice A n c, .bool big, .func (.func G) #[] caps] w fun e w' => e = .panicked [{ v := .iface 9 (.string t), recovered := false }, { v := .iface 9 (.string t), recovered := true }] ∧
      ∃ w1, R w1 ∧ w' = (shut w1 (w.heap.size + 1)).alloc (.cells #[.pointer none, .int .i64 0] 95) := by
  have hmf : ∀ (fn : Fn) (first cap : Array Value) (w : World), (Instr.makeFunc fn first cap).run Tryd.prog w = .ok (.func fn first cap) w := fun _ _ _ _ => rfl
  have hnf : ∀ (w : World), (binOp .eql 76 (.func (.func G) #[] caps) .nilFunc).run Tryd.prog w = .ok (.bool false) w := fun _ => by kernel_rfl
  have HG := Lib.hid hG
  have HR := Lib.hid hR
  clear hG hR
  go_enter_defers Tryd.func37, Tryd.ntmps37
  go_wp2_with fail
  refine HG.out.mono ?_
  rintro e w1 ⟨rfl, r1⟩
  have st := HR.out w1 r1
  obtain ⟨x0, x1, x2, hs⟩ := st.src
  refine leaves_cons (f := 54) (args := #[.pointer (some ⟨w.heap.size + 1 + 1, 0, none⟩), .pointer (some ⟨w.heap.size, 0, none⟩)]) (by simp) (by simp [go_sem]) ?_
  refine (catch_other w1 (w.heap.size + 1 + 1) w.heap.size (w.heap.size + 1) x0 x1 x2 t [] st.var hs).mono ?_
  rintro e u' w'' ⟨rfl, rfl, rfl⟩
  exact ⟨rfl, w1, r1, rfl⟩

end

set_option maxHeartbeats 400000 in
theorem try_nil (w : World) (A : Option Addr) (n c : Nat) (big : Bool) :
    Calls Tryd.prog 37 #[.slice A n c, .bool big, .nilFunc] w fun e w' => e = .returned (.int .i64 1) ∧ Below w.heap.size w w' := by
  have hnf : ∀ (w : World), (binOp .eql 76 .nilFunc .nilFunc).run Tryd.prog w = .ok (.bool true) w := fun _ => by kernel_rfl
  go_enter Tryd.func37, Tryd.ntmps37
  go_wp2
  exact bodyPost_ret (v := .int .i64 1) (by simp [results, Tryd.results37, go_sem]) rfl ⟨rfl, (Below.refl _ _).alloc (Nat.le_refl _) _⟩

/-! The same in terms of what is kept: S: the blocks that were there and that the function that reads may write. -/

theorem opened_size (w : World) (A : Option Addr) (n c : Nat) (big : Bool) : (opened w A n c big).heap.size = w.heap.size + 1 + 1 + 1 + 1 := by simp [opened]
theorem opened_kept (w : World) (A : Option Addr) (n c : Nat) (big : Bool) (S : Nat → Prop) : Kept S w (opened w A n c big) :=
  ((((Kept.refl S w).alloc _).alloc _).alloc _).alloc _
theorem opened_res (w : World) (A : Option Addr) (n c : Nat) (big : Bool) : Box (opened w A n c big) w.heap.size 38 #[.int .i64 0] :=
  (((Box.made w 38 _).alloc _).alloc _).alloc _
theorem opened_src (w : World) (A : Option Addr) (n c : Nat) (big : Bool) : Box (opened w A n c big) (w.heap.size + 1) 93 #[.slice A n c, .bool big, .bool true] := by
  have h := Box.made (w.alloc (.cells #[.int .i64 0] 38)) 93 #[.slice A n c, .bool big, .bool true]
  simp only [World.size_alloc] at h
  exact (h.alloc _).alloc _
theorem opened_var (w : World) (A : Option Addr) (n c : Nat) (big : Bool) : Box (opened w A n c big) (w.heap.size + 1 + 1) 91 #[.pointer (some ⟨w.heap.size + 1, 0, none⟩)] := by
  have h := Box.made ((w.alloc (.cells #[.int .i64 0] 38)).alloc (.cells #[.slice A n c, .bool big, .bool true] 93)) 91 #[.pointer (some ⟨w.heap.size + 1, 0, none⟩)]
  simp only [World.size_alloc] at h
  exact h.alloc _
theorem opened_cur (w : World) (A : Option Addr) (n c : Nat) (big : Bool) : Cur (opened w A n c big) (w.heap.size + 1 + 1 + 1) (w.heap.size + 1) A n c big 0 := by
  refine ⟨?_, opened_src w A n c big⟩
  have h := Box.made (((w.alloc (.cells #[.int .i64 0] 38)).alloc (.cells #[.slice A n c, .bool big, .bool true] 93)).alloc (.cells #[.pointer (some ⟨w.heap.size + 1, 0, none⟩)] 91)) 98 #[.pointer (some ⟨w.heap.size + 1, 0, none⟩), .int .i64 0]
  simp only [World.size_alloc] at h
  exact h

theorem stands_of_kept {w : World} {A : Option Addr} {n c : Nat} {big : Bool} {S : Nat → Prop} {w1 : World} (hS : ∀ i, S i → i < w.heap.size) (h : Kept (fun i => S i ∨ i = w.heap.size + 1 + 1 + 1) (opened w A n c big) w1) : Stands w w1 := by
  have hn : ∀ j, w.heap.size ≤ j → j < w.heap.size + 1 + 1 + 1 → ¬ (S j ∨ j = w.heap.size + 1 + 1 + 1) := by
    intro j h1 h2 h3
    rcases h3 with h3 | h3
    · have := hS j h3; omega
    · omega
  exact ⟨h.box (opened_res w A n c big) (hn _ (by omega) (by omega)), ⟨_, _, _, h.box (opened_src w A n c big) (hn _ (by omega) (by omega))⟩, h.box (opened_var w A n c big) (hn _ (by omega) (by omega))⟩

theorem shut_kept {a w : World} {S : Nat → Prop} (h : Kept S a w) {s : Nat} (hs : s < a.heap.size → S s) : Kept S a (shut w s) :=
  ((h.setCell (p := ⟨s, 0, none⟩) hs _).setCell (p := ⟨s, 1, none⟩) hs _).setCell (p := ⟨s, 2, none⟩) hs _

section
variable (w : World) (A : Option Addr) (n c : Nat) (big : Bool) (G : FuncId) (caps : Array Value) (hcf : ∀ (args : Array Value) (w : World), (callFunc G args).run Tryd.prog w = .ok (.enter G args) w)
  (S : Nat → Prop) (hS : ∀ i, S i → i < w.heap.size) (Q : World → Prop)
include hcf hS

theorem try_ret_kept
    (hG : Calls Tryd.prog G (#[.pointer (some ⟨w.heap.size + 1 + 1 + 1, 0, none⟩)] ++ caps) (opened w A n c big) fun e w1 => e = .returned (.tuple #[]) ∧ Kept (fun i => S i ∨ i = w.heap.size + 1 + 1 + 1) (opened w A n c big) w1 ∧ Q w1) :
    Calls Tryd.prog 37 #[.slice A n c, .bool big, .func (.func G) #[] caps] w fun e w' => e = .returned (.int .i64 0) ∧ Kept S w w' ∧ ∃ w1, Q w1 ∧ Kept (fun i => i = w.heap.size ∨ i = w.heap.size + 1) w1 w' := by
  refine (try_ret w A n c big G caps hcf _ (fun w1 h => stands_of_kept hS h.1) hG).mono ?_
  rintro e w' ⟨rfl, w1, ⟨hk, hq⟩, rfl⟩
  have k1 : Kept (fun i => i = w.heap.size ∨ i = w.heap.size + 1) w1 (shut (w1.setCell ⟨w.heap.size, 0, none⟩ (.int .i64 0)) (w.heap.size + 1)) :=
    shut_kept ((Kept.refl _ w1).setCell (p := ⟨w.heap.size, 0, none⟩) (fun _ => .inl rfl) _) (fun _ => .inr rfl)
  refine ⟨rfl, ?_, w1, hq, k1⟩
  refine ((opened_kept w A n c big S).trans hk ?_).trans k1 ?_
  · rintro i hi (h | h)
    · exact h
    · omega
  · rintro i hi (h | h) <;> omega

theorem try_up_kept (k : Int)
    (hG : Calls Tryd.prog G (#[.pointer (some ⟨w.heap.size + 1 + 1 + 1, 0, none⟩)] ++ caps) (opened w A n c big) fun e w1 => e = .panicked (gaveUp (w.heap.size + 1) k) ∧ Kept (fun i => S i ∨ i = w.heap.size + 1 + 1 + 1) (opened w A n c big) w1 ∧ Q w1) :
    Calls Tryd.prog 37 #[.slice A n c, .bool big, .func (.func G) #[] caps] w fun e w' => e = .returned (.int .i64 k) ∧ Kept S w w' ∧ ∃ w1, Q w1 ∧ Kept (fun i => i = w.heap.size ∨ i = w.heap.size + 1) w1 w' := by
  refine (try_up w A n c big G caps hcf _ (fun w1 h => stands_of_kept hS h.1) k hG).mono ?_
  rintro e w' ⟨rfl, w1, ⟨hk, hq⟩, rfl⟩
  have k1 : Kept (fun i => i = w.heap.size ∨ i = w.heap.size + 1) w1 (((shut w1 (w.heap.size + 1)).alloc (.cells #[.pointer (some ⟨w.heap.size + 1, 0, none⟩), .int .i64 k] 95)).setCell ⟨w.heap.size, 0, none⟩ (.int .i64 k)) :=
    ((shut_kept (Kept.refl _ w1) (fun _ => .inr rfl)).alloc _).setCell (p := ⟨w.heap.size, 0, none⟩) (fun _ => .inl rfl) _
  refine ⟨rfl, ?_, w1, hq, k1⟩
  refine ((opened_kept w A n c big S).trans hk ?_).trans k1 ?_
  · rintro i hi (h | h)
    · exact h
    · omega
  · rintro i hi (h | h) <;> omega

end

end Go.Proofs.YtgipngedmblnmaaDoor

namespace Go.Proofs.YtgipngedmblnmaaDoor
open Go.RowKit

/-- what own answers -/
def Owned (w : World) (n : Nat) (l : List Int) (e : Ending) (w' : World) : Prop := ∃ A c, e = .returned (.slice A n c) ∧ Sl w' (fun b => w.heap.size ≤ b) A n c l ∧ Below w.heap.size w w'

end Go.Proofs.YtgipngedmblnmaaDoor
