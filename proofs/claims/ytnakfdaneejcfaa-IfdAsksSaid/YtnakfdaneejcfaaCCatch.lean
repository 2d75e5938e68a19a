/-
  The contracts of what Try defers.
-/
import Derived.Test.YtnakfdaneejcfaaCNumber
import Derived.Lib.Builder
namespace Go.Proofs.Ytnakfdaneejcfaa
open Go.RowKit

/-- the source is closed -/
def shut (w : World) (s : Nat) : World := ((w.setCell ⟨s, 0, none⟩ (.slice none 0 0)).setCell ⟨s, 1, none⟩ (.bool false)).setCell ⟨s, 2, none⟩ (.bool false)

set_option maxHeartbeats 400000 in
theorem catch_idle (w : World) (f r s : Nat) (x0 x1 x2 : Value) (hf : Box w f 71 #[.pointer (some ⟨s, 0, none⟩)]) (hs : Box w s 73 #[x0, x1, x2]) :
    CallsD Try.prog 46 #[.pointer (some ⟨f, 0, none⟩), .pointer (some ⟨r, 0, none⟩)] .returning w fun e u' w' => e = .returned (.tuple #[]) ∧ u' = .returning ∧ w' = shut w s := by
  have cf : w.cell? ⟨f, 0, none⟩ = some (.pointer (some ⟨s, 0, none⟩)) := hf.cell 0
  have cs0 : w.cell? ⟨s, 0, none⟩ = some x0 := hs.cell 0
  have cs1 : w.cell? ⟨s, 1, none⟩ = some x1 := hs.cell 1
  have cs2 : w.cell? ⟨s, 2, none⟩ = some x2 := hs.cell 2
  have fs0 := hs.free 0
  have fs1 := hs.free 1
  have fs2 := hs.free 2
  refine callsD_of_wpS Try.func46 rfl fun c₀ cs hu => ?_
  simp only [Try.ntmps46, List.size_toArray, List.length_cons, List.length_nil, Nat.reduceAdd, Nat.reduceSub, Array.replicate_succ, Array.replicate_zero, List.push_toArray, List.append_toArray, List.nil_append, List.cons_append]
  apply wpS_seq
  refine wpS_of_wp ?_
  go_wp2
  simp only [Exit.thenS]
  apply wpS_seq
  apply wpS_region
  simp [wpOpsS, go_sem, recoverD, hu, Exit.thenS]
  apply wpS_seq
  refine wpS_of_wp ?_
  go_wp2
  exact ⟨rfl, .returning, by cases c₀; simp_all, _, results_none rfl _ _ _, rfl, rfl, rfl⟩

set_option maxHeartbeats 400000 in
theorem catch_up (w : World) (f r s : Nat) (x0 x1 x2 v : Value) (e : Int) (older : List PanicEntry) (hf : Box w f 71 #[.pointer (some ⟨s, 0, none⟩)]) (hs : Box w s 73 #[x0, x1, x2]) (hr : Box w r 26 #[v]) :
    CallsD Try.prog 46 #[.pointer (some ⟨f, 0, none⟩), .pointer (some ⟨r, 0, none⟩)] (.panicking ({ v := .iface 75 (.agg #[.pointer (some ⟨s, 0, none⟩), .int .i64 e]), recovered := false } :: older)) w fun e' u' w' =>
      e' = .returned (.tuple #[]) ∧ u' = .panicking ({ v := .iface 75 (.agg #[.pointer (some ⟨s, 0, none⟩), .int .i64 e]), recovered := true } :: older) ∧ w' = (((shut w s).alloc (.cells #[.pointer (some ⟨s, 0, none⟩), .int .i64 e] 75))).setCell ⟨r, 0, none⟩ (.int .i64 e) := by
  have cf : w.cell? ⟨f, 0, none⟩ = some (.pointer (some ⟨s, 0, none⟩)) := hf.cell 0
  have cs0 : w.cell? ⟨s, 0, none⟩ = some x0 := hs.cell 0
  have cs1 : w.cell? ⟨s, 1, none⟩ = some x1 := hs.cell 1
  have cs2 : w.cell? ⟨s, 2, none⟩ = some x2 := hs.cell 2
  have fs0 := hs.free 0
  have fs1 := hs.free 1
  have fs2 := hs.free 2
  have cr : w.cell? ⟨r, 0, none⟩ = some v := hr.cell 0
  have fr := hr.free 0
  have n1 : f ≠ s := hf.apart hs (by decide)
  have n2 : r ≠ s := hr.apart hs (by decide)
  have n3 := n1.symm
  have n4 := n2.symm
  have ta : ∀ (x : Value) (w : World), (Instr.typeAssert (.iface 75 x) 20 75 true).run Try.prog w = .ok (.tuple #[x, .bool true]) w := fun _ _ => by kernel_rfl
  have np : ∀ (w : World), (binOp .neq 71 (.pointer (some ⟨s, 0, none⟩)) (.pointer (some ⟨s, 0, none⟩))).run Try.prog w = .ok (.bool false) w := fun w => by
    have hj0 : (Try.prog.info? 73).isSome = true := by kernel_rfl
    obtain ⟨j, hj⟩ := Option.isSome_iff_exists.1 hj0
    exact Lib.run_neq_ptr_same w _ Try.underlying71 hj
  have cf2 : ∀ o : Obj, ((((w.setCell ⟨s, 0, none⟩ (.slice none 0 0)).setCell ⟨s, 1, none⟩ (.bool false)).setCell ⟨s, 2, none⟩ (.bool false)).alloc o).cell? ⟨f, 0, none⟩ = some (.pointer (some ⟨s, 0, none⟩)) := fun o =>
    (((((hf.beside (p := ⟨s, 0, none⟩) n1 _).beside (p := ⟨s, 1, none⟩) n1 _).beside (p := ⟨s, 2, none⟩) n1 _).alloc o).cell 0)
  have cr2 : ∀ o : Obj, ((((w.setCell ⟨s, 0, none⟩ (.slice none 0 0)).setCell ⟨s, 1, none⟩ (.bool false)).setCell ⟨s, 2, none⟩ (.bool false)).alloc o).cell? ⟨r, 0, none⟩ = some v := fun o =>
    (((((hr.beside (p := ⟨s, 0, none⟩) n2 _).beside (p := ⟨s, 1, none⟩) n2 _).beside (p := ⟨s, 2, none⟩) n2 _).alloc o).cell 0)
  have fr2 : ∀ o : Obj, ((((w.setCell ⟨s, 0, none⟩ (.slice none 0 0)).setCell ⟨s, 1, none⟩ (.bool false)).setCell ⟨s, 2, none⟩ (.bool false)).alloc o).frozen? ⟨r, 0, none⟩ = false := fun o =>
    (((((hr.beside (p := ⟨s, 0, none⟩) n2 _).beside (p := ⟨s, 1, none⟩) n2 _).beside (p := ⟨s, 2, none⟩) n2 _).alloc o).free 0)
  refine callsD_of_wpS Try.func46 rfl fun c₀ cs hu => ?_
  simp only [Try.ntmps46, List.size_toArray, List.length_cons, List.length_nil, Nat.reduceAdd, Nat.reduceSub, Array.replicate_succ, Array.replicate_zero, List.push_toArray, List.append_toArray, List.nil_append, List.cons_append]
  apply wpS_seq
  refine wpS_of_wp ?_
  go_wp2
  simp only [Exit.thenS]
  apply wpS_seq
  apply wpS_region
  simp [wpOpsS, go_sem, recoverD, hu, Exit.thenS]
  refine wpS_of_wp ?_
  go_wp2
  exact ⟨rfl, _, rfl, _, results_none rfl _ _ _, rfl, rfl, rfl⟩

set_option maxHeartbeats 400000 in
theorem catch_other (w : World) (f r s : Nat) (x0 x1 x2 : Value) (t : ByteArray) (older : List PanicEntry) (hf : Box w f 71 #[.pointer (some ⟨s, 0, none⟩)]) (hs : Box w s 73 #[x0, x1, x2]) :
    CallsD Try.prog 46 #[.pointer (some ⟨f, 0, none⟩), .pointer (some ⟨r, 0, none⟩)] (.panicking ({ v := .iface 9 (.string t), recovered := false } :: older)) w fun e' u' w' =>
      e' = .panicked [{ v := .iface 9 (.string t), recovered := false }] ∧ u' = .panicking ({ v := .iface 9 (.string t), recovered := true } :: older) ∧ w' = (shut w s).alloc (.cells #[.pointer none, .int .i64 0] 75) := by
  have cf : w.cell? ⟨f, 0, none⟩ = some (.pointer (some ⟨s, 0, none⟩)) := hf.cell 0
  have cs0 : w.cell? ⟨s, 0, none⟩ = some x0 := hs.cell 0
  have cs1 : w.cell? ⟨s, 1, none⟩ = some x1 := hs.cell 1
  have cs2 : w.cell? ⟨s, 2, none⟩ = some x2 := hs.cell 2
  have fs0 := hs.free 0
  have fs1 := hs.free 1
  have fs2 := hs.free 2
  have ta : ∀ (w : World), (Instr.typeAssert (.iface 9 (.string t)) 20 75 true).run Try.prog w = .ok (.tuple #[.agg #[.pointer none, .int .i64 0], .bool false]) w := fun _ => by kernel_rfl
  refine callsD_of_wpS Try.func46 rfl fun c₀ cs hu => ?_
  simp only [Try.ntmps46, List.size_toArray, List.length_cons, List.length_nil, Nat.reduceAdd, Nat.reduceSub, Array.replicate_succ, Array.replicate_zero, List.push_toArray, List.append_toArray, List.nil_append, List.cons_append]
  apply wpS_seq
  refine wpS_of_wp ?_
  go_wp2
  simp only [Exit.thenS]
  apply wpS_seq
  apply wpS_region
  simp [wpOpsS, go_sem, recoverD, hu, Exit.thenS]
  refine wpS_of_wp ?_
  go_wp2
  exact ⟨rfl, _, rfl, rfl, rfl, rfl⟩

end Go.Proofs.Ytnakfdaneejcfaa
