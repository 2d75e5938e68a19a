/-
  CursorOthers: a panic of the reader's own goes on as it is: the walk.
-/
import Derived.Test.YthjnknhdnogaeaaOwn
namespace Go.Proofs.Ythjnknhdnogaeaa
open Go.RowKit

theorem calls49 (args : Array Value) (w : World) : (callFunc 49 args).run Try.prog w = .ok (.enter 49 args) w := by kernel_rfl

set_option maxHeartbeats 400000 in
theorem panics49 (w : World) (g v : Nat) (t : ByteArray) (hv : Box w v 9 #[.string t]) :
    Calls Try.prog 49 #[.pointer (some ⟨g, 0, none⟩), .pointer (some ⟨v, 0, none⟩)] w fun e w1 => e = .panicked [{ v := .iface 9 (.string t), recovered := false }] ∧ w = w1 := by
  have c0 : w.cell? ⟨v, 0, none⟩ = some (.string t) := hv.cell 0
  go_enter Try.func49, Try.ntmps49
  go_wp2
  exact ⟨rfl, rfl, rfl⟩

set_option maxHeartbeats 400000 in
theorem catch48 (w : World) (a r : Nat) (x : Value) (t : ByteArray) (older : List PanicEntry) (ha : Box w a 9 #[.string t]) (hr : Box w r 4 #[x]) :
    CallsD Try.prog 48 #[.pointer (some ⟨a, 0, none⟩), .pointer (some ⟨r, 0, none⟩)] (.panicking ({ v := .iface 9 (.string t), recovered := false } :: older)) w fun e' u' w' =>
      e' = .returned (.tuple #[]) ∧ u' = .panicking ({ v := .iface 9 (.string t), recovered := true } :: older) ∧ w' = w.setCell ⟨r, 0, none⟩ (.bool true) := by
  have ca : w.cell? ⟨a, 0, none⟩ = some (.string t) := ha.cell 0
  have cr : w.cell? ⟨r, 0, none⟩ = some x := hr.cell 0
  have fr := hr.free 0
  have ta : ∀ (w : World), (Instr.typeAssert (.iface 9 (.string t)) 20 9 true).run Try.prog w = .ok (.tuple #[.string t, .bool true]) w := fun _ => by kernel_rfl
  refine callsD_of_wpS Try.func48 rfl fun c₀ cs hu => ?_
  simp only [Try.ntmps48, List.size_toArray, List.length_cons, List.length_nil, Nat.reduceAdd, Nat.reduceSub, Array.replicate_succ, Array.replicate_zero, List.push_toArray, List.append_toArray, List.nil_append, List.cons_append]
  apply wpS_seq
  apply wpS_region
  simp [wpOpsS, go_sem, recoverD, hu, Exit.thenS]
  refine wpS_of_wp ?_
  go_wp2
  exact ⟨rfl, _, rfl, _, results_none rfl _ _ _, rfl, rfl, rfl⟩

set_option maxHeartbeats 400000 in
theorem goesOn_any (w : World) (K : Nat → Prop) (A : Option Addr) (n c : Nat) (l : List Int) (t : ByteArray) (h : Sl w K A n c l) (hn : n ≤ 4000) :
    Calls Try.prog 26 #[.slice A n c, .string t] w fun e w' => e = .returned (.bool true) ∧ Below w.heap.size w w' := by
  have hmf : ∀ (fn : Fn) (first cap : Array Value) (w : World), (Instr.makeFunc fn first cap).run Try.prog w = .ok (.func fn first cap) w := fun _ _ _ _ => rfl
  have H := Lib.hid h
  clear h
  go_enter_defers Try.func26, Try.ntmps26
  go_wp2_with fail
  have k0 : Kept (fun _ => False) w ((w.alloc (.cells #[.string t] 9)).alloc (.cells #[.bool false] 4)) := ((Kept.refl _ w).alloc _).alloc _
  refine (own_any _ K A n c l (H.out.kept k0 (fun _ _ h => h)) (by omega)).mono ?_
  rintro e w1 ⟨A1, c1, rfl, s1, b1⟩
  have bt : Box w1 w.heap.size 9 #[.string t] := (b1.block w.heap.size (by simp; omega)).trans ((Box.made w 9 #[.string t]).alloc _)
  have hb2 := Box.made (w.alloc (.cells #[.string t] 9)) 4 #[.bool false]
  simp only [World.size_alloc] at hb2
  have bo : Box w1 (w.heap.size + 1) 4 #[.bool false] := (b1.block (w.heap.size + 1) (by simp)).trans hb2
  have bb : Below w.heap.size w w1 := (((Below.refl _ w).alloc (Nat.le_refl _) _).alloc (by simp) _).trans (b1.mono (by simp; omega))
  have HH := Lib.hid (And.intro bt (And.intro bo bb))
  clear s1 b1 bt bo bb hb2 k0
  go_wp2_with fail
  obtain ⟨bt, bo, bb⟩ := HH.out
  have ko := opened_kept w1 A1 n c1 false (fun _ => False)
  refine (try_other w1 A1 n c1 false 49 #[.pointer (some ⟨w.heap.size, 0, none⟩)] calls49 (fun w2 => opened w1 A1 n c1 false = w2) ?_ t (panics49 _ _ _ t (ko.box bt (fun h => h)))).mono ?_
  · rintro w2 rfl
    exact stands_of_kept (S := fun _ => False) (fun _ h => h.elim) (Kept.refl _ _)
  rintro e w2 ⟨rfl, w3, rfl, rfl⟩
  have k2 : Kept (fun i => i = w1.heap.size + 1) w1 ((shut (opened w1 A1 n c1 false) (w1.heap.size + 1)).alloc (.cells #[.pointer none, .int .i64 0] 58)) :=
    (shut_kept (opened_kept w1 A1 n c1 false (fun i => i = w1.heap.size + 1)) (fun _ => rfl)).alloc _
  have bt2 := k2.box bt (by have := bt.lt; omega)
  have bo2 := k2.box bo (by have := bo.lt; omega)
  have bb2 := bb.trans (k2.below bb.size (by have := bb.size; omega))
  refine leaves_cons (f := 48) (args := #[.pointer (some ⟨w.heap.size, 0, none⟩), .pointer (some ⟨w.heap.size + 1, 0, none⟩)]) (by simp) (by simp [go_sem]) ?_
  refine (catch48 _ w.heap.size (w.heap.size + 1) (.bool false) t _ bt2 bo2).mono ?_
  rintro e u' w'' ⟨rfl, rfl, rfl⟩
  have cr := (bo2.put 0 (.bool true)).cell 0
  simp only [List.setIfInBounds_toArray, List.set_cons_zero, List.getElem?_toArray, List.getElem?_cons_zero] at cr
  refine ⟨.bool true, ?_, rfl, bb2.setCell (p := ⟨w.heap.size + 1, 0, none⟩) (by simp) _⟩
  simp [results, Try.results26, go_sem, cr]

set_option maxHeartbeats 400000 in
theorem others_any (w : World) (K : Nat → Prop) (A : Option Addr) (n c : Nat) (l : List Int) (t : ByteArray) (h : Sl w K A n c l) :
    Calls Try.prog 6 #[.slice A n c, .string t] w fun e w' => e = .returned (.bool true) ∧ Below w.heap.size w w' := by
  by_cases hn : n ≤ 4000
  · have H := Lib.hid h
    have hn2 : ¬ (4000 : Int) < (n : Int) := by omega
    have hnm : (n : Int) ≤ 9223372036854775807 := by omega
    clear h
    go_enter Try.func6, Try.ntmps6
    go_wp2_with fail
    refine (goesOn_any _ K A n c l t H.out hn).mono ?_
    rintro e w1 ⟨rfl, b1⟩
    have HB := Lib.hid b1
    clear b1
    go_wp2_with fail
    refine (awake_any _).mono ?_
    rintro e w2 ⟨rfl, b2⟩
    have HC := Lib.hid b2
    clear b2
    go_wp2
    go_ret
    exact ⟨rfl, HB.out.trans (HC.out.mono HB.out.size)⟩
  · have hn2 : (4000 : Int) < (n : Int) := by omega
    clear h
    go_enter Try.func6, Try.ntmps6
    go_wp2_with fail
    refine (awake_any _).mono ?_
    rintro e w2 ⟨rfl, b2⟩
    have HC := Lib.hid b2
    clear b2
    go_wp2
    go_ret
    exact ⟨rfl, HC.out⟩

end Go.Proofs.Ythjnknhdnogaeaa
