/-
  The contracts of a cursor that reads no more, or is nil.
-/
import Derived.Test.YthjnknhdnogaeaaOwn
namespace Go.Proofs.Ythjnknhdnogaeaa
open Go.RowKit

/-- reads says no of this pointer -/
def Gone (w : World) (a : Option Addr) : Prop := Calls Try.prog 45 #[.pointer a] w fun e w' => e = .returned (.bool false) ∧ w = w'

section
variable (w : World) (a : Option Addr) (m : Int) (h : Gone w a)
include h

set_option maxHeartbeats 400000 in
theorem gone_fail : Calls Try.prog 20 #[.pointer a, .int .i64 m] w fun r w' => r = .returned (.tuple #[]) ∧ w = w' := by
  have H := Lib.hid h
  clear h
  go_enter Try.func20, Try.ntmps20
  go_wp2_with fail
  refine H.out.mono ?_
  rintro r w' ⟨rfl, rfl⟩
  go_wp2
  go_end0
  exact ⟨rfl, rfl⟩

set_option maxHeartbeats 400000 in
theorem gone_skip : Calls Try.prog 21 #[.pointer a, .int .i64 m] w fun r w' => r = .returned (.tuple #[]) ∧ w = w' := by
  have H := Lib.hid h
  clear h
  go_enter Try.func21, Try.ntmps21
  go_wp2_with fail
  refine H.out.mono ?_
  rintro r w' ⟨rfl, rfl⟩
  go_wp2
  refine bodyPost_ret (results_none rfl _ _ _) rfl ?_
  exact ⟨rfl, rfl⟩

set_option maxHeartbeats 400000 in
theorem gone_seek : Calls Try.prog 22 #[.pointer a, .int .i64 m] w fun r w' => r = .returned (.tuple #[]) ∧ w = w' := by
  have H := Lib.hid h
  clear h
  go_enter Try.func22, Try.ntmps22
  go_wp2_with fail
  refine H.out.mono ?_
  rintro r w' ⟨rfl, rfl⟩
  go_wp2
  refine bodyPost_ret (results_none rfl _ _ _) rfl ?_
  exact ⟨rfl, rfl⟩

set_option maxHeartbeats 400000 in
theorem gone_number : Calls Try.prog 24 #[.pointer a, .int .i64 m] w fun r w' => r = .returned (.int .i64 0) ∧ w = w' := by
  have H := Lib.hid h
  clear h
  go_enter Try.func24, Try.ntmps24
  go_wp2_with fail
  refine H.out.mono ?_
  rintro r w' ⟨rfl, rfl⟩
  go_wp2
  go_ret
  exact ⟨rfl, rfl⟩

set_option maxHeartbeats 400000 in
theorem gone_bytes : Calls Try.prog 25 #[.pointer a, .int .i64 m] w fun r w' => r = .returned (.slice none 0 0) ∧ w = w' := by
  have H := Lib.hid h
  clear h
  go_enter Try.func25, Try.ntmps25
  go_wp2_with fail
  refine H.out.mono ?_
  rintro r w' ⟨rfl, rfl⟩
  go_wp2
  go_ret
  exact ⟨rfl, rfl⟩

omit m in
set_option maxHeartbeats 400000 in
theorem gone_at : Calls Try.prog 17 #[.pointer a] w fun r w' => r = .returned (.int .i64 0) ∧ w = w' := by
  have H := Lib.hid h
  clear h
  go_enter Try.func17, Try.ntmps17
  go_wp2_with fail
  refine H.out.mono ?_
  rintro r w' ⟨rfl, rfl⟩
  go_wp2
  go_ret
  exact ⟨rfl, rfl⟩

set_option maxHeartbeats 400000 in
theorem gone_left : Calls Try.prog 18 #[.pointer a] w fun r w' => r = .returned (.int .i64 0) ∧ w = w' := by
  have H := Lib.hid h
  clear h
  go_enter Try.func18, Try.ntmps18
  go_wp2_with fail
  refine H.out.mono ?_
  rintro r w' ⟨rfl, rfl⟩
  go_wp2
  go_ret
  exact ⟨rfl, rfl⟩

set_option maxHeartbeats 400000 in
theorem gone_end : Calls Try.prog 23 #[.pointer a] w fun r w' => r = .returned (.tuple #[]) ∧ w = w' := by
  have H := Lib.hid (gone_left w a h)
  clear h
  go_enter Try.func23, Try.ntmps23
  go_wp2_with fail
  refine H.out.mono ?_
  rintro r w' ⟨rfl, rfl⟩
  go_wp2
  go_end0
  exact ⟨rfl, rfl⟩
end

/-! Try tells besides that the source is shut behind it. -/

theorem shut_box {w : World} {s : Nat} {x0 x1 x2 : Value} (h : Box w s 56 #[x0, x1, x2]) : Box (shut w s) s 56 #[.slice none 0 0, .bool false, .bool false] := by
  unfold shut
  simpa using ((h.put 0 (.slice none 0 0)).put 1 (.bool false)).put 2 (.bool false)

section
variable (w : World) (A : Option Addr) (n c : Nat) (big : Bool) (G : FuncId) (caps : Array Value) (hcf : ∀ (args : Array Value) (w : World), (callFunc G args).run Try.prog w = .ok (.enter G args) w)
  (S : Nat → Prop) (hS : ∀ i, S i → i < w.heap.size) (Q : World → Prop)
include hcf hS

theorem try_ret_shut
    (hG : Calls Try.prog G (#[.pointer (some ⟨w.heap.size + 1 + 1 + 1, 0, none⟩)] ++ caps) (opened w A n c big) fun e w1 => e = .returned (.tuple #[]) ∧ Kept (fun i => S i ∨ i = w.heap.size + 1 + 1 + 1) (opened w A n c big) w1 ∧ Q w1) :
    Calls Try.prog 14 #[.slice A n c, .bool big, .func (.func G) #[] caps] w fun e w' => e = .returned (.int .i64 0) ∧ Kept S w w' ∧ Box w' (w.heap.size + 1) 56 #[.slice none 0 0, .bool false, .bool false] ∧ ∃ w1, Q w1 ∧ Kept (fun i => i = w.heap.size ∨ i = w.heap.size + 1) w1 w' := by
  refine (try_ret w A n c big G caps hcf _ (fun w1 h => stands_of_kept hS h.1) hG).mono ?_
  rintro e w' ⟨rfl, w1, ⟨hk, hq⟩, rfl⟩
  have k1 : Kept (fun i => i = w.heap.size ∨ i = w.heap.size + 1) w1 (shut (w1.setCell ⟨w.heap.size, 0, none⟩ (.int .i64 0)) (w.heap.size + 1)) :=
    shut_kept ((Kept.refl _ w1).setCell (p := ⟨w.heap.size, 0, none⟩) (fun _ => .inl rfl) _) (fun _ => .inr rfl)
  obtain ⟨x0, x1, x2, hs⟩ := (stands_of_kept hS hk).src
  refine ⟨rfl, ?_, shut_box (hs.beside (p := ⟨w.heap.size, 0, none⟩) (by simp) _), w1, hq, k1⟩
  refine ((opened_kept w A n c big S).trans hk ?_).trans k1 ?_
  · rintro i hi (h | h)
    · exact h
    · omega
  · rintro i hi (h | h) <;> omega

theorem try_up_shut (k : Int)
    (hG : Calls Try.prog G (#[.pointer (some ⟨w.heap.size + 1 + 1 + 1, 0, none⟩)] ++ caps) (opened w A n c big) fun e w1 => e = .panicked (gaveUp (w.heap.size + 1) k) ∧ Kept (fun i => S i ∨ i = w.heap.size + 1 + 1 + 1) (opened w A n c big) w1 ∧ Q w1) :
    Calls Try.prog 14 #[.slice A n c, .bool big, .func (.func G) #[] caps] w fun e w' => e = .returned (.int .i64 k) ∧ Kept S w w' ∧ Box w' (w.heap.size + 1) 56 #[.slice none 0 0, .bool false, .bool false] ∧ ∃ w1, Q w1 ∧ Kept (fun i => i = w.heap.size ∨ i = w.heap.size + 1) w1 w' := by
  refine (try_up w A n c big G caps hcf _ (fun w1 h => stands_of_kept hS h.1) k hG).mono ?_
  rintro e w' ⟨rfl, w1, ⟨hk, hq⟩, rfl⟩
  have k1 : Kept (fun i => i = w.heap.size ∨ i = w.heap.size + 1) w1 (((shut w1 (w.heap.size + 1)).alloc (.cells #[.pointer (some ⟨w.heap.size + 1, 0, none⟩), .int .i64 k] 58)).setCell ⟨w.heap.size, 0, none⟩ (.int .i64 k)) :=
    ((shut_kept (Kept.refl _ w1) (fun _ => .inr rfl)).alloc _).setCell (p := ⟨w.heap.size, 0, none⟩) (fun _ => .inl rfl) _
  obtain ⟨x0, x1, x2, hs⟩ := (stands_of_kept hS hk).src
  refine ⟨rfl, ?_, ((shut_box hs).alloc _).beside (p := ⟨w.heap.size, 0, none⟩) (by simp) _, w1, hq, k1⟩
  refine ((opened_kept w A n c big S).trans hk ?_).trans k1 ?_
  · rintro i hi (h | h)
    · exact h
    · omega
  · rintro i hi (h | h) <;> omega
end

end Go.Proofs.Ythjnknhdnogaeaa
