/-
  The contracts of Try, over the contract of the function that reads.
-/
import Derived.Test.YtnakfdaneejcfaaCCatch
namespace Go.Proofs.Ytnakfdaneejcfaa
open Go.RowKit

/-- the world in which the function that reads is called -/
def opened (w : World) (A : Option Addr) (n c : Nat) (big : Bool) : World :=
  (((w.alloc (.cells #[.int .i64 0] 26)).alloc (.cells #[.slice A n c, .bool big, .bool true] 73)).alloc (.cells #[.pointer (some ⟨w.heap.size + 1, 0, none⟩)] 71)).alloc (.cells #[.pointer (some ⟨w.heap.size + 1, 0, none⟩), .int .i64 0] 78)

/-- what stands of Try's own when the function that reads has ended -/
structure Stands (w w1 : World) : Prop where
  res : Box w1 w.heap.size 26 #[.int .i64 0]
  src : ∃ x0 x1 x2, Box w1 (w.heap.size + 1) 73 #[x0, x1, x2]
  var : Box w1 (w.heap.size + 1 + 1) 71 #[.pointer (some ⟨w.heap.size + 1, 0, none⟩)]

theorem Box.shut {w : World} {g : Nat} {t : TypeId} {cs : Array Value} (h : Box w g t cs) {s : Nat} (hs : g ≠ s) : Box (shut w s) g t cs :=
  ((h.beside (p := ⟨s, 0, none⟩) hs _).beside (p := ⟨s, 1, none⟩) hs _).beside (p := ⟨s, 2, none⟩) hs _

section
variable (w : World) (A : Option Addr) (n c : Nat) (big : Bool) (G : FuncId) (caps : Array Value) (hcf : ∀ (args : Array Value) (w : World), (callFunc G args).run Try.prog w = .ok (.enter G args) w) (R : World → Prop) (hR : ∀ w1, R w1 → Stands w w1)
include hcf hR

set_option maxHeartbeats 400000 in
theorem try_ret
    (hG : Calls Try.prog G (#[.pointer (some ⟨w.heap.size + 1 + 1 + 1, 0, none⟩)] ++ caps) (opened w A n c big) fun e w1 => e = .returned (.tuple #[]) ∧ R w1) :
    Calls Try.prog 26 #[.slice A n c, .bool big, .func (.func G) #[] caps] w fun e w' => e = .returned (.int .i64 0) ∧ ∃ w1, R w1 ∧ w' = shut (w1.setCell ⟨w.heap.size, 0, none⟩ (.int .i64 0)) (w.heap.size + 1) := by
  have hmf : ∀ (fn : Fn) (first cap : Array Value) (w : World), (Instr.makeFunc fn first cap).run Try.prog w = .ok (.func fn first cap) w := fun _ _ _ _ => rfl
  have hnf : ∀ (w : World), (binOp .eql 62 (.func (.func G) #[] caps) .nilFunc).run Try.prog w = .ok (.bool false) w := fun _ => by kernel_rfl
  have HG := Lib.hid hG
  have HR := Lib.hid hR
  clear hG hR
  go_enter_defers Try.func26, Try.ntmps26
  go_wp2_with fail
  refine HG.out.mono ?_
  rintro e w1 ⟨rfl, r1⟩
  have st := HR.out w1 r1
  have c0 : w1.cell? ⟨w.heap.size, 0, none⟩ = some (.int .i64 0) := st.res.cell 0
  have f0 := st.res.free 0
  go_wp2
  obtain ⟨x0, x1, x2, hs⟩ := st.src
  refine leaves_cons (f := 46) (args := #[.pointer (some ⟨w.heap.size + 1 + 1, 0, none⟩), .pointer (some ⟨w.heap.size, 0, none⟩)]) (by simp) (by simp [go_sem]) ?_
  refine (catch_idle _ (w.heap.size + 1 + 1) w.heap.size (w.heap.size + 1) x0 x1 x2 ?_ ?_).mono ?_
  · exact st.var.beside (p := ⟨w.heap.size, 0, none⟩) (by simp; omega) _
  · exact hs.beside (p := ⟨w.heap.size, 0, none⟩) (by simp) _
  rintro e u' w'' ⟨rfl, rfl, rfl⟩
  have cr : (Ytnakfdaneejcfaa.shut (w1.setCell ⟨w.heap.size, 0, none⟩ (.int .i64 0)) (w.heap.size + 1)).cell? ⟨w.heap.size, 0, none⟩ = some (.int .i64 0) :=
    ((st.res.put 0 (.int .i64 0)).shut (by simp)).cell 0
  refine ⟨.int .i64 0, ?_, rfl, w1, r1, rfl⟩
  simp [results, Try.results26, go_sem, cr]

set_option maxHeartbeats 400000 in
theorem try_up (k : Int)
    (hG : Calls Try.prog G (#[.pointer (some ⟨w.heap.size + 1 + 1 + 1, 0, none⟩)] ++ caps) (opened w A n c big) fun e w1 => e = .panicked (gaveUp (w.heap.size + 1) k) ∧ R w1) :
    Calls Try.prog 26 #[.slice A n c, .bool big, .func (.func G) #[] caps] w fun e w' => e = .returned (.int .i64 k) ∧
      ∃ w1, R w1 ∧ w' = ((shut w1 (w.heap.size + 1)).alloc (.cells #[.pointer (some ⟨w.heap.size + 1, 0, none⟩), .int .i64 k] 75)).setCell ⟨w.heap.size, 0, none⟩ (.int .i64 k) := by
  have hmf : ∀ (fn : Fn) (first cap : Array Value) (w : World), (Instr.makeFunc fn first cap).run Try.prog w = .ok (.func fn first cap) w := fun _ _ _ _ => rfl
  have hnf : ∀ (w : World), (binOp .eql 62 (.func (.func G) #[] caps) .nilFunc).run Try.prog w = .ok (.bool false) w := fun _ => by kernel_rfl
  have HG := Lib.hid hG
  have HR := Lib.hid hR
  clear hG hR
  go_enter_defers Try.func26, Try.ntmps26
  go_wp2_with fail
  refine HG.out.mono ?_
  rintro e w1 ⟨rfl, r1⟩
  have st := HR.out w1 r1
  obtain ⟨x0, x1, x2, hs⟩ := st.src
  refine leaves_cons (f := 46) (args := #[.pointer (some ⟨w.heap.size + 1 + 1, 0, none⟩), .pointer (some ⟨w.heap.size, 0, none⟩)]) (by simp) (by simp [go_sem]) ?_
  refine (catch_up w1 (w.heap.size + 1 + 1) w.heap.size (w.heap.size + 1) x0 x1 x2 (.int .i64 0) k [] st.var hs st.res).mono ?_
  rintro e u' w'' ⟨rfl, rfl, rfl⟩
  have cr : (((Ytnakfdaneejcfaa.shut w1 (w.heap.size + 1)).alloc (.cells #[.pointer (some ⟨w.heap.size + 1, 0, none⟩), .int .i64 k] 75)).setCell ⟨w.heap.size, 0, none⟩ (.int .i64 k)).cell? ⟨w.heap.size, 0, none⟩ = some (.int .i64 k) :=
    (((st.res.shut (by simp)).alloc _).put 0 (.int .i64 k)).cell 0
  refine ⟨.int .i64 k, ?_, rfl, w1, r1, rfl⟩
  simp [results, Try.results26, go_sem, cr]

set_option maxHeartbeats 400000 in
theorem try_other (t : ByteArray)
    (hG : Calls Try.prog G (#[.pointer (some ⟨w.heap.size + 1 + 1 + 1, 0, none⟩)] ++ caps) (opened w A n c big) fun e w1 => e = .panicked [{ v := .iface 9 (.string t), recovered := false }] ∧ R w1) :
    Calls Try.prog 26 #[.slice A n c, .bool big, .func (.func G) #[] caps] w fun e w' => e = .panicked [{ v := .iface 9 (.string t), recovered := false }, { v := .iface 9 (.string t), recovered := true }] ∧
      ∃ w1, R w1 ∧ w' = (shut w1 (w.heap.size + 1)).alloc (.cells #[.pointer none, .int .i64 0] 75) := by
  have hmf : ∀ (fn : Fn) (first cap : Array Value) (w : World), (Instr.makeFunc fn first cap).run Try.prog w = .ok (.func fn first cap) w := fun _ _ _ _ => rfl
  have hnf : ∀ (w : World), (binOp .eql 62 (.func (.func G) #[] caps) .nilFunc).run Try.prog w = .ok (.bool false) w := fun _ => by kernel_rfl
  have HG := Lib.hid hG
  have HR := Lib.hid hR
  clear hG hR
  go_enter_defers Try.func26, Try.ntmps26
  go_wp2_with fail
  refine HG.out.mono ?_
  rintro e w1 ⟨rfl, r1⟩
  have st := HR.out w1 r1
  obtain ⟨x0, x1, x2, hs⟩ := st.src
  refine leaves_cons (f := 46) (args := #[.pointer (some ⟨w.heap.size + 1 + 1, 0, none⟩), .pointer (some ⟨w.heap.size, 0, none⟩)]) (by simp) (by simp [go_sem]) ?_
  refine (catch_other w1 (w.heap.size + 1 + 1) w.heap.size (w.heap.size + 1) x0 x1 x2 t [] st.var hs).mono ?_
  rintro e u' w'' ⟨rfl, rfl, rfl⟩
  exact ⟨rfl, w1, r1, rfl⟩

end

set_option maxHeartbeats 400000 in
theorem try_nil (w : World) (A : Option Addr) (n c : Nat) (big : Bool) :
    Calls Try.prog 26 #[.slice A n c, .bool big, .nilFunc] w fun e w' => e = .returned (.int .i64 1) ∧ Below w.heap.size w w' := by
  have hnf : ∀ (w : World), (binOp .eql 62 .nilFunc .nilFunc).run Try.prog w = .ok (.bool true) w := fun _ => by kernel_rfl
  go_enter Try.func26, Try.ntmps26
  go_wp2
  exact bodyPost_ret (v := .int .i64 1) (by simp [results, Try.results26, go_sem]) rfl ⟨rfl, (Below.refl _ _).alloc (Nat.le_refl _) _⟩

/-! The same in terms of what is kept: S: the blocks that were there and that the function that reads may write. -/

theorem opened_size (w : World) (A : Option Addr) (n c : Nat) (big : Bool) : (opened w A n c big).heap.size = w.heap.size + 1 + 1 + 1 + 1 := by simp [opened]
theorem opened_kept (w : World) (A : Option Addr) (n c : Nat) (big : Bool) (S : Nat → Prop) : Kept S w (opened w A n c big) :=
  ((((Kept.refl S w).alloc _).alloc _).alloc _).alloc _
theorem opened_res (w : World) (A : Option Addr) (n c : Nat) (big : Bool) : Box (opened w A n c big) w.heap.size 26 #[.int .i64 0] :=
  (((Box.made w 26 _).alloc _).alloc _).alloc _
theorem opened_src (w : World) (A : Option Addr) (n c : Nat) (big : Bool) : Box (opened w A n c big) (w.heap.size + 1) 73 #[.slice A n c, .bool big, .bool true] := by
  have h := Box.made (w.alloc (.cells #[.int .i64 0] 26)) 73 #[.slice A n c, .bool big, .bool true]
  simp only [World.size_alloc] at h
  exact (h.alloc _).alloc _
theorem opened_var (w : World) (A : Option Addr) (n c : Nat) (big : Bool) : Box (opened w A n c big) (w.heap.size + 1 + 1) 71 #[.pointer (some ⟨w.heap.size + 1, 0, none⟩)] := by
  have h := Box.made ((w.alloc (.cells #[.int .i64 0] 26)).alloc (.cells #[.slice A n c, .bool big, .bool true] 73)) 71 #[.pointer (some ⟨w.heap.size + 1, 0, none⟩)]
  simp only [World.size_alloc] at h
  exact h.alloc _
theorem opened_cur (w : World) (A : Option Addr) (n c : Nat) (big : Bool) : Cur (opened w A n c big) (w.heap.size + 1 + 1 + 1) (w.heap.size + 1) A n c big 0 := by
  refine ⟨?_, opened_src w A n c big⟩
  have h := Box.made (((w.alloc (.cells #[.int .i64 0] 26)).alloc (.cells #[.slice A n c, .bool big, .bool true] 73)).alloc (.cells #[.pointer (some ⟨w.heap.size + 1, 0, none⟩)] 71)) 78 #[.pointer (some ⟨w.heap.size + 1, 0, none⟩), .int .i64 0]
  simp only [World.size_alloc] at h
  exact h

theorem stands_of_kept {w : World} {A : Option Addr} {n c : Nat} {big : Bool} {S : Nat → Prop} {w1 : World} (hS : ∀ i, S i → i < w.heap.size) (h : Kept (fun i => S i ∨ i = w.heap.size + 1 + 1 + 1) (opened w A n c big) w1) : Stands w w1 := by
  have hn : ∀ j, w.heap.size ≤ j → j < w.heap.size + 1 + 1 + 1 → ¬ (S j ∨ j = w.heap.size + 1 + 1 + 1) := by
    intro j h1 h2 h3
    rcases h3 with h3 | h3
    · have := hS j h3; omega
    · omega
  exact ⟨h.box (opened_res w A n c big) (hn _ (by omega) (by omega)), ⟨_, _, _, h.box (opened_src w A n c big) (hn _ (by omega) (by omega))⟩, h.box (opened_var w A n c big) (hn _ (by omega) (by omega))⟩

theorem shut_kept {a w : World} {S : Nat → Prop} (h : Kept S a w) {s : Nat} (hs : s < a.heap.size → S s) : Kept S a (shut w s) :=
  ((h.setCell (p := ⟨s, 0, none⟩) hs _).setCell (p := ⟨s, 1, none⟩) hs _).setCell (p := ⟨s, 2, none⟩) hs _

section
variable (w : World) (A : Option Addr) (n c : Nat) (big : Bool) (G : FuncId) (caps : Array Value) (hcf : ∀ (args : Array Value) (w : World), (callFunc G args).run Try.prog w = .ok (.enter G args) w)
  (S : Nat → Prop) (hS : ∀ i, S i → i < w.heap.size) (Q : World → Prop)
include hcf hS

theorem try_ret_kept
    (hG : Calls Try.prog G (#[.pointer (some ⟨w.heap.size + 1 + 1 + 1, 0, none⟩)] ++ caps) (opened w A n c big) fun e w1 => e = .returned (.tuple #[]) ∧ Kept (fun i => S i ∨ i = w.heap.size + 1 + 1 + 1) (opened w A n c big) w1 ∧ Q w1) :
    Calls Try.prog 26 #[.slice A n c, .bool big, .func (.func G) #[] caps] w fun e w' => e = .returned (.int .i64 0) ∧ Kept S w w' ∧ ∃ w1, Q w1 ∧ Kept (fun i => i = w.heap.size ∨ i = w.heap.size + 1) w1 w' := by
  refine (try_ret w A n c big G caps hcf _ (fun w1 h => stands_of_kept hS h.1) hG).mono ?_
  rintro e w' ⟨rfl, w1, ⟨hk, hq⟩, rfl⟩
  have k1 : Kept (fun i => i = w.heap.size ∨ i = w.heap.size + 1) w1 (shut (w1.setCell ⟨w.heap.size, 0, none⟩ (.int .i64 0)) (w.heap.size + 1)) :=
    shut_kept ((Kept.refl _ w1).setCell (p := ⟨w.heap.size, 0, none⟩) (fun _ => .inl rfl) _) (fun _ => .inr rfl)
  refine ⟨rfl, ?_, w1, hq, k1⟩
  refine ((opened_kept w A n c big S).trans hk ?_).trans k1 ?_
  · rintro i hi (h | h)
    · exact h
    · omega
  · rintro i hi (h | h) <;> omega

theorem try_up_kept (k : Int)
    (hG : Calls Try.prog G (#[.pointer (some ⟨w.heap.size + 1 + 1 + 1, 0, none⟩)] ++ caps) (opened w A n c big) fun e w1 => e = .panicked (gaveUp (w.heap.size + 1) k) ∧ Kept (fun i => S i ∨ i = w.heap.size + 1 + 1 + 1) (opened w A n c big) w1 ∧ Q w1) :
    Calls Try.prog 26 #[.slice A n c, .bool big, .func (.func G) #[] caps] w fun e w' => e = .returned (.int .i64 k) ∧ Kept S w w' ∧ ∃ w1, Q w1 ∧ Kept (fun i => i = w.heap.size ∨ i = w.heap.size + 1) w1 w' := by
  refine (try_up w A n c big G caps hcf _ (fun w1 h => stands_of_kept hS h.1) k hG).mono ?_
  rintro e w' ⟨rfl, w1, ⟨hk, hq⟩, rfl⟩
  have k1 : Kept (fun i => i = w.heap.size ∨ i = w.heap.size + 1) w1 (((shut w1 (w.heap.size + 1)).alloc (.cells #[.pointer (some ⟨w.heap.size + 1, 0, none⟩), .int .i64 k] 75)).setCell ⟨w.heap.size, 0, none⟩ (.int .i64 k)) :=
    ((shut_kept (Kept.refl _ w1) (fun _ => .inr rfl)).alloc _).setCell (p := ⟨w.heap.size, 0, none⟩) (fun _ => .inl rfl) _
  refine ⟨rfl, ?_, w1, hq, k1⟩
  refine ((opened_kept w A n c big S).trans hk ?_).trans k1 ?_
  · rintro i hi (h | h)
    · exact h
    · omega
  · rintro i hi (h | h) <;> omega

end

end Go.Proofs.Ytnakfdaneejcfaa
