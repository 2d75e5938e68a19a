/-
  The contracts of layer 1's small calls: Fail, At, Left, next.
-/
import Derived.Test.YtnakfdaneejcfaaCSmall
namespace Go.Proofs.Ytnakfdaneejcfaa
open Go.RowKit

/-- what a cursor gives up with -/
def gaveUp (s : Nat) (e : Int) : List PanicEntry := [{ v := .iface 75 (.agg #[.pointer (some ⟨s, 0, none⟩), .int .i64 e]), recovered := false }]

/-- a cursor that reads: its own two cells, and its source's three -/
structure Cur (w : World) (g s : Nat) (A : Option Addr) (n c : Nat) (big : Bool) (at_ : Nat) : Prop where
  own : Box w g 78 #[.pointer (some ⟨s, 0, none⟩), .int .i64 at_]
  src : Box w s 73 #[.slice A n c, .bool big, .bool true]

section
variable {w : World} {g s : Nat} {A : Option Addr} {n c : Nat} {big : Bool} {at_ : Nat}
theorem Cur.c0 (h : Cur w g s A n c big at_) : w.cell? ⟨g, 0, none⟩ = some (.pointer (some ⟨s, 0, none⟩)) := h.own.cell 0
theorem Cur.c1 (h : Cur w g s A n c big at_) : w.cell? ⟨g, 1, none⟩ = some (.int .i64 at_) := h.own.cell 1
theorem Cur.s0 (h : Cur w g s A n c big at_) : w.cell? ⟨s, 0, none⟩ = some (.slice A n c) := h.src.cell 0
theorem Cur.s1 (h : Cur w g s A n c big at_) : w.cell? ⟨s, 1, none⟩ = some (.bool big) := h.src.cell 1
theorem Cur.s2 (h : Cur w g s A n c big at_) : w.cell? ⟨s, 2, none⟩ = some (.bool true) := h.src.cell 2
theorem Cur.drewN (h : Cur w g s A n c big at_) (k : Nat) : Cur (w.drewN k) g s A n c big at_ := ⟨h.own, h.src⟩
theorem Cur.ne (h : Cur w g s A n c big at_) : g ≠ s := h.own.apart h.src (by decide)
theorem Cur.moved (h : Cur w g s A n c big at_) (k : Nat) : Cur (w.setCell ⟨g, 1, none⟩ (.int .i64 k)) g s A n c big k :=
  ⟨by simpa using h.own.put 1 (.int .i64 k), h.src.beside (p := ⟨g, 1, none⟩) (fun e => h.ne e.symm) _⟩
end

set_option maxHeartbeats 400000 in
theorem fail_up (w : World) (g s : Nat) (A : Option Addr) (n c : Nat) (big : Bool) (at_ : Nat) (e : Int) (h : Cur w g s A n c big at_) (he : (e != 0) = true) :
    Calls Try.prog 47 #[.pointer (some ⟨g, 0, none⟩), .int .i64 e] w fun r w' => r = .panicked (gaveUp s e) ∧ w = w' := by
  have c0 := h.c0
  have s2 := h.s2
  clear h
  go_enter Try.func47, Try.ntmps47
  go_wp2_with (go_at_call 48; refine (reads_is g s true _ c0 s2).mono ?_; rintro r w' ⟨rfl, rfl⟩)
  exact ⟨rfl, rfl, rfl⟩

set_option maxHeartbeats 400000 in
theorem fail_ok (w : World) (g s : Nat) (A : Option Addr) (n c : Nat) (big : Bool) (at_ : Nat) (h : Cur w g s A n c big at_) :
    Calls Try.prog 47 #[.pointer (some ⟨g, 0, none⟩), .int .i64 0] w fun r w' => r = .returned (.tuple #[]) ∧ w = w' := by
  have c0 := h.c0
  have s2 := h.s2
  clear h
  go_enter Try.func47, Try.ntmps47
  go_wp2_with (go_at_call 48; refine (reads_is g s true _ c0 s2).mono ?_; rintro r w' ⟨rfl, rfl⟩)
  go_end0
  exact ⟨rfl, rfl⟩

theorem ret_num {k : IntKind} {a b : Int} (h : a = b) : Ending.returned (.int k a) = .returned (.int k b) := by rw [h]

set_option maxHeartbeats 400000 in
theorem left_is (w : World) (g s : Nat) (A : Option Addr) (n c : Nat) (big : Bool) (at_ : Nat) (h : Cur w g s A n c big at_) (hat : at_ ≤ n) (hn : n ≤ 9223372036854775807) :
    Calls Try.prog 29 #[.pointer (some ⟨g, 0, none⟩)] w fun r w' => r = .returned (.int .i64 ((n - at_ : Nat) : Int)) ∧ ∃ k, w' = w.drewN k := by
  have c0 := h.c0
  have c1 := h.c1
  have s0 := h.s0
  have s2 := h.s2
  clear h
  go_enter Try.func29, Try.ntmps29
  go_wp2_with (go_at_call 48; refine (reads_is g s true _ c0 s2).mono ?_; rintro r w' ⟨rfl, rfl⟩)
  go_quiet (fail)
  go_wp2
  go_ret
  exact ⟨ret_num (by omega), ⟨_, rfl⟩⟩

set_option maxHeartbeats 400000 in
theorem at_is (w : World) (g s : Nat) (A : Option Addr) (n c : Nat) (big : Bool) (at_ : Nat) (h : Cur w g s A n c big at_) :
    Calls Try.prog 55 #[.pointer (some ⟨g, 0, none⟩)] w fun r w' => r = .returned (.int .i64 (at_ : Int)) ∧ w = w' := by
  have c0 := h.c0
  have c1 := h.c1
  have s2 := h.s2
  clear h
  go_enter Try.func55, Try.ntmps55
  go_wp2_with (go_at_call 48; refine (reads_is g s true _ c0 s2).mono ?_; rintro r w' ⟨rfl, rfl⟩)
  go_ret
  exact ⟨rfl, rfl⟩

set_option maxHeartbeats 400000 in
theorem next_up (w : World) (g s : Nat) (A : Option Addr) (n c : Nat) (big : Bool) (at_ : Nat) (m : Int) (h : Cur w g s A n c big at_) (hat : at_ ≤ n) (hn : n ≤ 9223372036854775807)
    (hm : ((n - at_ : Nat) : Int) < m) :
    Calls Try.prog 49 #[.pointer (some ⟨g, 0, none⟩), .int .i64 m] w fun r w' => r = .panicked (gaveUp s 3) ∧ ∃ k, w' = w.drewN k := by
  go_enter Try.func49, Try.ntmps49
  go_wp2_with (first
    | (go_at_call 29; refine (left_is _ g s A n c big at_ h hat hn).mono ?_; rintro r w' ⟨rfl, k, rfl⟩; have h2 := h.drewN k; clear h)
    | (go_at_call 47; refine (fail_up _ g s A n c big at_ _ h2 (by decide)).mono ?_; rintro r w' ⟨rfl, rfl⟩))
  exact ⟨rfl, rfl, ⟨_, rfl⟩⟩

set_option maxHeartbeats 400000 in
theorem next_is (w : World) (g s : Nat) (A : Option Addr) (n c : Nat) (big : Bool) (at_ : Nat) (m : Nat) (h : Cur w g s A n c big at_) (hat : at_ + m ≤ n) (hc : n ≤ c) (hn : c ≤ 9223372036854775807) :
    Calls Try.prog 49 #[.pointer (some ⟨g, 0, none⟩), .int .i64 m] w fun r w' => r = .returned (.slice (cutAt A c at_) m (c - at_)) ∧ ∃ k, w' = w.drewN k := by
  have hlt : ¬ (((n - at_ : Nat) : Int) < (m : Int)) := by omega
  have H := Lib.hid h
  have c0 := h.c0
  have c1 := h.c1
  have s0 := h.s0
  clear h
  go_enter Try.func49, Try.ntmps49
  go_wp2_with (go_at_call 29; refine (left_is _ g s A n c big at_ H.out (by omega) (by omega)).mono ?_; rintro r w' ⟨rfl, k, rfl⟩)
  go_quiet (fail)
  go_wp2
  all_goals
    go_ret
    exact ⟨by simp_all [cutAt], ⟨_, rfl⟩⟩

end Go.Proofs.Ytnakfdaneejcfaa
