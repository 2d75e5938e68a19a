/-
  CursorReads: what its step does where it asks the cursor first (to skip, to go, to fail, whether it is at the end).
-/
import Derived.Test.YthjnknhdnogaeaaRefNum
import Derived.Test.YthjnknhdnogaeaaGone
namespace Go.Proofs.Ythjnknhdnogaeaa
open Go.RowKit

/-- the world in which step does its work -/
def stepW (w : World) (A : Option Addr) (n c : Nat) (big : Bool) (at_ : Nat) (kd m : Int) : World :=
  ((w.alloc (.cells #[.slice A n c, .int .i64 at_, .bool big, .int .i64 0] 30)).alloc (.cells #[.int .i64 kd, .int .i64 m] 34)).alloc (.cells #[.slice none 0 0, .int .i64 0, .bool false, .int .i64 0] 30)

theorem stepW_parts (w : World) (A : Option Addr) (n c : Nat) (big : Bool) (at_ : Nat) (kd m : Int) :
    Box (stepW w A n c big at_ kd m) w.heap.size 30 #[.slice A n c, .int .i64 at_, .bool big, .int .i64 0] ∧ Box (stepW w A n c big at_ kd m) (w.heap.size + 1) 34 #[.int .i64 kd, .int .i64 m] ∧
      Box (stepW w A n c big at_ kd m) (w.heap.size + 1 + 1) 30 #[.slice none 0 0, .int .i64 0, .bool false, .int .i64 0] ∧ Kept (fun _ => False) w (stepW w A n c big at_ kd m) := by
  unfold stepW
  have h1 := Box.made (w.alloc (.cells #[.slice A n c, .int .i64 at_, .bool big, .int .i64 0] 30)) 34 #[.int .i64 kd, .int .i64 m]
  have h2 := Box.made ((w.alloc (.cells #[.slice A n c, .int .i64 at_, .bool big, .int .i64 0] 30)).alloc (.cells #[.int .i64 kd, .int .i64 m] 34)) 30 #[.slice none 0 0, .int .i64 0, .bool false, .int .i64 0]
  simp only [World.size_alloc] at h1 h2
  exact ⟨((Box.made w 30 _).alloc _).alloc _, h1.alloc _, h2, (((Kept.refl _ w).alloc _).alloc _).alloc _⟩

theorem fourKept {S : Nat → Prop} {w w1 : World} (h : Kept S w w1) {g : Nat} (hg : g < w.heap.size → S g) (x0 x1 x2 x3 : Value) :
    Kept S w ((((w1.setCell ⟨g, 0, none⟩ x0).setCell ⟨g, 1, none⟩ x1).setCell ⟨g, 2, none⟩ x2).setCell ⟨g, 3, none⟩ x3) :=
  (((h.setCell (p := ⟨g, 0, none⟩) hg _).setCell (p := ⟨g, 1, none⟩) hg _).setCell (p := ⟨g, 2, none⟩) hg _).setCell (p := ⟨g, 3, none⟩) hg _

section
variable (w : World) (a : Option Addr) (A : Option Addr) (n c : Nat) (big : Bool) (at_ : Nat) (m : Int)

set_option maxHeartbeats 1000000 in
theorem step_2 (at1 : Nat) (e1 : Int) (S : Nat → Prop) (hS : ∀ i, S i → i < w.heap.size) (Q : World → Prop)
    (hC : Calls Try.prog 21 #[.pointer a, .int .i64 m] (stepW w A n c big at_ 2 m) fun r w1 => r = .returned (.tuple #[]) ∧ Kept S (stepW w A n c big at_ 2 m) w1 ∧ Q w1)
    (hR : ∀ W : World, Calls Try.prog 41 #[refCur A n c big at_ 0, .int .i64 m] W fun r w' => r = .returned (refCur A n c big at1 e1) ∧ Below W.heap.size W w') :
    Calls Try.prog 16 #[.pointer a, refCur A n c big at_ 0, .agg #[.int .i64 2, .int .i64 m]] w fun r w' => r = .returned (.tuple #[refCur A n c big at1 e1, .bool true]) ∧ ∃ w1, Q w1 ∧ Kept (fun i => i = w.heap.size + 1 + 1) w1 w' ∧ Kept S w w' := by
  obtain ⟨s0, s1, s2, k0⟩ := stepW_parts w A n c big at_ 2 m
  have hsz : (stepW w A n c big at_ 2 m).heap.size = w.heap.size + 1 + 1 + 1 := by simp [stepW]
  have HC := Lib.hid hC
  have HR := Lib.hid hR
  have HS := Lib.hid (And.intro s0 (And.intro s1 (And.intro s2 (And.intro k0 (And.intro hS hsz)))))
  clear hC hR s0 s1 s2 k0 hsz hS
  unfold refCur at *
  go_enter Try.func16, Try.ntmps16
  go_wp2_with fail
  refine HC.out.mono ?_
  rintro r w1 ⟨rfl, k1, hq⟩
  obtain ⟨s0, s1, s2, k0, hS, hsz⟩ := HS.out
  have x0 := k1.box s0 (fun h => by have := hS _ h; omega)
  have x1 := k1.box s1 (fun h => by have := hS _ h; omega)
  have x2 := k1.box s2 (fun h => by have := hS _ h; omega)
  have c0 : w1.cell? ⟨w.heap.size, 0, none⟩ = some (.slice A n c) := x0.cell 0
  have c1 : w1.cell? ⟨w.heap.size, 1, none⟩ = some (.int .i64 at_) := x0.cell 1
  have c2 : w1.cell? ⟨w.heap.size, 2, none⟩ = some (.bool big) := x0.cell 2
  have c3 : w1.cell? ⟨w.heap.size, 3, none⟩ = some (.int .i64 0) := x0.cell 3
  have d1 : w1.cell? ⟨w.heap.size + 1, 1, none⟩ = some (.int .i64 m) := x1.cell 1
  have HX := Lib.hid (And.intro x2 (And.intro hq (And.intro k1 (And.intro k0 (And.intro hS hsz)))))
  clear s0 s1 s2 k0 x0 x1 x2 k1 hq HC hS hsz
  go_wp2_with fail
  refine (HR.out _).mono ?_
  rintro r w2 ⟨rfl, b2⟩
  have hq : Box w2 (w.heap.size + 1 + 1) 30 #[.slice none 0 0, .int .i64 0, .bool false, .int .i64 0] := (b2.block _ HX.out.1.lt).trans HX.out.1
  have q0 : w2.cell? ⟨w.heap.size + 1 + 1, 0, none⟩ = some (.slice none 0 0) := hq.cell 0
  have q1 : w2.cell? ⟨w.heap.size + 1 + 1, 1, none⟩ = some (.int .i64 0) := hq.cell 1
  have q2 : w2.cell? ⟨w.heap.size + 1 + 1, 2, none⟩ = some (.bool false) := hq.cell 2
  have q3 : w2.cell? ⟨w.heap.size + 1 + 1, 3, none⟩ = some (.int .i64 0) := hq.cell 3
  have p0 := hq.free 0
  have p1 := hq.free 1
  have p2 := hq.free 2
  have p3 := hq.free 3
  have HB := Lib.hid b2
  clear b2 hq c0 c1 c2 c3 d1 HR
  go_wp2
  obtain ⟨_, hq, k1, k0, hS, hsz⟩ := HX.out
  have k3 := fourKept (Kept.of_below HB.out (fun i => i = w.heap.size + 1 + 1)) (g := w.heap.size + 1 + 1) (fun _ => rfl) (.slice A n c) (.int .i64 at1) (.bool big) (.int .i64 e1)
  exact bodyPost_ret (v := .tuple #[.agg #[.slice A n c, .int .i64 at1, .bool big, .int .i64 e1], .bool true]) (by simp [results, Try.results16, go_sem, q0, q1, q2, q3]) rfl
    ⟨rfl, w1, hq, k3, ((k0.mono (fun _ _ h => h.elim)).trans k1 (fun _ _ h => h)).trans k3 (fun i hi e => by omega)⟩

set_option maxHeartbeats 400000 in
theorem stepUp_2 (ch : List PanicEntry) (Q : World → Prop)
    (hC : Calls Try.prog 21 #[.pointer a, .int .i64 m] (stepW w A n c big at_ 2 m) fun r w1 => r = .panicked ch ∧ Q w1) :
    Calls Try.prog 16 #[.pointer a, refCur A n c big at_ 0, .agg #[.int .i64 2, .int .i64 m]] w fun r w' => r = .panicked ch ∧ Q w' := by
  have HC := Lib.hid hC
  clear hC
  unfold refCur at *
  go_enter Try.func16, Try.ntmps16
  go_wp2_with fail
  refine HC.out.mono ?_
  rintro r w1 ⟨rfl, hq⟩
  exact ⟨rfl, rfl, hq⟩

set_option maxHeartbeats 1000000 in
theorem step_3 (at1 : Nat) (e1 : Int) (S : Nat → Prop) (hS : ∀ i, S i → i < w.heap.size) (Q : World → Prop)
    (hC : Calls Try.prog 22 #[.pointer a, .int .i64 m] (stepW w A n c big at_ 3 m) fun r w1 => r = .returned (.tuple #[]) ∧ Kept S (stepW w A n c big at_ 3 m) w1 ∧ Q w1)
    (hR : ∀ W : World, Calls Try.prog 42 #[refCur A n c big at_ 0, .int .i64 m] W fun r w' => r = .returned (refCur A n c big at1 e1) ∧ Below W.heap.size W w') :
    Calls Try.prog 16 #[.pointer a, refCur A n c big at_ 0, .agg #[.int .i64 3, .int .i64 m]] w fun r w' => r = .returned (.tuple #[refCur A n c big at1 e1, .bool true]) ∧ ∃ w1, Q w1 ∧ Kept (fun i => i = w.heap.size + 1 + 1) w1 w' ∧ Kept S w w' := by
  obtain ⟨s0, s1, s2, k0⟩ := stepW_parts w A n c big at_ 3 m
  have hsz : (stepW w A n c big at_ 3 m).heap.size = w.heap.size + 1 + 1 + 1 := by simp [stepW]
  have HC := Lib.hid hC
  have HR := Lib.hid hR
  have HS := Lib.hid (And.intro s0 (And.intro s1 (And.intro s2 (And.intro k0 (And.intro hS hsz)))))
  clear hC hR s0 s1 s2 k0 hsz hS
  unfold refCur at *
  go_enter Try.func16, Try.ntmps16
  go_wp2_with fail
  refine HC.out.mono ?_
  rintro r w1 ⟨rfl, k1, hq⟩
  obtain ⟨s0, s1, s2, k0, hS, hsz⟩ := HS.out
  have x0 := k1.box s0 (fun h => by have := hS _ h; omega)
  have x1 := k1.box s1 (fun h => by have := hS _ h; omega)
  have x2 := k1.box s2 (fun h => by have := hS _ h; omega)
  have c0 : w1.cell? ⟨w.heap.size, 0, none⟩ = some (.slice A n c) := x0.cell 0
  have c1 : w1.cell? ⟨w.heap.size, 1, none⟩ = some (.int .i64 at_) := x0.cell 1
  have c2 : w1.cell? ⟨w.heap.size, 2, none⟩ = some (.bool big) := x0.cell 2
  have c3 : w1.cell? ⟨w.heap.size, 3, none⟩ = some (.int .i64 0) := x0.cell 3
  have d1 : w1.cell? ⟨w.heap.size + 1, 1, none⟩ = some (.int .i64 m) := x1.cell 1
  have HX := Lib.hid (And.intro x2 (And.intro hq (And.intro k1 (And.intro k0 (And.intro hS hsz)))))
  clear s0 s1 s2 k0 x0 x1 x2 k1 hq HC hS hsz
  go_wp2_with fail
  refine (HR.out _).mono ?_
  rintro r w2 ⟨rfl, b2⟩
  have hq : Box w2 (w.heap.size + 1 + 1) 30 #[.slice none 0 0, .int .i64 0, .bool false, .int .i64 0] := (b2.block _ HX.out.1.lt).trans HX.out.1
  have q0 : w2.cell? ⟨w.heap.size + 1 + 1, 0, none⟩ = some (.slice none 0 0) := hq.cell 0
  have q1 : w2.cell? ⟨w.heap.size + 1 + 1, 1, none⟩ = some (.int .i64 0) := hq.cell 1
  have q2 : w2.cell? ⟨w.heap.size + 1 + 1, 2, none⟩ = some (.bool false) := hq.cell 2
  have q3 : w2.cell? ⟨w.heap.size + 1 + 1, 3, none⟩ = some (.int .i64 0) := hq.cell 3
  have p0 := hq.free 0
  have p1 := hq.free 1
  have p2 := hq.free 2
  have p3 := hq.free 3
  have HB := Lib.hid b2
  clear b2 hq c0 c1 c2 c3 d1 HR
  go_wp2
  obtain ⟨_, hq, k1, k0, hS, hsz⟩ := HX.out
  have k3 := fourKept (Kept.of_below HB.out (fun i => i = w.heap.size + 1 + 1)) (g := w.heap.size + 1 + 1) (fun _ => rfl) (.slice A n c) (.int .i64 at1) (.bool big) (.int .i64 e1)
  exact bodyPost_ret (v := .tuple #[.agg #[.slice A n c, .int .i64 at1, .bool big, .int .i64 e1], .bool true]) (by simp [results, Try.results16, go_sem, q0, q1, q2, q3]) rfl
    ⟨rfl, w1, hq, k3, ((k0.mono (fun _ _ h => h.elim)).trans k1 (fun _ _ h => h)).trans k3 (fun i hi e => by omega)⟩

set_option maxHeartbeats 400000 in
theorem stepUp_3 (ch : List PanicEntry) (Q : World → Prop)
    (hC : Calls Try.prog 22 #[.pointer a, .int .i64 m] (stepW w A n c big at_ 3 m) fun r w1 => r = .panicked ch ∧ Q w1) :
    Calls Try.prog 16 #[.pointer a, refCur A n c big at_ 0, .agg #[.int .i64 3, .int .i64 m]] w fun r w' => r = .panicked ch ∧ Q w' := by
  have HC := Lib.hid hC
  clear hC
  unfold refCur at *
  go_enter Try.func16, Try.ntmps16
  go_wp2_with fail
  refine HC.out.mono ?_
  rintro r w1 ⟨rfl, hq⟩
  exact ⟨rfl, rfl, hq⟩

set_option maxHeartbeats 1000000 in
theorem step_4 (at1 : Nat) (e1 : Int) (S : Nat → Prop) (hS : ∀ i, S i → i < w.heap.size) (Q : World → Prop)
    (hC : Calls Try.prog 20 #[.pointer a, .int .i64 m] (stepW w A n c big at_ 4 m) fun r w1 => r = .returned (.tuple #[]) ∧ Kept S (stepW w A n c big at_ 4 m) w1 ∧ Q w1)
    (hR : ∀ W : World, Calls Try.prog 43 #[refCur A n c big at_ 0, .int .i64 m] W fun r w' => r = .returned (refCur A n c big at1 e1) ∧ Below W.heap.size W w') :
    Calls Try.prog 16 #[.pointer a, refCur A n c big at_ 0, .agg #[.int .i64 4, .int .i64 m]] w fun r w' => r = .returned (.tuple #[refCur A n c big at1 e1, .bool true]) ∧ ∃ w1, Q w1 ∧ Kept (fun i => i = w.heap.size + 1 + 1) w1 w' ∧ Kept S w w' := by
  obtain ⟨s0, s1, s2, k0⟩ := stepW_parts w A n c big at_ 4 m
  have hsz : (stepW w A n c big at_ 4 m).heap.size = w.heap.size + 1 + 1 + 1 := by simp [stepW]
  have HC := Lib.hid hC
  have HR := Lib.hid hR
  have HS := Lib.hid (And.intro s0 (And.intro s1 (And.intro s2 (And.intro k0 (And.intro hS hsz)))))
  clear hC hR s0 s1 s2 k0 hsz hS
  unfold refCur at *
  go_enter Try.func16, Try.ntmps16
  go_wp2_with fail
  refine HC.out.mono ?_
  rintro r w1 ⟨rfl, k1, hq⟩
  obtain ⟨s0, s1, s2, k0, hS, hsz⟩ := HS.out
  have x0 := k1.box s0 (fun h => by have := hS _ h; omega)
  have x1 := k1.box s1 (fun h => by have := hS _ h; omega)
  have x2 := k1.box s2 (fun h => by have := hS _ h; omega)
  have c0 : w1.cell? ⟨w.heap.size, 0, none⟩ = some (.slice A n c) := x0.cell 0
  have c1 : w1.cell? ⟨w.heap.size, 1, none⟩ = some (.int .i64 at_) := x0.cell 1
  have c2 : w1.cell? ⟨w.heap.size, 2, none⟩ = some (.bool big) := x0.cell 2
  have c3 : w1.cell? ⟨w.heap.size, 3, none⟩ = some (.int .i64 0) := x0.cell 3
  have d1 : w1.cell? ⟨w.heap.size + 1, 1, none⟩ = some (.int .i64 m) := x1.cell 1
  have HX := Lib.hid (And.intro x2 (And.intro hq (And.intro k1 (And.intro k0 (And.intro hS hsz)))))
  clear s0 s1 s2 k0 x0 x1 x2 k1 hq HC hS hsz
  go_wp2_with fail
  refine (HR.out _).mono ?_
  rintro r w2 ⟨rfl, b2⟩
  have hq : Box w2 (w.heap.size + 1 + 1) 30 #[.slice none 0 0, .int .i64 0, .bool false, .int .i64 0] := (b2.block _ HX.out.1.lt).trans HX.out.1
  have q0 : w2.cell? ⟨w.heap.size + 1 + 1, 0, none⟩ = some (.slice none 0 0) := hq.cell 0
  have q1 : w2.cell? ⟨w.heap.size + 1 + 1, 1, none⟩ = some (.int .i64 0) := hq.cell 1
  have q2 : w2.cell? ⟨w.heap.size + 1 + 1, 2, none⟩ = some (.bool false) := hq.cell 2
  have q3 : w2.cell? ⟨w.heap.size + 1 + 1, 3, none⟩ = some (.int .i64 0) := hq.cell 3
  have p0 := hq.free 0
  have p1 := hq.free 1
  have p2 := hq.free 2
  have p3 := hq.free 3
  have HB := Lib.hid b2
  clear b2 hq c0 c1 c2 c3 d1 HR
  go_wp2
  obtain ⟨_, hq, k1, k0, hS, hsz⟩ := HX.out
  have k3 := fourKept (Kept.of_below HB.out (fun i => i = w.heap.size + 1 + 1)) (g := w.heap.size + 1 + 1) (fun _ => rfl) (.slice A n c) (.int .i64 at1) (.bool big) (.int .i64 e1)
  exact bodyPost_ret (v := .tuple #[.agg #[.slice A n c, .int .i64 at1, .bool big, .int .i64 e1], .bool true]) (by simp [results, Try.results16, go_sem, q0, q1, q2, q3]) rfl
    ⟨rfl, w1, hq, k3, ((k0.mono (fun _ _ h => h.elim)).trans k1 (fun _ _ h => h)).trans k3 (fun i hi e => by omega)⟩

set_option maxHeartbeats 400000 in
theorem stepUp_4 (ch : List PanicEntry) (Q : World → Prop)
    (hC : Calls Try.prog 20 #[.pointer a, .int .i64 m] (stepW w A n c big at_ 4 m) fun r w1 => r = .panicked ch ∧ Q w1) :
    Calls Try.prog 16 #[.pointer a, refCur A n c big at_ 0, .agg #[.int .i64 4, .int .i64 m]] w fun r w' => r = .panicked ch ∧ Q w' := by
  have HC := Lib.hid hC
  clear hC
  unfold refCur at *
  go_enter Try.func16, Try.ntmps16
  go_wp2_with fail
  refine HC.out.mono ?_
  rintro r w1 ⟨rfl, hq⟩
  exact ⟨rfl, rfl, hq⟩

set_option maxHeartbeats 1000000 in
theorem step_5 (at1 : Nat) (e1 : Int) (S : Nat → Prop) (hS : ∀ i, S i → i < w.heap.size) (Q : World → Prop)
    (hC : Calls Try.prog 23 #[.pointer a] (stepW w A n c big at_ 5 m) fun r w1 => r = .returned (.tuple #[]) ∧ Kept S (stepW w A n c big at_ 5 m) w1 ∧ Q w1)
    (hR : ∀ W : World, Calls Try.prog 44 #[refCur A n c big at_ 0] W fun r w' => r = .returned (refCur A n c big at1 e1) ∧ Below W.heap.size W w') :
    Calls Try.prog 16 #[.pointer a, refCur A n c big at_ 0, .agg #[.int .i64 5, .int .i64 m]] w fun r w' => r = .returned (.tuple #[refCur A n c big at1 e1, .bool true]) ∧ ∃ w1, Q w1 ∧ Kept (fun i => i = w.heap.size + 1 + 1) w1 w' ∧ Kept S w w' := by
  obtain ⟨s0, s1, s2, k0⟩ := stepW_parts w A n c big at_ 5 m
  have hsz : (stepW w A n c big at_ 5 m).heap.size = w.heap.size + 1 + 1 + 1 := by simp [stepW]
  have HC := Lib.hid hC
  have HR := Lib.hid hR
  have HS := Lib.hid (And.intro s0 (And.intro s1 (And.intro s2 (And.intro k0 (And.intro hS hsz)))))
  clear hC hR s0 s1 s2 k0 hsz hS
  unfold refCur at *
  go_enter Try.func16, Try.ntmps16
  go_wp2_with fail
  refine HC.out.mono ?_
  rintro r w1 ⟨rfl, k1, hq⟩
  obtain ⟨s0, s1, s2, k0, hS, hsz⟩ := HS.out
  have x0 := k1.box s0 (fun h => by have := hS _ h; omega)
  have x1 := k1.box s1 (fun h => by have := hS _ h; omega)
  have x2 := k1.box s2 (fun h => by have := hS _ h; omega)
  have c0 : w1.cell? ⟨w.heap.size, 0, none⟩ = some (.slice A n c) := x0.cell 0
  have c1 : w1.cell? ⟨w.heap.size, 1, none⟩ = some (.int .i64 at_) := x0.cell 1
  have c2 : w1.cell? ⟨w.heap.size, 2, none⟩ = some (.bool big) := x0.cell 2
  have c3 : w1.cell? ⟨w.heap.size, 3, none⟩ = some (.int .i64 0) := x0.cell 3
  have d1 : w1.cell? ⟨w.heap.size + 1, 1, none⟩ = some (.int .i64 m) := x1.cell 1
  have HX := Lib.hid (And.intro x2 (And.intro hq (And.intro k1 (And.intro k0 (And.intro hS hsz)))))
  clear s0 s1 s2 k0 x0 x1 x2 k1 hq HC hS hsz
  go_wp2_with fail
  refine (HR.out _).mono ?_
  rintro r w2 ⟨rfl, b2⟩
  have hq : Box w2 (w.heap.size + 1 + 1) 30 #[.slice none 0 0, .int .i64 0, .bool false, .int .i64 0] := (b2.block _ HX.out.1.lt).trans HX.out.1
  have q0 : w2.cell? ⟨w.heap.size + 1 + 1, 0, none⟩ = some (.slice none 0 0) := hq.cell 0
  have q1 : w2.cell? ⟨w.heap.size + 1 + 1, 1, none⟩ = some (.int .i64 0) := hq.cell 1
  have q2 : w2.cell? ⟨w.heap.size + 1 + 1, 2, none⟩ = some (.bool false) := hq.cell 2
  have q3 : w2.cell? ⟨w.heap.size + 1 + 1, 3, none⟩ = some (.int .i64 0) := hq.cell 3
  have p0 := hq.free 0
  have p1 := hq.free 1
  have p2 := hq.free 2
  have p3 := hq.free 3
  have HB := Lib.hid b2
  clear b2 hq c0 c1 c2 c3 d1 HR
  go_wp2
  obtain ⟨_, hq, k1, k0, hS, hsz⟩ := HX.out
  have k3 := fourKept (Kept.of_below HB.out (fun i => i = w.heap.size + 1 + 1)) (g := w.heap.size + 1 + 1) (fun _ => rfl) (.slice A n c) (.int .i64 at1) (.bool big) (.int .i64 e1)
  exact bodyPost_ret (v := .tuple #[.agg #[.slice A n c, .int .i64 at1, .bool big, .int .i64 e1], .bool true]) (by simp [results, Try.results16, go_sem, q0, q1, q2, q3]) rfl
    ⟨rfl, w1, hq, k3, ((k0.mono (fun _ _ h => h.elim)).trans k1 (fun _ _ h => h)).trans k3 (fun i hi e => by omega)⟩

set_option maxHeartbeats 400000 in
theorem stepUp_5 (ch : List PanicEntry) (Q : World → Prop)
    (hC : Calls Try.prog 23 #[.pointer a] (stepW w A n c big at_ 5 m) fun r w1 => r = .panicked ch ∧ Q w1) :
    Calls Try.prog 16 #[.pointer a, refCur A n c big at_ 0, .agg #[.int .i64 5, .int .i64 m]] w fun r w' => r = .panicked ch ∧ Q w' := by
  have HC := Lib.hid hC
  clear hC
  unfold refCur at *
  go_enter Try.func16, Try.ntmps16
  go_wp2_with fail
  refine HC.out.mono ?_
  rintro r w1 ⟨rfl, hq⟩
  exact ⟨rfl, rfl, hq⟩

set_option maxHeartbeats 400000 in
theorem step_other (kd : Int) (h0 : (kd == 0) = false) (h1 : (kd == 1) = false) (h2 : (kd == 2) = false) (h3 : (kd == 3) = false) (h4 : (kd == 4) = false) (h5 : (kd == 5) = false) :
    Calls Try.prog 16 #[.pointer a, refCur A n c big at_ 0, .agg #[.int .i64 kd, .int .i64 m]] w fun r w' => r = .returned (.tuple #[refCur A n c big at_ 0, .bool true]) ∧ Below w.heap.size w w' := by
  unfold refCur at *
  go_enter Try.func16, Try.ntmps16
  go_wp2
  exact bodyPost_ret (v := .tuple #[.agg #[.slice A n c, .int .i64 at_, .bool big, .int .i64 0], .bool true]) (by simp [results, Try.results16, go_sem]) rfl ⟨rfl, (((Below.refl _ _).alloc (Nat.le_refl _) _).alloc (by simp) _).alloc (by simp; omega) _⟩
end

end Go.Proofs.Ythjnknhdnogaeaa
