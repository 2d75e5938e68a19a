/-
  CursorReads: what its step does where it asks for a number.
-/
import Derived.Test.YthjnknhdnogaeaaStep
namespace Go.Proofs.Ythjnknhdnogaeaa
open Go.RowKit

section
variable (w : World) (a : Option Addr) (A : Option Addr) (n c : Nat) (big : Bool) (at_ : Nat) (m : Int)

set_option maxHeartbeats 1000000 in
theorem step_0 (at1 : Nat) (e1 v : Int) (S : Nat → Prop) (hS : ∀ i, S i → i < w.heap.size) (Q : World → Prop)
    (hR : ∀ W : World, Kept (fun _ => False) w W → Calls Try.prog 39 #[refCur A n c big at_ 0, .int .i64 m] W fun r w' => r = .returned (.tuple #[.int .i64 v, refCur A n c big at1 e1]) ∧ Below W.heap.size W w')
    (v2 : Int) (hC : ∀ W : World, Kept (fun _ => False) w W → Calls Try.prog 24 #[.pointer a, .int .i64 m] W fun r w1 => r = .returned (.int .i64 v2) ∧ Kept S W w1 ∧ Q w1) :
    Calls Try.prog 16 #[.pointer a, refCur A n c big at_ 0, .agg #[.int .i64 0, .int .i64 m]] w fun r w' => r = .returned (.tuple #[refCur A n c big at1 e1, .bool (v2 == v)]) ∧ ∃ w1, Q w1 ∧ Kept (fun i => i = w.heap.size + 1 + 1) w1 w' ∧ Kept S w w' := by
  obtain ⟨s0, s1, s2, k0⟩ := stepW_parts w A n c big at_ 0 m
  have hsz : (stepW w A n c big at_ 0 m).heap.size = w.heap.size + 1 + 1 + 1 := by simp [stepW]
  have HC := Lib.hid hC
  have HR := Lib.hid (hR _ k0)
  have HS := Lib.hid (And.intro s1 (And.intro s2 (And.intro k0 (And.intro hS hsz))))
  clear hC hR s0 s1 s2 k0 hsz hS
  unfold refCur at *
  go_enter Try.func16, Try.ntmps16
  go_wp2_with fail
  refine HR.out.mono ?_
  rintro r w1 ⟨rfl, b1⟩
  obtain ⟨s1, s2, k0, hS, hsz⟩ := HS.out
  have y1 := ((b1.block _ s1.lt).trans s1 : Box w1 (w.heap.size + 1) 34 #[.int .i64 0, .int .i64 m])
  have y2 : Box w1 (w.heap.size + 1 + 1) 30 #[.slice none 0 0, .int .i64 0, .bool false, .int .i64 0] := (b1.block _ s2.lt).trans s2
  have hb : w.heap.size + 1 + 1 < w1.heap.size := y2.lt
  have kw : Kept (fun _ => False) w w1 := k0.trans (Kept.of_below b1 (fun _ => False)) (fun _ _ h => h)
  clear s1 s2 k0 hsz HR b1 HS
  have z1 := Box.alloc y1 (.cells #[.slice A n c, .int .i64 at1, .bool big, .int .i64 e1] 30)
  have z2 := y2.alloc (.cells #[.slice A n c, .int .i64 at1, .bool big, .int .i64 e1] 30)
  have z3 := Box.made w1 30 #[.slice A n c, .int .i64 at1, .bool big, .int .i64 e1]
  have kz := kw.alloc (.cells #[.slice A n c, .int .i64 at1, .bool big, .int .i64 e1] 30)
  have HY := Lib.hid (And.intro hS (And.intro hb kw))
  clear y1 y2 kw hS hb
  go_wp2_with fail
  obtain ⟨W1, hW1⟩ : ∃ W1, W1 = w1.alloc (.cells #[.slice A n c, .int .i64 at1, .bool big, .int .i64 e1] 30) := ⟨_, rfl⟩
  rw [← hW1] at z1 z2 z3 kz ⊢
  have d1 : W1.cell? ⟨w.heap.size + 1, 1, none⟩ = some (.int .i64 m) := z1.cell 1
  have t0 : W1.cell? ⟨w1.heap.size, 0, none⟩ = some (.slice A n c) := z3.cell 0
  have t1 : W1.cell? ⟨w1.heap.size, 1, none⟩ = some (.int .i64 at1) := z3.cell 1
  have t2 : W1.cell? ⟨w1.heap.size, 2, none⟩ = some (.bool big) := z3.cell 2
  have t3 : W1.cell? ⟨w1.heap.size, 3, none⟩ = some (.int .i64 e1) := z3.cell 3
  have HZ := Lib.hid (And.intro z2 (And.intro z3 kz))
  have HC2 := Lib.hid (HC.out W1.drew kz.drew)
  have hsz1 : W1.heap.size = w1.heap.size + 1 := by rw [hW1]; simp
  have HSZ := Lib.hid hsz1
  clear z1 z2 z3 kz hW1 HC hsz1
  go_region_with (first
    | (go_at_call 24
       refine HC2.out.mono ?_
       rintro r w3 ⟨rfl, k3, hq⟩
       have g2 := k3.box (Box.drewN HZ.out.1 1) (fun h => by have := HY.out.1 _ h; omega)
       have g3 := k3.box (Box.drewN HZ.out.2.1 1) (fun h => by have := HY.out.1 _ h; have := HY.out.2.1; omega)
       have q0 : w3.cell? ⟨w.heap.size + 1 + 1, 0, none⟩ = some (.slice none 0 0) := g2.cell 0
       have q1 : w3.cell? ⟨w.heap.size + 1 + 1, 1, none⟩ = some (.int .i64 0) := g2.cell 1
       have q2 : w3.cell? ⟨w.heap.size + 1 + 1, 2, none⟩ = some (.bool false) := g2.cell 2
       have q3 : w3.cell? ⟨w.heap.size + 1 + 1, 3, none⟩ = some (.int .i64 0) := g2.cell 3
       have p0 := g2.free 0
       have p1 := g2.free 1
       have p2 := g2.free 2
       have p3 := g2.free 3
       have j0 : w3.cell? ⟨w1.heap.size, 0, none⟩ = some (.slice A n c) := g3.cell 0
       have j1 : w3.cell? ⟨w1.heap.size, 1, none⟩ = some (.int .i64 at1) := g3.cell 1
       have j2 : w3.cell? ⟨w1.heap.size, 2, none⟩ = some (.bool big) := g3.cell 2
       have j3 : w3.cell? ⟨w1.heap.size, 3, none⟩ = some (.int .i64 e1) := g3.cell 3
       have HK := Lib.hid (And.intro k3 hq)
       clear k3 hq g2 g3))
  all_goals
    go_wp2
    have k5 := fourKept (Kept.refl (fun i => i = w.heap.size + 1 + 1) w3) (g := w.heap.size + 1 + 1) (fun _ => rfl) (.slice A n c) (.int .i64 at1) (.bool big) (.int .i64 e1)
    exact bodyPost_ret (v := .tuple #[.agg #[.slice A n c, .int .i64 at1, .bool big, .int .i64 e1], .bool (v2 == v)]) (by simp [results, Try.results16, go_sem, q0, q1, q2, q3]) rfl
      ⟨rfl, w3, HK.out.2, k5, ((HZ.out.2.2.drew.mono (fun _ _ h => h.elim)).trans HK.out.1 (fun _ _ h => h)).trans k5 (fun i hi e => by omega)⟩

set_option maxHeartbeats 1000000 in
theorem stepUp_0 (at1 : Nat) (e1 v : Int) (ch : List PanicEntry) (Q : World → Prop)
    (hR : ∀ W : World, Kept (fun _ => False) w W → Calls Try.prog 39 #[refCur A n c big at_ 0, .int .i64 m] W fun r w' => r = .returned (.tuple #[.int .i64 v, refCur A n c big at1 e1]) ∧ Below W.heap.size W w')
    (hC : ∀ W : World, Kept (fun _ => False) w W → Calls Try.prog 24 #[.pointer a, .int .i64 m] W fun r w1 => r = .panicked ch ∧ Q w1) :
    Calls Try.prog 16 #[.pointer a, refCur A n c big at_ 0, .agg #[.int .i64 0, .int .i64 m]] w fun r w' => r = .panicked ch ∧ Q w' := by
  obtain ⟨s0, s1, s2, k0⟩ := stepW_parts w A n c big at_ 0 m
  have HC := Lib.hid hC
  have HR := Lib.hid (hR _ k0)
  have HS := Lib.hid (And.intro s1 k0)
  clear hC hR s0 s1 s2 k0
  unfold refCur at *
  go_enter Try.func16, Try.ntmps16
  go_wp2_with fail
  refine HR.out.mono ?_
  rintro r w1 ⟨rfl, b1⟩
  obtain ⟨s1, k0⟩ := HS.out
  have y1 := ((b1.block _ s1.lt).trans s1 : Box w1 (w.heap.size + 1) 34 #[.int .i64 0, .int .i64 m])
  have kw : Kept (fun _ => False) w w1 := k0.trans (Kept.of_below b1 (fun _ => False)) (fun _ _ h => h)
  have z1 := Box.alloc y1 (.cells #[.slice A n c, .int .i64 at1, .bool big, .int .i64 e1] 30)
  have z3 := Box.made w1 30 #[.slice A n c, .int .i64 at1, .bool big, .int .i64 e1]
  have kz := kw.alloc (.cells #[.slice A n c, .int .i64 at1, .bool big, .int .i64 e1] 30)
  clear s1 k0 HR b1 HS y1 kw
  go_wp2_with fail
  obtain ⟨W1, hW1⟩ : ∃ W1, W1 = w1.alloc (.cells #[.slice A n c, .int .i64 at1, .bool big, .int .i64 e1] 30) := ⟨_, rfl⟩
  rw [← hW1] at z1 z3 kz ⊢
  have d1 : W1.cell? ⟨w.heap.size + 1, 1, none⟩ = some (.int .i64 m) := z1.cell 1
  have t0 : W1.cell? ⟨w1.heap.size, 0, none⟩ = some (.slice A n c) := z3.cell 0
  have t1 : W1.cell? ⟨w1.heap.size, 1, none⟩ = some (.int .i64 at1) := z3.cell 1
  have t2 : W1.cell? ⟨w1.heap.size, 2, none⟩ = some (.bool big) := z3.cell 2
  have t3 : W1.cell? ⟨w1.heap.size, 3, none⟩ = some (.int .i64 e1) := z3.cell 3
  have HC2 := Lib.hid (HC.out W1.drew kz.drew)
  clear z1 z3 kz hW1 HC
  go_region_dies
  all_goals
    refine HC2.out.mono ?_
    rintro r w3 ⟨rfl, hq⟩
    exact ⟨rfl, rfl, hq⟩
end

end Go.Proofs.Ythjnknhdnogaeaa
