/-
  The contracts of alive, reach, burn and writes.
-/
import Derived.Test.YtghnhabpcikhgaaSmall
namespace Go.Proofs.Ytghnhabpcikhgaa
open Go.RowKit

/-- why a disk takes no calls -/
def aliveE (dead : Bool) : Int := if dead then 10 else 0
/-- why a sector can't be reached -/
def reachE (dead : Bool) (cnt : Nat) (i : Int) : Int := if dead then 10 else if i < 0 ∨ (cnt : Int) ≤ i then 11 else 0

section
variable {w : World} {d cnt m np : Nat} {J : Value} {dead : Bool}
theorem cellD0 (h : Box w d 59 (cellsD cnt m J np dead)) : w.cell? ⟨d, 0, none⟩ = some (.int .i64 (cnt : Int)) := h.cell 0
theorem cellD1 (h : Box w d 59 (cellsD cnt m J np dead)) : w.cell? ⟨d, 1, none⟩ = some (.map (some m)) := h.cell 1
theorem cellD2 (h : Box w d 59 (cellsD cnt m J np dead)) : w.cell? ⟨d, 2, none⟩ = some J := h.cell 2
theorem cellD3 (h : Box w d 59 (cellsD cnt m J np dead)) : w.cell? ⟨d, 3, none⟩ = some (.int .i64 (np : Int)) := h.cell 3
theorem cellD4 (h : Box w d 59 (cellsD cnt m J np dead)) : w.cell? ⟨d, 4, none⟩ = some (.bool false) := h.cell 4
theorem cellD5 (h : Box w d 59 (cellsD cnt m J np dead)) : w.cell? ⟨d, 5, none⟩ = some (.int .i64 0) := h.cell 5
theorem cellD6 (h : Box w d 59 (cellsD cnt m J np dead)) : w.cell? ⟨d, 6, none⟩ = some (.int .u64 0) := h.cell 6
theorem cellD7 (h : Box w d 59 (cellsD cnt m J np dead)) : w.cell? ⟨d, 7, none⟩ = some (.bool dead) := h.cell 7
end

set_option maxHeartbeats 400000 in
theorem alive_any (w : World) (d : Nat) (dead : Bool) (c7 : w.cell? ⟨d, 7, none⟩ = some (.bool dead)) :
    Calls Try.prog 30 #[.pointer (some ⟨d, 0, none⟩)] w fun e w' => e = .returned (.int .i64 (aliveE dead)) ∧ w = w' := by
  cases dead
  · go_enter Try.func30, Try.ntmps30
    go_wp2
    go_ret
    exact ⟨rfl, rfl⟩
  · go_enter Try.func30, Try.ntmps30
    go_wp2
    go_ret
    exact ⟨rfl, rfl⟩
set_option maxHeartbeats 400000 in
theorem alive_nil (w : World) : Calls Try.prog 30 #[.pointer none] w fun e w' => e = .returned (.int .i64 1) ∧ w = w' := by
  go_enter Try.func30, Try.ntmps30
  go_wp2
  go_ret
  exact ⟨rfl, rfl⟩
set_option maxHeartbeats 400000 in
theorem reach_any (w : World) (d cnt : Nat) (dead : Bool) (i : Int) (c0 : w.cell? ⟨d, 0, none⟩ = some (.int .i64 (cnt : Int))) (c7 : w.cell? ⟨d, 7, none⟩ = some (.bool dead)) :
    Calls Try.prog 27 #[.pointer (some ⟨d, 0, none⟩), .int .i64 i] w fun e w' => e = .returned (.int .i64 (reachE dead cnt i)) ∧ w = w' := by
  have HA := Lib.hid (alive_any w d dead c7)
  cases dead
  · by_cases h0 : i < 0
    · go_enter Try.func27, Try.ntmps27
      go_wp2_with fail
      refine HA.out.mono ?_
      rintro e w' ⟨rfl, rfl⟩
      simp only [aliveE]
      go_wp2
      go_ret
      exact ⟨by simp [reachE, h0], rfl⟩
    · by_cases h1 : (cnt : Int) ≤ i
      · go_enter Try.func27, Try.ntmps27
        go_wp2_with fail
        refine HA.out.mono ?_
        rintro e w' ⟨rfl, rfl⟩
        simp only [aliveE]
        go_wp2
        go_ret
        exact ⟨by simp [reachE, h1], rfl⟩
      · go_enter Try.func27, Try.ntmps27
        go_wp2_with fail
        refine HA.out.mono ?_
        rintro e w' ⟨rfl, rfl⟩
        simp only [aliveE]
        go_wp2
        go_ret
        exact ⟨by simp [reachE, h0, h1], rfl⟩
  · go_enter Try.func27, Try.ntmps27
    go_wp2_with fail
    refine HA.out.mono ?_
    rintro e w' ⟨rfl, rfl⟩
    simp only [aliveE]
    go_wp2
    go_ret
    exact ⟨rfl, rfl⟩
set_option maxHeartbeats 400000 in
theorem reach_nil (w : World) (i : Int) : Calls Try.prog 27 #[.pointer none, .int .i64 i] w fun e w' => e = .returned (.int .i64 1) ∧ w = w' := by
  have HA := Lib.hid (alive_nil w)
  go_enter Try.func27, Try.ntmps27
  go_wp2_with fail
  refine HA.out.mono ?_
  rintro e w' ⟨rfl, rfl⟩
  go_wp2
  go_ret
  exact ⟨rfl, rfl⟩
set_option maxHeartbeats 400000 in
theorem burn_any (w : World) (d : Nat) (c4 : w.cell? ⟨d, 4, none⟩ = some (.bool false)) :
    Calls Try.prog 28 #[.pointer (some ⟨d, 0, none⟩)] w fun e w' => e = .returned (.int .i64 0) ∧ w = w' := by
  go_enter Try.func28, Try.ntmps28
  go_wp2
  go_ret
  exact ⟨rfl, rfl⟩

set_option maxHeartbeats 400000 in
theorem writes_nil (w : World) (d : Nat) (c2 : w.cell? ⟨d, 2, none⟩ = some (.pointer none)) :
    Calls Try.prog 32 #[.pointer (some ⟨d, 0, none⟩)] w fun e w' => e = .returned (.slice none 0 0) ∧ Below w.heap.size w w' := by
  go_enter Try.func32, Try.ntmps32
  go_wp2
  go_ret
  exact ⟨rfl, Below.refl _ _⟩
set_option maxHeartbeats 400000 in
theorem writes_row (w : World) (d j np : Nat) (A : Option Addr) (c : Nat) (c2 : w.cell? ⟨d, 2, none⟩ = some (.pointer (some ⟨j, 0, none⟩))) (c3 : w.cell? ⟨d, 3, none⟩ = some (.int .i64 (np : Int))) (cj : w.cell? ⟨j, 0, none⟩ = some (.slice A np c)) (hc : np ≤ c) :
    Calls Try.prog 32 #[.pointer (some ⟨d, 0, none⟩)] w fun e w' => e = .returned (.slice A np np) ∧ Below w.heap.size w w' := by

  go_enter Try.func32, Try.ntmps32
  go_wp2
  go_quiet (fail)
  go_wp2
  go_ret
  exact ⟨rfl, below_drewN_refl _ _⟩

/-- what writes tells: a slice of the pending writes -/
def Told (w : World) (q : List Ent) (e : Ending) (w' : World) : Prop := ∃ v, e = .returned v ∧ Row w' v q ∧ Below w.heap.size w w'
theorem writes_any {X : Nat → Prop} (w : World) (d : Nat) (J : Value) (q : List Ent) (c2 : w.cell? ⟨d, 2, none⟩ = some J) (c3 : w.cell? ⟨d, 3, none⟩ = some (.int .i64 (q.length : Int))) (hJ : Jn X w J q) :
    Calls Try.prog 32 #[.pointer (some ⟨d, 0, none⟩)] w (Told w q) := by
  rcases hJ.2 with ⟨rfl, rfl⟩ | ⟨j, v, rfl, hb, A, c, rfl, h1, h2, h3, h4⟩
  · refine (writes_nil w d c2).mono ?_
    rintro e w' ⟨rfl, hw⟩
    exact ⟨_, rfl, ⟨none, 0, rfl, Nat.le_refl _, Nat.zero_le _, fun _ => rfl, fun a ha => by cases ha⟩, hw⟩
  · refine (writes_row w d j q.length A c c2 c3 (hb.cell 0) h1).mono ?_
    rintro e w' ⟨rfl, hw⟩
    refine ⟨_, rfl, ⟨A, q.length, rfl, Nat.le_refl _, Nat.le_trans h1 h2, fun e => ?_, fun a ha => ?_⟩, hw⟩
    · have := h3 e
      omega
    · obtain ⟨g, cur, e, hb, ht⟩ := h4 a ha
      exact ⟨g, cur, e, hb.on hw, ht⟩

end Go.Proofs.Ytghnhabpcikhgaa
