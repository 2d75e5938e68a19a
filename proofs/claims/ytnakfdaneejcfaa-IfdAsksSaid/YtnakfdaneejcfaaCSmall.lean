/-
  The contracts of layer 1's small calls.
-/
import Derived.Test.YtnakfdaneejcfaaOwn
import Derived.Defers
import Derived.Recover
namespace Go.Proofs.Ytnakfdaneejcfaa
open Go.RowKit

set_option maxHeartbeats 400000 in
theorem isSize_any (n : Int) (w : World) : Calls Try.prog 43 #[.int .i64 n] w fun e w' => e = .returned (.bool (decide (n = 1 ∨ n = 2 ∨ n = 4 ∨ n = 8))) ∧ w = w' := by
  by_cases h1 : n = 1
  · subst h1
    go_enter Try.func43, Try.ntmps43
    go_wp2
    go_ret
    exact ⟨rfl, rfl⟩
  · by_cases h2 : n = 2
    · subst h2
      go_enter Try.func43, Try.ntmps43
      go_wp2
      go_ret
      exact ⟨rfl, rfl⟩
    · by_cases h4 : n = 4
      · subst h4
        go_enter Try.func43, Try.ntmps43
        go_wp2
        go_ret
        exact ⟨rfl, rfl⟩
      · by_cases h8 : n = 8
        · subst h8
          go_enter Try.func43, Try.ntmps43
          go_wp2
          go_ret
          exact ⟨rfl, rfl⟩
        · have b1 : (n == 1) = false := by simpa using h1
          have b2 : (n == 2) = false := by simpa using h2
          have b4 : (n == 4) = false := by simpa using h4
          have b8 : (n == 8) = false := by simpa using h8
          go_enter Try.func43, Try.ntmps43
          go_wp2
          go_ret
          exact ⟨by simp [h1, h2, h4, h8], rfl⟩

set_option maxHeartbeats 400000 in
theorem reads_nil (w : World) : Calls Try.prog 48 #[.pointer none] w fun e w' => e = .returned (.bool false) ∧ w = w' := by
  go_enter Try.func48, Try.ntmps48
  go_wp2
  go_ret
  exact ⟨rfl, rfl⟩

set_option maxHeartbeats 400000 in
theorem reads_is (g s : Nat) (o : Bool) (w : World) (c0 : w.cell? ⟨g, 0, none⟩ = some (.pointer (some ⟨s, 0, none⟩))) (c2 : w.cell? ⟨s, 2, none⟩ = some (.bool o)) :
    Calls Try.prog 48 #[.pointer (some ⟨g, 0, none⟩)] w fun e w' => e = .returned (.bool o) ∧ w = w' := by
  go_enter Try.func48, Try.ntmps48
  go_wp2
  go_ret
  exact ⟨rfl, rfl⟩

end Go.Proofs.Ytnakfdaneejcfaa
