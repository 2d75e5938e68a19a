/-
  The contract of the reference's Same, of two planes that are.
-/
import Derived.Test.YtadlaljohlpabaaPAt
import Derived.BigRegion
namespace Go.Proofs.Ytadlaljohlpabaa
open Go.RowKit

/-- draws alone change no block -/
theorem below_drewN (w : World) (d : Nat) : Below w.heap.size w (w.drewN d) := ⟨rfl, rfl, rfl, Nat.le_refl _, fun _ _ => rfl⟩
/-- what answers yes -/
def Yes (w : World) (e : Ending) (w' : World) : Prop := e = .returned (.bool true) ∧ Below w.heap.size w w'

set_option maxHeartbeats 1600000 in
theorem same_any (w : World) (W H : Int) (A A' : Option Addr) (n n' c c' : Nat) (xs : List Int) (hI : Ia w A n c xs) (hI' : Ia w A' n' c' xs) (hn : n ≤ 1000000) : Calls Try.prog 18 #[.agg #[.int .i64 W, .int .i64 H, .slice A n c], .agg #[.int .i64 W, .int .i64 H, .slice A' n' c']] w (Yes w) := by
  obtain rfl : n' = n := by rw [← hI.len, ← hI'.len]
  obtain ⟨w1, hw1⟩ : ∃ w1, (w.alloc (.cells #[.int .i64 W, .int .i64 H, .slice A n' c] 24)).alloc (.cells #[.int .i64 W, .int .i64 H, .slice A' n' c'] 24) = w1 := ⟨_, rfl⟩
  have k1 : Below w.heap.size w w1 := by rw [← hw1]; exact on_trans (on_alloc _ _) (on_alloc _ _)
  have hb1 : Box w1 w.heap.size 24 #[.int .i64 W, .int .i64 H, .slice A n' c] := by rw [← hw1]; exact Box.alloc (Box.made _ _ _) _
  have hb2 : Box w1 (w.heap.size + 1) 24 #[.int .i64 W, .int .i64 H, .slice A' n' c'] := by
    rw [← hw1, show w.heap.size + 1 = (w.alloc (.cells #[.int .i64 W, .int .i64 H, .slice A n' c] 24)).heap.size by simp]
    exact Box.made _ _ _
  have HW := Lib.hid hw1
  have H1 := Lib.hid (And.intro (hI.on k1) (And.intro (hI'.on k1) (And.intro k1 (And.intro (hb1.cell 2) (hb2.cell 2)))))
  clear hw1 k1 hb1 hb2 hI hI'
  go_enter Try.func18, Try.ntmps18
  go_wp2_with fail
  rw [HW.out]
  go_loopw [5] (fun i wr => ∃ k : Nat, k ≤ n' ∧ i = .int .i64 k ∧ (∃ d, wr = w1.drewN d)) (fun i _ => n' - (intOf i).toNat)
  case atStart => exact ⟨0, by omega, rfl, 0, rfl⟩
  case round =>
    obtain ⟨k, hk, rfl, d, rfl⟩ := hrel
    have c1 : w1.cell? ⟨w.heap.size, 2, none⟩ = some (.slice A n' c) := H1.out.2.2.2.1
    have c2 : w1.cell? ⟨w.heap.size + 1, 2, none⟩ = some (.slice A' n' c') := H1.out.2.2.2.2
    by_cases hkn : k < n'
    · obtain ⟨b, off, hA, _, hc⟩ := H1.out.1.at_ (by omega)
      obtain ⟨b', off', hA', _, hc'⟩ := H1.out.2.1.at_ (by omega)
      have c3 : w1.cell? ⟨b, off + k, none⟩ = some (.int .i64 (xs.getD k 0)) := hc k hkn
      have c4 : w1.cell? ⟨b', off' + k, none⟩ = some (.int .i64 (xs.getD k 0)) := hc' k hkn
      obtain ⟨z, hz'⟩ : ∃ z, z = xs.getD k 0 := ⟨_, rfl⟩
      rw [← hz'] at c3 c4
      subst hA
      subst hA'
      clear hz' hc hc'
      go_wp2_with fail
      go_region
      go_wp2_with fail
      go_roundw
      case rel => exact ⟨k + 1, by omega, by go_num, d + 1, rfl⟩
      case measure => simp [intOf]; omega
    · obtain rfl : k = n' := by omega
      go_wp2_with fail
      go_ret
      exact ⟨rfl, on_trans H1.out.2.2.1 (below_drewN _ _)⟩
end Go.Proofs.Ytadlaljohlpabaa
