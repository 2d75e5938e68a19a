/-
  Geometries, and those that may be: the contracts of both functions Right, and of both functions Head.
-/
import Derived.Test.YtmadkpnkmkajoaaDoorP12A
namespace Go.Proofs.YtmadkpnkmkajoaaDoor
open Go.RowKit
set_option maxRecDepth 20000

def geoV (W H T K Q : Int) (B : Bool) : Value := .agg #[.int .i64 W, .int .i64 H, .int .i64 T, .int .i64 K, .int .i64 Q, .bool B]
def RightG (W H T K Q : Int) : Prop := (1 ≤ W ∧ W ≤ 128) ∧ (1 ≤ H ∧ H ≤ 128) ∧ (T = 16 ∨ T = 32) ∧ (0 ≤ K ∧ K ≤ 3) ∧ 1 ≤ Q ∧ Q ≤ 100
instance (W H T K Q : Int) : Decidable (RightG W H T K Q) := by unfold RightG; infer_instance
/-- what its tiles' header is -/
def hT (W H T K Q : Int) : Int := if RightG W H T K Q then T else 0
def hK (W H T K Q : Int) : Int := if RightG W H T K Q then K else 0

set_option maxHeartbeats 3200000 in
theorem rightG_any (w : World) (W H T K Q : Int) (B : Bool) : Calls Tryd.prog 8 #[geoV W H T K Q B] w fun e w' => e = .returned (.bool (decide (RightG W H T K Q))) ∧ Below w.heap.size w w' := by
  unfold geoV
  by_cases c0 : 1 ≤ W
  · skip
    by_cases c1 : W ≤ 128
    · skip
      by_cases c2 : 1 ≤ H
      · skip
        by_cases c3 : H ≤ 128
        · skip
          by_cases t16 : T = 16
          · subst t16
            by_cases c5 : 0 ≤ K
            · skip
              by_cases c6 : K ≤ 3
              · skip
                by_cases c7 : 1 ≤ Q
                · skip
                  by_cases c8 : Q ≤ 100
                  · skip
                    have E := Lib.hid (decide_eq_true (show RightG W H 16 K Q from ⟨⟨by assumption, by assumption⟩, ⟨by assumption, by assumption⟩, by omega, ⟨by assumption, by assumption⟩, by assumption, by assumption⟩))
                    go_enter Tryd.func8, Tryd.ntmps8
                    go_wp2_with fail
                    go_ret
                    exact ⟨by rw [E.out]; rfl, on_alloc _ _⟩
                  · have d8 : 100 < Q := by omega
                    clear c8
                    have E := Lib.hid (decide_eq_false (show ¬ RightG W H 16 K Q from fun h => by unfold RightG at h; omega))
                    have D := Lib.hid (decide_eq_false (show ¬ Q ≤ 100 by omega))
                    go_enter Tryd.func8, Tryd.ntmps8
                    go_wp2_with fail
                    go_ret
                    exact ⟨by rw [E.out, ← D.out]; rfl, on_alloc _ _⟩
                · have d7 : Q < 1 := by omega
                  clear c7
                  have E := Lib.hid (decide_eq_false (show ¬ RightG W H 16 K Q from fun h => by unfold RightG at h; omega))
                  go_enter Tryd.func8, Tryd.ntmps8
                  go_wp2_with fail
                  go_ret
                  exact ⟨by rw [E.out]; rfl, on_alloc _ _⟩
              · have d6 : 3 < K := by omega
                clear c6
                have E := Lib.hid (decide_eq_false (show ¬ RightG W H 16 K Q from fun h => by unfold RightG at h; omega))
                go_enter Tryd.func8, Tryd.ntmps8
                go_wp2_with fail
                go_ret
                exact ⟨by rw [E.out]; rfl, on_alloc _ _⟩
            · have d5 : K < 0 := by omega
              clear c5
              have E := Lib.hid (decide_eq_false (show ¬ RightG W H 16 K Q from fun h => by unfold RightG at h; omega))
              go_enter Tryd.func8, Tryd.ntmps8
              go_wp2_with fail
              go_ret
              exact ⟨by rw [E.out]; rfl, on_alloc _ _⟩
          · by_cases t32 : T = 32
            · subst t32
              by_cases c5 : 0 ≤ K
              · skip
                by_cases c6 : K ≤ 3
                · skip
                  by_cases c7 : 1 ≤ Q
                  · skip
                    by_cases c8 : Q ≤ 100
                    · skip
                      have E := Lib.hid (decide_eq_true (show RightG W H 32 K Q from ⟨⟨by assumption, by assumption⟩, ⟨by assumption, by assumption⟩, by omega, ⟨by assumption, by assumption⟩, by assumption, by assumption⟩))
                      go_enter Tryd.func8, Tryd.ntmps8
                      go_wp2_with fail
                      go_ret
                      exact ⟨by rw [E.out]; rfl, on_alloc _ _⟩
                    · have d8 : 100 < Q := by omega
                      clear c8
                      have E := Lib.hid (decide_eq_false (show ¬ RightG W H 32 K Q from fun h => by unfold RightG at h; omega))
                      have D := Lib.hid (decide_eq_false (show ¬ Q ≤ 100 by omega))
                      go_enter Tryd.func8, Tryd.ntmps8
                      go_wp2_with fail
                      go_ret
                      exact ⟨by rw [E.out, ← D.out]; rfl, on_alloc _ _⟩
                  · have d7 : Q < 1 := by omega
                    clear c7
                    have E := Lib.hid (decide_eq_false (show ¬ RightG W H 32 K Q from fun h => by unfold RightG at h; omega))
                    go_enter Tryd.func8, Tryd.ntmps8
                    go_wp2_with fail
                    go_ret
                    exact ⟨by rw [E.out]; rfl, on_alloc _ _⟩
                · have d6 : 3 < K := by omega
                  clear c6
                  have E := Lib.hid (decide_eq_false (show ¬ RightG W H 32 K Q from fun h => by unfold RightG at h; omega))
                  go_enter Tryd.func8, Tryd.ntmps8
                  go_wp2_with fail
                  go_ret
                  exact ⟨by rw [E.out]; rfl, on_alloc _ _⟩
              · have d5 : K < 0 := by omega
                clear c5
                have E := Lib.hid (decide_eq_false (show ¬ RightG W H 32 K Q from fun h => by unfold RightG at h; omega))
                go_enter Tryd.func8, Tryd.ntmps8
                go_wp2_with fail
                go_ret
                exact ⟨by rw [E.out]; rfl, on_alloc _ _⟩
            · skip
              have E := Lib.hid (decide_eq_false (show ¬ RightG W H T K Q from fun h => by unfold RightG at h; omega))
              go_enter Tryd.func8, Tryd.ntmps8
              go_wp2_with fail
              go_ret
              exact ⟨by rw [E.out]; rfl, on_alloc _ _⟩
        · have d3 : 128 < H := by omega
          clear c3
          have E := Lib.hid (decide_eq_false (show ¬ RightG W H T K Q from fun h => by unfold RightG at h; omega))
          go_enter Tryd.func8, Tryd.ntmps8
          go_wp2_with fail
          go_ret
          exact ⟨by rw [E.out]; rfl, on_alloc _ _⟩
      · have d2 : H < 1 := by omega
        clear c2
        have E := Lib.hid (decide_eq_false (show ¬ RightG W H T K Q from fun h => by unfold RightG at h; omega))
        go_enter Tryd.func8, Tryd.ntmps8
        go_wp2_with fail
        go_ret
        exact ⟨by rw [E.out]; rfl, on_alloc _ _⟩
    · have d1 : 128 < W := by omega
      clear c1
      have E := Lib.hid (decide_eq_false (show ¬ RightG W H T K Q from fun h => by unfold RightG at h; omega))
      go_enter Tryd.func8, Tryd.ntmps8
      go_wp2_with fail
      go_ret
      exact ⟨by rw [E.out]; rfl, on_alloc _ _⟩
  · have d0 : W < 1 := by omega
    clear c0
    have E := Lib.hid (decide_eq_false (show ¬ RightG W H T K Q from fun h => by unfold RightG at h; omega))
    go_enter Tryd.func8, Tryd.ntmps8
    go_wp2_with fail
    go_ret
    exact ⟨by rw [E.out]; rfl, on_alloc _ _⟩

set_option maxHeartbeats 3200000 in
theorem refRightG_any (w : World) (W H T K Q : Int) (B : Bool) : Calls Tryd.prog 9 #[geoV W H T K Q B] w fun e w' => e = .returned (.bool (decide (RightG W H T K Q))) ∧ Below w.heap.size w w' := by
  unfold geoV
  by_cases c0 : 1 ≤ W
  · skip
    by_cases c1 : W ≤ 128
    · skip
      by_cases c2 : 1 ≤ H
      · skip
        by_cases c3 : H ≤ 128
        · skip
          by_cases t16 : T = 16
          · subst t16
            by_cases c5 : 0 ≤ K
            · skip
              by_cases c6 : K ≤ 3
              · skip
                by_cases c7 : 1 ≤ Q
                · skip
                  by_cases c8 : Q ≤ 100
                  · skip
                    have E := Lib.hid (decide_eq_true (show RightG W H 16 K Q from ⟨⟨by assumption, by assumption⟩, ⟨by assumption, by assumption⟩, by omega, ⟨by assumption, by assumption⟩, by assumption, by assumption⟩))
                    go_enter Tryd.func9, Tryd.ntmps9
                    go_wp2_with fail
                    go_ret
                    exact ⟨by rw [E.out]; rfl, on_alloc _ _⟩
                  · have d8 : 100 < Q := by omega
                    clear c8
                    have E := Lib.hid (decide_eq_false (show ¬ RightG W H 16 K Q from fun h => by unfold RightG at h; omega))
                    have D := Lib.hid (decide_eq_false (show ¬ Q ≤ 100 by omega))
                    go_enter Tryd.func9, Tryd.ntmps9
                    go_wp2_with fail
                    go_ret
                    exact ⟨by rw [E.out, ← D.out]; rfl, on_alloc _ _⟩
                · have d7 : Q < 1 := by omega
                  clear c7
                  have E := Lib.hid (decide_eq_false (show ¬ RightG W H 16 K Q from fun h => by unfold RightG at h; omega))
                  go_enter Tryd.func9, Tryd.ntmps9
                  go_wp2_with fail
                  go_ret
                  exact ⟨by rw [E.out]; rfl, on_alloc _ _⟩
              · have d6 : 3 < K := by omega
                clear c6
                have E := Lib.hid (decide_eq_false (show ¬ RightG W H 16 K Q from fun h => by unfold RightG at h; omega))
                go_enter Tryd.func9, Tryd.ntmps9
                go_wp2_with fail
                go_ret
                exact ⟨by rw [E.out]; rfl, on_alloc _ _⟩
            · have d5 : K < 0 := by omega
              clear c5
              have E := Lib.hid (decide_eq_false (show ¬ RightG W H 16 K Q from fun h => by unfold RightG at h; omega))
              go_enter Tryd.func9, Tryd.ntmps9
              go_wp2_with fail
              go_ret
              exact ⟨by rw [E.out]; rfl, on_alloc _ _⟩
          · by_cases t32 : T = 32
            · subst t32
              by_cases c5 : 0 ≤ K
              · skip
                by_cases c6 : K ≤ 3
                · skip
                  by_cases c7 : 1 ≤ Q
                  · skip
                    by_cases c8 : Q ≤ 100
                    · skip
                      have E := Lib.hid (decide_eq_true (show RightG W H 32 K Q from ⟨⟨by assumption, by assumption⟩, ⟨by assumption, by assumption⟩, by omega, ⟨by assumption, by assumption⟩, by assumption, by assumption⟩))
                      go_enter Tryd.func9, Tryd.ntmps9
                      go_wp2_with fail
                      go_ret
                      exact ⟨by rw [E.out]; rfl, on_alloc _ _⟩
                    · have d8 : 100 < Q := by omega
                      clear c8
                      have E := Lib.hid (decide_eq_false (show ¬ RightG W H 32 K Q from fun h => by unfold RightG at h; omega))
                      have D := Lib.hid (decide_eq_false (show ¬ Q ≤ 100 by omega))
                      go_enter Tryd.func9, Tryd.ntmps9
                      go_wp2_with fail
                      go_ret
                      exact ⟨by rw [E.out, ← D.out]; rfl, on_alloc _ _⟩
                  · have d7 : Q < 1 := by omega
                    clear c7
                    have E := Lib.hid (decide_eq_false (show ¬ RightG W H 32 K Q from fun h => by unfold RightG at h; omega))
                    go_enter Tryd.func9, Tryd.ntmps9
                    go_wp2_with fail
                    go_ret
                    exact ⟨by rw [E.out]; rfl, on_alloc _ _⟩
                · have d6 : 3 < K := by omega
                  clear c6
                  have E := Lib.hid (decide_eq_false (show ¬ RightG W H 32 K Q from fun h => by unfold RightG at h; omega))
                  go_enter Tryd.func9, Tryd.ntmps9
                  go_wp2_with fail
                  go_ret
                  exact ⟨by rw [E.out]; rfl, on_alloc _ _⟩
              · have d5 : K < 0 := by omega
                clear c5
                have E := Lib.hid (decide_eq_false (show ¬ RightG W H 32 K Q from fun h => by unfold RightG at h; omega))
                go_enter Tryd.func9, Tryd.ntmps9
                go_wp2_with fail
                go_ret
                exact ⟨by rw [E.out]; rfl, on_alloc _ _⟩
            · skip
              have E := Lib.hid (decide_eq_false (show ¬ RightG W H T K Q from fun h => by unfold RightG at h; omega))
              go_enter Tryd.func9, Tryd.ntmps9
              go_wp2_with fail
              go_ret
              exact ⟨by rw [E.out]; rfl, on_alloc _ _⟩
        · have d3 : 128 < H := by omega
          clear c3
          have E := Lib.hid (decide_eq_false (show ¬ RightG W H T K Q from fun h => by unfold RightG at h; omega))
          go_enter Tryd.func9, Tryd.ntmps9
          go_wp2_with fail
          go_ret
          exact ⟨by rw [E.out]; rfl, on_alloc _ _⟩
      · have d2 : H < 1 := by omega
        clear c2
        have E := Lib.hid (decide_eq_false (show ¬ RightG W H T K Q from fun h => by unfold RightG at h; omega))
        go_enter Tryd.func9, Tryd.ntmps9
        go_wp2_with fail
        go_ret
        exact ⟨by rw [E.out]; rfl, on_alloc _ _⟩
    · have d1 : 128 < W := by omega
      clear c1
      have E := Lib.hid (decide_eq_false (show ¬ RightG W H T K Q from fun h => by unfold RightG at h; omega))
      go_enter Tryd.func9, Tryd.ntmps9
      go_wp2_with fail
      go_ret
      exact ⟨by rw [E.out]; rfl, on_alloc _ _⟩
  · have d0 : W < 1 := by omega
    clear c0
    have E := Lib.hid (decide_eq_false (show ¬ RightG W H T K Q from fun h => by unfold RightG at h; omega))
    go_enter Tryd.func9, Tryd.ntmps9
    go_wp2_with fail
    go_ret
    exact ⟨by rw [E.out]; rfl, on_alloc _ _⟩

end Go.Proofs.YtmadkpnkmkajoaaDoor
