/-
  Small functions of both sides: where an extent ends, whether it may be, how many sectors bytes need.
-/
import Derived.Test.YtcgajomngcgchaaExt
namespace Go.Proofs.Ytcgajomngcgchaa
open Go.RowKit

theorem ret_bool {a b : Bool} (h : a = b) : Ending.returned (.bool a) = .returned (.bool b) := by rw [h]
theorem ret_int {a b : Int} (h : a = b) : Ending.returned (.int .i64 a) = .returned (.int .i64 b) := by rw [h]

theorem ret_dec {P : Prop} [Decidable P] {b : Bool} (h : b = true ↔ P) : Ending.returned (.bool b) = .returned (.bool (decide P)) := by
  congr 2
  rw [Bool.eq_iff_iff, h, decide_eq_true_iff]

theorem end_any (x y : Int) (w : World) (h0 : -4611686018427387904 ≤ x + y) (h1 : x + y ≤ 4611686018427387904) :
    Calls Try.prog 32 #[.agg #[.int .i64 x, .int .i64 y]] w fun r w' => r = .returned (.int .i64 (x + y)) ∧ Below w.heap.size w w' := by
  have hw : IntKind.i64.wrap (x + y) = x + y := IntWalk.i64_in _ (by omega)
  go_enter Try.func32, Try.ntmps32
  go_wp2
  go_ret
  exact ⟨rfl, on_alloc _ _⟩

theorem valid_any (x y n : Int) (w : World) (hn : 0 ≤ n ∧ n ≤ 4096) (he : y ≤ 9223372036854775807) :
    Calls Try.prog 29 #[.agg #[.int .i64 x, .int .i64 y], .int .i64 n] w fun r w' => r = .returned (.bool (decide (Ok n (x, y)))) ∧ Below w.heap.size w w' := by
  obtain ⟨n0, n1⟩ := hn
  by_cases a : 0 ≤ x
  · by_cases b : 1 ≤ y
    · go_enter Try.func29, Try.ntmps29
      go_wp2
      go_ret
      exact ⟨ret_dec (by unfold Ok; simp; omega), on_alloc _ _⟩
    · go_enter Try.func29, Try.ntmps29
      go_wp2
      go_ret
      exact ⟨ret_dec (by unfold Ok; simp; omega), on_alloc _ _⟩
  · go_enter Try.func29, Try.ntmps29
    go_wp2
    go_ret
    exact ⟨ret_dec (by unfold Ok; simp; omega), on_alloc _ _⟩
theorem may_any (x y n : Int) (w : World) (hn : 0 ≤ n ∧ n ≤ 4096) :
    Calls Try.prog 33 #[.agg #[.int .i64 x, .int .i64 y], .int .i64 n] w fun r w' => r = .returned (.bool (decide (Ok n (x, y)))) ∧ Below w.heap.size w w' := by
  obtain ⟨n0, n1⟩ := hn
  by_cases a : 0 ≤ x
  · by_cases a2 : x ≤ 4096
    · by_cases b : 1 ≤ y
      · by_cases b2 : y ≤ 4096
        · go_enter Try.func33, Try.ntmps33
          go_wp2
          go_ret
          exact ⟨ret_dec (by unfold Ok; simp; omega), on_alloc _ _⟩
        · go_enter Try.func33, Try.ntmps33
          go_wp2
          go_ret
          exact ⟨ret_dec (by unfold Ok; simp; omega), on_alloc _ _⟩
      · go_enter Try.func33, Try.ntmps33
        go_wp2
        go_ret
        exact ⟨ret_dec (by unfold Ok; simp; omega), on_alloc _ _⟩
    · go_enter Try.func33, Try.ntmps33
      go_wp2
      go_ret
      exact ⟨ret_dec (by unfold Ok; simp; omega), on_alloc _ _⟩
  · go_enter Try.func33, Try.ntmps33
    go_wp2
    go_ret
    exact ⟨ret_dec (by unfold Ok; simp; omega), on_alloc _ _⟩

/-- how many sectors bytes need -/
def needF (b : Int) : Int := if b ≤ 0 then 0 else (b - 1) / 128 + 1
theorem need_any (b : Int) (w : World) (hb : b ≤ 9223372036854775807) : Calls Try.prog 14 #[.int .i64 b] w fun r w' => r = .returned (.int .i64 (needF b)) ∧ w' = w := by
  unfold needF
  by_cases h : b ≤ 0
  · rw [if_pos h]
    go_enter Try.func14, Try.ntmps14
    go_wp2
    go_ret
    exact ⟨rfl, rfl⟩
  · rw [if_neg h]
    have h1 : 0 < b := by omega
    go_enter Try.func14, Try.ntmps14
    go_wp2
    go_ret
    exact ⟨rfl, rfl⟩
theorem refNeed_any (b : Int) (w : World) (hb : b ≤ 9223372036854775807) : Calls Try.prog 15 #[.int .i64 b] w fun r w' => r = .returned (.int .i64 (needF b)) ∧ w' = w := by
  unfold needF
  by_cases h : b ≤ 0
  · rw [if_pos h]
    go_enter Try.func15, Try.ntmps15
    go_wp2
    go_ret
    exact ⟨rfl, rfl⟩
  · rw [if_neg h]
    have h1 : 0 < b := by omega
    by_cases h2 : 0 < b % 128
    · have e : (b - 1) / 128 + 1 = b / 128 + 1 := by omega
      rw [e]
      go_enter Try.func15, Try.ntmps15
      go_wp2
      go_ret
      exact ⟨rfl, rfl⟩
    · have e : (b - 1) / 128 + 1 = b / 128 := by omega
      rw [e]
      go_enter Try.func15, Try.ntmps15
      go_wp2
      go_ret
      exact ⟨rfl, rfl⟩
/-- may they be gone through? -/
def Few (n : Int) (m : Nat) : Prop := (n ≤ 200 ∨ 4096 < n) ∧ m ≤ 200
instance (n : Int) (m : Nat) : Decidable (Few n m) := by unfold Few; infer_instance
theorem few_any (n : Int) (A : Option Addr) (m c : Nat) (w : World) : Calls Try.prog 10 #[.int .i64 n, .slice A m c] w fun r w' => r = .returned (.bool (decide (Few n m))) ∧ w' = w := by
  by_cases a : n ≤ 200
  · go_enter Try.func10, Try.ntmps10
    go_wp2
    go_ret
    exact ⟨ret_dec (by unfold Few; simp; omega), rfl⟩
  · by_cases b : 4096 < n
    · go_enter Try.func10, Try.ntmps10
      go_wp2
      go_ret
      exact ⟨ret_dec (by unfold Few; simp; omega), rfl⟩
    · go_enter Try.func10, Try.ntmps10
      go_wp2
      go_ret
      exact ⟨ret_dec (by unfold Few; simp; omega), rfl⟩
end Go.Proofs.Ytcgajomngcgchaa
