/-
  CoefSizes: the walk.
-/
import Derived.Test.YthfpdebpepbejaaDoorAwake7
namespace Go.Proofs.YthfpdebpepbejaaDoor
open Go.RowKit

theorem sz_mono {x y : Int} (h : x.natAbs ≤ y.natAbs) : sz x ≤ sz y := szN_mono h

set_option maxHeartbeats 1600000 in
theorem sizes_calls (w : World) (x y : Int) (hT : Tab w) (hx : -2147483648 ≤ x ∧ x ≤ 2147483647) (hy : -2147483648 ≤ y ∧ y ≤ 2147483647) :
    Calls Tryd.prog 9 #[.int .i32 x, .int .i32 y] w (Law w) := by
  have h32 : (2 : Nat) ^ 32 = 4294967296 := by decide
  have hp : sz x ≤ 32 := sz_le.2 (by omega)
  have hq : sz y ≤ 32 := sz_le.2 (by omega)
  have hp1 : x ≠ 0 → 1 ≤ sz x := fun h => by have := sz_eq_zero (z := x); omega
  have hn := sz_neg x
  have hm := fun h : x.natAbs ≤ y.natAbs => sz_mono h
  obtain ⟨p, hpp⟩ : ∃ p, p = sz x := ⟨_, rfl⟩
  obtain ⟨q, hqq⟩ : ∃ q, q = sz y := ⟨_, rfl⟩
  have H := Lib.hid (And.intro hpp (And.intro hqq (And.intro hn hT)))
  rw [← hpp] at hp hp1 hm
  rw [← hqq] at hq hm
  clear hpp hqq hn hT h32
  obtain ⟨x0, x1⟩ := hx
  obtain ⟨y0, y1⟩ := hy
  have HM := Lib.hid (And.intro hm hp1)
  clear hm hp1
  go_enter Tryd.func9, Tryd.ntmps9
  go_wp2_with fail
  refine (size_any w x (by unfold isInt; omega)).mono ?_
  rintro e w2 ⟨rfl, rfl⟩
  rw [← H.out.1]
  go_wp2_with fail
  refine (size_any w y (by unfold isInt; omega)).mono ?_
  rintro e w2 ⟨rfl, rfl⟩
  rw [← H.out.2.1]
  go_wp2_with fail
  refine (size_any w (-x) (by unfold isInt; omega)).mono ?_
  rintro e w2 ⟨rfl, rfl⟩
  rw [H.out.2.2.1, ← H.out.1]
  have hpi : (p : Int) ≤ 32 := by omega
  by_cases hx0 : x = 0
  · have hz : (x != 0) = false := by simpa using hx0
    have hxa : x ≤ 0 := by omega
    have hxb : 0 ≤ x := by omega
    clear hx0
    have hm := HM.out.1
    rcases Int.lt_or_le y 0 with sy | sy <;> rcases Int.lt_or_le x 0 with sx | sx <;> by_cases hpq : p ≤ q
    all_goals
      (try have e1 : x < -x := by omega)
      (try have e1 : ¬ x < -x := by omega)
      (try have e2 : y < -y := by omega)
      (try have e2 : ¬ y < -y := by omega)
      (try have hna := fun h => absurd (hm h) hpq)
    all_goals (clear hm; go_wp2_with fail)
    all_goals first
      | (refine (awake7_any w H.out.2.2.2).mono ?_
         rintro e w3 ⟨rfl, b3⟩
         have H3 := Lib.hid b3
         clear b3
         go_wp2
         go_ret
         exact ⟨rfl, H3.out⟩)
      | (exfalso
         have hm := HM.out.1 (by omega)
         omega)
  · have hz : (x != 0) = true := by simpa using hx0
    have hp1 := HM.out.2 hx0
    have hp1i : ¬ (p : Int) < 1 := by omega
    clear hp1
    have hm := HM.out.1
    rcases Int.lt_or_le y 0 with sy | sy <;> rcases Int.lt_or_le x 0 with sx | sx <;> by_cases hpq : p ≤ q
    all_goals
      (try have e1 : x < -x := by omega)
      (try have e1 : ¬ x < -x := by omega)
      (try have e2 : y < -y := by omega)
      (try have e2 : ¬ y < -y := by omega)
      (try have hna := fun h => absurd (hm h) hpq)
    all_goals (clear hm; go_wp2_with fail)
    all_goals first
      | (refine (awake7_any w H.out.2.2.2).mono ?_
         rintro e w3 ⟨rfl, b3⟩
         have H3 := Lib.hid b3
         clear b3
         go_wp2
         go_ret
         exact ⟨rfl, H3.out⟩)
      | (exfalso
         have hm := HM.out.1 (by omega)
         omega)
end Go.Proofs.YthfpdebpepbejaaDoor
