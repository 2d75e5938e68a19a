/-
  Lists of 64 numbers, told by a function.
-/
import Derived.Test.YtadlaljohlpabaaRound
namespace Go.Proofs.Ytadlaljohlpabaa
open Go.RowKit

/-- the first k numbers of one list, the others of another one -/
def mix (k : Nat) (x y : List Int) : List Int := x.take k ++ y.drop k
section
variable {x y : List Int} {k : Nat}
theorem mix_zero : mix 0 x y = y := by simp [mix]
theorem mix_all (hx : x.length = 64) (hy : y.length = 64) : mix 64 x y = x := by
  unfold mix
  rw [List.take_of_length_le (by omega), List.drop_of_length_le (by omega), List.append_nil]
theorem mix_len (hx : x.length = 64) (hy : y.length = 64) (hk : k ≤ 64) : (mix k x y).length = 64 := by
  unfold mix
  rw [List.length_append, List.length_take, List.length_drop]
  omega
theorem mix_at (hx : x.length = 64) (hk : k ≤ 64) {j : Nat} (hj : k ≤ j) : (mix k x y).getD j 0 = y.getD j 0 := by
  unfold mix
  have h : (x.take k).length = k := by rw [List.length_take]; omega
  rw [List.getD_eq_getElem?_getD, List.getElem?_append_right (by omega), h, List.getElem?_drop, List.getD_eq_getElem?_getD]
  congr 3
  omega
theorem mix_more (hx : x.length = 64) (hy : y.length = 64) (hk : k < 64) : (mix k x y).set k (x.getD k 0) = mix (k + 1) x y := by
  unfold mix
  have h : (x.take k).length = k := by rw [List.length_take]; omega
  rw [List.set_append_right _ _ (by omega), h, Nat.sub_self, List.drop_eq_getElem_cons (by omega), List.set_cons_zero,
    List.take_succ_eq_append_getElem (by omega), List.append_assoc, List.getD_eq_getElem?_getD, List.getElem?_eq_getElem (by omega)]
  rfl
end

/-- 64 numbers by their places -/
def tab (f : Nat → Int) : List Int := (List.range 64).map f
theorem tab_len (f : Nat → Int) : (tab f).length = 64 := by simp [tab]
theorem tab_at (f : Nat → Int) {k : Nat} (hk : k < 64) : (tab f).getD k 0 = f k := by
  unfold tab
  rw [List.getD_eq_getElem?_getD, List.getElem?_map, List.getElem?_range hk]
  rfl
/-- two blocks of the same numbers are one -/
theorem list_eq {x y : List Int} (hx : x.length = 64) (hy : y.length = 64) (h : ∀ k, k < 64 → x.getD k 0 = y.getD k 0) : x = y := by
  apply List.ext_getElem?
  intro i
  by_cases hi : i < 64
  · have := h i hi
    rw [List.getD_eq_getElem?_getD, List.getD_eq_getElem?_getD, List.getElem?_eq_getElem (by omega), List.getElem?_eq_getElem (by omega)] at this
    rw [List.getElem?_eq_getElem (by omega), List.getElem?_eq_getElem (by omega)]
    exact congrArg some this
  · rw [List.getElem?_eq_none (by omega), List.getElem?_eq_none (by omega)]

end Go.Proofs.Ytadlaljohlpabaa
