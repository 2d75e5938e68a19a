/-
  What the two kinds of files do not have in common; a type's size; the greatest value.
-/
import Derived.Test.YtnakfdaneejcfaaCPut
import Derived.Deep.RegionHeld3
namespace Go.Proofs.Ytnakfdaneejcfaa
open Go.RowKit

def startL (big : Bool) : Array UInt8 := if big then #[73, 73, 43, 0, 8, 0, 0, 0] else #[73, 73, 42, 0]
def countN (big : Bool) : Nat := if big then 8 else 2
def wordN (big : Bool) : Nat := if big then 8 else 4
def limitN (big : Bool) : Int := if big then 1099511627776 else 4294967296
/-- a layout's value -/
def layV (big : Bool) : Value := .agg #[.string ⟨startL big⟩, .int .i64 (countN big), .int .i64 (wordN big), .int .i64 (limitN big)]
theorem layoutOf_any (big : Bool) (w : World) : Calls Try.prog 22 #[.bool big] w fun r w' => r = .returned (layV big) ∧ Below w.heap.size w w' := by
  cases big with
  | true =>
    go_enter Try.func22, Try.ntmps22
    go_wp2
    refine bodyPost_ret (v := layV true) (by simp [results, Try.results22, go_sem, layV, startL, countN, wordN, limitN]) rfl ⟨rfl, ?_⟩
    exact Below.trans (Below.alloc (Below.refl _ _) (Nat.le_refl _) _) (Below.refl _ _)
  | false =>
    go_enter Try.func22, Try.ntmps22
    go_wp2
    refine bodyPost_ret (v := layV false) (by simp [results, Try.results22, go_sem, layV, startL, countN, wordN, limitN]) rfl ⟨rfl, ?_⟩
    exact Below.trans (Below.alloc (Below.refl _ _) (Nat.le_refl _) _) (Below.refl _ _)
theorem layV_true : layV true = .agg #[.string ⟨#[73, 73, 43, 0, 8, 0, 0, 0]⟩, .int .i64 8, .int .i64 8, .int .i64 1099511627776] := rfl
theorem layV_false : layV false = .agg #[.string ⟨#[73, 73, 42, 0]⟩, .int .i64 2, .int .i64 4, .int .i64 4294967296] := rfl
theorem ret_dec {P : Prop} [Decidable P] {b : Bool} (h : b = true ↔ P) : Ending.returned (.bool b) = .returned (.bool (decide P)) := by
  congr 2
  by_cases hp : P
  · rw [decide_eq_true hp]; exact h.2 hp
  · rw [decide_eq_false hp]; cases b with
    | true => exact absurd (h.1 rfl) hp
    | false => rfl
/-- may a directory lie there? -/
def IsOff (big : Bool) (at_ : Int) : Prop := at_ % 2 = 0 ∧ 8 ≤ at_ ∧ at_ < limitN big
instance (big : Bool) (at_ : Int) : Decidable (IsOff big at_) := by unfold IsOff; infer_instance
def IsLink (big : Bool) (at_ : Int) : Prop := at_ = 0 ∨ IsOff big at_
instance (big : Bool) (at_ : Int) : Decidable (IsLink big at_) := by unfold IsLink; infer_instance
theorem tmod2 (x : Int) : (x.tmod 2 = 0) ↔ x % 2 = 0 := Int.dvd_iff_tmod_eq_zero.symm.trans Int.dvd_iff_emod_eq_zero
theorem box_on (w : World) (o : Obj) : Below w.heap.size w (w.alloc o) := (Below.refl _ _).alloc (Nat.le_refl _) _
set_option maxHeartbeats 800000 in
theorem isOffset_any (big : Bool) (at_ : Int) (w : World) : Calls Try.prog 32 #[layV big, .int .i64 at_] w fun r w' => r = .returned (.bool (decide (IsOff big at_))) ∧ Below w.heap.size w w' := by
  by_cases h0 : at_ % 2 = 0
  · have h0' : at_.tmod 2 = 0 := (tmod2 at_).2 h0
    by_cases h1 : 8 ≤ at_
    · cases big with
      | true =>
        rw [layV_true]
        go_enter Try.func32, Try.ntmps32
        go_wp2
        go_ret
        exact ⟨ret_dec (by unfold IsOff limitN; simp [h0, h1]), box_on _ _⟩
      | false =>
        rw [layV_false]
        go_enter Try.func32, Try.ntmps32
        go_wp2
        go_ret
        exact ⟨ret_dec (by unfold IsOff limitN; simp [h0, h1]), box_on _ _⟩
    · cases big with
      | true =>
        rw [layV_true]
        go_enter Try.func32, Try.ntmps32
        go_wp2
        go_ret
        exact ⟨ret_dec (by unfold IsOff; simp; omega), box_on _ _⟩
      | false =>
        rw [layV_false]
        go_enter Try.func32, Try.ntmps32
        go_wp2
        go_ret
        exact ⟨ret_dec (by unfold IsOff; simp; omega), box_on _ _⟩
  · have h0' : ¬ at_.tmod 2 = 0 := fun h => h0 ((tmod2 at_).1 h)
    have hr : Ending.returned (.bool false) = .returned (.bool (decide (IsOff big at_))) := ret_dec (by unfold IsOff; simp [h0])
    cases big with
    | true =>
      rw [layV_true]
      go_enter Try.func32, Try.ntmps32
      go_wp2
      go_ret
      exact ⟨hr, box_on _ _⟩
    | false =>
      rw [layV_false]
      go_enter Try.func32, Try.ntmps32
      go_wp2
      go_ret
      exact ⟨hr, box_on _ _⟩
theorem isLink_any (big : Bool) (at_ : Int) (w : World) : Calls Try.prog 23 #[layV big, .int .i64 at_] w fun r w' => r = .returned (.bool (decide (IsLink big at_))) ∧ Below w.heap.size w w' := by
  by_cases h0 : at_ = 0
  · have hr : Ending.returned (.bool true) = .returned (.bool (decide (IsLink big at_))) := ret_dec (by unfold IsLink; simp [h0])
    subst h0
    cases big with
    | true =>
      rw [layV_true]
      go_enter Try.func23, Try.ntmps23
      go_wp2_with fail
      go_ret
      exact ⟨hr, box_on _ _⟩
    | false =>
      rw [layV_false]
      go_enter Try.func23, Try.ntmps23
      go_wp2_with fail
      go_ret
      exact ⟨hr, box_on _ _⟩
  · have hr : Ending.returned (.bool (at_ == 0 || decide (IsOff big at_))) = .returned (.bool (decide (IsLink big at_))) := ret_dec (by unfold IsLink; simp)
    cases big with
    | true =>
      have HO := Lib.hid (fun w' => isOffset_any true at_ w')
      rw [layV_true] at HO ⊢
      go_enter Try.func23, Try.ntmps23
      go_wp2_with (go_at_call 32; refine (HO.out _).mono ?_; rintro e w6 ⟨rfl, b6⟩; have H6 := Lib.hid b6; clear b6)
      go_ret
      exact ⟨hr, (box_on w _).trans (H6.out.mono (box_on w _).size)⟩
    | false =>
      have HO := Lib.hid (fun w' => isOffset_any false at_ w')
      rw [layV_false] at HO ⊢
      go_enter Try.func23, Try.ntmps23
      go_wp2_with (go_at_call 32; refine (HO.out _).mono ?_; rintro e w6 ⟨rfl, b6⟩; have H6 := Lib.hid b6; clear b6)
      go_ret
      exact ⟨hr, (box_on w _).trans (H6.out.mono (box_on w _).size)⟩
def entryN (big : Bool) : Nat := if big then 20 else 12
theorem entry_any (big : Bool) (w : World) : Calls Try.prog 51 #[layV big] w fun r w' => r = .returned (.int .i64 (entryN big)) ∧ Below w.heap.size w w' := by
  cases big with
  | true =>
    rw [layV_true]
    go_enter Try.func51, Try.ntmps51
    go_wp2
    go_ret
    exact ⟨rfl, box_on _ _⟩
  | false =>
    rw [layV_false]
    go_enter Try.func51, Try.ntmps51
    go_wp2
    go_ret
    exact ⟨rfl, box_on _ _⟩
/-- how many bytes a value of a type has -/
def tyN (k : Int) (big : Bool) : Nat := if k = 1 ∨ k = 2 ∨ k = 7 then 1 else if k = 3 then 2 else if k = 4 then 4 else if k = 16 ∧ big = true then 8 else 0
set_option maxHeartbeats 800000 in
theorem typeSize_any (k : Int) (big : Bool) (w : World) : Calls Try.prog 52 #[.int .i64 k, .bool big] w fun r w' => r = .returned (.int .i64 (tyN k big)) ∧ w' = w := by
  by_cases h1 : k = 1
  · subst h1; go_enter Try.func52, Try.ntmps52; go_wp2; go_ret; exact ⟨rfl, rfl⟩
  by_cases h2 : k = 2
  · subst h2; go_enter Try.func52, Try.ntmps52; go_wp2; go_ret; exact ⟨rfl, rfl⟩
  by_cases h7 : k = 7
  · subst h7; go_enter Try.func52, Try.ntmps52; go_wp2; go_ret; exact ⟨rfl, rfl⟩
  by_cases h3 : k = 3
  · subst h3; go_enter Try.func52, Try.ntmps52; go_wp2; go_ret; exact ⟨rfl, rfl⟩
  by_cases h4 : k = 4
  · subst h4; go_enter Try.func52, Try.ntmps52; go_wp2; go_ret; exact ⟨rfl, rfl⟩
  by_cases h16 : k = 16
  · subst h16
    cases big with
    | true => go_enter Try.func52, Try.ntmps52; go_wp2; go_ret; exact ⟨rfl, rfl⟩
    | false => go_enter Try.func52, Try.ntmps52; go_wp2; go_ret; exact ⟨rfl, rfl⟩
  · have hz : tyN k big = 0 := by unfold tyN; simp [h1, h2, h7, h3, h4, h16]
    rw [hz]
    clear hz
    go_enter Try.func52, Try.ntmps52
    go_wp2
    go_ret
    exact ⟨rfl, rfl⟩
def topN (s : Nat) : Int := if s = 1 then 255 else if s = 2 then 65535 else if s = 4 then 4294967295 else 9007199254740992
theorem greatest_any (s : Nat) (hs : s = 1 ∨ s = 2 ∨ s = 4 ∨ s = 8) (w : World) : Calls Try.prog 54 #[.int .i64 (s : Int)] w fun r w' => r = .returned (.int .i64 (topN s)) ∧ w' = w := by
  rcases hs with rfl | rfl | rfl | rfl
  all_goals
    go_enter Try.func54, Try.ntmps54
    go_wp2
    go_ret
    exact ⟨rfl, rfl⟩
def evenN (n : Nat) : Nat := n + n % 2
theorem even_any (n : Nat) (hn : n ≤ 1000000) (w : World) : Calls Try.prog 37 #[.int .i64 (n : Int)] w fun r w' => r = .returned (.int .i64 (evenN n : Int)) ∧ w' = w := by
  have h1 : (n : Int).tmod 2 = ((n % 2 : Nat) : Int) := by rw [Int.tmod_eq_emod_of_nonneg (by omega)]; omega
  obtain ⟨q, hq⟩ : ∃ q, n % 2 = q := ⟨_, rfl⟩
  have hq2 : q ≤ 1 := by omega
  have he : evenN n = n + q := by unfold evenN; rw [hq]
  rw [he]
  rw [hq] at h1
  clear hq he
  go_enter Try.func37, Try.ntmps37
  go_wp2
  go_ret
  refine ⟨?_, rfl⟩
  go_num
end Go.Proofs.Ytnakfdaneejcfaa
