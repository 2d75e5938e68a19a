/-
  A field: how many bytes its values have, and whether it may be; how many bytes a directory has ahead of the values behind.
-/
import Derived.Test.YtnakfdaneejcfaaLay
namespace Go.Proofs.Ytnakfdaneejcfaa
open Go.RowKit

theorem on_cell {w w' : World} {p : Addr} {v : Value} (h : w.cell? p = some v) (k : Below w.heap.size w w') : w'.cell? p = some v := (World.cell?_of_block (w := w) (k.block p.block (World.block_lt_of_cell? w p h))).trans h
def fixedN (big : Bool) (n : Nat) : Nat := countN big + n * entryN big + wordN big
set_option maxHeartbeats 1600000 in
theorem fixed_any (big : Bool) (n : Nat) (hn : n ≤ 100000) (w : World) : Calls Try.prog 33 #[layV big, .int .i64 (n : Int)] w fun r w' => r = .returned (.int .i64 (fixedN big n : Int)) ∧ Below w.heap.size w w' := by
  cases big with
  | true =>
    have HE := Lib.hid (fun w' => entry_any true w')
    rw [layV_true] at HE ⊢
    obtain ⟨w1, hw1⟩ : ∃ w1, w.alloc (.cells #[.string ⟨#[73, 73, 43, 0, 8, 0, 0, 0]⟩, .int .i64 8, .int .i64 8, .int .i64 1099511627776] 51) = w1 := ⟨_, rfl⟩
    have k1 : Below w.heap.size w w1 := by rw [← hw1]; exact box_on _ _
    have be : Box w1 w.heap.size 51 #[.string ⟨#[73, 73, 43, 0, 8, 0, 0, 0]⟩, .int .i64 8, .int .i64 8, .int .i64 1099511627776] := by rw [← hw1]; exact Box.made _ _ _
    have H1 := Lib.hid (And.intro k1 be)
    clear k1 be
    go_enter Try.func33, Try.ntmps33
    go_wp2_with fail
    clear hw1
    go_region_held3 (fun w' => w'.cell? ⟨w.heap.size, 0, none⟩ = some (.string ⟨#[73, 73, 43, 0, 8, 0, 0, 0]⟩) ∧ w'.cell? ⟨w.heap.size, 1, none⟩ = some (.int .i64 8) ∧ w'.cell? ⟨w.heap.size, 2, none⟩ = some (.int .i64 8) ∧ w'.cell? ⟨w.heap.size, 3, none⟩ = some (.int .i64 1099511627776))
      (first
        | exact ⟨H1.out.2.cell 0, H1.out.2.cell 1, H1.out.2.cell 2, H1.out.2.cell 3⟩
        | exact K2.out)
      (first
        | (go_at_call 51
           refine (HE.out _).mono ?_
           rintro e w2 ⟨rfl, b2⟩
           have hd := on_trans (on_drew w1) b2
           have K2 := Lib.hid (show w2.cell? ⟨w.heap.size, 0, none⟩ = some (.string ⟨#[73, 73, 43, 0, 8, 0, 0, 0]⟩) ∧ w2.cell? ⟨w.heap.size, 1, none⟩ = some (.int .i64 8) ∧ w2.cell? ⟨w.heap.size, 2, none⟩ = some (.int .i64 8) ∧ w2.cell? ⟨w.heap.size, 3, none⟩ = some (.int .i64 1099511627776) from
             ⟨on_cell (H1.out.2.cell 0) hd, on_cell (H1.out.2.cell 1) hd, on_cell (H1.out.2.cell 2) hd, on_cell (H1.out.2.cell 3) hd⟩)
           have H2 := Lib.hid hd
           clear b2 hd))
    all_goals
      go_wp2
      go_ret
      exact ⟨by unfold fixedN countN wordN entryN; simp [IntKind.wrap_i64]; omega, on_trans H1.out.1 H2.out⟩
  | false =>
    have HE := Lib.hid (fun w' => entry_any false w')
    rw [layV_false] at HE ⊢
    obtain ⟨w1, hw1⟩ : ∃ w1, w.alloc (.cells #[.string ⟨#[73, 73, 42, 0]⟩, .int .i64 2, .int .i64 4, .int .i64 4294967296] 51) = w1 := ⟨_, rfl⟩
    have k1 : Below w.heap.size w w1 := by rw [← hw1]; exact box_on _ _
    have be : Box w1 w.heap.size 51 #[.string ⟨#[73, 73, 42, 0]⟩, .int .i64 2, .int .i64 4, .int .i64 4294967296] := by rw [← hw1]; exact Box.made _ _ _
    have H1 := Lib.hid (And.intro k1 be)
    clear k1 be
    go_enter Try.func33, Try.ntmps33
    go_wp2_with fail
    clear hw1
    go_region_held3 (fun w' => w'.cell? ⟨w.heap.size, 0, none⟩ = some (.string ⟨#[73, 73, 42, 0]⟩) ∧ w'.cell? ⟨w.heap.size, 1, none⟩ = some (.int .i64 2) ∧ w'.cell? ⟨w.heap.size, 2, none⟩ = some (.int .i64 4) ∧ w'.cell? ⟨w.heap.size, 3, none⟩ = some (.int .i64 4294967296))
      (first
        | exact ⟨H1.out.2.cell 0, H1.out.2.cell 1, H1.out.2.cell 2, H1.out.2.cell 3⟩
        | exact K2.out)
      (first
        | (go_at_call 51
           refine (HE.out _).mono ?_
           rintro e w2 ⟨rfl, b2⟩
           have hd := on_trans (on_drew w1) b2
           have K2 := Lib.hid (show w2.cell? ⟨w.heap.size, 0, none⟩ = some (.string ⟨#[73, 73, 42, 0]⟩) ∧ w2.cell? ⟨w.heap.size, 1, none⟩ = some (.int .i64 2) ∧ w2.cell? ⟨w.heap.size, 2, none⟩ = some (.int .i64 4) ∧ w2.cell? ⟨w.heap.size, 3, none⟩ = some (.int .i64 4294967296) from
             ⟨on_cell (H1.out.2.cell 0) hd, on_cell (H1.out.2.cell 1) hd, on_cell (H1.out.2.cell 2) hd, on_cell (H1.out.2.cell 3) hd⟩)
           have H2 := Lib.hid hd
           clear b2 hd))
    all_goals
      go_wp2
      go_ret
      exact ⟨by unfold fixedN countN wordN entryN; simp [IntKind.wrap_i64]; omega, on_trans H1.out.1 H2.out⟩
/-- a field's value -/
def fldV (t k : Int) (A : Option Addr) (n c : Nat) : Value := .agg #[.int .i64 t, .int .i64 k, .slice A n c]
def fldC (t k : Int) (A : Option Addr) (n c : Nat) : Array Value := #[.int .i64 t, .int .i64 k, .slice A n c]
theorem tyN_le (k : Int) (big : Bool) : tyN k big ≤ 8 := by unfold tyN; split <;> (try split) <;> (try split) <;> (try split) <;> omega
set_option maxHeartbeats 1600000 in
theorem valuesSize_any (t k : Int) (A : Option Addr) (n c : Nat) (hn : n ≤ 100000) (big : Bool) (w : World) : Calls Try.prog 41 #[fldV t k A n c, .bool big] w fun r w' => r = .returned (.int .i64 ((n * tyN k big : Nat) : Int)) ∧ Below w.heap.size w w' := by
  have HE := Lib.hid (fun w' => typeSize_any k big w')
  obtain ⟨q, hq⟩ : ∃ q, tyN k big = q := ⟨_, rfl⟩
  have hq8 : q ≤ 8 := by rw [← hq]; exact tyN_le k big
  rw [hq] at HE ⊢
  have hm : n * q ≤ 800000 := Nat.le_trans (Nat.mul_le_mul hn hq8) (by decide)
  obtain ⟨p, hp⟩ : ∃ p, n * q = p := ⟨_, rfl⟩
  have hp1 : (n : Int) * (q : Int) = (p : Int) := by rw [← hp]; push_cast; rfl
  rw [hp] at hm ⊢
  clear hp hq
  obtain ⟨w1, hw1⟩ : ∃ w1, w.alloc (.cells #[.int .i64 t, .int .i64 k, .slice A n c] 48) = w1 := ⟨_, rfl⟩
  have k1 : Below w.heap.size w w1 := by rw [← hw1]; exact box_on _ _
  have be : Box w1 w.heap.size 48 #[.int .i64 t, .int .i64 k, .slice A n c] := by rw [← hw1]; exact Box.made _ _ _
  have H1 := Lib.hid (And.intro k1 be)
  unfold fldV
  clear k1 be
  go_enter Try.func41, Try.ntmps41
  go_wp2_with fail
  clear hw1
  go_region_held3 (fun w' => w'.cell? ⟨w.heap.size, 1, none⟩ = some (.int .i64 k) ∧ w'.cell? ⟨w.heap.size, 2, none⟩ = some (.slice A n c))
    (first
      | exact ⟨H1.out.2.cell 1, H1.out.2.cell 2⟩
      | exact K2.out)
    (first
      | (go_at_call 52
         refine (HE.out _).mono ?_
         rintro e w2 ⟨rfl, rfl⟩
         have hd := on_drew w1
         have K2 := Lib.hid (show w1.drew.cell? ⟨w.heap.size, 1, none⟩ = some (.int .i64 k) ∧ w1.drew.cell? ⟨w.heap.size, 2, none⟩ = some (.slice A n c) from
           ⟨on_cell (H1.out.2.cell 1) hd, on_cell (H1.out.2.cell 2) hd⟩)
         have H2 := Lib.hid hd
         clear hd))
  all_goals
    go_wp2
    go_ret
    exact ⟨by simp [wrap_small (show -9223372036854775808 ≤ (p : Int) by omega) (show (p : Int) ≤ 9223372036854775807 by omega)], on_trans H1.out.1 H2.out⟩
end Go.Proofs.Ytnakfdaneejcfaa
