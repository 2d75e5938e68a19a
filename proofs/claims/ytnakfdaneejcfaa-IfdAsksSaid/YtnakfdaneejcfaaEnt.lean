/-
  An entry's beginning.
-/
import Derived.Test.YtnakfdaneejcfaaByt
namespace Go.Proofs.Ytnakfdaneejcfaa
open Go.RowKit

def entB (t k : Int) (n : Nat) (big : Bool) : List Int := told (max t 0) 2 false ++ told (max k 0) 2 false ++ told (max (n : Int) 0) (wordN big) false
theorem width_word (big : Bool) : width (wordN big : Int) = wordN big := by cases big <;> rfl
theorem entB_len (t k : Int) (n : Nat) (big : Bool) : (entB t k n big).length = 4 + wordN big := by simp [entB, told_len]; omega
theorem entB_fit (t k : Int) (n : Nat) (big : Bool) : Fit (entB t k n big) := ((told_fit _ _ _).app (told_fit _ _ _)).app (told_fit _ _ _)
set_option maxHeartbeats 1600000 in
theorem entryStart_any (t k : Int) (A : Option Addr) (n c : Nat) (big : Bool) (w : World) (ht : t ≤ 9223372036854775807) (hk : k ≤ 9223372036854775807) (hn : n ≤ 100000) : Calls Try.prog 35 #[fldV t k A n c, layV big] w (Owned w (4 + wordN big) (entB t k n big)) := by
  have hwd := width_word big
  unfold fldV layV entB
  obtain ⟨st, hst⟩ : ∃ st, startL big = st := ⟨_, rfl⟩
  obtain ⟨cn, hcn⟩ : ∃ cn, countN big = cn := ⟨_, rfl⟩
  obtain ⟨wd, hwd2⟩ : ∃ wd, wordN big = wd := ⟨_, rfl⟩
  obtain ⟨lm, hlm⟩ : ∃ lm, limitN big = lm := ⟨_, rfl⟩
  rw [hwd2] at hwd
  rw [hst, hcn, hwd2, hlm]
  have hwd8 : wd ≤ 8 := by rw [← hwd2]; unfold wordN; split <;> omega
  have HW := Lib.hid hwd
  clear hst hcn hwd2 hlm hwd
  obtain ⟨w2, hw2⟩ : ∃ w2, (w.alloc (.cells #[.int .i64 t, .int .i64 k, .slice A n c] 48)).alloc (.cells #[.string ⟨st⟩, .int .i64 (cn : Int), .int .i64 (wd : Int), .int .i64 lm] 51) = w2 := ⟨_, rfl⟩
  have k2 : Below w.heap.size w w2 := by rw [← hw2]; exact on_trans (on_alloc _ _) (on_alloc _ _)
  have bf : Box w2 w.heap.size 48 #[.int .i64 t, .int .i64 k, .slice A n c] := by rw [← hw2]; exact (Box.made _ _ _).on (on_alloc _ _)
  have bl : Box w2 (w.heap.size + 1) 51 #[.string ⟨st⟩, .int .i64 (cn : Int), .int .i64 (wd : Int), .int .i64 lm] := by
    have := Box.made (w.alloc (.cells #[.int .i64 t, .int .i64 k, .slice A n c] 48)) 51 #[.string ⟨st⟩, .int .i64 (cn : Int), .int .i64 (wd : Int), .int .i64 lm]
    rw [hw2] at this
    simpa using this
  have q0 : w2.cell? ⟨w.heap.size, 0, none⟩ = some (.int .i64 t) := bf.cell 0
  have HP1 := Lib.hid (put_any w2 (fun _ => True) none 0 0 [] t 2 false (sl_nil _ _) (by omega) ht)
  have H2 := Lib.hid (And.intro k2 (And.intro bf bl))
  have hw22 : width 2 = 2 := rfl
  rw [hw22, Nat.zero_add, List.nil_append] at HP1
  clear k2 bf bl hw22
  go_enter Try.func35, Try.ntmps35
  go_wp2_with fail
  refine HP1.out.mono ?_
  rintro e w3 ⟨A3, c3, rfl, hx3, b3⟩
  have q1 : w3.cell? ⟨w.heap.size, 1, none⟩ = some (.int .i64 k) := (H2.out.2.1.on b3).cell 1
  have hP2 := put_any w3 _ A3 2 c3 _ k 2 false hx3 (by omega) hk
  have hw22 : width 2 = 2 := rfl
  rw [hw22] at hP2
  have HP2 := Lib.hid hP2
  have H3 := Lib.hid (And.intro (H2.out.2.1.on b3) (And.intro (H2.out.2.2.on b3) (on_trans H2.out.1 b3)))
  clear hx3 b3 hP2 hw22
  go_wp2_with fail
  refine HP2.out.mono ?_
  rintro e w4 ⟨A4, c4, rfl, hx4, b4⟩
  have q2 : w4.cell? ⟨w.heap.size, 2, none⟩ = some (.slice A n c) := (H3.out.1.on b4).cell 2
  have q3 : w4.cell? ⟨w.heap.size + 1, 2, none⟩ = some (.int .i64 (wd : Int)) := (H3.out.2.1.on b4).cell 2
  have hP3 := put_any w4 _ A4 (2 + 2) c4 _ (n : Int) wd false hx4 (by omega) (by omega)
  rw [HW.out] at hP3
  have HP3 := Lib.hid hP3
  have H4 := Lib.hid (on_trans H3.out.2.2 b4)
  clear hx4 b4 hP3
  go_wp2_with fail
  refine HP3.out.mono ?_
  rintro e w5 ⟨A5, c5, rfl, hx5, b5⟩
  have H5 := Lib.hid (And.intro hx5 b5)
  clear hx5 b5
  go_wp2_with fail
  go_ret
  exact ⟨A5, c5, rfl, H5.out.1.mono (fun b _ hb => Nat.le_trans H4.out.size hb), on_trans H4.out H5.out.2⟩
end Go.Proofs.Ytnakfdaneejcfaa
