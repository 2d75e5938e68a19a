/-
  The contracts of the reference's cursor.
-/
import Derived.Test.YthjnknhdnogaeaaSkips
import Derived.Test.YthjnknhdnogaeaaRef
import Derived.RegionTactic
namespace Go.Proofs.Ythjnknhdnogaeaa
open Go.RowKit

/-- a cursor of the reference, as a value -/
def refCur (A : Option Addr) (n c : Nat) (big : Bool) (at_ : Nat) (e : Int) : Value := .agg #[.slice A n c, .int .i64 at_, .bool big, .int .i64 e]

/-- two blocks of four cells, made one behind the other -/
theorem twoFour (w : World) (x0 x1 x2 x3 y0 y1 y2 y3 : Value) (W0 : World) (hW : W0 = (w.alloc (.cells #[x0, x1, x2, x3] 30)).alloc (.cells #[y0, y1, y2, y3] 30)) :
    Box W0 w.heap.size 30 #[x0, x1, x2, x3] ∧ Box W0 (w.heap.size + 1) 30 #[y0, y1, y2, y3] ∧ Below w.heap.size w W0 := by
  subst hW
  have h1 := Box.made (w.alloc (.cells #[x0, x1, x2, x3] 30)) 30 #[y0, y1, y2, y3]
  simp only [World.size_alloc] at h1
  exact ⟨(Box.made w 30 _).alloc _, h1, ((Kept.refl (fun _ => False) w).alloc _).alloc _ |>.below (Nat.le_refl _) (fun _ _ h => h)⟩

/-- a struct of four cells stored into a block of the call's own -/
theorem fourSet {B : Nat} {w w1 : World} (h : Below B w w1) {g : Nat} (hg : B ≤ g) (x0 x1 x2 x3 : Value) :
    Below B w ((((w1.setCell ⟨g, 0, none⟩ x0).setCell ⟨g, 1, none⟩ x1).setCell ⟨g, 2, none⟩ x2).setCell ⟨g, 3, none⟩ x3) :=
  (((h.setCell (p := ⟨g, 0, none⟩) hg _).setCell (p := ⟨g, 1, none⟩) hg _).setCell (p := ⟨g, 2, none⟩) hg _).setCell (p := ⟨g, 3, none⟩) hg _

section
variable (w : World) (A : Option Addr) (n c : Nat) (big : Bool) (at_ : Nat)

set_option maxHeartbeats 400000 in
theorem ref_fail (e0 e : Int) : Calls Try.prog 51 #[refCur A n c big at_ e0, .int .i64 e] w fun r w' => r = .returned (refCur A n c big at_ e) ∧ Below w.heap.size w w' := by
  unfold refCur
  go_enter Try.func51, Try.ntmps51
  go_wp2
  exact bodyPost_ret (v := .agg #[.slice A n c, .int .i64 at_, .bool big, .int .i64 e]) (by simp [results, Try.results51, go_sem]) rfl ⟨rfl, ((Below.refl _ _).alloc (Nat.le_refl _) _).alloc (by simp) _⟩

set_option maxHeartbeats 400000 in
theorem ref_Fail (e : Int) : Calls Try.prog 43 #[refCur A n c big at_ 0, .int .i64 e] w fun r w' => r = .returned (refCur A n c big at_ e) ∧ Below w.heap.size w w' := by
  unfold refCur
  go_enter Try.func43, Try.ntmps43
  go_wp2
  exact bodyPost_ret (v := .agg #[.slice A n c, .int .i64 at_, .bool big, .int .i64 e]) (by simp [results, Try.results43, go_sem]) rfl ⟨rfl, ((Below.refl _ _).alloc (Nat.le_refl _) _).alloc (by simp) _⟩

set_option maxHeartbeats 400000 in
theorem ref_seek_ok (m : Nat) (hm : m ≤ n) : Calls Try.prog 42 #[refCur A n c big at_ 0, .int .i64 m] w fun r w' => r = .returned (refCur A n c big m 0) ∧ Below w.heap.size w w' := by
  unfold refCur
  have h1 : (m : Int) ≤ (n : Int) := by omega
  go_enter Try.func42, Try.ntmps42
  go_wp2
  exact bodyPost_ret (v := .agg #[.slice A n c, .int .i64 m, .bool big, .int .i64 0]) (by simp [results, Try.results42, go_sem]) rfl ⟨rfl, ((Below.refl _ _).alloc (Nat.le_refl _) _).alloc (by simp) _⟩

/-- behind a call of fail: the answer's own block is as it was made, and takes the answer -/
structure Failed (w w1 : World) : Prop where
  box : Box w1 (w.heap.size + 1) 30 #[.slice none 0 0, .int .i64 0, .bool false, .int .i64 0]
  bel : Below w.heap.size w w1

theorem failed_of {w : World} {x0 x1 x2 x3 : Value} {w1 : World}
    (b1 : Below ((w.alloc (.cells #[x0, x1, x2, x3] 30)).alloc (.cells #[.slice none 0 0, .int .i64 0, .bool false, .int .i64 0] 30)).heap.size ((w.alloc (.cells #[x0, x1, x2, x3] 30)).alloc (.cells #[.slice none 0 0, .int .i64 0, .bool false, .int .i64 0] 30)) w1) : Failed w w1 := by
  obtain ⟨_, h2, h3⟩ := twoFour w x0 x1 x2 x3 _ _ _ _ _ rfl
  exact ⟨(b1.block _ h2.lt).trans h2, h3.trans (b1.mono h3.size)⟩

set_option maxHeartbeats 400000 in
theorem ref_seek_up (m : Int) (hm : m < 0 ∨ (n : Int) < m) : Calls Try.prog 42 #[refCur A n c big at_ 0, .int .i64 m] w fun r w' => r = .returned (refCur A n c big at_ 2) ∧ Below w.heap.size w w' := by
  have HF := Lib.hid (fun W => ref_fail W A n c big at_ 0 2)
  unfold refCur at *
  have HM := Lib.hid hm
  clear hm
  by_cases h0 : m < 0
  all_goals
    try have h2 : (n : Int) < m := by have := HM.out; omega
    go_enter Try.func42, Try.ntmps42
    go_wp2_with fail
    refine (HF.out _).mono ?_
    rintro r w1 ⟨rfl, b1⟩
    obtain ⟨hq, hb⟩ := failed_of b1
    have q0 : w1.cell? ⟨w.heap.size + 1, 0, none⟩ = some (.slice none 0 0) := hq.cell 0
    have q1 : w1.cell? ⟨w.heap.size + 1, 1, none⟩ = some (.int .i64 0) := hq.cell 1
    have q2 : w1.cell? ⟨w.heap.size + 1, 2, none⟩ = some (.bool false) := hq.cell 2
    have q3 : w1.cell? ⟨w.heap.size + 1, 3, none⟩ = some (.int .i64 0) := hq.cell 3
    have p0 := hq.free 0
    have p1 := hq.free 1
    have p2 := hq.free 2
    have p3 := hq.free 3
    have HB := Lib.hid hb
    clear b1 hq hb
    go_wp2
    exact bodyPost_ret (v := .agg #[.slice A n c, .int .i64 at_, .bool big, .int .i64 2]) (by simp [results, Try.results42, go_sem, q0, q1, q2, q3]) rfl ⟨rfl, fourSet HB.out (by omega) _ _ _ _⟩

set_option maxHeartbeats 400000 in
theorem ref_end_ok : Calls Try.prog 44 #[refCur A n c big n 0] w fun r w' => r = .returned (refCur A n c big n 0) ∧ Below w.heap.size w w' := by
  unfold refCur
  go_enter Try.func44, Try.ntmps44
  go_wp2
  exact bodyPost_ret (v := .agg #[.slice A n c, .int .i64 n, .bool big, .int .i64 0]) (by simp [results, Try.results44, go_sem]) rfl ⟨rfl, ((Below.refl _ _).alloc (Nat.le_refl _) _).alloc (by simp) _⟩

set_option maxHeartbeats 400000 in
theorem ref_end_up (hat : at_ < n) : Calls Try.prog 44 #[refCur A n c big at_ 0] w fun r w' => r = .returned (refCur A n c big at_ 5) ∧ Below w.heap.size w w' := by
  have HF := Lib.hid (fun W => ref_fail W A n c big at_ 0 5)
  unfold refCur at *
  have h2 : (at_ : Int) < (n : Int) := by omega
  go_enter Try.func44, Try.ntmps44
  go_wp2_with fail
  refine (HF.out _).mono ?_
  rintro r w1 ⟨rfl, b1⟩
  obtain ⟨hq, hb⟩ := failed_of b1
  have q0 : w1.cell? ⟨w.heap.size + 1, 0, none⟩ = some (.slice none 0 0) := hq.cell 0
  have q1 : w1.cell? ⟨w.heap.size + 1, 1, none⟩ = some (.int .i64 0) := hq.cell 1
  have q2 : w1.cell? ⟨w.heap.size + 1, 2, none⟩ = some (.bool false) := hq.cell 2
  have q3 : w1.cell? ⟨w.heap.size + 1, 3, none⟩ = some (.int .i64 0) := hq.cell 3
  have p0 := hq.free 0
  have p1 := hq.free 1
  have p2 := hq.free 2
  have p3 := hq.free 3
  have HB := Lib.hid hb
  clear b1 hq hb
  go_wp2
  exact bodyPost_ret (v := .agg #[.slice A n c, .int .i64 at_, .bool big, .int .i64 5]) (by simp [results, Try.results44, go_sem, q0, q1, q2, q3]) rfl ⟨rfl, fourSet HB.out (by omega) _ _ _ _⟩

set_option maxHeartbeats 400000 in
theorem ref_bytes_none (m : Int) (hm : m < 1) : Calls Try.prog 40 #[refCur A n c big at_ 0, .int .i64 m] w fun r w' => r = .returned (.tuple #[.slice none 0 0, refCur A n c big at_ 0]) ∧ Below w.heap.size w w' := by
  unfold refCur
  go_enter Try.func40, Try.ntmps40
  go_wp2
  go_region
  all_goals
    go_wp2
    exact bodyPost_ret (v := .tuple #[.slice none 0 0, .agg #[.slice A n c, .int .i64 at_, .bool big, .int .i64 0]]) (by simp [results, Try.results40, go_sem]) rfl ⟨rfl, (((Below.refl _ _).alloc (Nat.le_refl _) _).alloc (by simp) _).drew⟩

set_option maxHeartbeats 400000 in
theorem ref_bytes_short (m : Int) (hat : at_ ≤ n) (hn : n ≤ 9223372036854775807) (h1 : 1 ≤ m) (hs : ((n - at_ : Nat) : Int) < m) : Calls Try.prog 40 #[refCur A n c big at_ 0, .int .i64 m] w fun r w' => r = .returned (.tuple #[.slice none 0 0, refCur A n c big at_ 3]) ∧ Below w.heap.size w w' := by
  have HF := Lib.hid (fun W => ref_fail W A n c big at_ 0 3)
  unfold refCur at *
  have hm : ¬ m < 1 := by omega
  have hs2 : (n : Int) - (at_ : Int) < m := by omega
  clear hs
  go_enter Try.func40, Try.ntmps40
  go_wp2_with fail
  refine (HF.out _).mono ?_
  rintro r w1 ⟨rfl, b1⟩
  obtain ⟨hq, hb⟩ := failed_of b1
  have q0 : w1.cell? ⟨w.heap.size + 1, 0, none⟩ = some (.slice none 0 0) := hq.cell 0
  have q1 : w1.cell? ⟨w.heap.size + 1, 1, none⟩ = some (.int .i64 0) := hq.cell 1
  have q2 : w1.cell? ⟨w.heap.size + 1, 2, none⟩ = some (.bool false) := hq.cell 2
  have q3 : w1.cell? ⟨w.heap.size + 1, 3, none⟩ = some (.int .i64 0) := hq.cell 3
  have p0 := hq.free 0
  have p1 := hq.free 1
  have p2 := hq.free 2
  have p3 := hq.free 3
  have HB := Lib.hid hb
  clear b1 hq hb
  go_wp2
  exact bodyPost_ret (v := .tuple #[.slice none 0 0, .agg #[.slice A n c, .int .i64 at_, .bool big, .int .i64 3]]) (by simp [results, Try.results40, go_sem, q0, q1, q2, q3]) rfl ⟨rfl, fourSet HB.out (by omega) _ _ _ _⟩

set_option maxHeartbeats 400000 in
theorem ref_bytes_ok (m : Nat) (h1 : 1 ≤ m) (hat : at_ + m ≤ n) (hc : n ≤ c) (hn : c ≤ 9223372036854775807) : Calls Try.prog 40 #[refCur A n c big at_ 0, .int .i64 m] w fun r w' => r = .returned (.tuple #[.slice (cutAt A c at_) m (c - at_), refCur A n c big (at_ + m) 0]) ∧ Below w.heap.size w w' := by
  unfold refCur
  have hm : ¬ (m : Int) < 1 := by omega
  have hs2 : ¬ (n : Int) - (at_ : Int) < (m : Int) := by omega
  have hcc : ¬ c = at_ := by omega
  go_enter Try.func40, Try.ntmps40
  go_wp2
  go_region
  all_goals
    go_wp2
    exact bodyPost_ret (v := .tuple #[.slice (cutAt A c at_) m (c - at_), .agg #[.slice A n c, .int .i64 ((at_ + m : Nat) : Int), .bool big, .int .i64 0]]) (by simp [results, Try.results40, go_sem, cutAt, hcc]) rfl ⟨rfl, (((Below.refl _ _).alloc (Nat.le_refl _) _).alloc (by simp) _).drew⟩
end
end Go.Proofs.Ythjnknhdnogaeaa
