/-
  The contracts of the reference's Skip and Number.
-/
import Derived.Test.YthjnknhdnogaeaaRefCur
namespace Go.Proofs.Ythjnknhdnogaeaa
open Go.RowKit

section
variable (w : World) (A : Option Addr) (n c : Nat) (big : Bool) (at_ : Nat)

set_option maxHeartbeats 400000 in
theorem ref_skip (m : Int) (at1 : Nat) (e1 : Int) (sl : Value)
    (hB : ∀ W : World, Calls Try.prog 40 #[refCur A n c big at_ 0, .int .i64 m] W fun r w' => r = .returned (.tuple #[sl, refCur A n c big at1 e1]) ∧ Below W.heap.size W w') :
    Calls Try.prog 41 #[refCur A n c big at_ 0, .int .i64 m] w fun r w' => r = .returned (refCur A n c big at1 e1) ∧ Below w.heap.size w w' := by
  have HF := Lib.hid hB
  unfold refCur at *
  clear hB
  go_enter Try.func41, Try.ntmps41
  go_wp2_with fail
  refine (HF.out _).mono ?_
  rintro r w1 ⟨rfl, b1⟩
  obtain ⟨hq, hb⟩ := failed_of b1
  have hq2 := hq.alloc (.cells #[.slice A n c, .int .i64 at1, .bool big, .int .i64 e1] 30)
  have q0 : (w1.alloc (.cells #[.slice A n c, .int .i64 at1, .bool big, .int .i64 e1] 30)).cell? ⟨w.heap.size + 1, 0, none⟩ = some (.slice none 0 0) := hq2.cell 0
  have q1 : (w1.alloc (.cells #[.slice A n c, .int .i64 at1, .bool big, .int .i64 e1] 30)).cell? ⟨w.heap.size + 1, 1, none⟩ = some (.int .i64 0) := hq2.cell 1
  have q2 : (w1.alloc (.cells #[.slice A n c, .int .i64 at1, .bool big, .int .i64 e1] 30)).cell? ⟨w.heap.size + 1, 2, none⟩ = some (.bool false) := hq2.cell 2
  have q3 : (w1.alloc (.cells #[.slice A n c, .int .i64 at1, .bool big, .int .i64 e1] 30)).cell? ⟨w.heap.size + 1, 3, none⟩ = some (.int .i64 0) := hq2.cell 3
  have p0 := hq2.free 0
  have p1 := hq2.free 1
  have p2 := hq2.free 2
  have p3 := hq2.free 3
  have HB := Lib.hid (And.intro hb hq.lt)
  clear b1 hq hq2 hb
  go_wp2
  exact bodyPost_ret (v := .agg #[.slice A n c, .int .i64 at1, .bool big, .int .i64 e1]) (by simp [results, Try.results41, go_sem, q0, q1, q2, q3]) rfl ⟨rfl, fourSet (HB.out.1.alloc HB.out.1.size _) (by omega) _ _ _ _⟩

set_option maxHeartbeats 400000 in
theorem ref_num_arg (m : Int) (hm : decide (m = 1 ∨ m = 2 ∨ m = 4 ∨ m = 8) = false) :
    Calls Try.prog 39 #[refCur A n c big at_ 0, .int .i64 m] w fun r w' => r = .returned (.tuple #[.int .i64 0, refCur A n c big at_ 1]) ∧ Below w.heap.size w w' := by
  have HF := Lib.hid (fun W => ref_fail W A n c big at_ 0 1)
  have HI := Lib.hid (fun W => width_any m W)
  have HM := Lib.hid hm
  unfold refCur at *
  clear hm
  go_enter Try.func39, Try.ntmps39
  go_wp2_with (go_at_call 36; refine (HI.out _).mono ?_; rw [HM.out]; rintro r w' ⟨rfl, rfl⟩)
  refine (HF.out _).mono ?_
  rintro r w1 ⟨rfl, b1⟩
  obtain ⟨hq, hb⟩ := failed_of b1
  have q0 : w1.cell? ⟨w.heap.size + 1, 0, none⟩ = some (.slice none 0 0) := hq.cell 0
  have q1 : w1.cell? ⟨w.heap.size + 1, 1, none⟩ = some (.int .i64 0) := hq.cell 1
  have q2 : w1.cell? ⟨w.heap.size + 1, 2, none⟩ = some (.bool false) := hq.cell 2
  have q3 : w1.cell? ⟨w.heap.size + 1, 3, none⟩ = some (.int .i64 0) := hq.cell 3
  have p0 := hq.free 0
  have p1 := hq.free 1
  have p2 := hq.free 2
  have p3 := hq.free 3
  have HB := Lib.hid hb
  clear b1 hq hb
  go_wp2
  exact bodyPost_ret (v := .tuple #[.int .i64 0, .agg #[.slice A n c, .int .i64 at_, .bool big, .int .i64 1]]) (by simp [results, Try.results39, go_sem, q0, q1, q2, q3]) rfl ⟨rfl, fourSet HB.out (by omega) _ _ _ _⟩

set_option maxHeartbeats 400000 in
theorem ref_num_short (m : Int) (hm : decide (m = 1 ∨ m = 2 ∨ m = 4 ∨ m = 8) = true) (hat : at_ ≤ n) (hn : n ≤ 9223372036854775807) (hs : ((n - at_ : Nat) : Int) < m) :
    Calls Try.prog 39 #[refCur A n c big at_ 0, .int .i64 m] w fun r w' => r = .returned (.tuple #[.int .i64 0, refCur A n c big at_ 3]) ∧ Below w.heap.size w w' := by
  have HF := Lib.hid (fun W => ref_fail W A n c big at_ 0 3)
  have HI := Lib.hid (fun W => width_any m W)
  have HM := Lib.hid hm
  have hs2 : (n : Int) - (at_ : Int) < m := by omega
  unfold refCur at *
  clear hm hs
  go_enter Try.func39, Try.ntmps39
  go_wp2_with (go_at_call 36; refine (HI.out _).mono ?_; rw [HM.out]; rintro r w' ⟨rfl, rfl⟩)
  refine (HF.out _).mono ?_
  rintro r w1 ⟨rfl, b1⟩
  obtain ⟨hq, hb⟩ := failed_of b1
  have q0 : w1.cell? ⟨w.heap.size + 1, 0, none⟩ = some (.slice none 0 0) := hq.cell 0
  have q1 : w1.cell? ⟨w.heap.size + 1, 1, none⟩ = some (.int .i64 0) := hq.cell 1
  have q2 : w1.cell? ⟨w.heap.size + 1, 2, none⟩ = some (.bool false) := hq.cell 2
  have q3 : w1.cell? ⟨w.heap.size + 1, 3, none⟩ = some (.int .i64 0) := hq.cell 3
  have p0 := hq.free 0
  have p1 := hq.free 1
  have p2 := hq.free 2
  have p3 := hq.free 3
  have HB := Lib.hid hb
  clear b1 hq hb
  go_wp2
  exact bodyPost_ret (v := .tuple #[.int .i64 0, .agg #[.slice A n c, .int .i64 at_, .bool big, .int .i64 3]]) (by simp [results, Try.results39, go_sem, q0, q1, q2, q3]) rfl ⟨rfl, fourSet HB.out (by omega) _ _ _ _⟩

end
end Go.Proofs.Ythjnknhdnogaeaa
