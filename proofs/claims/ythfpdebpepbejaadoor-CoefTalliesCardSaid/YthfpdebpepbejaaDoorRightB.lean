/-
  The contracts of Right, the program's and the reference's.
-/
import Derived.Test.YthfpdebpepbejaaDoorBlock
namespace Go.Proofs.YthfpdebpepbejaaDoor
open Go.RowKit

/-- what Right answers -/
def RightedB (w : World) (b : List Int) (e : Ending) (w' : World) : Prop := e = .returned (.bool (decide (RightB b))) ∧ Below w.heap.size w w'
/-- the first k numbers may be -/
def Ri (b : List Int) (k : Nat) : Prop := ∀ j, j < k → In (b.getD j 0)
theorem Ri.more {b : List Int} {k : Nat} (h : Ri b k) (hk : In (b.getD k 0)) : Ri b (k + 1) := fun j hj => by
  by_cases e : j = k
  · rw [e]; exact hk
  · exact h j (by omega)
theorem not_right {b : List Int} {k : Nat} (hk : k < 64) (h : ¬ In (b.getD k 0)) : decide (RightB b) = false := decide_eq_false_iff_not.2 fun hr => h (hr k hk)

set_option maxRecDepth 10000 in
set_option maxHeartbeats 800000 in
theorem right64_any (w : World) (b : List Int) (hb : b.length = 64) : Calls Tryd.prog 12 #[blkV b] w (RightedB w b) := by
  obtain ⟨w1, hw1⟩ : ∃ w1, w1 = w.alloc (.cells (cellsI b).toArray 23) := ⟨_, rfl⟩
  have hB : Blk w1 w.heap.size b := ⟨by rw [hw1]; exact Box.made _ _ _, hb⟩
  have bel : Below w.heap.size w w1 := by rw [hw1]; exact on_alloc _ _
  have H := Lib.hid (And.intro hB (And.intro bel hw1))
  have HL := Lib.hid hB.load
  have HB := Lib.hid hb
  clear hB bel hw1 hb
  obtain ⟨v, hv⟩ : ∃ v, v = blkV b := ⟨_, rfl⟩
  rw [← hv] at HL ⊢
  obtain ⟨cs, hcs⟩ : ∃ cs, cs = (cellsI b).toArray := ⟨_, rfl⟩
  have hvc : v = .agg cs := by rw [hv, hcs]; rfl
  rw [hvc]
  have HV := Lib.hid (And.intro hv (And.intro hcs hvc))
  clear hv hcs hvc
  have HL2 := Lib.hid (show (Instr.loadAt 23 (.pointer (some ⟨w.heap.size, 0, none⟩))).run Tryd.prog (w.alloc (.cells cs 23)) = .ok v (w.alloc (.cells cs 23)) by rw [HV.out.2.1, ← H.out.2.2]; exact HL.out)
  go_enter Tryd.func12, Tryd.ntmps12
  go_wp2_with (first
    | (with_reducible refine wpList_load_to (op := ⟨some 5, _, _, _, _, _⟩) rfl 23 (.tmp 1) rfl (.pointer (some ⟨w.heap.size, 0, none⟩)) rfl v HL2.out ?_)
    | fail)
  rw [HV.out.2.1, ← H.out.2.2]
  go_loopw [6] (fun i wr => ∃ k : Nat, k ≤ 64 ∧ i = .int .i64 k ∧ Ri b k ∧ Below w.heap.size w wr) (fun i _ => 64 - (intOf i).toNat)
  case atStart => exact ⟨0, by omega, rfl, fun j hj => absurd hj (by omega), H.out.2.1⟩
  case round =>
    obtain ⟨k, hk, rfl, hR, hbel⟩ := hrel
    have HR := Lib.hid (And.intro hR hbel)
    clear hR hbel
    by_cases hlt : k < 64
    · have hidx := fun w => index23 w HB.out hlt
      rw [← HV.out.1] at hidx
      obtain ⟨z, hz⟩ : ∃ z, z = b.getD k 0 := ⟨_, rfl⟩
      rw [← hz] at hidx
      have HZ := Lib.hid hz
      clear hz
      by_cases hin : In z
      · have hd : decide (In z) = true := by simpa using hin
        have HD := Lib.hid (And.intro hd hin)
        clear hd hin
        go_wp2_with fail
        refine (inRange_any wr z).mono ?_
        rintro e w2 ⟨rfl, rfl⟩
        rw [HD.out.1]
        go_wp2
        go_roundw
        case rel => exact ⟨k + 1, by omega, by go_num, HR.out.1.more (by rw [← HZ.out]; exact HD.out.2), HR.out.2⟩
        case measure => simp [intOf]; omega
      · have hd : decide (In z) = false := by simpa using hin
        have HD := Lib.hid (And.intro hd hin)
        clear hd hin
        go_wp2_with fail
        refine (inRange_any wr z).mono ?_
        rintro e w2 ⟨rfl, rfl⟩
        rw [HD.out.1]
        go_wp2
        go_ret
        exact ⟨by rw [not_right hlt (by rw [← HZ.out]; exact HD.out.2)]; rfl, HR.out.2⟩
    · obtain rfl : k = 64 := by omega
      go_wp2
      go_ret
      exact ⟨by rw [decide_eq_true (show RightB b from HR.out.1)]; rfl, HR.out.2⟩

set_option maxRecDepth 10000 in
set_option maxHeartbeats 800000 in
theorem refRight_any (w : World) (b : List Int) (hb : b.length = 64) : Calls Tryd.prog 13 #[blkV b] w (RightedB w b) := by
  obtain ⟨w1, hw1⟩ : ∃ w1, w1 = w.alloc (.cells (cellsI b).toArray 23) := ⟨_, rfl⟩
  have hB : Blk w1 w.heap.size b := ⟨by rw [hw1]; exact Box.made _ _ _, hb⟩
  have bel : Below w.heap.size w w1 := by rw [hw1]; exact on_alloc _ _
  have H := Lib.hid (And.intro hB (And.intro bel hw1))
  clear hB bel hw1 hb
  obtain ⟨cs, hcs⟩ : ∃ cs, cs = (cellsI b).toArray := ⟨_, rfl⟩
  have hvc : blkV b = .agg cs := by rw [hcs]; rfl
  rw [hvc]
  have HV := Lib.hid hcs
  clear hcs hvc
  go_enter Tryd.func13, Tryd.ntmps13
  go_wp2_with fail
  rw [HV.out, ← H.out.2.2]
  go_loopw [3] (fun i wr => ∃ k : Nat, k ≤ 64 ∧ i = .int .i64 k ∧ Ri b k ∧ w1 = wr) (fun i _ => 64 - (intOf i).toNat)
  case atStart => exact ⟨0, by omega, rfl, fun j hj => absurd hj (by omega), rfl⟩
  case round =>
    obtain ⟨k, hk, rfl, hR, rfl⟩ := hrel
    have HR := Lib.hid hR
    clear hR
    by_cases hlt : k < 64
    · have hc := H.out.1.cell hlt
      obtain ⟨z, hz⟩ : ∃ z, z = b.getD k 0 := ⟨_, rfl⟩
      rw [← hz] at hc
      have HZ := Lib.hid hz
      clear hz
      by_cases hin : In z
      · have hd : decide (In z) = true := by simpa using hin
        have HD := Lib.hid (And.intro hd hin)
        clear hd hin
        go_wp2_with fail
        refine (refIn_any w1 z).mono ?_
        rintro e w2 ⟨rfl, rfl⟩
        rw [HD.out.1]
        go_wp2
        go_roundw
        case rel => exact ⟨k + 1, by omega, by go_num, HR.out.more (by rw [← HZ.out]; exact HD.out.2), trivial⟩
        case measure => simp [intOf]; omega
      · have hd : decide (In z) = false := by simpa using hin
        have HD := Lib.hid (And.intro hd hin)
        clear hd hin
        go_wp2_with fail
        refine (refIn_any w1 z).mono ?_
        rintro e w2 ⟨rfl, rfl⟩
        rw [HD.out.1]
        go_wp2
        go_ret
        exact ⟨by rw [not_right hlt (by rw [← HZ.out]; exact HD.out.2)]; rfl, H.out.2.1⟩
    · obtain rfl : k = 64 := by omega
      go_wp2
      go_ret
      exact ⟨by rw [decide_eq_true (show RightB b from HR.out)]; rfl, H.out.2.1⟩
end Go.Proofs.YthfpdebpepbejaaDoor
