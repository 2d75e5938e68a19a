/-
  Whether a block's numbers lie between two: the contracts of within, Right and check, and of the reference's In.
-/
import Derived.Test.YteoahoepipnkfaaDoorRound
namespace Go.Proofs.YteoahoepipnkfaaDoor
open Go.RowKit

/-- each number lies between two -/
def Wi (b : List Int) (lo hi : Int) : Prop := ∀ j, j < 64 → lo ≤ b.getD j 0 ∧ b.getD j 0 ≤ hi
instance (b : List Int) (lo hi : Int) : Decidable (Wi b lo hi) := by unfold Wi; infer_instance
/-- the first k do -/
def Wk (b : List Int) (lo hi : Int) (k : Nat) : Prop := ∀ j, j < k → lo ≤ b.getD j 0 ∧ b.getD j 0 ≤ hi
theorem Wk.more {b : List Int} {lo hi : Int} {k : Nat} (h : Wk b lo hi k) (h0 : lo ≤ b.getD k 0) (h1 : b.getD k 0 ≤ hi) : Wk b lo hi (k + 1) := fun j hj => by
  by_cases e : j = k
  · rw [e]; exact ⟨h0, h1⟩
  · exact h j (by omega)
theorem not_wi {b : List Int} {lo hi : Int} {k : Nat} (hk : k < 64) (h : b.getD k 0 < lo ∨ hi < b.getD k 0) : decide (Wi b lo hi) = false := decide_eq_false_iff_not.2 fun hr => by have := hr k hk; omega
/-- what a call answers that asks whether they do -/
def Withd (w : World) (b : List Int) (lo hi : Int) (e : Ending) (w' : World) : Prop := e = .returned (.bool (decide (Wi b lo hi))) ∧ Below w.heap.size w w'

set_option maxRecDepth 10000 in
set_option maxHeartbeats 800000 in
theorem within_any (w : World) (b : List Int) (lo hi : Int) (hb : b.length = 64) : Calls Tryd.prog 17 #[blkV b, .int .i64 lo, .int .i64 hi] w (Withd w b lo hi) := by
  obtain ⟨w1, hw1⟩ : ∃ w1, w1 = w.alloc (.cells (cellsI b).toArray 23) := ⟨_, rfl⟩
  have hB : Blk w1 w.heap.size b := by rw [hw1]; exact Blk.made _ _ hb
  have bel : Below w.heap.size w w1 := by rw [hw1]; exact on_alloc _ _
  have H := Lib.hid (And.intro hB (And.intro bel hw1))
  have HL := Lib.hid hB.load
  have HB := Lib.hid hb
  clear hB bel hw1 hb
  obtain ⟨v, hv⟩ : ∃ v, v = blkV b := ⟨_, rfl⟩
  rw [← hv] at HL ⊢
  obtain ⟨cs, hcs⟩ : ∃ cs, cs = (cellsI b).toArray := ⟨_, rfl⟩
  have hvc : v = .agg cs := by rw [hv, hcs]; rfl
  rw [hvc]
  have HV := Lib.hid (And.intro hv (And.intro hcs hvc))
  clear hv hcs hvc
  have HL2 := Lib.hid (show (Instr.loadAt 23 (.pointer (some ⟨w.heap.size, 0, none⟩))).run Tryd.prog (w.alloc (.cells cs 23)) = .ok v (w.alloc (.cells cs 23)) by rw [HV.out.2.1, ← H.out.2.2]; exact HL.out)
  go_enter Tryd.func17, Tryd.ntmps17
  go_wp2_with (first
    | (with_reducible refine wpList_load_to (op := ⟨some 9, _, _, _, _, _⟩) rfl 23 (.tmp 3) rfl (.pointer (some ⟨w.heap.size, 0, none⟩)) rfl v HL2.out ?_)
    | fail)

  rw [HV.out.2.1, ← H.out.2.2]

  go_loopw [10] (fun i wr => ∃ k : Nat, k ≤ 64 ∧ i = .int .i64 k ∧ Wk b lo hi k ∧ w1 = wr) (fun i _ => 64 - (intOf i).toNat)
  case atStart => exact ⟨0, by omega, rfl, fun j hj => absurd hj (by omega), rfl⟩
  case round =>
    obtain ⟨k, hk, rfl, hR, rfl⟩ := hrel
    have HR := Lib.hid hR
    clear hR
    by_cases hlt : k < 64
    · have hidx := fun w => index23 w HB.out hlt
      rw [← HV.out.1] at hidx
      have hlt' := not_wi (b := b) (lo := lo) (hi := hi) hlt
      obtain ⟨z, hz⟩ : ∃ z, z = b.getD k 0 := ⟨_, rfl⟩
      rw [← hz] at hidx hlt'
      have HZ := Lib.hid (And.intro hz hlt')
      clear hz hlt'
      by_cases h0 : z < lo
      · go_wp2_with fail
        go_ret
        exact ⟨by rw [HZ.out.2 (.inl h0)]; rfl, H.out.2.1⟩
      · by_cases h1 : hi < z
        · go_wp2_with fail
          go_ret
          exact ⟨by rw [HZ.out.2 (.inr h1)]; rfl, H.out.2.1⟩
        · go_wp2_with fail
          go_roundw
          case rel => exact ⟨k + 1, by omega, by go_num, HR.out.more (by rw [← HZ.out.1]; omega) (by rw [← HZ.out.1]; omega), trivial⟩
          case measure => simp [intOf]; omega
    · obtain rfl : k = 64 := by omega
      go_wp2
      go_ret
      exact ⟨by rw [decide_eq_true (show Wi b lo hi from HR.out)]; rfl, H.out.2.1⟩

set_option maxRecDepth 10000 in
set_option maxHeartbeats 800000 in
theorem refIn_any (w : World) (b : List Int) (lo hi : Int) (hb : b.length = 64) : Calls Tryd.prog 16 #[blkV b, .int .i64 lo, .int .i64 hi] w (Withd w b lo hi) := by
  obtain ⟨w1, hw1⟩ : ∃ w1, w1 = w.alloc (.cells (cellsI b).toArray 23) := ⟨_, rfl⟩
  have hB : Blk w1 w.heap.size b := by rw [hw1]; exact Blk.made _ _ hb
  have bel : Below w.heap.size w w1 := by rw [hw1]; exact on_alloc _ _
  have H := Lib.hid (And.intro hB (And.intro bel hw1))
  clear hB bel hw1 hb
  obtain ⟨cs, hcs⟩ : ∃ cs, cs = (cellsI b).toArray := ⟨_, rfl⟩
  have hvc : blkV b = .agg cs := by rw [hcs]; rfl
  rw [hvc]
  have HV := Lib.hid hcs
  clear hcs hvc
  go_enter Tryd.func16, Tryd.ntmps16
  go_wp2_with fail
  rw [HV.out, ← H.out.2.2]
  go_loopw [7] (fun i wr => ∃ k : Nat, k ≤ 64 ∧ i = .int .i64 k ∧ Wk b lo hi k ∧ w1 = wr) (fun i _ => 64 - (intOf i).toNat)
  case atStart => exact ⟨0, by omega, rfl, fun j hj => absurd hj (by omega), rfl⟩
  case round =>
    obtain ⟨k, hk, rfl, hR, rfl⟩ := hrel
    have HR := Lib.hid hR
    clear hR
    by_cases hlt : k < 64
    · have hc := H.out.1.cell hlt
      have hlt' := not_wi (b := b) (lo := lo) (hi := hi) hlt
      obtain ⟨z, hz⟩ : ∃ z, z = b.getD k 0 := ⟨_, rfl⟩
      rw [← hz] at hc hlt'
      have HZ := Lib.hid (And.intro hz hlt')
      clear hz hlt'
      by_cases h0 : z < lo
      · go_wp2_with fail
        go_ret
        exact ⟨by rw [HZ.out.2 (.inl h0)]; rfl, H.out.2.1⟩
      · by_cases h1 : hi < z
        · go_wp2_with fail
          go_ret
          exact ⟨by rw [HZ.out.2 (.inr h1)]; rfl, H.out.2.1⟩
        · go_wp2_with fail
          go_roundw
          case rel => exact ⟨k + 1, by omega, by go_num, HR.out.more (by rw [← HZ.out.1]; omega) (by rw [← HZ.out.1]; omega), trivial⟩
          case measure => simp [intOf]; omega
    · obtain rfl : k = 64 := by omega
      go_wp2
      go_ret
      exact ⟨by rw [decide_eq_true (show Wi b lo hi from HR.out)]; rfl, H.out.2.1⟩

/-- two blocks that are boxed, one behind the other -/
structure Two (w w2 : World) (cs cu : Array Value) (b s : List Int) : Prop where
  b1 : Blk w2 w.heap.size b
  b2 : Blk w2 (w.heap.size + 1) s
  bel : Below w.heap.size w w2
  l1 : (Instr.loadAt 23 (.pointer (some ⟨w.heap.size, 0, none⟩))).run Tryd.prog ((w.alloc (.cells cs 23)).alloc (.cells cu 23)) = .ok (blkV b) ((w.alloc (.cells cs 23)).alloc (.cells cu 23))
  l2 : (Instr.loadAt 23 (.pointer (some ⟨w.heap.size + 1, 0, none⟩))).run Tryd.prog ((w.alloc (.cells cs 23)).alloc (.cells cu 23)) = .ok (blkV s) ((w.alloc (.cells cs 23)).alloc (.cells cu 23))
  e : (w.alloc (.cells cs 23)).alloc (.cells cu 23) = w2
  size : w2.heap.size = w.heap.size + 2
theorem two_boxed (w : World) (b s : List Int) (hb : b.length = 64) (hs : s.length = 64) : ∃ cs cu w2, blkV b = .agg cs ∧ blkV s = .agg cu ∧ Two w w2 cs cu b s := by
  have hB : Blk (w.alloc (.cells (cellsI b).toArray 23)) w.heap.size b := Blk.made _ _ hb
  have hz : (w.alloc (.cells (cellsI b).toArray 23)).heap.size = w.heap.size + 1 := by simp
  have hS : Blk ((w.alloc (.cells (cellsI b).toArray 23)).alloc (.cells (cellsI s).toArray 23)) (w.heap.size + 1) s := by rw [← hz]; exact Blk.made _ _ hs
  have hB2 := hB.on (on_alloc (w.alloc (.cells (cellsI b).toArray 23)) (.cells (cellsI s).toArray 23))
  refine ⟨_, _, _, rfl, rfl, ⟨hB2, hS, on_trans (on_alloc _ _) (on_alloc _ _), hB2.load, hS.load, rfl, by simp⟩⟩

end Go.Proofs.YteoahoepipnkfaaDoor
