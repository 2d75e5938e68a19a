/-
  The contract of within: whether three numbers are parts.
-/
import Derived.Test.YtpldadmeoolopaaDoorThrees
namespace Go.Proofs.YtpldadmeoolopaaDoor
open Go.RowKit

/-- the first k are parts -/
def Wk (l : List Int) (k : Nat) : Prop := ∀ j, j < k → In8 (l.getD j 0)
theorem Wk.more {l : List Int} {k : Nat} (h : Wk l k) (h0 : In8 (l.getD k 0)) : Wk l (k + 1) := fun j hj => by
  by_cases e : j = k
  · rw [e]; exact h0
  · exact h j (by omega)
instance (l : List Int) (k : Nat) : Decidable (Wk l k) := by unfold Wk; infer_instance
theorem not_wk {l : List Int} {k : Nat} (hk : k < 3) (h : l.getD k 0 < 0 ∨ 255 < l.getD k 0) : decide (Wk l 3) = false := decide_eq_false_iff_not.2 fun hr => by have := hr k hk; unfold In8 at this; omega
/-- what within answers -/
def Withd (w : World) (l : List Int) (e : Ending) (w' : World) : Prop := e = .returned (.bool (decide (Wk l 3))) ∧ Below w.heap.size w w'

set_option maxHeartbeats 800000 in
theorem within_any (w : World) (b : List Int) (hb : b.length = 3) : Calls Tryd.prog 12 #[rowV b] w (Withd w b) := by
  obtain ⟨w1, hw1⟩ : ∃ w1, w1 = w.alloc (.cells (cellsI b).toArray 39) := ⟨_, rfl⟩
  have hB : Row w1 w.heap.size b := by rw [hw1]; exact Row.made _ _ hb
  have bel : Below w.heap.size w w1 := by rw [hw1]; exact on_alloc _ _
  have H := Lib.hid (And.intro hB (And.intro bel hw1))
  have HL := Lib.hid hB.load
  have HB := Lib.hid hb
  clear hB bel hw1 hb
  obtain ⟨v, hv⟩ : ∃ v, v = rowV b := ⟨_, rfl⟩
  rw [← hv] at HL ⊢
  obtain ⟨cs, hcs⟩ : ∃ cs, cs = (cellsI b).toArray := ⟨_, rfl⟩
  have hvc : v = .agg cs := by rw [hv, hcs]; rfl
  rw [hvc]
  have HV := Lib.hid (And.intro hv (And.intro hcs hvc))
  clear hv hcs hvc
  have HL2 := Lib.hid (show (Instr.loadAt 39 (.pointer (some ⟨w.heap.size, 0, none⟩))).run Tryd.prog (w.alloc (.cells cs 39)) = .ok v (w.alloc (.cells cs 39)) by rw [HV.out.2.1, ← H.out.2.2]; exact HL.out)
  go_enter Tryd.func12, Tryd.ntmps12
  go_wp2_with (first
    | (with_reducible refine wpList_load_to (op := ⟨some 5, _, _, _, _, _⟩) rfl 39 (.tmp 1) rfl (.pointer (some ⟨w.heap.size, 0, none⟩)) rfl v HL2.out ?_)
    | fail)
  rw [HV.out.2.1, ← H.out.2.2]
  go_loopw [6] (fun i wr => ∃ k : Nat, k ≤ 3 ∧ i = .int .i64 k ∧ Wk b k ∧ w1 = wr) (fun i _ => 3 - (intOf i).toNat)
  case atStart => exact ⟨0, by omega, rfl, fun j hj => absurd hj (by omega), rfl⟩
  case round =>
    obtain ⟨k, hk, rfl, hR, rfl⟩ := hrel
    have HR := Lib.hid hR
    clear hR
    by_cases hlt : k < 3
    · have hidx := fun w => index39 w HB.out hlt
      rw [← HV.out.1] at hidx
      have hlt' := not_wk (l := b) hlt
      obtain ⟨z, hz⟩ : ∃ z, z = b.getD k 0 := ⟨_, rfl⟩
      rw [← hz] at hidx hlt'
      have HZ := Lib.hid (And.intro hz hlt')
      clear hz hlt'
      by_cases h0 : z < 0
      · go_wp2_with fail
        go_ret
        exact ⟨by rw [HZ.out.2 (.inl h0)]; rfl, H.out.2.1⟩
      · by_cases h1 : 255 < z
        · go_wp2_with fail
          go_ret
          exact ⟨by rw [HZ.out.2 (.inr h1)]; rfl, H.out.2.1⟩
        · go_wp2_with fail
          go_roundw
          case rel => exact ⟨k + 1, by omega, by go_num, HR.out.more (by rw [← HZ.out.1]; unfold In8; omega), trivial⟩
          case measure => simp [intOf]; omega
    · obtain rfl : k = 3 := by omega
      go_wp2
      go_ret
      exact ⟨by rw [decide_eq_true (show Wk b 3 from HR.out)]; rfl, H.out.2.1⟩
end Go.Proofs.YtpldadmeoolopaaDoor
