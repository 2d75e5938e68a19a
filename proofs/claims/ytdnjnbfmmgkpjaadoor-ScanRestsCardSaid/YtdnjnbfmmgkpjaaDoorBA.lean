/-
  What the law of what was put and got needs: a tile that is put is got; by tables that are tuned to it all of it is put. No code.
-/
import Derived.Test.YtdnjnbfmmgkpjaaDoorGH
import Derived.Test.YtdnjnbfmmgkpjaaDoorTF
namespace Go.Proofs.YtdnjnbfmmgkpjaaDoor
open Go.RowKit

/-- tables in memory that may be handed on -/
structure TbK (w : World) (T : Tbs) (X : Nat → Value) : Prop where
  xs : Xs w T X
  wt : Wt T
  one : ∀ j, (X j).oneCell' = true
  few : ∀ j, j < 4 → (T.V j).length ≤ 300
theorem TbK.on {w w' : World} {T : Tbs} {X : Nat → Value} (h : TbK w T X) (k : Below w.heap.size w w') : TbK w' T X := ⟨h.xs.on k, h.wt, h.one, h.few⟩
theorem putR_zero {W H K R : Int} {T : Tbs} {tl : List (List (List Int))} (h : (putR W H K R T tl).2 = 0) : RightT W H K R tl ∧ OkT K T ∧ putE14 W H K R T tl = 0 ∧ (putR W H K R T tl).1 = putOut W H K R T tl := by
  unfold putR at h ⊢
  by_cases h1 : RightT W H K R tl
  · rw [if_pos h1] at h ⊢
    by_cases h2 : OkT K T
    · rw [if_pos h2] at h ⊢
      by_cases h3 : putE14 W H K R T tl = 0
      · rw [if_pos h3] at h ⊢
        exact ⟨h1, h2, h3, rfl⟩
      · rw [if_neg h3] at h
        exact absurd h h3
    · rw [if_neg h2] at h
      cases h
  · rw [if_neg h1] at h
    cases h
theorem putR_ok {W H K R : Int} {T : Tbs} {tl : List (List (List Int))} (h1 : RightT W H K R tl) (h2 : OkT K T) (h3 : putE14 W H K R T tl = 0) : (putR W H K R T tl).2 = 0 := by
  unfold putR
  rw [if_pos h1, if_pos h2, if_pos h3]
/-- a tile that was put is got, whatever stands behind -/
theorem get_put {W H K R : Int} {T : Tbs} {tl : List (List (List Int))} (h1 : RightT W H K R tl) (h2 : OkT K T) (h3 : putE14 W H K R T tl = 0) (h64 : ∀ p a, p < nP K → a < (uW W K * uA K p) * (uH H K * uD K p) → (blkAt tl p a).length = 64) (beh : List Int) :
    (getG W H K R T (putOut W H K R T tl ++ beh)).err = 0 ∧ (getG W H K R T (putOut W H K R T tl ++ beh)).st.at_ = (putOut W H K R T tl).length ∧ (getG W H K R T (putOut W H K R T tl ++ beh)).tl = tl := by
  obtain ⟨e1, e2, e3⟩ := runG_back (T := T) (tl := tl) beh (evTo (uW W K) K R.toNat (uW W K * uH H K)) (zeroG W H K) (vt_of h2 (q := []) (List.append_nil _)) (fun p a hm => by
    obtain ⟨g1, g2⟩ := mem_lt hm
    exact h64 p a g1 g2) h3
  refine ⟨e1, e2, ?_⟩
  exact e3.trans (fill_all h1 R.toNat)
/-- by tables that suit it a tile is put -/
theorem tuned_put {W H K R : Int} {T : Tbs} {tl : List (List (List Int))} (h1 : RightT W H K R tl) (hw : W ≤ 40) (hh : H ≤ 40) (hs : ∀ j, j < 4 → Suits (cntR tl (evTo (uW W K) K R.toNat (uW W K * uH H K)) (rowJ j)) (T.B j) (T.V j)) : OkT K T ∧ putE14 W H K R T tl = 0 := by
  obtain ⟨es, hes⟩ : ∃ es, es = evTo (uW W K) K R.toNat (uW W K * uH H K) := ⟨_, rfl⟩
  rw [← hes] at hs
  have hq : es ++ [] = evTo (uW W K) K R.toNat (uW W K * uH H K) := by rw [List.append_nil, hes]
  have hl : ∀ c, c ≤ 1 → (sy (runT tl es) c).length ≤ 1000000 := fun c hc => Nat.le_trans (few_syms h1.1 hw hh hq hc) (by omega)
  have hT : Tuned T (runT tl es) := fun c hc => by
    have a := hs c (by omega)
    have b := hs (c + 2) (by omega)
    unfold cntR rowJ at a b
    rw [show (2 * (c % 2) + c / 2) % 2 = 0 by omega, show (2 * (c % 2) + c / 2) / 2 = c by omega] at a
    rw [show (2 * ((c + 2) % 2) + (c + 2) / 2) % 2 = 1 by omega, show (2 * ((c + 2) % 2) + (c + 2) / 2) / 2 = c by omega] at b
    exact ⟨a, b⟩
  refine ⟨fun c hc => hT.valid hl (by have := (nC_le K).2; omega), ?_⟩
  have hb := right_evs h1 hq
  have := run_covered (T := T) (tl := tl) es hb (hT.covers hl (sy_ok es hb).1)
  show (runP T tl (evTo (uW W K) K R.toNat (uW W K * uH H K))).err = 0
  rw [← hes]
  exact this.1
end Go.Proofs.YtdnjnbfmmgkpjaaDoor
