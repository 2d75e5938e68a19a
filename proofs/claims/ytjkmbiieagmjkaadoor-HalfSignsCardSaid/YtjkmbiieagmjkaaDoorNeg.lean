/-
  A block's numbers turned about: mathematics, no code.
-/
import Derived.Test.YtjkmbiieagmjkaaDoorRefMove
namespace Go.Proofs.YtjkmbiieagmjkaaDoor
open Go.RowKit

/-- a block turned about -/
def negL (b : List Int) : List Int := tab fun k => -(b.getD k 0)
theorem negL_len (b : List Int) : (negL b).length = 64 := tab_len _
theorem negL_at (b : List Int) {k : Nat} (hk : k < 64) : (negL b).getD k 0 = -(b.getD k 0) := tab_at _ hk
theorem held_neg (z : Int) : held (-z) (-1023) 1023 = - held z (-1023) 1023 := by
  unfold held
  repeat' split
  all_goals omega
theorem dnOf_neg (n d : Int) : dnOf (-n) d = - dnOf n d := by unfold dnOf; rw [rnd_neg, held_neg]
theorem dnOf_small (n d : Int) : -1023 ≤ dnOf n d ∧ dnOf n d ≤ 1023 := by
  unfold dnOf held
  repeat' split
  all_goals omega
theorem wi_neg {b : List Int} {m : Int} (h : Wi b (-m) m) : Wi (negL b) (-m) m := fun j hj => by
  have := h j hj
  rw [negL_at b hj]
  omega
theorem wi_neg_back {b : List Int} {m : Int} (h : Wi (negL b) (-m) m) : Wi b (-m) m := fun j hj => by
  have := h j hj
  rw [negL_at b hj] at this
  omega
end Go.Proofs.YtjkmbiieagmjkaaDoor
