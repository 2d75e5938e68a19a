/-
  The contract of the laws' own: bytes in memory of their own.
-/
import Derived.Test.YtnakfdaneejcfaaCTry
import Derived.Laws.AppendOwnNone
namespace Go.Proofs.Ytnakfdaneejcfaa
open Go.RowKit

/-- what own answers -/
def Owned (w : World) (n : Nat) (l : List Int) (e : Ending) (w' : World) : Prop := ∃ A c, e = .returned (.slice A n c) ∧ Sl w' (fun b => w.heap.size ≤ b) A n c l ∧ Below w.heap.size w w'

end Go.Proofs.Ytnakfdaneejcfaa
