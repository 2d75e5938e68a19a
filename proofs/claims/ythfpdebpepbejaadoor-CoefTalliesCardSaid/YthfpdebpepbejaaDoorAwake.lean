/-
  The contract of awake.
-/
import Derived.Test.YthfpdebpepbejaaDoorBytes
namespace Go.Proofs.YthfpdebpepbejaaDoor
open Go.RowKit

/-- what awake answers -/
def Awake (w : World) (e : Ending) (w' : World) : Prop := e = .returned (.bool true) ∧ Below w.heap.size w w'

theorem awake_scan {l : List Int} (h : Scan (putL (putL [] 255 8) 0 1) l) : strOfNums l = ⟨#[255, 0, 127]⟩ := by
  have h2 : Scan (putL (putL [] 255 8) 0 1) [255, 0, 127] := ⟨[255], 0, 1, (fun z hz => by simp at hz; omega), by omega, by omega, by decide, by decide⟩
  rw [h.same h2]
  rfl

end Go.Proofs.YthfpdebpepbejaaDoor
