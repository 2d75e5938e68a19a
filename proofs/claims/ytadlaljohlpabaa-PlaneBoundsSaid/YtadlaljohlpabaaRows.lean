/-
  No cell of these rows narrows 'for every input' (looked for: loops, veiled, ifaces, maps, wideKeys, modest, calm, conditions, laid).
  DERIVED. THE GIVEN ROWS OF THIS SEAT. 6 by the template 'for every input the law returns true; each argument reads behind the call as it read before'; 0 by the template 'total and deterministic' (their statements: YtadlaljohlpabaaTotals.lean).
  GIVEN WITH THE SEED: the statements are not yours to turn. If you find one false, say at which input.
  Laid BY PROGRAM, IN A SANDBOX (cutbox-rows.mjs): the forced cells as the released guide's own fill.sh prints them over the translation 5d782dc1502210e2… (all of the seat's roots in one cut). By AI agents, Wed Nov 11 2026. No macro, syntax, notation, axiom, sorry.
-/
import Derived.Test.YtadlaljohlpabaaChecked
import GoSem.Claim
import GoSem.ClaimJoined
import GoSem.ClaimMapViews
import Derived.JoinedTies
import Derived.KernelRfl
namespace Go.Proofs.Ytadlaljohlpabaa
/- THE CELL 'sum', in the pinned program and in every row, IS THE sha256 OF THE DUMP (.gsa) THAT YtadlaljohlpabaaProg.lean LOADS. Nothing in Lean hashes anything: it is a label: what it is worth is what the hold of that sum in a sandbox is worth. -/
noncomputable def Try.pinned : Pinned := { name := "ytadlaljohlpabaa", sum := "5d782dc1502210e27af6ac538a16aa3a1e14f25c94832a585a7e66b363a2795c", checked := Try.checked }
namespace Rows
def none {H : Type} : Left H := { results := [], args := [] }

/-- 'clerestorylaw12.PlaneCrops': WHATEVER THE INPUT: true; the input reads as it did. -/
def planeCropsSpec : ChangeSpec := { name := "planeCrops", fn := fun _ => fun
  | [d1, d2, d3, d4, d5] => { results := [.lit (.bool true)], args := [d1, d2, d3, d4, d5] }
  | _ => none }
def planeCropsRow : OpenClaim := { program := "ytadlaljohlpabaa", sum := "5d782dc1502210e27af6ac538a16aa3a1e14f25c94832a585a7e66b363a2795c", func := "clerestory/clerestorylaw12.PlaneCrops", spec := "planeCrops", unfollowed := true, recurses := true, apart := false }
def PlaneCropsSaid : Prop := planeCropsRow.holds Try.pinned (OpenSpec.ofChange planeCropsSpec)

/-- ITS FALSE NEIGHBOUR: 'it returns false'. Refute it at one input. -/
def planeCropsWrong : ChangeSpec := { name := "planeCrops", fn := fun _ => fun
  | [d1, d2, d3, d4, d5] => { results := [.lit (.bool false)], args := [d1, d2, d3, d4, d5] }
  | _ => none }
def PlaneCropsWrongFalsely : Prop := planeCropsRow.holds Try.pinned (OpenSpec.ofChange planeCropsWrong)

/-- 'clerestorylaw12.PlaneSizes': WHATEVER THE INPUT: true; the input reads as it did. -/
def planeSizesSpec : ChangeSpec := { name := "planeSizes", fn := fun _ => fun
  | [d1, d2, d3, d4, d5] => { results := [.lit (.bool true)], args := [d1, d2, d3, d4, d5] }
  | _ => none }
def planeSizesRow : OpenClaim := { program := "ytadlaljohlpabaa", sum := "5d782dc1502210e27af6ac538a16aa3a1e14f25c94832a585a7e66b363a2795c", func := "clerestory/clerestorylaw12.PlaneSizes", spec := "planeSizes", unfollowed := true, recurses := true, apart := false }
def PlaneSizesSaid : Prop := planeSizesRow.holds Try.pinned (OpenSpec.ofChange planeSizesSpec)

/-- ITS FALSE NEIGHBOUR: 'it returns false'. Refute it at one input. -/
def planeSizesWrong : ChangeSpec := { name := "planeSizes", fn := fun _ => fun
  | [d1, d2, d3, d4, d5] => { results := [.lit (.bool false)], args := [d1, d2, d3, d4, d5] }
  | _ => none }
def PlaneSizesWrongFalsely : Prop := planeSizesRow.holds Try.pinned (OpenSpec.ofChange planeSizesWrong)

/-- 'clerestorylaw12.PlaneBlocks': WHATEVER THE INPUT: true; the input reads as it did. -/
def planeBlocksSpec : ChangeSpec := { name := "planeBlocks", fn := fun _ => fun
  | [d1, d2, d3, d4] => { results := [.lit (.bool true)], args := [d1, d2, d3, d4] }
  | _ => none }
def planeBlocksRow : OpenClaim := { program := "ytadlaljohlpabaa", sum := "5d782dc1502210e27af6ac538a16aa3a1e14f25c94832a585a7e66b363a2795c", func := "clerestory/clerestorylaw12.PlaneBlocks", spec := "planeBlocks", unfollowed := true, recurses := true, apart := false }
def PlaneBlocksSaid : Prop := planeBlocksRow.holds Try.pinned (OpenSpec.ofChange planeBlocksSpec)

/-- ITS FALSE NEIGHBOUR: 'it returns false'. Refute it at one input. -/
def planeBlocksWrong : ChangeSpec := { name := "planeBlocks", fn := fun _ => fun
  | [d1, d2, d3, d4] => { results := [.lit (.bool false)], args := [d1, d2, d3, d4] }
  | _ => none }
def PlaneBlocksWrongFalsely : Prop := planeBlocksRow.holds Try.pinned (OpenSpec.ofChange planeBlocksWrong)

/-- 'clerestorylaw12.PlaneBack': WHATEVER THE INPUT: true; the input reads as it did. -/
def planeBackSpec : ChangeSpec := { name := "planeBack", fn := fun _ => fun
  | [d1, d2, d3] => { results := [.lit (.bool true)], args := [d1, d2, d3] }
  | _ => none }
def planeBackRow : OpenClaim := { program := "ytadlaljohlpabaa", sum := "5d782dc1502210e27af6ac538a16aa3a1e14f25c94832a585a7e66b363a2795c", func := "clerestory/clerestorylaw12.PlaneBack", spec := "planeBack", unfollowed := true, recurses := true, apart := false }
def PlaneBackSaid : Prop := planeBackRow.holds Try.pinned (OpenSpec.ofChange planeBackSpec)

/-- ITS FALSE NEIGHBOUR: 'it returns false'. Refute it at one input. -/
def planeBackWrong : ChangeSpec := { name := "planeBack", fn := fun _ => fun
  | [d1, d2, d3] => { results := [.lit (.bool false)], args := [d1, d2, d3] }
  | _ => none }
def PlaneBackWrongFalsely : Prop := planeBackRow.holds Try.pinned (OpenSpec.ofChange planeBackWrong)

/-- 'clerestorylaw12.PlaneFlat': WHATEVER THE INPUT: true; the input reads as it did. -/
def planeFlatSpec : ChangeSpec := { name := "planeFlat", fn := fun _ => fun
  | [d1, d2, d3, d4, d5, d6, d7] => { results := [.lit (.bool true)], args := [d1, d2, d3, d4, d5, d6, d7] }
  | _ => none }
def planeFlatRow : OpenClaim := { program := "ytadlaljohlpabaa", sum := "5d782dc1502210e27af6ac538a16aa3a1e14f25c94832a585a7e66b363a2795c", func := "clerestory/clerestorylaw12.PlaneFlat", spec := "planeFlat", unfollowed := true, recurses := true, apart := false }
def PlaneFlatSaid : Prop := planeFlatRow.holds Try.pinned (OpenSpec.ofChange planeFlatSpec)

/-- ITS FALSE NEIGHBOUR: 'it returns false'. Refute it at one input. -/
def planeFlatWrong : ChangeSpec := { name := "planeFlat", fn := fun _ => fun
  | [d1, d2, d3, d4, d5, d6, d7] => { results := [.lit (.bool false)], args := [d1, d2, d3, d4, d5, d6, d7] }
  | _ => none }
def PlaneFlatWrongFalsely : Prop := planeFlatRow.holds Try.pinned (OpenSpec.ofChange planeFlatWrong)

/-- 'clerestorylaw12.PlaneBounds': WHATEVER THE INPUT: true; the input reads as it did. -/
def planeBoundsSpec : ChangeSpec := { name := "planeBounds", fn := fun _ => fun
  | [d1, d2, d3] => { results := [.lit (.bool true)], args := [d1, d2, d3] }
  | _ => none }
def planeBoundsRow : OpenClaim := { program := "ytadlaljohlpabaa", sum := "5d782dc1502210e27af6ac538a16aa3a1e14f25c94832a585a7e66b363a2795c", func := "clerestory/clerestorylaw12.PlaneBounds", spec := "planeBounds", unfollowed := true, recurses := true, apart := false }
def PlaneBoundsSaid : Prop := planeBoundsRow.holds Try.pinned (OpenSpec.ofChange planeBoundsSpec)

/-- ITS FALSE NEIGHBOUR: 'it returns false'. Refute it at one input. -/
def planeBoundsWrong : ChangeSpec := { name := "planeBounds", fn := fun _ => fun
  | [d1, d2, d3] => { results := [.lit (.bool false)], args := [d1, d2, d3] }
  | _ => none }
def PlaneBoundsWrongFalsely : Prop := planeBoundsRow.holds Try.pinned (OpenSpec.ofChange planeBoundsWrong)

/- THE SECOND FORM. 'bulk': how many values and letters a reading holds, each counted each time it is reached (what is shared counts as often as it is met; a slice's spare places count too). A statement '..UptoSaid' is the law's where the arguments, and the package variables that the reading takes, are together of bulk at most 1048576: NARROWER than '..Said'. Prove '..Said' where nothing that the law and all that it calls make is longer than what came in: it says more and counts as full. Else prove '..UptoSaid'. A law counts once. -/
mutual
def uptoBulk {H : Type} : DataW H → Nat
  | .lit (.string bytes) => bytes.length + 1
  | .lit _ => 1
  | .nil => 1
  | .ptr d => uptoBulk d + 1
  | .slice elems spare => uptoBulkAll elems + uptoBulkAll spare + 1
  | .agg parts => uptoBulkAll parts + 1
  | .iface _ d => uptoBulk d + 1
  | .map entries => uptoBulkEntries entries + 1
  | .held _ => 1
def uptoBulkAll {H : Type} : List (DataW H) → Nat
  | [] => 0
  | d :: r => uptoBulk d + uptoBulkAll r
def uptoBulkEntries {H : Type} : List (Lit × DataW H) → Nat
  | [] => 0
  | x :: r => uptoBulkEntry x + uptoBulkEntries r
def uptoBulkEntry {H : Type} : Lit × DataW H → Nat
  | (.string bytes, d) => bytes.length + uptoBulk d + 1
  | (_, d) => uptoBulk d + 1
 end
def uptoSmall : (H : Type) → List (DataW H) → Bool := fun _ ds => decide (uptoBulkAll ds ≤ 1048576)
def OpenSpec.upto (s : _root_.Go.ChangeSpec) : _root_.Go.OpenSpec := { _root_.Go.OpenSpec.ofChange s with cond := some uptoSmall }

/-- 'clerestorylaw12.PlaneCrops', WHERE WHAT IT READS IS OF BULK AT MOST 1048576: true; the input reads as it did. -/
def planeCropsUptoRow : OpenClaim := { program := "ytadlaljohlpabaa", sum := "5d782dc1502210e27af6ac538a16aa3a1e14f25c94832a585a7e66b363a2795c", func := "clerestory/clerestorylaw12.PlaneCrops", spec := "planeCrops", unfollowed := true, recurses := true, apart := false, narrowed := true }
def PlaneCropsUptoSaid : Prop := planeCropsUptoRow.holds Try.pinned (OpenSpec.upto planeCropsSpec)

/-- 'clerestorylaw12.PlaneSizes', WHERE WHAT IT READS IS OF BULK AT MOST 1048576: true; the input reads as it did. -/
def planeSizesUptoRow : OpenClaim := { program := "ytadlaljohlpabaa", sum := "5d782dc1502210e27af6ac538a16aa3a1e14f25c94832a585a7e66b363a2795c", func := "clerestory/clerestorylaw12.PlaneSizes", spec := "planeSizes", unfollowed := true, recurses := true, apart := false, narrowed := true }
def PlaneSizesUptoSaid : Prop := planeSizesUptoRow.holds Try.pinned (OpenSpec.upto planeSizesSpec)

/-- 'clerestorylaw12.PlaneBlocks', WHERE WHAT IT READS IS OF BULK AT MOST 1048576: true; the input reads as it did. -/
def planeBlocksUptoRow : OpenClaim := { program := "ytadlaljohlpabaa", sum := "5d782dc1502210e27af6ac538a16aa3a1e14f25c94832a585a7e66b363a2795c", func := "clerestory/clerestorylaw12.PlaneBlocks", spec := "planeBlocks", unfollowed := true, recurses := true, apart := false, narrowed := true }
def PlaneBlocksUptoSaid : Prop := planeBlocksUptoRow.holds Try.pinned (OpenSpec.upto planeBlocksSpec)

/-- 'clerestorylaw12.PlaneBack', WHERE WHAT IT READS IS OF BULK AT MOST 1048576: true; the input reads as it did. -/
def planeBackUptoRow : OpenClaim := { program := "ytadlaljohlpabaa", sum := "5d782dc1502210e27af6ac538a16aa3a1e14f25c94832a585a7e66b363a2795c", func := "clerestory/clerestorylaw12.PlaneBack", spec := "planeBack", unfollowed := true, recurses := true, apart := false, narrowed := true }
def PlaneBackUptoSaid : Prop := planeBackUptoRow.holds Try.pinned (OpenSpec.upto planeBackSpec)

/-- 'clerestorylaw12.PlaneFlat', WHERE WHAT IT READS IS OF BULK AT MOST 1048576: true; the input reads as it did. -/
def planeFlatUptoRow : OpenClaim := { program := "ytadlaljohlpabaa", sum := "5d782dc1502210e27af6ac538a16aa3a1e14f25c94832a585a7e66b363a2795c", func := "clerestory/clerestorylaw12.PlaneFlat", spec := "planeFlat", unfollowed := true, recurses := true, apart := false, narrowed := true }
def PlaneFlatUptoSaid : Prop := planeFlatUptoRow.holds Try.pinned (OpenSpec.upto planeFlatSpec)

/-- 'clerestorylaw12.PlaneBounds', WHERE WHAT IT READS IS OF BULK AT MOST 1048576: true; the input reads as it did. -/
def planeBoundsUptoRow : OpenClaim := { program := "ytadlaljohlpabaa", sum := "5d782dc1502210e27af6ac538a16aa3a1e14f25c94832a585a7e66b363a2795c", func := "clerestory/clerestorylaw12.PlaneBounds", spec := "planeBounds", unfollowed := true, recurses := true, apart := false, narrowed := true }
def PlaneBoundsUptoSaid : Prop := planeBoundsUptoRow.holds Try.pinned (OpenSpec.upto planeBoundsSpec)

end Rows
end Go.Proofs.Ytadlaljohlpabaa
