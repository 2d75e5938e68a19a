/-
  No cell of these rows narrows 'for every input' (looked for: loops, veiled, ifaces, maps, wideKeys, modest, calm, conditions, laid).
  DERIVED. THE GIVEN ROWS OF THIS SEAT. 6 by the template 'for every input the law returns true; each argument reads behind the call as it read before'; 0 by the template 'total and deterministic' (their statements: YtmaffonnekgekaaTotals.lean).
  GIVEN WITH THE SEED: the statements are not yours to turn. If you find one false, say at which input.
  Laid BY PROGRAM, IN A SANDBOX (cutbox-rows.mjs): the forced cells as the released guide's own fill.sh prints them over the translation 2f60555e67cccc48… (all of the seat's roots in one cut). By AI agents, Wed Nov 11 2026. No macro, syntax, notation, axiom, sorry.
-/
import Derived.Test.YtmaffonnekgekaaChecked
import GoSem.Claim
import GoSem.ClaimJoined
import GoSem.ClaimMapViews
import Derived.JoinedTies
import Derived.KernelRfl
namespace Go.Proofs.Ytmaffonnekgekaa
/- THE CELL 'sum', in the pinned program and in every row, IS THE sha256 OF THE DUMP (.gsa) THAT YtmaffonnekgekaaProg.lean LOADS. Nothing in Lean hashes anything: it is a label: what it is worth is what the hold of that sum in a sandbox is worth. -/
noncomputable def Try.pinned : Pinned := { name := "ytmaffonnekgekaa", sum := "2f60555e67cccc48b13360ae5e1929dbf5097cd95bff49eeacfc8fcb77d9a53d", checked := Try.checked }
namespace Rows
def none {H : Type} : Left H := { results := [], args := [] }

/-- 'clerestorylaw06.TunedSpecs': WHATEVER THE INPUT: true; the input reads as it did. -/
def tunedSpecsSpec : ChangeSpec := { name := "tunedSpecs", fn := fun _ => fun
  | [d] => { results := [.lit (.bool true)], args := [d] }
  | _ => none }
def tunedSpecsRow : OpenClaim := { program := "ytmaffonnekgekaa", sum := "2f60555e67cccc48b13360ae5e1929dbf5097cd95bff49eeacfc8fcb77d9a53d", func := "clerestory/clerestorylaw06.TunedSpecs", spec := "tunedSpecs", plainKeys := false, apart := false }
def TunedSpecsSaid : Prop := tunedSpecsRow.holds Try.pinned (OpenSpec.ofChange tunedSpecsSpec)

/-- ITS FALSE NEIGHBOUR: 'it returns false'. Refute it at one input. -/
def tunedSpecsWrong : ChangeSpec := { name := "tunedSpecs", fn := fun _ => fun
  | [d] => { results := [.lit (.bool false)], args := [d] }
  | _ => none }
def TunedSpecsWrongFalsely : Prop := tunedSpecsRow.holds Try.pinned (OpenSpec.ofChange tunedSpecsWrong)

/-- 'clerestorylaw06.TunedCosts': WHATEVER THE INPUT: true; the input reads as it did. -/
def tunedCostsSpec : ChangeSpec := { name := "tunedCosts", fn := fun _ => fun
  | [d1, d2] => { results := [.lit (.bool true)], args := [d1, d2] }
  | _ => none }
def tunedCostsRow : OpenClaim := { program := "ytmaffonnekgekaa", sum := "2f60555e67cccc48b13360ae5e1929dbf5097cd95bff49eeacfc8fcb77d9a53d", func := "clerestory/clerestorylaw06.TunedCosts", spec := "tunedCosts", plainKeys := false, apart := false }
def TunedCostsSaid : Prop := tunedCostsRow.holds Try.pinned (OpenSpec.ofChange tunedCostsSpec)

/-- ITS FALSE NEIGHBOUR: 'it returns false'. Refute it at one input. -/
def tunedCostsWrong : ChangeSpec := { name := "tunedCosts", fn := fun _ => fun
  | [d1, d2] => { results := [.lit (.bool false)], args := [d1, d2] }
  | _ => none }
def TunedCostsWrongFalsely : Prop := tunedCostsRow.holds Try.pinned (OpenSpec.ofChange tunedCostsWrong)

/-- 'clerestorylaw06.TunedSuits': WHATEVER THE INPUT: true; the input reads as it did. -/
def tunedSuitsSpec : ChangeSpec := { name := "tunedSuits", fn := fun _ => fun
  | [d] => { results := [.lit (.bool true)], args := [d] }
  | _ => none }
def tunedSuitsRow : OpenClaim := { program := "ytmaffonnekgekaa", sum := "2f60555e67cccc48b13360ae5e1929dbf5097cd95bff49eeacfc8fcb77d9a53d", func := "clerestory/clerestorylaw06.TunedSuits", spec := "tunedSuits", plainKeys := false, apart := false }
def TunedSuitsSaid : Prop := tunedSuitsRow.holds Try.pinned (OpenSpec.ofChange tunedSuitsSpec)

/-- ITS FALSE NEIGHBOUR: 'it returns false'. Refute it at one input. -/
def tunedSuitsWrong : ChangeSpec := { name := "tunedSuits", fn := fun _ => fun
  | [d] => { results := [.lit (.bool false)], args := [d] }
  | _ => none }
def TunedSuitsWrongFalsely : Prop := tunedSuitsRow.holds Try.pinned (OpenSpec.ofChange tunedSuitsWrong)

/-- 'clerestorylaw06.TunedBest': WHATEVER THE INPUT: true; the input reads as it did. -/
def tunedBestSpec : ChangeSpec := { name := "tunedBest", fn := fun _ => fun
  | [d1, d2] => { results := [.lit (.bool true)], args := [d1, d2] }
  | _ => none }
def tunedBestRow : OpenClaim := { program := "ytmaffonnekgekaa", sum := "2f60555e67cccc48b13360ae5e1929dbf5097cd95bff49eeacfc8fcb77d9a53d", func := "clerestory/clerestorylaw06.TunedBest", spec := "tunedBest", plainKeys := false, apart := false }
def TunedBestSaid : Prop := tunedBestRow.holds Try.pinned (OpenSpec.ofChange tunedBestSpec)

/-- ITS FALSE NEIGHBOUR: 'it returns false'. Refute it at one input. -/
def tunedBestWrong : ChangeSpec := { name := "tunedBest", fn := fun _ => fun
  | [d1, d2] => { results := [.lit (.bool false)], args := [d1, d2] }
  | _ => none }
def TunedBestWrongFalsely : Prop := tunedBestRow.holds Try.pinned (OpenSpec.ofChange tunedBestWrong)

/-- 'clerestorylaw06.TunedTwice': WHATEVER THE INPUT: true; the input reads as it did. -/
def tunedTwiceSpec : ChangeSpec := { name := "tunedTwice", fn := fun _ => fun
  | [d1, d2] => { results := [.lit (.bool true)], args := [d1, d2] }
  | _ => none }
def tunedTwiceRow : OpenClaim := { program := "ytmaffonnekgekaa", sum := "2f60555e67cccc48b13360ae5e1929dbf5097cd95bff49eeacfc8fcb77d9a53d", func := "clerestory/clerestorylaw06.TunedTwice", spec := "tunedTwice", plainKeys := false, apart := false }
def TunedTwiceSaid : Prop := tunedTwiceRow.holds Try.pinned (OpenSpec.ofChange tunedTwiceSpec)

/-- ITS FALSE NEIGHBOUR: 'it returns false'. Refute it at one input. -/
def tunedTwiceWrong : ChangeSpec := { name := "tunedTwice", fn := fun _ => fun
  | [d1, d2] => { results := [.lit (.bool false)], args := [d1, d2] }
  | _ => none }
def TunedTwiceWrongFalsely : Prop := tunedTwiceRow.holds Try.pinned (OpenSpec.ofChange tunedTwiceWrong)

/-- 'clerestorylaw06.TunedOrder': WHATEVER THE INPUT: true; the input reads as it did. -/
def tunedOrderSpec : ChangeSpec := { name := "tunedOrder", fn := fun _ => fun
  | [d1, d2, d3] => { results := [.lit (.bool true)], args := [d1, d2, d3] }
  | _ => none }
def tunedOrderRow : OpenClaim := { program := "ytmaffonnekgekaa", sum := "2f60555e67cccc48b13360ae5e1929dbf5097cd95bff49eeacfc8fcb77d9a53d", func := "clerestory/clerestorylaw06.TunedOrder", spec := "tunedOrder", plainKeys := false, apart := false }
def TunedOrderSaid : Prop := tunedOrderRow.holds Try.pinned (OpenSpec.ofChange tunedOrderSpec)

/-- ITS FALSE NEIGHBOUR: 'it returns false'. Refute it at one input. -/
def tunedOrderWrong : ChangeSpec := { name := "tunedOrder", fn := fun _ => fun
  | [d1, d2, d3] => { results := [.lit (.bool false)], args := [d1, d2, d3] }
  | _ => none }
def TunedOrderWrongFalsely : Prop := tunedOrderRow.holds Try.pinned (OpenSpec.ofChange tunedOrderWrong)

/- THE SECOND FORM. 'bulk': how many values and letters a reading holds, each counted each time it is reached (what is shared counts as often as it is met; a slice's spare places count too). A statement '..UptoSaid' is the law's where the arguments, and the package variables that the reading takes, are together of bulk at most 1048576: NARROWER than '..Said'. Prove '..Said' where nothing that the law and all that it calls make is longer than what came in: it says more and counts as full. Else prove '..UptoSaid'. A law counts once. -/
mutual
def uptoBulk {H : Type} : DataW H → Nat
  | .lit (.string bytes) => bytes.length + 1
  | .lit _ => 1
  | .nil => 1
  | .ptr d => uptoBulk d + 1
  | .slice elems spare => uptoBulkAll elems + uptoBulkAll spare + 1
  | .agg parts => uptoBulkAll parts + 1
  | .iface _ d => uptoBulk d + 1
  | .map entries => uptoBulkEntries entries + 1
  | .held _ => 1
def uptoBulkAll {H : Type} : List (DataW H) → Nat
  | [] => 0
  | d :: r => uptoBulk d + uptoBulkAll r
def uptoBulkEntries {H : Type} : List (Lit × DataW H) → Nat
  | [] => 0
  | x :: r => uptoBulkEntry x + uptoBulkEntries r
def uptoBulkEntry {H : Type} : Lit × DataW H → Nat
  | (.string bytes, d) => bytes.length + uptoBulk d + 1
  | (_, d) => uptoBulk d + 1
 end
def uptoSmall : (H : Type) → List (DataW H) → Bool := fun _ ds => decide (uptoBulkAll ds ≤ 1048576)
def OpenSpec.upto (s : _root_.Go.ChangeSpec) : _root_.Go.OpenSpec := { _root_.Go.OpenSpec.ofChange s with cond := some uptoSmall }

/-- 'clerestorylaw06.TunedSpecs', WHERE WHAT IT READS IS OF BULK AT MOST 1048576: true; the input reads as it did. -/
def tunedSpecsUptoRow : OpenClaim := { program := "ytmaffonnekgekaa", sum := "2f60555e67cccc48b13360ae5e1929dbf5097cd95bff49eeacfc8fcb77d9a53d", func := "clerestory/clerestorylaw06.TunedSpecs", spec := "tunedSpecs", plainKeys := false, apart := false, narrowed := true }
def TunedSpecsUptoSaid : Prop := tunedSpecsUptoRow.holds Try.pinned (OpenSpec.upto tunedSpecsSpec)

/-- 'clerestorylaw06.TunedCosts', WHERE WHAT IT READS IS OF BULK AT MOST 1048576: true; the input reads as it did. -/
def tunedCostsUptoRow : OpenClaim := { program := "ytmaffonnekgekaa", sum := "2f60555e67cccc48b13360ae5e1929dbf5097cd95bff49eeacfc8fcb77d9a53d", func := "clerestory/clerestorylaw06.TunedCosts", spec := "tunedCosts", plainKeys := false, apart := false, narrowed := true }
def TunedCostsUptoSaid : Prop := tunedCostsUptoRow.holds Try.pinned (OpenSpec.upto tunedCostsSpec)

/-- 'clerestorylaw06.TunedSuits', WHERE WHAT IT READS IS OF BULK AT MOST 1048576: true; the input reads as it did. -/
def tunedSuitsUptoRow : OpenClaim := { program := "ytmaffonnekgekaa", sum := "2f60555e67cccc48b13360ae5e1929dbf5097cd95bff49eeacfc8fcb77d9a53d", func := "clerestory/clerestorylaw06.TunedSuits", spec := "tunedSuits", plainKeys := false, apart := false, narrowed := true }
def TunedSuitsUptoSaid : Prop := tunedSuitsUptoRow.holds Try.pinned (OpenSpec.upto tunedSuitsSpec)

/-- 'clerestorylaw06.TunedBest', WHERE WHAT IT READS IS OF BULK AT MOST 1048576: true; the input reads as it did. -/
def tunedBestUptoRow : OpenClaim := { program := "ytmaffonnekgekaa", sum := "2f60555e67cccc48b13360ae5e1929dbf5097cd95bff49eeacfc8fcb77d9a53d", func := "clerestory/clerestorylaw06.TunedBest", spec := "tunedBest", plainKeys := false, apart := false, narrowed := true }
def TunedBestUptoSaid : Prop := tunedBestUptoRow.holds Try.pinned (OpenSpec.upto tunedBestSpec)

/-- 'clerestorylaw06.TunedTwice', WHERE WHAT IT READS IS OF BULK AT MOST 1048576: true; the input reads as it did. -/
def tunedTwiceUptoRow : OpenClaim := { program := "ytmaffonnekgekaa", sum := "2f60555e67cccc48b13360ae5e1929dbf5097cd95bff49eeacfc8fcb77d9a53d", func := "clerestory/clerestorylaw06.TunedTwice", spec := "tunedTwice", plainKeys := false, apart := false, narrowed := true }
def TunedTwiceUptoSaid : Prop := tunedTwiceUptoRow.holds Try.pinned (OpenSpec.upto tunedTwiceSpec)

/-- 'clerestorylaw06.TunedOrder', WHERE WHAT IT READS IS OF BULK AT MOST 1048576: true; the input reads as it did. -/
def tunedOrderUptoRow : OpenClaim := { program := "ytmaffonnekgekaa", sum := "2f60555e67cccc48b13360ae5e1929dbf5097cd95bff49eeacfc8fcb77d9a53d", func := "clerestory/clerestorylaw06.TunedOrder", spec := "tunedOrder", plainKeys := false, apart := false, narrowed := true }
def TunedOrderUptoSaid : Prop := tunedOrderUptoRow.holds Try.pinned (OpenSpec.upto tunedOrderSpec)

end Rows
end Go.Proofs.Ytmaffonnekgekaa
