/-
  No cell of these rows narrows 'for every input' (looked for: loops, veiled, ifaces, maps, wideKeys, modest, calm, conditions, laid).
  DERIVED. THE GIVEN ROWS OF THIS SEAT. 4 by the template 'for every input the law returns true; each argument reads behind the call as it read before'; 0 by the template 'total and deterministic' (their statements: YtnakfdaneejcfaaTotals.lean).
  GIVEN WITH THE SEED: the statements are not yours to turn. If you find one false, say at which input.
  Laid BY PROGRAM, IN A SANDBOX (cutbox-rows.mjs): the forced cells as the released guide's own fill.sh prints them over the translation a8f90bfc1b7d655c… (all of the seat's roots in one cut). By AI agents, Wed Nov 11 2026. No macro, syntax, notation, axiom, sorry.
-/
import Derived.Test.YtnakfdaneejcfaaChecked
import GoSem.Claim
import GoSem.ClaimJoined
import GoSem.ClaimMapViews
import Derived.JoinedTies
import Derived.KernelRfl
namespace Go.Proofs.Ytnakfdaneejcfaa
/- THE CELL 'sum', in the pinned program and in every row, IS THE sha256 OF THE DUMP (.gsa) THAT YtnakfdaneejcfaaProg.lean LOADS. Nothing in Lean hashes anything: it is a label: what it is worth is what the hold of that sum in a sandbox is worth. -/
noncomputable def Try.pinned : Pinned := { name := "ytnakfdaneejcfaa", sum := "a8f90bfc1b7d655ca8029b363a7d95e4eb1f00d3a6032872b537776b165a05d6", checked := Try.checked }
namespace Rows
def none {H : Type} : Left H := { results := [], args := [] }

/-- 'clerestorylaw16.IfdAsks': WHATEVER THE INPUT: true; the input reads as it did. -/
def ifdAsksSpec : ChangeSpec := { name := "ifdAsks", fn := fun _ => fun
  | [d1, d2] => { results := [.lit (.bool true)], args := [d1, d2] }
  | _ => none }
def ifdAsksRow : OpenClaim := { program := "ytnakfdaneejcfaa", sum := "a8f90bfc1b7d655ca8029b363a7d95e4eb1f00d3a6032872b537776b165a05d6", func := "clerestory/clerestorylaw16.IfdAsks", spec := "ifdAsks", apart := false }
def IfdAsksSaid : Prop := ifdAsksRow.holds Try.pinned (OpenSpec.ofChange ifdAsksSpec)

/-- ITS FALSE NEIGHBOUR: 'it returns false'. Refute it at one input. -/
def ifdAsksWrong : ChangeSpec := { name := "ifdAsks", fn := fun _ => fun
  | [d1, d2] => { results := [.lit (.bool false)], args := [d1, d2] }
  | _ => none }
def IfdAsksWrongFalsely : Prop := ifdAsksRow.holds Try.pinned (OpenSpec.ofChange ifdAsksWrong)

/-- 'clerestorylaw16.IfdHeads': WHATEVER THE INPUT: true; the input reads as it did. -/
def ifdHeadsSpec : ChangeSpec := { name := "ifdHeads", fn := fun _ => fun
  | [d1, d2, d3] => { results := [.lit (.bool true)], args := [d1, d2, d3] }
  | _ => none }
def ifdHeadsRow : OpenClaim := { program := "ytnakfdaneejcfaa", sum := "a8f90bfc1b7d655ca8029b363a7d95e4eb1f00d3a6032872b537776b165a05d6", func := "clerestory/clerestorylaw16.IfdHeads", spec := "ifdHeads", unfollowed := true, recurses := true, apart := false }
def IfdHeadsSaid : Prop := ifdHeadsRow.holds Try.pinned (OpenSpec.ofChange ifdHeadsSpec)

/-- ITS FALSE NEIGHBOUR: 'it returns false'. Refute it at one input. -/
def ifdHeadsWrong : ChangeSpec := { name := "ifdHeads", fn := fun _ => fun
  | [d1, d2, d3] => { results := [.lit (.bool false)], args := [d1, d2, d3] }
  | _ => none }
def IfdHeadsWrongFalsely : Prop := ifdHeadsRow.holds Try.pinned (OpenSpec.ofChange ifdHeadsWrong)

/-- 'clerestorylaw16.IfdBack': WHATEVER THE INPUT: true; the input reads as it did. -/
def ifdBackSpec : ChangeSpec := { name := "ifdBack", fn := fun _ => fun
  | [d1, d2, d3, d4, d5] => { results := [.lit (.bool true)], args := [d1, d2, d3, d4, d5] }
  | _ => none }
def ifdBackRow : OpenClaim := { program := "ytnakfdaneejcfaa", sum := "a8f90bfc1b7d655ca8029b363a7d95e4eb1f00d3a6032872b537776b165a05d6", func := "clerestory/clerestorylaw16.IfdBack", spec := "ifdBack", unfollowed := true, recurses := true, apart := false }
def IfdBackSaid : Prop := ifdBackRow.holds Try.pinned (OpenSpec.ofChange ifdBackSpec)

/-- ITS FALSE NEIGHBOUR: 'it returns false'. Refute it at one input. -/
def ifdBackWrong : ChangeSpec := { name := "ifdBack", fn := fun _ => fun
  | [d1, d2, d3, d4, d5] => { results := [.lit (.bool false)], args := [d1, d2, d3, d4, d5] }
  | _ => none }
def IfdBackWrongFalsely : Prop := ifdBackRow.holds Try.pinned (OpenSpec.ofChange ifdBackWrong)

/-- 'clerestorylaw16.IfdAgain': WHATEVER THE INPUT: true; the input reads as it did. -/
def ifdAgainSpec : ChangeSpec := { name := "ifdAgain", fn := fun _ => fun
  | [d1, d2, d3] => { results := [.lit (.bool true)], args := [d1, d2, d3] }
  | _ => none }
def ifdAgainRow : OpenClaim := { program := "ytnakfdaneejcfaa", sum := "a8f90bfc1b7d655ca8029b363a7d95e4eb1f00d3a6032872b537776b165a05d6", func := "clerestory/clerestorylaw16.IfdAgain", spec := "ifdAgain", unfollowed := true, recurses := true, apart := false }
def IfdAgainSaid : Prop := ifdAgainRow.holds Try.pinned (OpenSpec.ofChange ifdAgainSpec)

/-- ITS FALSE NEIGHBOUR: 'it returns false'. Refute it at one input. -/
def ifdAgainWrong : ChangeSpec := { name := "ifdAgain", fn := fun _ => fun
  | [d1, d2, d3] => { results := [.lit (.bool false)], args := [d1, d2, d3] }
  | _ => none }
def IfdAgainWrongFalsely : Prop := ifdAgainRow.holds Try.pinned (OpenSpec.ofChange ifdAgainWrong)

/- THE SECOND FORM. 'bulk': how many values and letters a reading holds, each counted each time it is reached (what is shared counts as often as it is met; a slice's spare places count too). A statement '..UptoSaid' is the law's where the arguments, and the package variables that the reading takes, are together of bulk at most 1048576: NARROWER than '..Said'. Prove '..Said' where nothing that the law and all that it calls make is longer than what came in: it says more and counts as full. Else prove '..UptoSaid'. A law counts once. -/
mutual
def uptoBulk {H : Type} : DataW H → Nat
  | .lit (.string bytes) => bytes.length + 1
  | .lit _ => 1
  | .nil => 1
  | .ptr d => uptoBulk d + 1
  | .slice elems spare => uptoBulkAll elems + uptoBulkAll spare + 1
  | .agg parts => uptoBulkAll parts + 1
  | .iface _ d => uptoBulk d + 1
  | .map entries => uptoBulkEntries entries + 1
  | .held _ => 1
def uptoBulkAll {H : Type} : List (DataW H) → Nat
  | [] => 0
  | d :: r => uptoBulk d + uptoBulkAll r
def uptoBulkEntries {H : Type} : List (Lit × DataW H) → Nat
  | [] => 0
  | x :: r => uptoBulkEntry x + uptoBulkEntries r
def uptoBulkEntry {H : Type} : Lit × DataW H → Nat
  | (.string bytes, d) => bytes.length + uptoBulk d + 1
  | (_, d) => uptoBulk d + 1
 end
def uptoSmall : (H : Type) → List (DataW H) → Bool := fun _ ds => decide (uptoBulkAll ds ≤ 1048576)
def OpenSpec.upto (s : _root_.Go.ChangeSpec) : _root_.Go.OpenSpec := { _root_.Go.OpenSpec.ofChange s with cond := some uptoSmall }

/-- 'clerestorylaw16.IfdAsks', WHERE WHAT IT READS IS OF BULK AT MOST 1048576: true; the input reads as it did. -/
def ifdAsksUptoRow : OpenClaim := { program := "ytnakfdaneejcfaa", sum := "a8f90bfc1b7d655ca8029b363a7d95e4eb1f00d3a6032872b537776b165a05d6", func := "clerestory/clerestorylaw16.IfdAsks", spec := "ifdAsks", apart := false, narrowed := true }
def IfdAsksUptoSaid : Prop := ifdAsksUptoRow.holds Try.pinned (OpenSpec.upto ifdAsksSpec)

/-- 'clerestorylaw16.IfdHeads', WHERE WHAT IT READS IS OF BULK AT MOST 1048576: true; the input reads as it did. -/
def ifdHeadsUptoRow : OpenClaim := { program := "ytnakfdaneejcfaa", sum := "a8f90bfc1b7d655ca8029b363a7d95e4eb1f00d3a6032872b537776b165a05d6", func := "clerestory/clerestorylaw16.IfdHeads", spec := "ifdHeads", unfollowed := true, recurses := true, apart := false, narrowed := true }
def IfdHeadsUptoSaid : Prop := ifdHeadsUptoRow.holds Try.pinned (OpenSpec.upto ifdHeadsSpec)

/-- 'clerestorylaw16.IfdBack', WHERE WHAT IT READS IS OF BULK AT MOST 1048576: true; the input reads as it did. -/
def ifdBackUptoRow : OpenClaim := { program := "ytnakfdaneejcfaa", sum := "a8f90bfc1b7d655ca8029b363a7d95e4eb1f00d3a6032872b537776b165a05d6", func := "clerestory/clerestorylaw16.IfdBack", spec := "ifdBack", unfollowed := true, recurses := true, apart := false, narrowed := true }
def IfdBackUptoSaid : Prop := ifdBackUptoRow.holds Try.pinned (OpenSpec.upto ifdBackSpec)

/-- 'clerestorylaw16.IfdAgain', WHERE WHAT IT READS IS OF BULK AT MOST 1048576: true; the input reads as it did. -/
def ifdAgainUptoRow : OpenClaim := { program := "ytnakfdaneejcfaa", sum := "a8f90bfc1b7d655ca8029b363a7d95e4eb1f00d3a6032872b537776b165a05d6", func := "clerestory/clerestorylaw16.IfdAgain", spec := "ifdAgain", unfollowed := true, recurses := true, apart := false, narrowed := true }
def IfdAgainUptoSaid : Prop := ifdAgainUptoRow.holds Try.pinned (OpenSpec.upto ifdAgainSpec)

end Rows
end Go.Proofs.Ytnakfdaneejcfaa
