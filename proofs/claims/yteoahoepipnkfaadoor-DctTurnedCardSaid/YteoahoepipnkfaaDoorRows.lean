/-
  NARROWER THAN 'FOR EVERY INPUT', by the rows' own cells (each row's printed sentence says how): DctForward: laid · DctInverse: laid · DctNear: laid · DctTurns: laid · DctFlat: laid · DctTurned: laid.
  DERIVED. THE GIVEN ROWS OF THIS SEAT. 6 by the template 'for every input the law returns true; each argument reads behind the call as it read before'; 0 by the template 'total and deterministic' (their statements: YteoahoepipnkfaaDoorTotals.lean).
  GIVEN WITH THE SEED: the statements are not yours to turn. If you find one false, say at which input.
  Laid BY PROGRAM, IN A SANDBOX (cutbox-rows.mjs): the forced cells as the released guide's own fill.sh prints them over the translation 3fd097e78bbe3066… (all of the seat's roots in one cut). By AI agents, Wed Nov 11 2026. No macro, syntax, notation, axiom, sorry.
-/
import Derived.Test.YteoahoepipnkfaaDoorChecked
import GoSem.Claim
import GoSem.ClaimJoined
import GoSem.ClaimMapViews
import Derived.JoinedTies
import Derived.KernelRfl
namespace Go.Proofs.YteoahoepipnkfaaDoor
/- THE CELL 'sum', in the pinned program and in every row, IS THE sha256 OF THE DUMP (.gsa) THAT YteoahoepipnkfaaDoorProg.lean LOADS. Nothing in Lean hashes anything: it is a label: what it is worth is what the hold of that sum in a sandbox is worth. -/
noncomputable def Tryd.pinned : Pinned := { name := "yteoahoepipnkfaadoor", sum := "3fd097e78bbe30666251acd15221977ab582b1131bd425800defa5fbcd169a5a", checked := Tryd.checked }
namespace Rows
def none {H : Type} : Left H := { results := [], args := [] }

/- WHAT THE LISTED PACKAGE-LEVEL VARIABLES READ AS WHEN THE CALL BEGINS. Each datum BY PROGRAM (the guide's laid-datum.mjs) off the statement by which the dump's own 'gosem.cut.vars' lays the variable. In a bare row this is a premise. The card (YteoahoepipnkfaaDoorCards.lean) ties it to the program's text. -/
def laid_clerestory_dct_basis {H : Type} : DataW H := .agg [.lit (.int .i64 2896), .lit (.int .i64 2896), .lit (.int .i64 2896), .lit (.int .i64 2896), .lit (.int .i64 2896), .lit (.int .i64 2896), .lit (.int .i64 2896), .lit (.int .i64 2896), .lit (.int .i64 4017), .lit (.int .i64 3406), .lit (.int .i64 2276), .lit (.int .i64 799), .lit (.int .i64 (-799)), .lit (.int .i64 (-2276)), .lit (.int .i64 (-3406)), .lit (.int .i64 (-4017)), .lit (.int .i64 3784), .lit (.int .i64 1567), .lit (.int .i64 (-1567)), .lit (.int .i64 (-3784)), .lit (.int .i64 (-3784)), .lit (.int .i64 (-1567)), .lit (.int .i64 1567), .lit (.int .i64 3784), .lit (.int .i64 3406), .lit (.int .i64 (-799)), .lit (.int .i64 (-4017)), .lit (.int .i64 (-2276)), .lit (.int .i64 2276), .lit (.int .i64 4017), .lit (.int .i64 799), .lit (.int .i64 (-3406)), .lit (.int .i64 2896), .lit (.int .i64 (-2896)), .lit (.int .i64 (-2896)), .lit (.int .i64 2896), .lit (.int .i64 2896), .lit (.int .i64 (-2896)), .lit (.int .i64 (-2896)), .lit (.int .i64 2896), .lit (.int .i64 2276), .lit (.int .i64 (-4017)), .lit (.int .i64 799), .lit (.int .i64 3406), .lit (.int .i64 (-3406)), .lit (.int .i64 (-799)), .lit (.int .i64 4017), .lit (.int .i64 (-2276)), .lit (.int .i64 1567), .lit (.int .i64 (-3784)), .lit (.int .i64 3784), .lit (.int .i64 (-1567)), .lit (.int .i64 (-1567)), .lit (.int .i64 3784), .lit (.int .i64 (-3784)), .lit (.int .i64 1567), .lit (.int .i64 799), .lit (.int .i64 (-2276)), .lit (.int .i64 3406), .lit (.int .i64 (-4017)), .lit (.int .i64 4017), .lit (.int .i64 (-3406)), .lit (.int .i64 2276), .lit (.int .i64 (-799))]

/-- 'clerestorylaw09.DctForward': WHATEVER THE INPUT: true; the input reads as it did. -/
def dctForwardSpec : ChangeSpec := { name := "dctForward", fn := fun _ => fun
  | [d1, d2, d3] => { results := [.lit (.bool true)], args := [d1, d2, d3] }
  | _ => none }
def dctForwardRow : OpenClaim := { program := "yteoahoepipnkfaadoor", sum := "3fd097e78bbe30666251acd15221977ab582b1131bd425800defa5fbcd169a5a", func := "clerestory/clerestorylaw09.DctForward", spec := "dctForward", recurses := true, named := ["clerestory/dct.basis"], apart := false, laid := [("clerestory/dct.basis", laid_clerestory_dct_basis)] }
def DctForwardSaid : Prop := dctForwardRow.holds Tryd.pinned (OpenSpec.ofChange dctForwardSpec)

/-- ITS FALSE NEIGHBOUR: 'it returns false'. Refute it at one input. -/
def dctForwardWrong : ChangeSpec := { name := "dctForward", fn := fun _ => fun
  | [d1, d2, d3] => { results := [.lit (.bool false)], args := [d1, d2, d3] }
  | _ => none }
def DctForwardWrongFalsely : Prop := dctForwardRow.holds Tryd.pinned (OpenSpec.ofChange dctForwardWrong)

/-- 'clerestorylaw09.DctInverse': WHATEVER THE INPUT: true; the input reads as it did. -/
def dctInverseSpec : ChangeSpec := { name := "dctInverse", fn := fun _ => fun
  | [d] => { results := [.lit (.bool true)], args := [d] }
  | _ => none }
def dctInverseRow : OpenClaim := { program := "yteoahoepipnkfaadoor", sum := "3fd097e78bbe30666251acd15221977ab582b1131bd425800defa5fbcd169a5a", func := "clerestory/clerestorylaw09.DctInverse", spec := "dctInverse", recurses := true, named := ["clerestory/dct.basis"], apart := false, laid := [("clerestory/dct.basis", laid_clerestory_dct_basis)] }
def DctInverseSaid : Prop := dctInverseRow.holds Tryd.pinned (OpenSpec.ofChange dctInverseSpec)

/-- ITS FALSE NEIGHBOUR: 'it returns false'. Refute it at one input. -/
def dctInverseWrong : ChangeSpec := { name := "dctInverse", fn := fun _ => fun
  | [d] => { results := [.lit (.bool false)], args := [d] }
  | _ => none }
def DctInverseWrongFalsely : Prop := dctInverseRow.holds Tryd.pinned (OpenSpec.ofChange dctInverseWrong)

/-- 'clerestorylaw09.DctNear': WHATEVER THE INPUT: true; the input reads as it did. -/
def dctNearSpec : ChangeSpec := { name := "dctNear", fn := fun _ => fun
  | [d] => { results := [.lit (.bool true)], args := [d] }
  | _ => none }
def dctNearRow : OpenClaim := { program := "yteoahoepipnkfaadoor", sum := "3fd097e78bbe30666251acd15221977ab582b1131bd425800defa5fbcd169a5a", func := "clerestory/clerestorylaw09.DctNear", spec := "dctNear", recurses := true, named := ["clerestory/dct.basis"], apart := false, laid := [("clerestory/dct.basis", laid_clerestory_dct_basis)] }
def DctNearSaid : Prop := dctNearRow.holds Tryd.pinned (OpenSpec.ofChange dctNearSpec)

/-- ITS FALSE NEIGHBOUR: 'it returns false'. Refute it at one input. -/
def dctNearWrong : ChangeSpec := { name := "dctNear", fn := fun _ => fun
  | [d] => { results := [.lit (.bool false)], args := [d] }
  | _ => none }
def DctNearWrongFalsely : Prop := dctNearRow.holds Tryd.pinned (OpenSpec.ofChange dctNearWrong)

/-- 'clerestorylaw09.DctTurns': WHATEVER THE INPUT: true; the input reads as it did. -/
def dctTurnsSpec : ChangeSpec := { name := "dctTurns", fn := fun _ => fun
  | [d] => { results := [.lit (.bool true)], args := [d] }
  | _ => none }
def dctTurnsRow : OpenClaim := { program := "yteoahoepipnkfaadoor", sum := "3fd097e78bbe30666251acd15221977ab582b1131bd425800defa5fbcd169a5a", func := "clerestory/clerestorylaw09.DctTurns", spec := "dctTurns", recurses := true, named := ["clerestory/dct.basis"], apart := false, laid := [("clerestory/dct.basis", laid_clerestory_dct_basis)] }
def DctTurnsSaid : Prop := dctTurnsRow.holds Tryd.pinned (OpenSpec.ofChange dctTurnsSpec)

/-- ITS FALSE NEIGHBOUR: 'it returns false'. Refute it at one input. -/
def dctTurnsWrong : ChangeSpec := { name := "dctTurns", fn := fun _ => fun
  | [d] => { results := [.lit (.bool false)], args := [d] }
  | _ => none }
def DctTurnsWrongFalsely : Prop := dctTurnsRow.holds Tryd.pinned (OpenSpec.ofChange dctTurnsWrong)

/-- 'clerestorylaw09.DctFlat': WHATEVER THE INPUT: true; the input reads as it did. -/
def dctFlatSpec : ChangeSpec := { name := "dctFlat", fn := fun _ => fun
  | [d] => { results := [.lit (.bool true)], args := [d] }
  | _ => none }
def dctFlatRow : OpenClaim := { program := "yteoahoepipnkfaadoor", sum := "3fd097e78bbe30666251acd15221977ab582b1131bd425800defa5fbcd169a5a", func := "clerestory/clerestorylaw09.DctFlat", spec := "dctFlat", recurses := true, named := ["clerestory/dct.basis"], apart := false, laid := [("clerestory/dct.basis", laid_clerestory_dct_basis)] }
def DctFlatSaid : Prop := dctFlatRow.holds Tryd.pinned (OpenSpec.ofChange dctFlatSpec)

/-- ITS FALSE NEIGHBOUR: 'it returns false'. Refute it at one input. -/
def dctFlatWrong : ChangeSpec := { name := "dctFlat", fn := fun _ => fun
  | [d] => { results := [.lit (.bool false)], args := [d] }
  | _ => none }
def DctFlatWrongFalsely : Prop := dctFlatRow.holds Tryd.pinned (OpenSpec.ofChange dctFlatWrong)

/-- 'clerestorylaw09.DctTurned': WHATEVER THE INPUT: true; the input reads as it did. -/
def dctTurnedSpec : ChangeSpec := { name := "dctTurned", fn := fun _ => fun
  | [d] => { results := [.lit (.bool true)], args := [d] }
  | _ => none }
def dctTurnedRow : OpenClaim := { program := "yteoahoepipnkfaadoor", sum := "3fd097e78bbe30666251acd15221977ab582b1131bd425800defa5fbcd169a5a", func := "clerestory/clerestorylaw09.DctTurned", spec := "dctTurned", recurses := true, named := ["clerestory/dct.basis"], apart := false, laid := [("clerestory/dct.basis", laid_clerestory_dct_basis)] }
def DctTurnedSaid : Prop := dctTurnedRow.holds Tryd.pinned (OpenSpec.ofChange dctTurnedSpec)

/-- ITS FALSE NEIGHBOUR: 'it returns false'. Refute it at one input. -/
def dctTurnedWrong : ChangeSpec := { name := "dctTurned", fn := fun _ => fun
  | [d] => { results := [.lit (.bool false)], args := [d] }
  | _ => none }
def DctTurnedWrongFalsely : Prop := dctTurnedRow.holds Tryd.pinned (OpenSpec.ofChange dctTurnedWrong)

/- THE SECOND FORM. 'bulk': how many values and letters a reading holds, each counted each time it is reached (what is shared counts as often as it is met; a slice's spare places count too). A statement '..UptoSaid' is the law's where the arguments, and the package variables that the reading takes, are together of bulk at most 1048576: NARROWER than '..Said'. Prove '..Said' where nothing that the law and all that it calls make is longer than what came in: it says more and counts as full. Else prove '..UptoSaid'. A law counts once. -/
mutual
def uptoBulk {H : Type} : DataW H → Nat
  | .lit (.string bytes) => bytes.length + 1
  | .lit _ => 1
  | .nil => 1
  | .ptr d => uptoBulk d + 1
  | .slice elems spare => uptoBulkAll elems + uptoBulkAll spare + 1
  | .agg parts => uptoBulkAll parts + 1
  | .iface _ d => uptoBulk d + 1
  | .map entries => uptoBulkEntries entries + 1
  | .held _ => 1
def uptoBulkAll {H : Type} : List (DataW H) → Nat
  | [] => 0
  | d :: r => uptoBulk d + uptoBulkAll r
def uptoBulkEntries {H : Type} : List (Lit × DataW H) → Nat
  | [] => 0
  | x :: r => uptoBulkEntry x + uptoBulkEntries r
def uptoBulkEntry {H : Type} : Lit × DataW H → Nat
  | (.string bytes, d) => bytes.length + uptoBulk d + 1
  | (_, d) => uptoBulk d + 1
 end
def uptoSmall : (H : Type) → List (DataW H) → Bool := fun _ ds => decide (uptoBulkAll ds ≤ 1048576)
def OpenSpec.upto (s : _root_.Go.ChangeSpec) : _root_.Go.OpenSpec := { _root_.Go.OpenSpec.ofChange s with cond := some uptoSmall }

/-- 'clerestorylaw09.DctForward', WHERE WHAT IT READS IS OF BULK AT MOST 1048576: true; the input reads as it did. -/
def dctForwardUptoRow : OpenClaim := { program := "yteoahoepipnkfaadoor", sum := "3fd097e78bbe30666251acd15221977ab582b1131bd425800defa5fbcd169a5a", func := "clerestory/clerestorylaw09.DctForward", spec := "dctForward", recurses := true, named := ["clerestory/dct.basis"], apart := false, laid := [("clerestory/dct.basis", laid_clerestory_dct_basis)], narrowed := true }
def DctForwardUptoSaid : Prop := dctForwardUptoRow.holds Tryd.pinned (OpenSpec.upto dctForwardSpec)

/-- 'clerestorylaw09.DctInverse', WHERE WHAT IT READS IS OF BULK AT MOST 1048576: true; the input reads as it did. -/
def dctInverseUptoRow : OpenClaim := { program := "yteoahoepipnkfaadoor", sum := "3fd097e78bbe30666251acd15221977ab582b1131bd425800defa5fbcd169a5a", func := "clerestory/clerestorylaw09.DctInverse", spec := "dctInverse", recurses := true, named := ["clerestory/dct.basis"], apart := false, laid := [("clerestory/dct.basis", laid_clerestory_dct_basis)], narrowed := true }
def DctInverseUptoSaid : Prop := dctInverseUptoRow.holds Tryd.pinned (OpenSpec.upto dctInverseSpec)

/-- 'clerestorylaw09.DctNear', WHERE WHAT IT READS IS OF BULK AT MOST 1048576: true; the input reads as it did. -/
def dctNearUptoRow : OpenClaim := { program := "yteoahoepipnkfaadoor", sum := "3fd097e78bbe30666251acd15221977ab582b1131bd425800defa5fbcd169a5a", func := "clerestory/clerestorylaw09.DctNear", spec := "dctNear", recurses := true, named := ["clerestory/dct.basis"], apart := false, laid := [("clerestory/dct.basis", laid_clerestory_dct_basis)], narrowed := true }
def DctNearUptoSaid : Prop := dctNearUptoRow.holds Tryd.pinned (OpenSpec.upto dctNearSpec)

/-- 'clerestorylaw09.DctTurns', WHERE WHAT IT READS IS OF BULK AT MOST 1048576: true; the input reads as it did. -/
def dctTurnsUptoRow : OpenClaim := { program := "yteoahoepipnkfaadoor", sum := "3fd097e78bbe30666251acd15221977ab582b1131bd425800defa5fbcd169a5a", func := "clerestory/clerestorylaw09.DctTurns", spec := "dctTurns", recurses := true, named := ["clerestory/dct.basis"], apart := false, laid := [("clerestory/dct.basis", laid_clerestory_dct_basis)], narrowed := true }
def DctTurnsUptoSaid : Prop := dctTurnsUptoRow.holds Tryd.pinned (OpenSpec.upto dctTurnsSpec)

/-- 'clerestorylaw09.DctFlat', WHERE WHAT IT READS IS OF BULK AT MOST 1048576: true; the input reads as it did. -/
def dctFlatUptoRow : OpenClaim := { program := "yteoahoepipnkfaadoor", sum := "3fd097e78bbe30666251acd15221977ab582b1131bd425800defa5fbcd169a5a", func := "clerestory/clerestorylaw09.DctFlat", spec := "dctFlat", recurses := true, named := ["clerestory/dct.basis"], apart := false, laid := [("clerestory/dct.basis", laid_clerestory_dct_basis)], narrowed := true }
def DctFlatUptoSaid : Prop := dctFlatUptoRow.holds Tryd.pinned (OpenSpec.upto dctFlatSpec)

/-- 'clerestorylaw09.DctTurned', WHERE WHAT IT READS IS OF BULK AT MOST 1048576: true; the input reads as it did. -/
def dctTurnedUptoRow : OpenClaim := { program := "yteoahoepipnkfaadoor", sum := "3fd097e78bbe30666251acd15221977ab582b1131bd425800defa5fbcd169a5a", func := "clerestory/clerestorylaw09.DctTurned", spec := "dctTurned", recurses := true, named := ["clerestory/dct.basis"], apart := false, laid := [("clerestory/dct.basis", laid_clerestory_dct_basis)], narrowed := true }
def DctTurnedUptoSaid : Prop := dctTurnedUptoRow.holds Tryd.pinned (OpenSpec.upto dctTurnedSpec)

end Rows
end Go.Proofs.YteoahoepipnkfaaDoor
