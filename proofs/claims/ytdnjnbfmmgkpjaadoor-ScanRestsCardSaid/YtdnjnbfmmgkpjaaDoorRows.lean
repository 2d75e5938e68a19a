/-
  NARROWER THAN 'FOR EVERY INPUT', by the rows' own cells (each row's printed sentence says how): ScanPuts: laid · ScanBack: laid · ScanRests: laid · ScanSteps: laid.
  DERIVED. THE GIVEN ROWS OF THIS SEAT. 4 by the template 'for every input the law returns true; each argument reads behind the call as it read before'; 0 by the template 'total and deterministic' (their statements: YtdnjnbfmmgkpjaaDoorTotals.lean).
  GIVEN WITH THE SEED: the statements are not yours to turn. If you find one false, say at which input.
  Laid BY PROGRAM, IN A SANDBOX (cutbox-rows.mjs): the forced cells as the released guide's own fill.sh prints them over the translation 2232defb5fb8e714… (all of the seat's roots in one cut). By AI agents, Wed Nov 11 2026. No macro, syntax, notation, axiom, sorry.
-/
import Derived.Test.YtdnjnbfmmgkpjaaDoorChecked
import GoSem.Claim
import GoSem.ClaimJoined
import GoSem.ClaimMapViews
import Derived.JoinedTies
import Derived.KernelRfl
namespace Go.Proofs.YtdnjnbfmmgkpjaaDoor
/- THE CELL 'sum', in the pinned program and in every row, IS THE sha256 OF THE DUMP (.gsa) THAT YtdnjnbfmmgkpjaaDoorProg.lean LOADS. Nothing in Lean hashes anything: it is a label: what it is worth is what the hold of that sum in a sandbox is worth. -/
noncomputable def Tryd.pinned : Pinned := { name := "ytdnjnbfmmgkpjaadoor", sum := "2232defb5fb8e71483c0f1bc3615ec21dcb8913d3dcdc68de8dd4107e27f06df", checked := Tryd.checked }
namespace Rows
def none {H : Type} : Left H := { results := [], args := [] }

/- WHAT THE LISTED PACKAGE-LEVEL VARIABLES READ AS WHEN THE CALL BEGINS. Each datum BY PROGRAM (the guide's laid-datum.mjs) off the statement by which the dump's own 'gosem.cut.vars' lays the variable. In a bare row this is a premise. The card (YtdnjnbfmmgkpjaaDoorCards.lean) ties it to the program's text. -/
def laid_clerestory_coef_zigzag {H : Type} : DataW H := .agg [.lit (.int .i64 0), .lit (.int .i64 1), .lit (.int .i64 8), .lit (.int .i64 16), .lit (.int .i64 9), .lit (.int .i64 2), .lit (.int .i64 3), .lit (.int .i64 10), .lit (.int .i64 17), .lit (.int .i64 24), .lit (.int .i64 32), .lit (.int .i64 25), .lit (.int .i64 18), .lit (.int .i64 11), .lit (.int .i64 4), .lit (.int .i64 5), .lit (.int .i64 12), .lit (.int .i64 19), .lit (.int .i64 26), .lit (.int .i64 33), .lit (.int .i64 40), .lit (.int .i64 48), .lit (.int .i64 41), .lit (.int .i64 34), .lit (.int .i64 27), .lit (.int .i64 20), .lit (.int .i64 13), .lit (.int .i64 6), .lit (.int .i64 7), .lit (.int .i64 14), .lit (.int .i64 21), .lit (.int .i64 28), .lit (.int .i64 35), .lit (.int .i64 42), .lit (.int .i64 49), .lit (.int .i64 56), .lit (.int .i64 57), .lit (.int .i64 50), .lit (.int .i64 43), .lit (.int .i64 36), .lit (.int .i64 29), .lit (.int .i64 22), .lit (.int .i64 15), .lit (.int .i64 23), .lit (.int .i64 30), .lit (.int .i64 37), .lit (.int .i64 44), .lit (.int .i64 51), .lit (.int .i64 58), .lit (.int .i64 59), .lit (.int .i64 52), .lit (.int .i64 45), .lit (.int .i64 38), .lit (.int .i64 31), .lit (.int .i64 39), .lit (.int .i64 46), .lit (.int .i64 53), .lit (.int .i64 60), .lit (.int .i64 61), .lit (.int .i64 54), .lit (.int .i64 47), .lit (.int .i64 55), .lit (.int .i64 62), .lit (.int .i64 63)]

/-- 'clerestorylaw14.ScanPuts': WHATEVER THE INPUT: true; the input reads as it did. -/
def scanPutsSpec : ChangeSpec := { name := "scanPuts", fn := fun _ => fun
  | [d1, d2, d3] => { results := [.lit (.bool true)], args := [d1, d2, d3] }
  | _ => none }
def scanPutsRow : OpenClaim := { program := "ytdnjnbfmmgkpjaadoor", sum := "2232defb5fb8e71483c0f1bc3615ec21dcb8913d3dcdc68de8dd4107e27f06df", func := "clerestory/clerestorylaw14.ScanPuts", spec := "scanPuts", unfollowed := true, recurses := true, named := ["clerestory/coef.zigzag"], plainKeys := false, apart := false, laid := [("clerestory/coef.zigzag", laid_clerestory_coef_zigzag)] }
def ScanPutsSaid : Prop := scanPutsRow.holds Tryd.pinned (OpenSpec.ofChange scanPutsSpec)

/-- ITS FALSE NEIGHBOUR: 'it returns false'. Refute it at one input. -/
def scanPutsWrong : ChangeSpec := { name := "scanPuts", fn := fun _ => fun
  | [d1, d2, d3] => { results := [.lit (.bool false)], args := [d1, d2, d3] }
  | _ => none }
def ScanPutsWrongFalsely : Prop := scanPutsRow.holds Tryd.pinned (OpenSpec.ofChange scanPutsWrong)

/-- 'clerestorylaw14.ScanBack': WHATEVER THE INPUT: true; the input reads as it did. -/
def scanBackSpec : ChangeSpec := { name := "scanBack", fn := fun _ => fun
  | [d1, d2, d3, d4] => { results := [.lit (.bool true)], args := [d1, d2, d3, d4] }
  | _ => none }
def scanBackRow : OpenClaim := { program := "ytdnjnbfmmgkpjaadoor", sum := "2232defb5fb8e71483c0f1bc3615ec21dcb8913d3dcdc68de8dd4107e27f06df", func := "clerestory/clerestorylaw14.ScanBack", spec := "scanBack", unfollowed := true, recurses := true, named := ["clerestory/coef.zigzag"], plainKeys := false, apart := false, laid := [("clerestory/coef.zigzag", laid_clerestory_coef_zigzag)] }
def ScanBackSaid : Prop := scanBackRow.holds Tryd.pinned (OpenSpec.ofChange scanBackSpec)

/-- ITS FALSE NEIGHBOUR: 'it returns false'. Refute it at one input. -/
def scanBackWrong : ChangeSpec := { name := "scanBack", fn := fun _ => fun
  | [d1, d2, d3, d4] => { results := [.lit (.bool false)], args := [d1, d2, d3, d4] }
  | _ => none }
def ScanBackWrongFalsely : Prop := scanBackRow.holds Tryd.pinned (OpenSpec.ofChange scanBackWrong)

/-- 'clerestorylaw14.ScanRests': WHATEVER THE INPUT: true; the input reads as it did. -/
def scanRestsSpec : ChangeSpec := { name := "scanRests", fn := fun _ => fun
  | [d1, d2, d3] => { results := [.lit (.bool true)], args := [d1, d2, d3] }
  | _ => none }
def scanRestsRow : OpenClaim := { program := "ytdnjnbfmmgkpjaadoor", sum := "2232defb5fb8e71483c0f1bc3615ec21dcb8913d3dcdc68de8dd4107e27f06df", func := "clerestory/clerestorylaw14.ScanRests", spec := "scanRests", unfollowed := true, recurses := true, named := ["clerestory/coef.zigzag"], plainKeys := false, apart := false, laid := [("clerestory/coef.zigzag", laid_clerestory_coef_zigzag)] }
def ScanRestsSaid : Prop := scanRestsRow.holds Tryd.pinned (OpenSpec.ofChange scanRestsSpec)

/-- ITS FALSE NEIGHBOUR: 'it returns false'. Refute it at one input. -/
def scanRestsWrong : ChangeSpec := { name := "scanRests", fn := fun _ => fun
  | [d1, d2, d3] => { results := [.lit (.bool false)], args := [d1, d2, d3] }
  | _ => none }
def ScanRestsWrongFalsely : Prop := scanRestsRow.holds Tryd.pinned (OpenSpec.ofChange scanRestsWrong)

/-- 'clerestorylaw14.ScanSteps': WHATEVER THE INPUT: true; the input reads as it did. -/
def scanStepsSpec : ChangeSpec := { name := "scanSteps", fn := fun _ => fun
  | [d1, d2, d3, d4] => { results := [.lit (.bool true)], args := [d1, d2, d3, d4] }
  | _ => none }
def scanStepsRow : OpenClaim := { program := "ytdnjnbfmmgkpjaadoor", sum := "2232defb5fb8e71483c0f1bc3615ec21dcb8913d3dcdc68de8dd4107e27f06df", func := "clerestory/clerestorylaw14.ScanSteps", spec := "scanSteps", unfollowed := true, recurses := true, named := ["clerestory/coef.zigzag"], plainKeys := false, apart := false, laid := [("clerestory/coef.zigzag", laid_clerestory_coef_zigzag)] }
def ScanStepsSaid : Prop := scanStepsRow.holds Tryd.pinned (OpenSpec.ofChange scanStepsSpec)

/-- ITS FALSE NEIGHBOUR: 'it returns false'. Refute it at one input. -/
def scanStepsWrong : ChangeSpec := { name := "scanSteps", fn := fun _ => fun
  | [d1, d2, d3, d4] => { results := [.lit (.bool false)], args := [d1, d2, d3, d4] }
  | _ => none }
def ScanStepsWrongFalsely : Prop := scanStepsRow.holds Tryd.pinned (OpenSpec.ofChange scanStepsWrong)

/- THE SECOND FORM. 'bulk': how many values and letters a reading holds, each counted each time it is reached (what is shared counts as often as it is met; a slice's spare places count too). A statement '..UptoSaid' is the law's where the arguments, and the package variables that the reading takes, are together of bulk at most 1048576: NARROWER than '..Said'. Prove '..Said' where nothing that the law and all that it calls make is longer than what came in: it says more and counts as full. Else prove '..UptoSaid'. A law counts once. -/
mutual
def uptoBulk {H : Type} : DataW H → Nat
  | .lit (.string bytes) => bytes.length + 1
  | .lit _ => 1
  | .nil => 1
  | .ptr d => uptoBulk d + 1
  | .slice elems spare => uptoBulkAll elems + uptoBulkAll spare + 1
  | .agg parts => uptoBulkAll parts + 1
  | .iface _ d => uptoBulk d + 1
  | .map entries => uptoBulkEntries entries + 1
  | .held _ => 1
def uptoBulkAll {H : Type} : List (DataW H) → Nat
  | [] => 0
  | d :: r => uptoBulk d + uptoBulkAll r
def uptoBulkEntries {H : Type} : List (Lit × DataW H) → Nat
  | [] => 0
  | x :: r => uptoBulkEntry x + uptoBulkEntries r
def uptoBulkEntry {H : Type} : Lit × DataW H → Nat
  | (.string bytes, d) => bytes.length + uptoBulk d + 1
  | (_, d) => uptoBulk d + 1
 end
def uptoSmall : (H : Type) → List (DataW H) → Bool := fun _ ds => decide (uptoBulkAll ds ≤ 1048576)
def OpenSpec.upto (s : _root_.Go.ChangeSpec) : _root_.Go.OpenSpec := { _root_.Go.OpenSpec.ofChange s with cond := some uptoSmall }

/-- 'clerestorylaw14.ScanPuts', WHERE WHAT IT READS IS OF BULK AT MOST 1048576: true; the input reads as it did. -/
def scanPutsUptoRow : OpenClaim := { program := "ytdnjnbfmmgkpjaadoor", sum := "2232defb5fb8e71483c0f1bc3615ec21dcb8913d3dcdc68de8dd4107e27f06df", func := "clerestory/clerestorylaw14.ScanPuts", spec := "scanPuts", unfollowed := true, recurses := true, named := ["clerestory/coef.zigzag"], plainKeys := false, apart := false, laid := [("clerestory/coef.zigzag", laid_clerestory_coef_zigzag)], narrowed := true }
def ScanPutsUptoSaid : Prop := scanPutsUptoRow.holds Tryd.pinned (OpenSpec.upto scanPutsSpec)

/-- 'clerestorylaw14.ScanBack', WHERE WHAT IT READS IS OF BULK AT MOST 1048576: true; the input reads as it did. -/
def scanBackUptoRow : OpenClaim := { program := "ytdnjnbfmmgkpjaadoor", sum := "2232defb5fb8e71483c0f1bc3615ec21dcb8913d3dcdc68de8dd4107e27f06df", func := "clerestory/clerestorylaw14.ScanBack", spec := "scanBack", unfollowed := true, recurses := true, named := ["clerestory/coef.zigzag"], plainKeys := false, apart := false, laid := [("clerestory/coef.zigzag", laid_clerestory_coef_zigzag)], narrowed := true }
def ScanBackUptoSaid : Prop := scanBackUptoRow.holds Tryd.pinned (OpenSpec.upto scanBackSpec)

/-- 'clerestorylaw14.ScanRests', WHERE WHAT IT READS IS OF BULK AT MOST 1048576: true; the input reads as it did. -/
def scanRestsUptoRow : OpenClaim := { program := "ytdnjnbfmmgkpjaadoor", sum := "2232defb5fb8e71483c0f1bc3615ec21dcb8913d3dcdc68de8dd4107e27f06df", func := "clerestory/clerestorylaw14.ScanRests", spec := "scanRests", unfollowed := true, recurses := true, named := ["clerestory/coef.zigzag"], plainKeys := false, apart := false, laid := [("clerestory/coef.zigzag", laid_clerestory_coef_zigzag)], narrowed := true }
def ScanRestsUptoSaid : Prop := scanRestsUptoRow.holds Tryd.pinned (OpenSpec.upto scanRestsSpec)

/-- 'clerestorylaw14.ScanSteps', WHERE WHAT IT READS IS OF BULK AT MOST 1048576: true; the input reads as it did. -/
def scanStepsUptoRow : OpenClaim := { program := "ytdnjnbfmmgkpjaadoor", sum := "2232defb5fb8e71483c0f1bc3615ec21dcb8913d3dcdc68de8dd4107e27f06df", func := "clerestory/clerestorylaw14.ScanSteps", spec := "scanSteps", unfollowed := true, recurses := true, named := ["clerestory/coef.zigzag"], plainKeys := false, apart := false, laid := [("clerestory/coef.zigzag", laid_clerestory_coef_zigzag)], narrowed := true }
def ScanStepsUptoSaid : Prop := scanStepsUptoRow.holds Tryd.pinned (OpenSpec.upto scanStepsSpec)

end Rows
end Go.Proofs.YtdnjnbfmmgkpjaaDoor
