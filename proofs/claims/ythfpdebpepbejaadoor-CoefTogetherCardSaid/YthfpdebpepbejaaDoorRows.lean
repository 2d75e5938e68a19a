/-
  NARROWER THAN 'FOR EVERY INPUT', by the rows' own cells (each row's printed sentence says how): CoefWords: laid · CoefTallies: laid · CoefPuts: laid · CoefGets: laid · CoefBack: laid · CoefTogether: laid · CoefSizes: laid.
  DERIVED. THE GIVEN ROWS OF THIS SEAT. 7 by the template 'for every input the law returns true; each argument reads behind the call as it read before'; 0 by the template 'total and deterministic' (their statements: YthfpdebpepbejaaDoorTotals.lean).
  GIVEN WITH THE SEED: the statements are not yours to turn. If you find one false, say at which input.
  Laid BY PROGRAM, IN A SANDBOX (cutbox-rows.mjs): the forced cells as the released guide's own fill.sh prints them over the translation d3979cc296eea182… (all of the seat's roots in one cut). By AI agents, Wed Nov 11 2026. No macro, syntax, notation, axiom, sorry.
-/
import Derived.Test.YthfpdebpepbejaaDoorChecked
import GoSem.Claim
import GoSem.ClaimJoined
import GoSem.ClaimMapViews
import Derived.JoinedTies
import Derived.KernelRfl
namespace Go.Proofs.YthfpdebpepbejaaDoor
/- THE CELL 'sum', in the pinned program and in every row, IS THE sha256 OF THE DUMP (.gsa) THAT YthfpdebpepbejaaDoorProg.lean LOADS. Nothing in Lean hashes anything: it is a label: what it is worth is what the hold of that sum in a sandbox is worth. -/
noncomputable def Tryd.pinned : Pinned := { name := "ythfpdebpepbejaadoor", sum := "d3979cc296eea182f0b9e3d690c2a7b1423596bc79eb69a923c2ce5a49580333", checked := Tryd.checked }
namespace Rows
def none {H : Type} : Left H := { results := [], args := [] }

/- WHAT THE LISTED PACKAGE-LEVEL VARIABLES READ AS WHEN THE CALL BEGINS. Each datum BY PROGRAM (the guide's laid-datum.mjs) off the statement by which the dump's own 'gosem.cut.vars' lays the variable. In a bare row this is a premise. The card (YthfpdebpepbejaaDoorCards.lean) ties it to the program's text. -/
def laid_clerestory_coef_zigzag {H : Type} : DataW H := .agg [.lit (.int .i64 0), .lit (.int .i64 1), .lit (.int .i64 8), .lit (.int .i64 16), .lit (.int .i64 9), .lit (.int .i64 2), .lit (.int .i64 3), .lit (.int .i64 10), .lit (.int .i64 17), .lit (.int .i64 24), .lit (.int .i64 32), .lit (.int .i64 25), .lit (.int .i64 18), .lit (.int .i64 11), .lit (.int .i64 4), .lit (.int .i64 5), .lit (.int .i64 12), .lit (.int .i64 19), .lit (.int .i64 26), .lit (.int .i64 33), .lit (.int .i64 40), .lit (.int .i64 48), .lit (.int .i64 41), .lit (.int .i64 34), .lit (.int .i64 27), .lit (.int .i64 20), .lit (.int .i64 13), .lit (.int .i64 6), .lit (.int .i64 7), .lit (.int .i64 14), .lit (.int .i64 21), .lit (.int .i64 28), .lit (.int .i64 35), .lit (.int .i64 42), .lit (.int .i64 49), .lit (.int .i64 56), .lit (.int .i64 57), .lit (.int .i64 50), .lit (.int .i64 43), .lit (.int .i64 36), .lit (.int .i64 29), .lit (.int .i64 22), .lit (.int .i64 15), .lit (.int .i64 23), .lit (.int .i64 30), .lit (.int .i64 37), .lit (.int .i64 44), .lit (.int .i64 51), .lit (.int .i64 58), .lit (.int .i64 59), .lit (.int .i64 52), .lit (.int .i64 45), .lit (.int .i64 38), .lit (.int .i64 31), .lit (.int .i64 39), .lit (.int .i64 46), .lit (.int .i64 53), .lit (.int .i64 60), .lit (.int .i64 61), .lit (.int .i64 54), .lit (.int .i64 47), .lit (.int .i64 55), .lit (.int .i64 62), .lit (.int .i64 63)]

/-- 'clerestorylaw07.CoefWords': WHATEVER THE INPUT: true; the input reads as it did. -/
def coefWordsSpec : ChangeSpec := { name := "coefWords", fn := fun _ => fun
  | [d1, d2] => { results := [.lit (.bool true)], args := [d1, d2] }
  | _ => none }
def coefWordsRow : OpenClaim := { program := "ythfpdebpepbejaadoor", sum := "d3979cc296eea182f0b9e3d690c2a7b1423596bc79eb69a923c2ce5a49580333", func := "clerestory/clerestorylaw07.CoefWords", spec := "coefWords", unfollowed := true, recurses := true, named := ["clerestory/coef.zigzag"], plainKeys := false, apart := false, laid := [("clerestory/coef.zigzag", laid_clerestory_coef_zigzag)] }
def CoefWordsSaid : Prop := coefWordsRow.holds Tryd.pinned (OpenSpec.ofChange coefWordsSpec)

/-- ITS FALSE NEIGHBOUR: 'it returns false'. Refute it at one input. -/
def coefWordsWrong : ChangeSpec := { name := "coefWords", fn := fun _ => fun
  | [d1, d2] => { results := [.lit (.bool false)], args := [d1, d2] }
  | _ => none }
def CoefWordsWrongFalsely : Prop := coefWordsRow.holds Tryd.pinned (OpenSpec.ofChange coefWordsWrong)

/-- 'clerestorylaw07.CoefTallies': WHATEVER THE INPUT: true; the input reads as it did. -/
def coefTalliesSpec : ChangeSpec := { name := "coefTallies", fn := fun _ => fun
  | [d1, d2, d3, d4] => { results := [.lit (.bool true)], args := [d1, d2, d3, d4] }
  | _ => none }
def coefTalliesRow : OpenClaim := { program := "ythfpdebpepbejaadoor", sum := "d3979cc296eea182f0b9e3d690c2a7b1423596bc79eb69a923c2ce5a49580333", func := "clerestory/clerestorylaw07.CoefTallies", spec := "coefTallies", unfollowed := true, recurses := true, named := ["clerestory/coef.zigzag"], plainKeys := false, apart := false, laid := [("clerestory/coef.zigzag", laid_clerestory_coef_zigzag)] }
def CoefTalliesSaid : Prop := coefTalliesRow.holds Tryd.pinned (OpenSpec.ofChange coefTalliesSpec)

/-- ITS FALSE NEIGHBOUR: 'it returns false'. Refute it at one input. -/
def coefTalliesWrong : ChangeSpec := { name := "coefTallies", fn := fun _ => fun
  | [d1, d2, d3, d4] => { results := [.lit (.bool false)], args := [d1, d2, d3, d4] }
  | _ => none }
def CoefTalliesWrongFalsely : Prop := coefTalliesRow.holds Tryd.pinned (OpenSpec.ofChange coefTalliesWrong)

/-- 'clerestorylaw07.CoefPuts': WHATEVER THE INPUT: true; the input reads as it did. -/
def coefPutsSpec : ChangeSpec := { name := "coefPuts", fn := fun _ => fun
  | [d1, d2, d3, d4] => { results := [.lit (.bool true)], args := [d1, d2, d3, d4] }
  | _ => none }
def coefPutsRow : OpenClaim := { program := "ythfpdebpepbejaadoor", sum := "d3979cc296eea182f0b9e3d690c2a7b1423596bc79eb69a923c2ce5a49580333", func := "clerestory/clerestorylaw07.CoefPuts", spec := "coefPuts", unfollowed := true, recurses := true, named := ["clerestory/coef.zigzag"], plainKeys := false, apart := false, laid := [("clerestory/coef.zigzag", laid_clerestory_coef_zigzag)] }
def CoefPutsSaid : Prop := coefPutsRow.holds Tryd.pinned (OpenSpec.ofChange coefPutsSpec)

/-- ITS FALSE NEIGHBOUR: 'it returns false'. Refute it at one input. -/
def coefPutsWrong : ChangeSpec := { name := "coefPuts", fn := fun _ => fun
  | [d1, d2, d3, d4] => { results := [.lit (.bool false)], args := [d1, d2, d3, d4] }
  | _ => none }
def CoefPutsWrongFalsely : Prop := coefPutsRow.holds Tryd.pinned (OpenSpec.ofChange coefPutsWrong)

/-- 'clerestorylaw07.CoefGets': WHATEVER THE INPUT: true; the input reads as it did. -/
def coefGetsSpec : ChangeSpec := { name := "coefGets", fn := fun _ => fun
  | [d1, d2, d3, d4] => { results := [.lit (.bool true)], args := [d1, d2, d3, d4] }
  | _ => none }
def coefGetsRow : OpenClaim := { program := "ythfpdebpepbejaadoor", sum := "d3979cc296eea182f0b9e3d690c2a7b1423596bc79eb69a923c2ce5a49580333", func := "clerestory/clerestorylaw07.CoefGets", spec := "coefGets", unfollowed := true, recurses := true, named := ["clerestory/coef.zigzag"], plainKeys := false, apart := false, laid := [("clerestory/coef.zigzag", laid_clerestory_coef_zigzag)] }
def CoefGetsSaid : Prop := coefGetsRow.holds Tryd.pinned (OpenSpec.ofChange coefGetsSpec)

/-- ITS FALSE NEIGHBOUR: 'it returns false'. Refute it at one input. -/
def coefGetsWrong : ChangeSpec := { name := "coefGets", fn := fun _ => fun
  | [d1, d2, d3, d4] => { results := [.lit (.bool false)], args := [d1, d2, d3, d4] }
  | _ => none }
def CoefGetsWrongFalsely : Prop := coefGetsRow.holds Tryd.pinned (OpenSpec.ofChange coefGetsWrong)

/-- 'clerestorylaw07.CoefBack': WHATEVER THE INPUT: true; the input reads as it did. -/
def coefBackSpec : ChangeSpec := { name := "coefBack", fn := fun _ => fun
  | [d1, d2, d3, d4] => { results := [.lit (.bool true)], args := [d1, d2, d3, d4] }
  | _ => none }
def coefBackRow : OpenClaim := { program := "ythfpdebpepbejaadoor", sum := "d3979cc296eea182f0b9e3d690c2a7b1423596bc79eb69a923c2ce5a49580333", func := "clerestory/clerestorylaw07.CoefBack", spec := "coefBack", unfollowed := true, recurses := true, named := ["clerestory/coef.zigzag"], plainKeys := false, apart := false, laid := [("clerestory/coef.zigzag", laid_clerestory_coef_zigzag)] }
def CoefBackSaid : Prop := coefBackRow.holds Tryd.pinned (OpenSpec.ofChange coefBackSpec)

/-- ITS FALSE NEIGHBOUR: 'it returns false'. Refute it at one input. -/
def coefBackWrong : ChangeSpec := { name := "coefBack", fn := fun _ => fun
  | [d1, d2, d3, d4] => { results := [.lit (.bool false)], args := [d1, d2, d3, d4] }
  | _ => none }
def CoefBackWrongFalsely : Prop := coefBackRow.holds Tryd.pinned (OpenSpec.ofChange coefBackWrong)

/-- 'clerestorylaw07.CoefTogether': WHATEVER THE INPUT: true; the input reads as it did. -/
def coefTogetherSpec : ChangeSpec := { name := "coefTogether", fn := fun _ => fun
  | [d1, d2, d3] => { results := [.lit (.bool true)], args := [d1, d2, d3] }
  | _ => none }
def coefTogetherRow : OpenClaim := { program := "ythfpdebpepbejaadoor", sum := "d3979cc296eea182f0b9e3d690c2a7b1423596bc79eb69a923c2ce5a49580333", func := "clerestory/clerestorylaw07.CoefTogether", spec := "coefTogether", unfollowed := true, recurses := true, named := ["clerestory/coef.zigzag"], plainKeys := false, apart := false, laid := [("clerestory/coef.zigzag", laid_clerestory_coef_zigzag)] }
def CoefTogetherSaid : Prop := coefTogetherRow.holds Tryd.pinned (OpenSpec.ofChange coefTogetherSpec)

/-- ITS FALSE NEIGHBOUR: 'it returns false'. Refute it at one input. -/
def coefTogetherWrong : ChangeSpec := { name := "coefTogether", fn := fun _ => fun
  | [d1, d2, d3] => { results := [.lit (.bool false)], args := [d1, d2, d3] }
  | _ => none }
def CoefTogetherWrongFalsely : Prop := coefTogetherRow.holds Tryd.pinned (OpenSpec.ofChange coefTogetherWrong)

/-- 'clerestorylaw07.CoefSizes': WHATEVER THE INPUT: true; the input reads as it did. -/
def coefSizesSpec : ChangeSpec := { name := "coefSizes", fn := fun _ => fun
  | [d1, d2] => { results := [.lit (.bool true)], args := [d1, d2] }
  | _ => none }
def coefSizesRow : OpenClaim := { program := "ythfpdebpepbejaadoor", sum := "d3979cc296eea182f0b9e3d690c2a7b1423596bc79eb69a923c2ce5a49580333", func := "clerestory/clerestorylaw07.CoefSizes", spec := "coefSizes", unfollowed := true, recurses := true, named := ["clerestory/coef.zigzag"], plainKeys := false, apart := false, laid := [("clerestory/coef.zigzag", laid_clerestory_coef_zigzag)] }
def CoefSizesSaid : Prop := coefSizesRow.holds Tryd.pinned (OpenSpec.ofChange coefSizesSpec)

/-- ITS FALSE NEIGHBOUR: 'it returns false'. Refute it at one input. -/
def coefSizesWrong : ChangeSpec := { name := "coefSizes", fn := fun _ => fun
  | [d1, d2] => { results := [.lit (.bool false)], args := [d1, d2] }
  | _ => none }
def CoefSizesWrongFalsely : Prop := coefSizesRow.holds Tryd.pinned (OpenSpec.ofChange coefSizesWrong)

/- THE SECOND FORM. 'bulk': how many values and letters a reading holds, each counted each time it is reached (what is shared counts as often as it is met; a slice's spare places count too). A statement '..UptoSaid' is the law's where the arguments, and the package variables that the reading takes, are together of bulk at most 1048576: NARROWER than '..Said'. Prove '..Said' where nothing that the law and all that it calls make is longer than what came in: it says more and counts as full. Else prove '..UptoSaid'. A law counts once. -/
mutual
def uptoBulk {H : Type} : DataW H → Nat
  | .lit (.string bytes) => bytes.length + 1
  | .lit _ => 1
  | .nil => 1
  | .ptr d => uptoBulk d + 1
  | .slice elems spare => uptoBulkAll elems + uptoBulkAll spare + 1
  | .agg parts => uptoBulkAll parts + 1
  | .iface _ d => uptoBulk d + 1
  | .map entries => uptoBulkEntries entries + 1
  | .held _ => 1
def uptoBulkAll {H : Type} : List (DataW H) → Nat
  | [] => 0
  | d :: r => uptoBulk d + uptoBulkAll r
def uptoBulkEntries {H : Type} : List (Lit × DataW H) → Nat
  | [] => 0
  | x :: r => uptoBulkEntry x + uptoBulkEntries r
def uptoBulkEntry {H : Type} : Lit × DataW H → Nat
  | (.string bytes, d) => bytes.length + uptoBulk d + 1
  | (_, d) => uptoBulk d + 1
 end
def uptoSmall : (H : Type) → List (DataW H) → Bool := fun _ ds => decide (uptoBulkAll ds ≤ 1048576)
def OpenSpec.upto (s : _root_.Go.ChangeSpec) : _root_.Go.OpenSpec := { _root_.Go.OpenSpec.ofChange s with cond := some uptoSmall }

/-- 'clerestorylaw07.CoefWords', WHERE WHAT IT READS IS OF BULK AT MOST 1048576: true; the input reads as it did. -/
def coefWordsUptoRow : OpenClaim := { program := "ythfpdebpepbejaadoor", sum := "d3979cc296eea182f0b9e3d690c2a7b1423596bc79eb69a923c2ce5a49580333", func := "clerestory/clerestorylaw07.CoefWords", spec := "coefWords", unfollowed := true, recurses := true, named := ["clerestory/coef.zigzag"], plainKeys := false, apart := false, laid := [("clerestory/coef.zigzag", laid_clerestory_coef_zigzag)], narrowed := true }
def CoefWordsUptoSaid : Prop := coefWordsUptoRow.holds Tryd.pinned (OpenSpec.upto coefWordsSpec)

/-- 'clerestorylaw07.CoefTallies', WHERE WHAT IT READS IS OF BULK AT MOST 1048576: true; the input reads as it did. -/
def coefTalliesUptoRow : OpenClaim := { program := "ythfpdebpepbejaadoor", sum := "d3979cc296eea182f0b9e3d690c2a7b1423596bc79eb69a923c2ce5a49580333", func := "clerestory/clerestorylaw07.CoefTallies", spec := "coefTallies", unfollowed := true, recurses := true, named := ["clerestory/coef.zigzag"], plainKeys := false, apart := false, laid := [("clerestory/coef.zigzag", laid_clerestory_coef_zigzag)], narrowed := true }
def CoefTalliesUptoSaid : Prop := coefTalliesUptoRow.holds Tryd.pinned (OpenSpec.upto coefTalliesSpec)

/-- 'clerestorylaw07.CoefPuts', WHERE WHAT IT READS IS OF BULK AT MOST 1048576: true; the input reads as it did. -/
def coefPutsUptoRow : OpenClaim := { program := "ythfpdebpepbejaadoor", sum := "d3979cc296eea182f0b9e3d690c2a7b1423596bc79eb69a923c2ce5a49580333", func := "clerestory/clerestorylaw07.CoefPuts", spec := "coefPuts", unfollowed := true, recurses := true, named := ["clerestory/coef.zigzag"], plainKeys := false, apart := false, laid := [("clerestory/coef.zigzag", laid_clerestory_coef_zigzag)], narrowed := true }
def CoefPutsUptoSaid : Prop := coefPutsUptoRow.holds Tryd.pinned (OpenSpec.upto coefPutsSpec)

/-- 'clerestorylaw07.CoefGets', WHERE WHAT IT READS IS OF BULK AT MOST 1048576: true; the input reads as it did. -/
def coefGetsUptoRow : OpenClaim := { program := "ythfpdebpepbejaadoor", sum := "d3979cc296eea182f0b9e3d690c2a7b1423596bc79eb69a923c2ce5a49580333", func := "clerestory/clerestorylaw07.CoefGets", spec := "coefGets", unfollowed := true, recurses := true, named := ["clerestory/coef.zigzag"], plainKeys := false, apart := false, laid := [("clerestory/coef.zigzag", laid_clerestory_coef_zigzag)], narrowed := true }
def CoefGetsUptoSaid : Prop := coefGetsUptoRow.holds Tryd.pinned (OpenSpec.upto coefGetsSpec)

/-- 'clerestorylaw07.CoefBack', WHERE WHAT IT READS IS OF BULK AT MOST 1048576: true; the input reads as it did. -/
def coefBackUptoRow : OpenClaim := { program := "ythfpdebpepbejaadoor", sum := "d3979cc296eea182f0b9e3d690c2a7b1423596bc79eb69a923c2ce5a49580333", func := "clerestory/clerestorylaw07.CoefBack", spec := "coefBack", unfollowed := true, recurses := true, named := ["clerestory/coef.zigzag"], plainKeys := false, apart := false, laid := [("clerestory/coef.zigzag", laid_clerestory_coef_zigzag)], narrowed := true }
def CoefBackUptoSaid : Prop := coefBackUptoRow.holds Tryd.pinned (OpenSpec.upto coefBackSpec)

/-- 'clerestorylaw07.CoefTogether', WHERE WHAT IT READS IS OF BULK AT MOST 1048576: true; the input reads as it did. -/
def coefTogetherUptoRow : OpenClaim := { program := "ythfpdebpepbejaadoor", sum := "d3979cc296eea182f0b9e3d690c2a7b1423596bc79eb69a923c2ce5a49580333", func := "clerestory/clerestorylaw07.CoefTogether", spec := "coefTogether", unfollowed := true, recurses := true, named := ["clerestory/coef.zigzag"], plainKeys := false, apart := false, laid := [("clerestory/coef.zigzag", laid_clerestory_coef_zigzag)], narrowed := true }
def CoefTogetherUptoSaid : Prop := coefTogetherUptoRow.holds Tryd.pinned (OpenSpec.upto coefTogetherSpec)

/-- 'clerestorylaw07.CoefSizes', WHERE WHAT IT READS IS OF BULK AT MOST 1048576: true; the input reads as it did. -/
def coefSizesUptoRow : OpenClaim := { program := "ythfpdebpepbejaadoor", sum := "d3979cc296eea182f0b9e3d690c2a7b1423596bc79eb69a923c2ce5a49580333", func := "clerestory/clerestorylaw07.CoefSizes", spec := "coefSizes", unfollowed := true, recurses := true, named := ["clerestory/coef.zigzag"], plainKeys := false, apart := false, laid := [("clerestory/coef.zigzag", laid_clerestory_coef_zigzag)], narrowed := true }
def CoefSizesUptoSaid : Prop := coefSizesUptoRow.holds Tryd.pinned (OpenSpec.upto coefSizesSpec)

end Rows
end Go.Proofs.YthfpdebpepbejaaDoor
