/-
  NARROWER THAN 'FOR EVERY INPUT', by the rows' own cells (each row's printed sentence says how): HalfMerges: laid · HalfTold: laid · HalfNoughts: laid · HalfFlat: laid · HalfTurned: laid · HalfSigns: laid.
  DERIVED. THE GIVEN ROWS OF THIS SEAT. 6 by the template 'for every input the law returns true; each argument reads behind the call as it read before'; 0 by the template 'total and deterministic' (their statements: YtjkmbiieagmjkaaDoorTotals.lean).
  GIVEN WITH THE SEED: the statements are not yours to turn. If you find one false, say at which input.
  Laid BY PROGRAM, IN A SANDBOX (cutbox-rows.mjs): the forced cells as the released guide's own fill.sh prints them over the translation e38c05886bac2f7b… (all of the seat's roots in one cut). By AI agents, Wed Nov 11 2026. No macro, syntax, notation, axiom, sorry.
-/
import Derived.Test.YtjkmbiieagmjkaaDoorChecked
import GoSem.Claim
import GoSem.ClaimJoined
import GoSem.ClaimMapViews
import Derived.JoinedTies
import Derived.KernelRfl
namespace Go.Proofs.YtjkmbiieagmjkaaDoor
/- THE CELL 'sum', in the pinned program and in every row, IS THE sha256 OF THE DUMP (.gsa) THAT YtjkmbiieagmjkaaDoorProg.lean LOADS. Nothing in Lean hashes anything: it is a label: what it is worth is what the hold of that sum in a sandbox is worth. -/
noncomputable def Tryd.pinned : Pinned := { name := "ytjkmbiieagmjkaadoor", sum := "e38c05886bac2f7bcf6c2a4b04e7fadd0906c0f7d17f470eb637288a3f3c2140", checked := Tryd.checked }
namespace Rows
def none {H : Type} : Left H := { results := [], args := [] }

/- WHAT THE LISTED PACKAGE-LEVEL VARIABLES READ AS WHEN THE CALL BEGINS. Each datum BY PROGRAM (the guide's laid-datum.mjs) off the statement by which the dump's own 'gosem.cut.vars' lays the variable. In a bare row this is a premise. The card (YtjkmbiieagmjkaaDoorCards.lean) ties it to the program's text. -/
def laid_clerestory_half_halves {H : Type} : DataW H := .agg [.agg [.agg [.lit (.int .i64 2896), .lit (.int .i64 0), .lit (.int .i64 0), .lit (.int .i64 0)], .agg [.lit (.int .i64 2624), .lit (.int .i64 1204), .lit (.int .i64 (-216)), .lit (.int .i64 66)], .agg [.lit (.int .i64 0), .lit (.int .i64 2896), .lit (.int .i64 0), .lit (.int .i64 0)], .agg [.lit (.int .i64 (-922)), .lit (.int .i64 2291), .lit (.int .i64 1487), .lit (.int .i64 (-283))], .agg [.lit (.int .i64 0), .lit (.int .i64 0), .lit (.int .i64 2896), .lit (.int .i64 0)], .agg [.lit (.int .i64 616), .lit (.int .i64 (-1021)), .lit (.int .i64 2225), .lit (.int .i64 1420)], .agg [.lit (.int .i64 0), .lit (.int .i64 0), .lit (.int .i64 0), .lit (.int .i64 2896)], .agg [.lit (.int .i64 (-522)), .lit (.int .i64 805), .lit (.int .i64 (-1087)), .lit (.int .i64 2507)]], .agg [.agg [.lit (.int .i64 2896), .lit (.int .i64 0), .lit (.int .i64 0), .lit (.int .i64 0)], .agg [.lit (.int .i64 (-2624)), .lit (.int .i64 1204), .lit (.int .i64 216), .lit (.int .i64 66)], .agg [.lit (.int .i64 0), .lit (.int .i64 (-2896)), .lit (.int .i64 0), .lit (.int .i64 0)], .agg [.lit (.int .i64 922), .lit (.int .i64 2291), .lit (.int .i64 (-1487)), .lit (.int .i64 (-283))], .agg [.lit (.int .i64 0), .lit (.int .i64 0), .lit (.int .i64 2896), .lit (.int .i64 0)], .agg [.lit (.int .i64 (-616)), .lit (.int .i64 (-1021)), .lit (.int .i64 (-2225)), .lit (.int .i64 1420)], .agg [.lit (.int .i64 0), .lit (.int .i64 0), .lit (.int .i64 0), .lit (.int .i64 (-2896))], .agg [.lit (.int .i64 522), .lit (.int .i64 805), .lit (.int .i64 1087), .lit (.int .i64 2507)]]]

/-- 'clerestorylaw10.HalfMerges': WHATEVER THE INPUT: true; the input reads as it did. -/
def halfMergesSpec : ChangeSpec := { name := "halfMerges", fn := fun _ => fun
  | [d1, d2, d3, d4] => { results := [.lit (.bool true)], args := [d1, d2, d3, d4] }
  | _ => none }
def halfMergesRow : OpenClaim := { program := "ytjkmbiieagmjkaadoor", sum := "e38c05886bac2f7bcf6c2a4b04e7fadd0906c0f7d17f470eb637288a3f3c2140", func := "clerestory/clerestorylaw10.HalfMerges", spec := "halfMerges", unfollowed := true, recurses := true, named := ["clerestory/half.halves"], apart := false, laid := [("clerestory/half.halves", laid_clerestory_half_halves)] }
def HalfMergesSaid : Prop := halfMergesRow.holds Tryd.pinned (OpenSpec.ofChange halfMergesSpec)

/-- ITS FALSE NEIGHBOUR: 'it returns false'. Refute it at one input. -/
def halfMergesWrong : ChangeSpec := { name := "halfMerges", fn := fun _ => fun
  | [d1, d2, d3, d4] => { results := [.lit (.bool false)], args := [d1, d2, d3, d4] }
  | _ => none }
def HalfMergesWrongFalsely : Prop := halfMergesRow.holds Tryd.pinned (OpenSpec.ofChange halfMergesWrong)

/-- 'clerestorylaw10.HalfTold': WHATEVER THE INPUT: true; the input reads as it did. -/
def halfToldSpec : ChangeSpec := { name := "halfTold", fn := fun _ => fun
  | [d1, d2] => { results := [.lit (.bool true)], args := [d1, d2] }
  | _ => none }
def halfToldRow : OpenClaim := { program := "ytjkmbiieagmjkaadoor", sum := "e38c05886bac2f7bcf6c2a4b04e7fadd0906c0f7d17f470eb637288a3f3c2140", func := "clerestory/clerestorylaw10.HalfTold", spec := "halfTold", unfollowed := true, recurses := true, named := ["clerestory/half.halves"], apart := false, laid := [("clerestory/half.halves", laid_clerestory_half_halves)] }
def HalfToldSaid : Prop := halfToldRow.holds Tryd.pinned (OpenSpec.ofChange halfToldSpec)

/-- ITS FALSE NEIGHBOUR: 'it returns false'. Refute it at one input. -/
def halfToldWrong : ChangeSpec := { name := "halfTold", fn := fun _ => fun
  | [d1, d2] => { results := [.lit (.bool false)], args := [d1, d2] }
  | _ => none }
def HalfToldWrongFalsely : Prop := halfToldRow.holds Tryd.pinned (OpenSpec.ofChange halfToldWrong)

/-- 'clerestorylaw10.HalfNoughts': WHATEVER THE INPUT: true; the input reads as it did. -/
def halfNoughtsSpec : ChangeSpec := { name := "halfNoughts", fn := fun _ => fun
  | [d1, d2, d3] => { results := [.lit (.bool true)], args := [d1, d2, d3] }
  | _ => none }
def halfNoughtsRow : OpenClaim := { program := "ytjkmbiieagmjkaadoor", sum := "e38c05886bac2f7bcf6c2a4b04e7fadd0906c0f7d17f470eb637288a3f3c2140", func := "clerestory/clerestorylaw10.HalfNoughts", spec := "halfNoughts", unfollowed := true, recurses := true, named := ["clerestory/half.halves"], apart := false, laid := [("clerestory/half.halves", laid_clerestory_half_halves)] }
def HalfNoughtsSaid : Prop := halfNoughtsRow.holds Tryd.pinned (OpenSpec.ofChange halfNoughtsSpec)

/-- ITS FALSE NEIGHBOUR: 'it returns false'. Refute it at one input. -/
def halfNoughtsWrong : ChangeSpec := { name := "halfNoughts", fn := fun _ => fun
  | [d1, d2, d3] => { results := [.lit (.bool false)], args := [d1, d2, d3] }
  | _ => none }
def HalfNoughtsWrongFalsely : Prop := halfNoughtsRow.holds Tryd.pinned (OpenSpec.ofChange halfNoughtsWrong)

/-- 'clerestorylaw10.HalfFlat': WHATEVER THE INPUT: true; the input reads as it did. -/
def halfFlatSpec : ChangeSpec := { name := "halfFlat", fn := fun _ => fun
  | [d1, d2] => { results := [.lit (.bool true)], args := [d1, d2] }
  | _ => none }
def halfFlatRow : OpenClaim := { program := "ytjkmbiieagmjkaadoor", sum := "e38c05886bac2f7bcf6c2a4b04e7fadd0906c0f7d17f470eb637288a3f3c2140", func := "clerestory/clerestorylaw10.HalfFlat", spec := "halfFlat", unfollowed := true, recurses := true, named := ["clerestory/half.halves"], apart := false, laid := [("clerestory/half.halves", laid_clerestory_half_halves)] }
def HalfFlatSaid : Prop := halfFlatRow.holds Tryd.pinned (OpenSpec.ofChange halfFlatSpec)

/-- ITS FALSE NEIGHBOUR: 'it returns false'. Refute it at one input. -/
def halfFlatWrong : ChangeSpec := { name := "halfFlat", fn := fun _ => fun
  | [d1, d2] => { results := [.lit (.bool false)], args := [d1, d2] }
  | _ => none }
def HalfFlatWrongFalsely : Prop := halfFlatRow.holds Tryd.pinned (OpenSpec.ofChange halfFlatWrong)

/-- 'clerestorylaw10.HalfTurned': WHATEVER THE INPUT: true; the input reads as it did. -/
def halfTurnedSpec : ChangeSpec := { name := "halfTurned", fn := fun _ => fun
  | [d] => { results := [.lit (.bool true)], args := [d] }
  | _ => none }
def halfTurnedRow : OpenClaim := { program := "ytjkmbiieagmjkaadoor", sum := "e38c05886bac2f7bcf6c2a4b04e7fadd0906c0f7d17f470eb637288a3f3c2140", func := "clerestory/clerestorylaw10.HalfTurned", spec := "halfTurned", unfollowed := true, recurses := true, named := ["clerestory/half.halves"], apart := false, laid := [("clerestory/half.halves", laid_clerestory_half_halves)] }
def HalfTurnedSaid : Prop := halfTurnedRow.holds Tryd.pinned (OpenSpec.ofChange halfTurnedSpec)

/-- ITS FALSE NEIGHBOUR: 'it returns false'. Refute it at one input. -/
def halfTurnedWrong : ChangeSpec := { name := "halfTurned", fn := fun _ => fun
  | [d] => { results := [.lit (.bool false)], args := [d] }
  | _ => none }
def HalfTurnedWrongFalsely : Prop := halfTurnedRow.holds Tryd.pinned (OpenSpec.ofChange halfTurnedWrong)

/-- 'clerestorylaw10.HalfSigns': WHATEVER THE INPUT: true; the input reads as it did. -/
def halfSignsSpec : ChangeSpec := { name := "halfSigns", fn := fun _ => fun
  | [d] => { results := [.lit (.bool true)], args := [d] }
  | _ => none }
def halfSignsRow : OpenClaim := { program := "ytjkmbiieagmjkaadoor", sum := "e38c05886bac2f7bcf6c2a4b04e7fadd0906c0f7d17f470eb637288a3f3c2140", func := "clerestory/clerestorylaw10.HalfSigns", spec := "halfSigns", unfollowed := true, recurses := true, named := ["clerestory/half.halves"], apart := false, laid := [("clerestory/half.halves", laid_clerestory_half_halves)] }
def HalfSignsSaid : Prop := halfSignsRow.holds Tryd.pinned (OpenSpec.ofChange halfSignsSpec)

/-- ITS FALSE NEIGHBOUR: 'it returns false'. Refute it at one input. -/
def halfSignsWrong : ChangeSpec := { name := "halfSigns", fn := fun _ => fun
  | [d] => { results := [.lit (.bool false)], args := [d] }
  | _ => none }
def HalfSignsWrongFalsely : Prop := halfSignsRow.holds Tryd.pinned (OpenSpec.ofChange halfSignsWrong)

/- THE SECOND FORM. 'bulk': how many values and letters a reading holds, each counted each time it is reached (what is shared counts as often as it is met; a slice's spare places count too). A statement '..UptoSaid' is the law's where the arguments, and the package variables that the reading takes, are together of bulk at most 1048576: NARROWER than '..Said'. Prove '..Said' where nothing that the law and all that it calls make is longer than what came in: it says more and counts as full. Else prove '..UptoSaid'. A law counts once. -/
mutual
def uptoBulk {H : Type} : DataW H → Nat
  | .lit (.string bytes) => bytes.length + 1
  | .lit _ => 1
  | .nil => 1
  | .ptr d => uptoBulk d + 1
  | .slice elems spare => uptoBulkAll elems + uptoBulkAll spare + 1
  | .agg parts => uptoBulkAll parts + 1
  | .iface _ d => uptoBulk d + 1
  | .map entries => uptoBulkEntries entries + 1
  | .held _ => 1
def uptoBulkAll {H : Type} : List (DataW H) → Nat
  | [] => 0
  | d :: r => uptoBulk d + uptoBulkAll r
def uptoBulkEntries {H : Type} : List (Lit × DataW H) → Nat
  | [] => 0
  | x :: r => uptoBulkEntry x + uptoBulkEntries r
def uptoBulkEntry {H : Type} : Lit × DataW H → Nat
  | (.string bytes, d) => bytes.length + uptoBulk d + 1
  | (_, d) => uptoBulk d + 1
 end
def uptoSmall : (H : Type) → List (DataW H) → Bool := fun _ ds => decide (uptoBulkAll ds ≤ 1048576)
def OpenSpec.upto (s : _root_.Go.ChangeSpec) : _root_.Go.OpenSpec := { _root_.Go.OpenSpec.ofChange s with cond := some uptoSmall }

/-- 'clerestorylaw10.HalfMerges', WHERE WHAT IT READS IS OF BULK AT MOST 1048576: true; the input reads as it did. -/
def halfMergesUptoRow : OpenClaim := { program := "ytjkmbiieagmjkaadoor", sum := "e38c05886bac2f7bcf6c2a4b04e7fadd0906c0f7d17f470eb637288a3f3c2140", func := "clerestory/clerestorylaw10.HalfMerges", spec := "halfMerges", unfollowed := true, recurses := true, named := ["clerestory/half.halves"], apart := false, laid := [("clerestory/half.halves", laid_clerestory_half_halves)], narrowed := true }
def HalfMergesUptoSaid : Prop := halfMergesUptoRow.holds Tryd.pinned (OpenSpec.upto halfMergesSpec)

/-- 'clerestorylaw10.HalfTold', WHERE WHAT IT READS IS OF BULK AT MOST 1048576: true; the input reads as it did. -/
def halfToldUptoRow : OpenClaim := { program := "ytjkmbiieagmjkaadoor", sum := "e38c05886bac2f7bcf6c2a4b04e7fadd0906c0f7d17f470eb637288a3f3c2140", func := "clerestory/clerestorylaw10.HalfTold", spec := "halfTold", unfollowed := true, recurses := true, named := ["clerestory/half.halves"], apart := false, laid := [("clerestory/half.halves", laid_clerestory_half_halves)], narrowed := true }
def HalfToldUptoSaid : Prop := halfToldUptoRow.holds Tryd.pinned (OpenSpec.upto halfToldSpec)

/-- 'clerestorylaw10.HalfNoughts', WHERE WHAT IT READS IS OF BULK AT MOST 1048576: true; the input reads as it did. -/
def halfNoughtsUptoRow : OpenClaim := { program := "ytjkmbiieagmjkaadoor", sum := "e38c05886bac2f7bcf6c2a4b04e7fadd0906c0f7d17f470eb637288a3f3c2140", func := "clerestory/clerestorylaw10.HalfNoughts", spec := "halfNoughts", unfollowed := true, recurses := true, named := ["clerestory/half.halves"], apart := false, laid := [("clerestory/half.halves", laid_clerestory_half_halves)], narrowed := true }
def HalfNoughtsUptoSaid : Prop := halfNoughtsUptoRow.holds Tryd.pinned (OpenSpec.upto halfNoughtsSpec)

/-- 'clerestorylaw10.HalfFlat', WHERE WHAT IT READS IS OF BULK AT MOST 1048576: true; the input reads as it did. -/
def halfFlatUptoRow : OpenClaim := { program := "ytjkmbiieagmjkaadoor", sum := "e38c05886bac2f7bcf6c2a4b04e7fadd0906c0f7d17f470eb637288a3f3c2140", func := "clerestory/clerestorylaw10.HalfFlat", spec := "halfFlat", unfollowed := true, recurses := true, named := ["clerestory/half.halves"], apart := false, laid := [("clerestory/half.halves", laid_clerestory_half_halves)], narrowed := true }
def HalfFlatUptoSaid : Prop := halfFlatUptoRow.holds Tryd.pinned (OpenSpec.upto halfFlatSpec)

/-- 'clerestorylaw10.HalfTurned', WHERE WHAT IT READS IS OF BULK AT MOST 1048576: true; the input reads as it did. -/
def halfTurnedUptoRow : OpenClaim := { program := "ytjkmbiieagmjkaadoor", sum := "e38c05886bac2f7bcf6c2a4b04e7fadd0906c0f7d17f470eb637288a3f3c2140", func := "clerestory/clerestorylaw10.HalfTurned", spec := "halfTurned", unfollowed := true, recurses := true, named := ["clerestory/half.halves"], apart := false, laid := [("clerestory/half.halves", laid_clerestory_half_halves)], narrowed := true }
def HalfTurnedUptoSaid : Prop := halfTurnedUptoRow.holds Tryd.pinned (OpenSpec.upto halfTurnedSpec)

/-- 'clerestorylaw10.HalfSigns', WHERE WHAT IT READS IS OF BULK AT MOST 1048576: true; the input reads as it did. -/
def halfSignsUptoRow : OpenClaim := { program := "ytjkmbiieagmjkaadoor", sum := "e38c05886bac2f7bcf6c2a4b04e7fadd0906c0f7d17f470eb637288a3f3c2140", func := "clerestory/clerestorylaw10.HalfSigns", spec := "halfSigns", unfollowed := true, recurses := true, named := ["clerestory/half.halves"], apart := false, laid := [("clerestory/half.halves", laid_clerestory_half_halves)], narrowed := true }
def HalfSignsUptoSaid : Prop := halfSignsUptoRow.holds Tryd.pinned (OpenSpec.upto halfSignsSpec)

end Rows
end Go.Proofs.YtjkmbiieagmjkaaDoor
