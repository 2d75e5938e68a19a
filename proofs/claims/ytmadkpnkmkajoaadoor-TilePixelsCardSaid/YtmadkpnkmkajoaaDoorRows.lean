/-
  NARROWER THAN 'FOR EVERY INPUT', by the rows' own cells (each row's printed sentence says how): TileWords: laid · TilePixels: laid · TileReduces: laid · TileNoughts: laid · TileGreys: laid.
  DERIVED. THE GIVEN ROWS OF THIS SEAT. 5 by the template 'for every input the law returns true; each argument reads behind the call as it read before'; 0 by the template 'total and deterministic' (their statements: YtmadkpnkmkajoaaDoorTotals.lean).
  GIVEN WITH THE SEED: the statements are not yours to turn. If you find one false, say at which input.
  Laid BY PROGRAM, IN A SANDBOX (cutbox-rows.mjs): the forced cells as the released guide's own fill.sh prints them over the translation 8ac61b4c447118f9… (all of the seat's roots in one cut). By AI agents, Wed Nov 11 2026. No macro, syntax, notation, axiom, sorry.
-/
import Derived.Test.YtmadkpnkmkajoaaDoorChecked
import GoSem.Claim
import GoSem.ClaimJoined
import GoSem.ClaimMapViews
import Derived.JoinedTies
import Derived.KernelRfl
namespace Go.Proofs.YtmadkpnkmkajoaaDoor
/- THE CELL 'sum', in the pinned program and in every row, IS THE sha256 OF THE DUMP (.gsa) THAT YtmadkpnkmkajoaaDoorProg.lean LOADS. Nothing in Lean hashes anything: it is a label: what it is worth is what the hold of that sum in a sandbox is worth. -/
noncomputable def Tryd.pinned : Pinned := { name := "ytmadkpnkmkajoaadoor", sum := "8ac61b4c447118f93966c38800487ae08308c714b5e20f4cfea322b265ebee66", checked := Tryd.checked }
namespace Rows
def none {H : Type} : Left H := { results := [], args := [] }

/- WHAT THE LISTED PACKAGE-LEVEL VARIABLES READ AS WHEN THE CALL BEGINS. Each datum BY PROGRAM (the guide's laid-datum.mjs) off the statement by which the dump's own 'gosem.cut.vars' lays the variable. In a bare row this is a premise. The card (YtmadkpnkmkajoaaDoorCards.lean) ties it to the program's text. -/
def laid_clerestory_quant_brightSteps {H : Type} : DataW H := .agg [.lit (.int .i64 16), .lit (.int .i64 11), .lit (.int .i64 10), .lit (.int .i64 16), .lit (.int .i64 24), .lit (.int .i64 40), .lit (.int .i64 51), .lit (.int .i64 61), .lit (.int .i64 12), .lit (.int .i64 12), .lit (.int .i64 14), .lit (.int .i64 19), .lit (.int .i64 26), .lit (.int .i64 58), .lit (.int .i64 60), .lit (.int .i64 55), .lit (.int .i64 14), .lit (.int .i64 13), .lit (.int .i64 16), .lit (.int .i64 24), .lit (.int .i64 40), .lit (.int .i64 57), .lit (.int .i64 69), .lit (.int .i64 56), .lit (.int .i64 14), .lit (.int .i64 17), .lit (.int .i64 22), .lit (.int .i64 29), .lit (.int .i64 51), .lit (.int .i64 87), .lit (.int .i64 80), .lit (.int .i64 62), .lit (.int .i64 18), .lit (.int .i64 22), .lit (.int .i64 37), .lit (.int .i64 56), .lit (.int .i64 68), .lit (.int .i64 109), .lit (.int .i64 103), .lit (.int .i64 77), .lit (.int .i64 24), .lit (.int .i64 35), .lit (.int .i64 55), .lit (.int .i64 64), .lit (.int .i64 81), .lit (.int .i64 104), .lit (.int .i64 113), .lit (.int .i64 92), .lit (.int .i64 49), .lit (.int .i64 64), .lit (.int .i64 78), .lit (.int .i64 87), .lit (.int .i64 103), .lit (.int .i64 121), .lit (.int .i64 120), .lit (.int .i64 101), .lit (.int .i64 72), .lit (.int .i64 92), .lit (.int .i64 95), .lit (.int .i64 98), .lit (.int .i64 112), .lit (.int .i64 100), .lit (.int .i64 103), .lit (.int .i64 99)]
def laid_clerestory_quant_colourSteps {H : Type} : DataW H := .agg [.lit (.int .i64 17), .lit (.int .i64 18), .lit (.int .i64 24), .lit (.int .i64 47), .lit (.int .i64 99), .lit (.int .i64 99), .lit (.int .i64 99), .lit (.int .i64 99), .lit (.int .i64 18), .lit (.int .i64 21), .lit (.int .i64 26), .lit (.int .i64 66), .lit (.int .i64 99), .lit (.int .i64 99), .lit (.int .i64 99), .lit (.int .i64 99), .lit (.int .i64 24), .lit (.int .i64 26), .lit (.int .i64 56), .lit (.int .i64 99), .lit (.int .i64 99), .lit (.int .i64 99), .lit (.int .i64 99), .lit (.int .i64 99), .lit (.int .i64 47), .lit (.int .i64 66), .lit (.int .i64 99), .lit (.int .i64 99), .lit (.int .i64 99), .lit (.int .i64 99), .lit (.int .i64 99), .lit (.int .i64 99), .lit (.int .i64 99), .lit (.int .i64 99), .lit (.int .i64 99), .lit (.int .i64 99), .lit (.int .i64 99), .lit (.int .i64 99), .lit (.int .i64 99), .lit (.int .i64 99), .lit (.int .i64 99), .lit (.int .i64 99), .lit (.int .i64 99), .lit (.int .i64 99), .lit (.int .i64 99), .lit (.int .i64 99), .lit (.int .i64 99), .lit (.int .i64 99), .lit (.int .i64 99), .lit (.int .i64 99), .lit (.int .i64 99), .lit (.int .i64 99), .lit (.int .i64 99), .lit (.int .i64 99), .lit (.int .i64 99), .lit (.int .i64 99), .lit (.int .i64 99), .lit (.int .i64 99), .lit (.int .i64 99), .lit (.int .i64 99), .lit (.int .i64 99), .lit (.int .i64 99), .lit (.int .i64 99), .lit (.int .i64 99)]
def laid_clerestory_colour_toPixel {H : Type} : DataW H := .agg [.agg [.lit (.int .i64 0), .lit (.int .i64 0), .lit (.int .i64 91881)], .agg [.lit (.int .i64 0), .lit (.int .i64 (-22554)), .lit (.int .i64 (-46802))], .agg [.lit (.int .i64 0), .lit (.int .i64 116130), .lit (.int .i64 0)]]
def laid_clerestory_dct_basis {H : Type} : DataW H := .agg [.lit (.int .i64 2896), .lit (.int .i64 2896), .lit (.int .i64 2896), .lit (.int .i64 2896), .lit (.int .i64 2896), .lit (.int .i64 2896), .lit (.int .i64 2896), .lit (.int .i64 2896), .lit (.int .i64 4017), .lit (.int .i64 3406), .lit (.int .i64 2276), .lit (.int .i64 799), .lit (.int .i64 (-799)), .lit (.int .i64 (-2276)), .lit (.int .i64 (-3406)), .lit (.int .i64 (-4017)), .lit (.int .i64 3784), .lit (.int .i64 1567), .lit (.int .i64 (-1567)), .lit (.int .i64 (-3784)), .lit (.int .i64 (-3784)), .lit (.int .i64 (-1567)), .lit (.int .i64 1567), .lit (.int .i64 3784), .lit (.int .i64 3406), .lit (.int .i64 (-799)), .lit (.int .i64 (-4017)), .lit (.int .i64 (-2276)), .lit (.int .i64 2276), .lit (.int .i64 4017), .lit (.int .i64 799), .lit (.int .i64 (-3406)), .lit (.int .i64 2896), .lit (.int .i64 (-2896)), .lit (.int .i64 (-2896)), .lit (.int .i64 2896), .lit (.int .i64 2896), .lit (.int .i64 (-2896)), .lit (.int .i64 (-2896)), .lit (.int .i64 2896), .lit (.int .i64 2276), .lit (.int .i64 (-4017)), .lit (.int .i64 799), .lit (.int .i64 3406), .lit (.int .i64 (-3406)), .lit (.int .i64 (-799)), .lit (.int .i64 4017), .lit (.int .i64 (-2276)), .lit (.int .i64 1567), .lit (.int .i64 (-3784)), .lit (.int .i64 3784), .lit (.int .i64 (-1567)), .lit (.int .i64 (-1567)), .lit (.int .i64 3784), .lit (.int .i64 (-3784)), .lit (.int .i64 1567), .lit (.int .i64 799), .lit (.int .i64 (-2276)), .lit (.int .i64 3406), .lit (.int .i64 (-4017)), .lit (.int .i64 4017), .lit (.int .i64 (-3406)), .lit (.int .i64 2276), .lit (.int .i64 (-799))]
def laid_clerestory_half_halves {H : Type} : DataW H := .agg [.agg [.agg [.lit (.int .i64 2896), .lit (.int .i64 0), .lit (.int .i64 0), .lit (.int .i64 0)], .agg [.lit (.int .i64 2624), .lit (.int .i64 1204), .lit (.int .i64 (-216)), .lit (.int .i64 66)], .agg [.lit (.int .i64 0), .lit (.int .i64 2896), .lit (.int .i64 0), .lit (.int .i64 0)], .agg [.lit (.int .i64 (-922)), .lit (.int .i64 2291), .lit (.int .i64 1487), .lit (.int .i64 (-283))], .agg [.lit (.int .i64 0), .lit (.int .i64 0), .lit (.int .i64 2896), .lit (.int .i64 0)], .agg [.lit (.int .i64 616), .lit (.int .i64 (-1021)), .lit (.int .i64 2225), .lit (.int .i64 1420)], .agg [.lit (.int .i64 0), .lit (.int .i64 0), .lit (.int .i64 0), .lit (.int .i64 2896)], .agg [.lit (.int .i64 (-522)), .lit (.int .i64 805), .lit (.int .i64 (-1087)), .lit (.int .i64 2507)]], .agg [.agg [.lit (.int .i64 2896), .lit (.int .i64 0), .lit (.int .i64 0), .lit (.int .i64 0)], .agg [.lit (.int .i64 (-2624)), .lit (.int .i64 1204), .lit (.int .i64 216), .lit (.int .i64 66)], .agg [.lit (.int .i64 0), .lit (.int .i64 (-2896)), .lit (.int .i64 0), .lit (.int .i64 0)], .agg [.lit (.int .i64 922), .lit (.int .i64 2291), .lit (.int .i64 (-1487)), .lit (.int .i64 (-283))], .agg [.lit (.int .i64 0), .lit (.int .i64 0), .lit (.int .i64 2896), .lit (.int .i64 0)], .agg [.lit (.int .i64 (-616)), .lit (.int .i64 (-1021)), .lit (.int .i64 (-2225)), .lit (.int .i64 1420)], .agg [.lit (.int .i64 0), .lit (.int .i64 0), .lit (.int .i64 0), .lit (.int .i64 (-2896))], .agg [.lit (.int .i64 522), .lit (.int .i64 805), .lit (.int .i64 1087), .lit (.int .i64 2507)]]]
def laid_clerestory_colour_toTone {H : Type} : DataW H := .agg [.agg [.lit (.int .i64 19595), .lit (.int .i64 38470), .lit (.int .i64 7471)], .agg [.lit (.int .i64 (-11059)), .lit (.int .i64 (-21709)), .lit (.int .i64 32768)], .agg [.lit (.int .i64 32768), .lit (.int .i64 (-27439)), .lit (.int .i64 (-5329))]]

/-- 'clerestorylaw15.TileWords': WHATEVER THE INPUT: true; the input reads as it did. -/
def tileWordsSpec : ChangeSpec := { name := "tileWords", fn := fun _ => fun
  | [d] => { results := [.lit (.bool true)], args := [d] }
  | _ => none }
def tileWordsRow : OpenClaim := { program := "ytmadkpnkmkajoaadoor", sum := "8ac61b4c447118f93966c38800487ae08308c714b5e20f4cfea322b265ebee66", func := "clerestory/clerestorylaw15.TileWords", spec := "tileWords", unfollowed := true, recurses := true, named := ["clerestory/quant.brightSteps", "clerestory/quant.colourSteps", "clerestory/dct.basis", "clerestory/colour.toPixel"], apart := false, laid := [("clerestory/quant.brightSteps", laid_clerestory_quant_brightSteps), ("clerestory/quant.colourSteps", laid_clerestory_quant_colourSteps), ("clerestory/colour.toPixel", laid_clerestory_colour_toPixel), ("clerestory/dct.basis", laid_clerestory_dct_basis)] }
def TileWordsSaid : Prop := tileWordsRow.holds Tryd.pinned (OpenSpec.ofChange tileWordsSpec)

/-- ITS FALSE NEIGHBOUR: 'it returns false'. Refute it at one input. -/
def tileWordsWrong : ChangeSpec := { name := "tileWords", fn := fun _ => fun
  | [d] => { results := [.lit (.bool false)], args := [d] }
  | _ => none }
def TileWordsWrongFalsely : Prop := tileWordsRow.holds Tryd.pinned (OpenSpec.ofChange tileWordsWrong)

/-- 'clerestorylaw15.TilePixels': WHATEVER THE INPUT: true; the input reads as it did. -/
def tilePixelsSpec : ChangeSpec := { name := "tilePixels", fn := fun _ => fun
  | [d1, d2] => { results := [.lit (.bool true)], args := [d1, d2] }
  | _ => none }
def tilePixelsRow : OpenClaim := { program := "ytmadkpnkmkajoaadoor", sum := "8ac61b4c447118f93966c38800487ae08308c714b5e20f4cfea322b265ebee66", func := "clerestory/clerestorylaw15.TilePixels", spec := "tilePixels", unfollowed := true, recurses := true, named := ["clerestory/quant.brightSteps", "clerestory/quant.colourSteps", "clerestory/dct.basis", "clerestory/colour.toPixel"], apart := false, laid := [("clerestory/quant.brightSteps", laid_clerestory_quant_brightSteps), ("clerestory/quant.colourSteps", laid_clerestory_quant_colourSteps), ("clerestory/colour.toPixel", laid_clerestory_colour_toPixel), ("clerestory/dct.basis", laid_clerestory_dct_basis)] }
def TilePixelsSaid : Prop := tilePixelsRow.holds Tryd.pinned (OpenSpec.ofChange tilePixelsSpec)

/-- ITS FALSE NEIGHBOUR: 'it returns false'. Refute it at one input. -/
def tilePixelsWrong : ChangeSpec := { name := "tilePixels", fn := fun _ => fun
  | [d1, d2] => { results := [.lit (.bool false)], args := [d1, d2] }
  | _ => none }
def TilePixelsWrongFalsely : Prop := tilePixelsRow.holds Tryd.pinned (OpenSpec.ofChange tilePixelsWrong)

/-- 'clerestorylaw15.TileReduces': WHATEVER THE INPUT: true; the input reads as it did. -/
def tileReducesSpec : ChangeSpec := { name := "tileReduces", fn := fun _ => fun
  | [d1, d2] => { results := [.lit (.bool true)], args := [d1, d2] }
  | _ => none }
def tileReducesRow : OpenClaim := { program := "ytmadkpnkmkajoaadoor", sum := "8ac61b4c447118f93966c38800487ae08308c714b5e20f4cfea322b265ebee66", func := "clerestory/clerestorylaw15.TileReduces", spec := "tileReduces", unfollowed := true, recurses := true, named := ["clerestory/quant.brightSteps", "clerestory/quant.colourSteps", "clerestory/dct.basis", "clerestory/colour.toPixel", "clerestory/half.halves"], apart := false, laid := [("clerestory/quant.brightSteps", laid_clerestory_quant_brightSteps), ("clerestory/quant.colourSteps", laid_clerestory_quant_colourSteps), ("clerestory/colour.toPixel", laid_clerestory_colour_toPixel), ("clerestory/dct.basis", laid_clerestory_dct_basis), ("clerestory/half.halves", laid_clerestory_half_halves)] }
def TileReducesSaid : Prop := tileReducesRow.holds Tryd.pinned (OpenSpec.ofChange tileReducesSpec)

/-- ITS FALSE NEIGHBOUR: 'it returns false'. Refute it at one input. -/
def tileReducesWrong : ChangeSpec := { name := "tileReduces", fn := fun _ => fun
  | [d1, d2] => { results := [.lit (.bool false)], args := [d1, d2] }
  | _ => none }
def TileReducesWrongFalsely : Prop := tileReducesRow.holds Tryd.pinned (OpenSpec.ofChange tileReducesWrong)

/-- 'clerestorylaw15.TileNoughts': WHATEVER THE INPUT: true; the input reads as it did. -/
def tileNoughtsSpec : ChangeSpec := { name := "tileNoughts", fn := fun _ => fun
  | [d] => { results := [.lit (.bool true)], args := [d] }
  | _ => none }
def tileNoughtsRow : OpenClaim := { program := "ytmadkpnkmkajoaadoor", sum := "8ac61b4c447118f93966c38800487ae08308c714b5e20f4cfea322b265ebee66", func := "clerestory/clerestorylaw15.TileNoughts", spec := "tileNoughts", unfollowed := true, recurses := true, named := ["clerestory/quant.brightSteps", "clerestory/quant.colourSteps", "clerestory/half.halves", "clerestory/dct.basis", "clerestory/colour.toPixel"], apart := false, laid := [("clerestory/quant.brightSteps", laid_clerestory_quant_brightSteps), ("clerestory/quant.colourSteps", laid_clerestory_quant_colourSteps), ("clerestory/colour.toPixel", laid_clerestory_colour_toPixel), ("clerestory/dct.basis", laid_clerestory_dct_basis), ("clerestory/half.halves", laid_clerestory_half_halves)] }
def TileNoughtsSaid : Prop := tileNoughtsRow.holds Tryd.pinned (OpenSpec.ofChange tileNoughtsSpec)

/-- ITS FALSE NEIGHBOUR: 'it returns false'. Refute it at one input. -/
def tileNoughtsWrong : ChangeSpec := { name := "tileNoughts", fn := fun _ => fun
  | [d] => { results := [.lit (.bool false)], args := [d] }
  | _ => none }
def TileNoughtsWrongFalsely : Prop := tileNoughtsRow.holds Tryd.pinned (OpenSpec.ofChange tileNoughtsWrong)

/-- 'clerestorylaw15.TileGreys': WHATEVER THE INPUT: true; the input reads as it did. -/
def tileGreysSpec : ChangeSpec := { name := "tileGreys", fn := fun _ => fun
  | [d1, d2] => { results := [.lit (.bool true)], args := [d1, d2] }
  | _ => none }
def tileGreysRow : OpenClaim := { program := "ytmadkpnkmkajoaadoor", sum := "8ac61b4c447118f93966c38800487ae08308c714b5e20f4cfea322b265ebee66", func := "clerestory/clerestorylaw15.TileGreys", spec := "tileGreys", unfollowed := true, recurses := true, named := ["clerestory/quant.brightSteps", "clerestory/quant.colourSteps", "clerestory/dct.basis", "clerestory/colour.toPixel", "clerestory/colour.toTone"], apart := false, laid := [("clerestory/quant.brightSteps", laid_clerestory_quant_brightSteps), ("clerestory/quant.colourSteps", laid_clerestory_quant_colourSteps), ("clerestory/colour.toTone", laid_clerestory_colour_toTone), ("clerestory/colour.toPixel", laid_clerestory_colour_toPixel), ("clerestory/dct.basis", laid_clerestory_dct_basis)] }
def TileGreysSaid : Prop := tileGreysRow.holds Tryd.pinned (OpenSpec.ofChange tileGreysSpec)

/-- ITS FALSE NEIGHBOUR: 'it returns false'. Refute it at one input. -/
def tileGreysWrong : ChangeSpec := { name := "tileGreys", fn := fun _ => fun
  | [d1, d2] => { results := [.lit (.bool false)], args := [d1, d2] }
  | _ => none }
def TileGreysWrongFalsely : Prop := tileGreysRow.holds Tryd.pinned (OpenSpec.ofChange tileGreysWrong)

/- THE SECOND FORM. 'bulk': how many values and letters a reading holds, each counted each time it is reached (what is shared counts as often as it is met; a slice's spare places count too). A statement '..UptoSaid' is the law's where the arguments, and the package variables that the reading takes, are together of bulk at most 1048576: NARROWER than '..Said'. Prove '..Said' where nothing that the law and all that it calls make is longer than what came in: it says more and counts as full. Else prove '..UptoSaid'. A law counts once. -/
mutual
def uptoBulk {H : Type} : DataW H → Nat
  | .lit (.string bytes) => bytes.length + 1
  | .lit _ => 1
  | .nil => 1
  | .ptr d => uptoBulk d + 1
  | .slice elems spare => uptoBulkAll elems + uptoBulkAll spare + 1
  | .agg parts => uptoBulkAll parts + 1
  | .iface _ d => uptoBulk d + 1
  | .map entries => uptoBulkEntries entries + 1
  | .held _ => 1
def uptoBulkAll {H : Type} : List (DataW H) → Nat
  | [] => 0
  | d :: r => uptoBulk d + uptoBulkAll r
def uptoBulkEntries {H : Type} : List (Lit × DataW H) → Nat
  | [] => 0
  | x :: r => uptoBulkEntry x + uptoBulkEntries r
def uptoBulkEntry {H : Type} : Lit × DataW H → Nat
  | (.string bytes, d) => bytes.length + uptoBulk d + 1
  | (_, d) => uptoBulk d + 1
 end
def uptoSmall : (H : Type) → List (DataW H) → Bool := fun _ ds => decide (uptoBulkAll ds ≤ 1048576)
def OpenSpec.upto (s : _root_.Go.ChangeSpec) : _root_.Go.OpenSpec := { _root_.Go.OpenSpec.ofChange s with cond := some uptoSmall }

/-- 'clerestorylaw15.TileWords', WHERE WHAT IT READS IS OF BULK AT MOST 1048576: true; the input reads as it did. -/
def tileWordsUptoRow : OpenClaim := { program := "ytmadkpnkmkajoaadoor", sum := "8ac61b4c447118f93966c38800487ae08308c714b5e20f4cfea322b265ebee66", func := "clerestory/clerestorylaw15.TileWords", spec := "tileWords", unfollowed := true, recurses := true, named := ["clerestory/quant.brightSteps", "clerestory/quant.colourSteps", "clerestory/dct.basis", "clerestory/colour.toPixel"], apart := false, laid := [("clerestory/quant.brightSteps", laid_clerestory_quant_brightSteps), ("clerestory/quant.colourSteps", laid_clerestory_quant_colourSteps), ("clerestory/colour.toPixel", laid_clerestory_colour_toPixel), ("clerestory/dct.basis", laid_clerestory_dct_basis)], narrowed := true }
def TileWordsUptoSaid : Prop := tileWordsUptoRow.holds Tryd.pinned (OpenSpec.upto tileWordsSpec)

/-- 'clerestorylaw15.TilePixels', WHERE WHAT IT READS IS OF BULK AT MOST 1048576: true; the input reads as it did. -/
def tilePixelsUptoRow : OpenClaim := { program := "ytmadkpnkmkajoaadoor", sum := "8ac61b4c447118f93966c38800487ae08308c714b5e20f4cfea322b265ebee66", func := "clerestory/clerestorylaw15.TilePixels", spec := "tilePixels", unfollowed := true, recurses := true, named := ["clerestory/quant.brightSteps", "clerestory/quant.colourSteps", "clerestory/dct.basis", "clerestory/colour.toPixel"], apart := false, laid := [("clerestory/quant.brightSteps", laid_clerestory_quant_brightSteps), ("clerestory/quant.colourSteps", laid_clerestory_quant_colourSteps), ("clerestory/colour.toPixel", laid_clerestory_colour_toPixel), ("clerestory/dct.basis", laid_clerestory_dct_basis)], narrowed := true }
def TilePixelsUptoSaid : Prop := tilePixelsUptoRow.holds Tryd.pinned (OpenSpec.upto tilePixelsSpec)

/-- 'clerestorylaw15.TileReduces', WHERE WHAT IT READS IS OF BULK AT MOST 1048576: true; the input reads as it did. -/
def tileReducesUptoRow : OpenClaim := { program := "ytmadkpnkmkajoaadoor", sum := "8ac61b4c447118f93966c38800487ae08308c714b5e20f4cfea322b265ebee66", func := "clerestory/clerestorylaw15.TileReduces", spec := "tileReduces", unfollowed := true, recurses := true, named := ["clerestory/quant.brightSteps", "clerestory/quant.colourSteps", "clerestory/dct.basis", "clerestory/colour.toPixel", "clerestory/half.halves"], apart := false, laid := [("clerestory/quant.brightSteps", laid_clerestory_quant_brightSteps), ("clerestory/quant.colourSteps", laid_clerestory_quant_colourSteps), ("clerestory/colour.toPixel", laid_clerestory_colour_toPixel), ("clerestory/dct.basis", laid_clerestory_dct_basis), ("clerestory/half.halves", laid_clerestory_half_halves)], narrowed := true }
def TileReducesUptoSaid : Prop := tileReducesUptoRow.holds Tryd.pinned (OpenSpec.upto tileReducesSpec)

/-- 'clerestorylaw15.TileNoughts', WHERE WHAT IT READS IS OF BULK AT MOST 1048576: true; the input reads as it did. -/
def tileNoughtsUptoRow : OpenClaim := { program := "ytmadkpnkmkajoaadoor", sum := "8ac61b4c447118f93966c38800487ae08308c714b5e20f4cfea322b265ebee66", func := "clerestory/clerestorylaw15.TileNoughts", spec := "tileNoughts", unfollowed := true, recurses := true, named := ["clerestory/quant.brightSteps", "clerestory/quant.colourSteps", "clerestory/half.halves", "clerestory/dct.basis", "clerestory/colour.toPixel"], apart := false, laid := [("clerestory/quant.brightSteps", laid_clerestory_quant_brightSteps), ("clerestory/quant.colourSteps", laid_clerestory_quant_colourSteps), ("clerestory/colour.toPixel", laid_clerestory_colour_toPixel), ("clerestory/dct.basis", laid_clerestory_dct_basis), ("clerestory/half.halves", laid_clerestory_half_halves)], narrowed := true }
def TileNoughtsUptoSaid : Prop := tileNoughtsUptoRow.holds Tryd.pinned (OpenSpec.upto tileNoughtsSpec)

/-- 'clerestorylaw15.TileGreys', WHERE WHAT IT READS IS OF BULK AT MOST 1048576: true; the input reads as it did. -/
def tileGreysUptoRow : OpenClaim := { program := "ytmadkpnkmkajoaadoor", sum := "8ac61b4c447118f93966c38800487ae08308c714b5e20f4cfea322b265ebee66", func := "clerestory/clerestorylaw15.TileGreys", spec := "tileGreys", unfollowed := true, recurses := true, named := ["clerestory/quant.brightSteps", "clerestory/quant.colourSteps", "clerestory/dct.basis", "clerestory/colour.toPixel", "clerestory/colour.toTone"], apart := false, laid := [("clerestory/quant.brightSteps", laid_clerestory_quant_brightSteps), ("clerestory/quant.colourSteps", laid_clerestory_quant_colourSteps), ("clerestory/colour.toTone", laid_clerestory_colour_toTone), ("clerestory/colour.toPixel", laid_clerestory_colour_toPixel), ("clerestory/dct.basis", laid_clerestory_dct_basis)], narrowed := true }
def TileGreysUptoSaid : Prop := tileGreysUptoRow.holds Tryd.pinned (OpenSpec.upto tileGreysSpec)

end Rows
end Go.Proofs.YtmadkpnkmkajoaaDoor
