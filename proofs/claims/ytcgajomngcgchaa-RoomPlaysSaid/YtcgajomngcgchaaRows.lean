/-
  No cell of these rows narrows 'for every input' (looked for: loops, veiled, ifaces, maps, wideKeys, modest, calm, conditions, laid).
  DERIVED. THE GIVEN ROWS OF THIS SEAT. 7 by the template 'for every input the law returns true; each argument reads behind the call as it read before'; 0 by the template 'total and deterministic' (their statements: YtcgajomngcgchaaTotals.lean).
  GIVEN WITH THE SEED: the statements are not yours to turn. If you find one false, say at which input.
  Laid BY PROGRAM, IN A SANDBOX (cutbox-rows.mjs): the forced cells as the released guide's own fill.sh prints them over the translation dba18bc2dfca6a1e… (all of the seat's roots in one cut). By AI agents, Wed Nov 11 2026. No macro, syntax, notation, axiom, sorry.
-/
import Derived.Test.YtcgajomngcgchaaChecked
import GoSem.Claim
import GoSem.ClaimJoined
import GoSem.ClaimMapViews
import Derived.JoinedTies
import Derived.KernelRfl
namespace Go.Proofs.Ytcgajomngcgchaa
/- THE CELL 'sum', in the pinned program and in every row, IS THE sha256 OF THE DUMP (.gsa) THAT YtcgajomngcgchaaProg.lean LOADS. Nothing in Lean hashes anything: it is a label: what it is worth is what the hold of that sum in a sandbox is worth. -/
noncomputable def Try.pinned : Pinned := { name := "ytcgajomngcgchaa", sum := "dba18bc2dfca6a1e40a1a5ded7ce34bd28582162756856fe14ee8416292c5d31", checked := Try.checked }
namespace Rows
def none {H : Type} : Left H := { results := [], args := [] }

/-- 'clerestorylaw17.RoomFree': WHATEVER THE INPUT: true; the input reads as it did. -/
def roomFreeSpec : ChangeSpec := { name := "roomFree", fn := fun _ => fun
  | [d1, d2, d3] => { results := [.lit (.bool true)], args := [d1, d2, d3] }
  | _ => none }
def roomFreeRow : OpenClaim := { program := "ytcgajomngcgchaa", sum := "dba18bc2dfca6a1e40a1a5ded7ce34bd28582162756856fe14ee8416292c5d31", func := "clerestory/clerestorylaw17.RoomFree", spec := "roomFree", unfollowed := true, recurses := true, apart := false }
def RoomFreeSaid : Prop := roomFreeRow.holds Try.pinned (OpenSpec.ofChange roomFreeSpec)

/-- ITS FALSE NEIGHBOUR: 'it returns false'. Refute it at one input. -/
def roomFreeWrong : ChangeSpec := { name := "roomFree", fn := fun _ => fun
  | [d1, d2, d3] => { results := [.lit (.bool false)], args := [d1, d2, d3] }
  | _ => none }
def RoomFreeWrongFalsely : Prop := roomFreeRow.holds Try.pinned (OpenSpec.ofChange roomFreeWrong)

/-- 'clerestorylaw17.RoomPlays': WHATEVER THE INPUT: true; the input reads as it did. -/
def roomPlaysSpec : ChangeSpec := { name := "roomPlays", fn := fun _ => fun
  | [d1, d2, d3] => { results := [.lit (.bool true)], args := [d1, d2, d3] }
  | _ => none }
def roomPlaysRow : OpenClaim := { program := "ytcgajomngcgchaa", sum := "dba18bc2dfca6a1e40a1a5ded7ce34bd28582162756856fe14ee8416292c5d31", func := "clerestory/clerestorylaw17.RoomPlays", spec := "roomPlays", unfollowed := true, recurses := true, apart := false }
def RoomPlaysSaid : Prop := roomPlaysRow.holds Try.pinned (OpenSpec.ofChange roomPlaysSpec)

/-- ITS FALSE NEIGHBOUR: 'it returns false'. Refute it at one input. -/
def roomPlaysWrong : ChangeSpec := { name := "roomPlays", fn := fun _ => fun
  | [d1, d2, d3] => { results := [.lit (.bool false)], args := [d1, d2, d3] }
  | _ => none }
def RoomPlaysWrongFalsely : Prop := roomPlaysRow.holds Try.pinned (OpenSpec.ofChange roomPlaysWrong)

/-- 'clerestorylaw17.RoomFirst': WHATEVER THE INPUT: true; the input reads as it did. -/
def roomFirstSpec : ChangeSpec := { name := "roomFirst", fn := fun _ => fun
  | [d1, d2, d3] => { results := [.lit (.bool true)], args := [d1, d2, d3] }
  | _ => none }
def roomFirstRow : OpenClaim := { program := "ytcgajomngcgchaa", sum := "dba18bc2dfca6a1e40a1a5ded7ce34bd28582162756856fe14ee8416292c5d31", func := "clerestory/clerestorylaw17.RoomFirst", spec := "roomFirst", unfollowed := true, recurses := true, apart := false }
def RoomFirstSaid : Prop := roomFirstRow.holds Try.pinned (OpenSpec.ofChange roomFirstSpec)

/-- ITS FALSE NEIGHBOUR: 'it returns false'. Refute it at one input. -/
def roomFirstWrong : ChangeSpec := { name := "roomFirst", fn := fun _ => fun
  | [d1, d2, d3] => { results := [.lit (.bool false)], args := [d1, d2, d3] }
  | _ => none }
def RoomFirstWrongFalsely : Prop := roomFirstRow.holds Try.pinned (OpenSpec.ofChange roomFirstWrong)

/-- 'clerestorylaw17.RoomBack': WHATEVER THE INPUT: true; the input reads as it did. -/
def roomBackSpec : ChangeSpec := { name := "roomBack", fn := fun _ => fun
  | [d1, d2, d3] => { results := [.lit (.bool true)], args := [d1, d2, d3] }
  | _ => none }
def roomBackRow : OpenClaim := { program := "ytcgajomngcgchaa", sum := "dba18bc2dfca6a1e40a1a5ded7ce34bd28582162756856fe14ee8416292c5d31", func := "clerestory/clerestorylaw17.RoomBack", spec := "roomBack", unfollowed := true, recurses := true, apart := false }
def RoomBackSaid : Prop := roomBackRow.holds Try.pinned (OpenSpec.ofChange roomBackSpec)

/-- ITS FALSE NEIGHBOUR: 'it returns false'. Refute it at one input. -/
def roomBackWrong : ChangeSpec := { name := "roomBack", fn := fun _ => fun
  | [d1, d2, d3] => { results := [.lit (.bool false)], args := [d1, d2, d3] }
  | _ => none }
def RoomBackWrongFalsely : Prop := roomBackRow.holds Try.pinned (OpenSpec.ofChange roomBackWrong)

/-- 'clerestorylaw17.RoomNobody': WHATEVER THE INPUT: true; the input reads as it did. -/
def roomNobodySpec : ChangeSpec := { name := "roomNobody", fn := fun _ => fun
  | [d] => { results := [.lit (.bool true)], args := [d] }
  | _ => none }
def roomNobodyRow : OpenClaim := { program := "ytcgajomngcgchaa", sum := "dba18bc2dfca6a1e40a1a5ded7ce34bd28582162756856fe14ee8416292c5d31", func := "clerestory/clerestorylaw17.RoomNobody", spec := "roomNobody", unfollowed := true, recurses := true, apart := false }
def RoomNobodySaid : Prop := roomNobodyRow.holds Try.pinned (OpenSpec.ofChange roomNobodySpec)

/-- ITS FALSE NEIGHBOUR: 'it returns false'. Refute it at one input. -/
def roomNobodyWrong : ChangeSpec := { name := "roomNobody", fn := fun _ => fun
  | [d] => { results := [.lit (.bool false)], args := [d] }
  | _ => none }
def RoomNobodyWrongFalsely : Prop := roomNobodyRow.holds Try.pinned (OpenSpec.ofChange roomNobodyWrong)

/-- 'clerestorylaw17.RoomSums': WHATEVER THE INPUT: true; the input reads as it did. -/
def roomSumsSpec : ChangeSpec := { name := "roomSums", fn := fun _ => fun
  | [d1, d2, d3] => { results := [.lit (.bool true)], args := [d1, d2, d3] }
  | _ => none }
def roomSumsRow : OpenClaim := { program := "ytcgajomngcgchaa", sum := "dba18bc2dfca6a1e40a1a5ded7ce34bd28582162756856fe14ee8416292c5d31", func := "clerestory/clerestorylaw17.RoomSums", spec := "roomSums", unfollowed := true, recurses := true, apart := false }
def RoomSumsSaid : Prop := roomSumsRow.holds Try.pinned (OpenSpec.ofChange roomSumsSpec)

/-- ITS FALSE NEIGHBOUR: 'it returns false'. Refute it at one input. -/
def roomSumsWrong : ChangeSpec := { name := "roomSums", fn := fun _ => fun
  | [d1, d2, d3] => { results := [.lit (.bool false)], args := [d1, d2, d3] }
  | _ => none }
def RoomSumsWrongFalsely : Prop := roomSumsRow.holds Try.pinned (OpenSpec.ofChange roomSumsWrong)

/-- 'clerestorylaw17.RoomApart': WHATEVER THE INPUT: true; the input reads as it did. -/
def roomApartSpec : ChangeSpec := { name := "roomApart", fn := fun _ => fun
  | [d1, d2] => { results := [.lit (.bool true)], args := [d1, d2] }
  | _ => none }
def roomApartRow : OpenClaim := { program := "ytcgajomngcgchaa", sum := "dba18bc2dfca6a1e40a1a5ded7ce34bd28582162756856fe14ee8416292c5d31", func := "clerestory/clerestorylaw17.RoomApart", spec := "roomApart", unfollowed := true, recurses := true, apart := false }
def RoomApartSaid : Prop := roomApartRow.holds Try.pinned (OpenSpec.ofChange roomApartSpec)

/-- ITS FALSE NEIGHBOUR: 'it returns false'. Refute it at one input. -/
def roomApartWrong : ChangeSpec := { name := "roomApart", fn := fun _ => fun
  | [d1, d2] => { results := [.lit (.bool false)], args := [d1, d2] }
  | _ => none }
def RoomApartWrongFalsely : Prop := roomApartRow.holds Try.pinned (OpenSpec.ofChange roomApartWrong)

/- THE SECOND FORM. 'bulk': how many values and letters a reading holds, each counted each time it is reached (what is shared counts as often as it is met; a slice's spare places count too). A statement '..UptoSaid' is the law's where the arguments, and the package variables that the reading takes, are together of bulk at most 1048576: NARROWER than '..Said'. Prove '..Said' where nothing that the law and all that it calls make is longer than what came in: it says more and counts as full. Else prove '..UptoSaid'. A law counts once. -/
mutual
def uptoBulk {H : Type} : DataW H → Nat
  | .lit (.string bytes) => bytes.length + 1
  | .lit _ => 1
  | .nil => 1
  | .ptr d => uptoBulk d + 1
  | .slice elems spare => uptoBulkAll elems + uptoBulkAll spare + 1
  | .agg parts => uptoBulkAll parts + 1
  | .iface _ d => uptoBulk d + 1
  | .map entries => uptoBulkEntries entries + 1
  | .held _ => 1
def uptoBulkAll {H : Type} : List (DataW H) → Nat
  | [] => 0
  | d :: r => uptoBulk d + uptoBulkAll r
def uptoBulkEntries {H : Type} : List (Lit × DataW H) → Nat
  | [] => 0
  | x :: r => uptoBulkEntry x + uptoBulkEntries r
def uptoBulkEntry {H : Type} : Lit × DataW H → Nat
  | (.string bytes, d) => bytes.length + uptoBulk d + 1
  | (_, d) => uptoBulk d + 1
 end
def uptoSmall : (H : Type) → List (DataW H) → Bool := fun _ ds => decide (uptoBulkAll ds ≤ 1048576)
def OpenSpec.upto (s : _root_.Go.ChangeSpec) : _root_.Go.OpenSpec := { _root_.Go.OpenSpec.ofChange s with cond := some uptoSmall }

/-- 'clerestorylaw17.RoomFree', WHERE WHAT IT READS IS OF BULK AT MOST 1048576: true; the input reads as it did. -/
def roomFreeUptoRow : OpenClaim := { program := "ytcgajomngcgchaa", sum := "dba18bc2dfca6a1e40a1a5ded7ce34bd28582162756856fe14ee8416292c5d31", func := "clerestory/clerestorylaw17.RoomFree", spec := "roomFree", unfollowed := true, recurses := true, apart := false, narrowed := true }
def RoomFreeUptoSaid : Prop := roomFreeUptoRow.holds Try.pinned (OpenSpec.upto roomFreeSpec)

/-- 'clerestorylaw17.RoomPlays', WHERE WHAT IT READS IS OF BULK AT MOST 1048576: true; the input reads as it did. -/
def roomPlaysUptoRow : OpenClaim := { program := "ytcgajomngcgchaa", sum := "dba18bc2dfca6a1e40a1a5ded7ce34bd28582162756856fe14ee8416292c5d31", func := "clerestory/clerestorylaw17.RoomPlays", spec := "roomPlays", unfollowed := true, recurses := true, apart := false, narrowed := true }
def RoomPlaysUptoSaid : Prop := roomPlaysUptoRow.holds Try.pinned (OpenSpec.upto roomPlaysSpec)

/-- 'clerestorylaw17.RoomFirst', WHERE WHAT IT READS IS OF BULK AT MOST 1048576: true; the input reads as it did. -/
def roomFirstUptoRow : OpenClaim := { program := "ytcgajomngcgchaa", sum := "dba18bc2dfca6a1e40a1a5ded7ce34bd28582162756856fe14ee8416292c5d31", func := "clerestory/clerestorylaw17.RoomFirst", spec := "roomFirst", unfollowed := true, recurses := true, apart := false, narrowed := true }
def RoomFirstUptoSaid : Prop := roomFirstUptoRow.holds Try.pinned (OpenSpec.upto roomFirstSpec)

/-- 'clerestorylaw17.RoomBack', WHERE WHAT IT READS IS OF BULK AT MOST 1048576: true; the input reads as it did. -/
def roomBackUptoRow : OpenClaim := { program := "ytcgajomngcgchaa", sum := "dba18bc2dfca6a1e40a1a5ded7ce34bd28582162756856fe14ee8416292c5d31", func := "clerestory/clerestorylaw17.RoomBack", spec := "roomBack", unfollowed := true, recurses := true, apart := false, narrowed := true }
def RoomBackUptoSaid : Prop := roomBackUptoRow.holds Try.pinned (OpenSpec.upto roomBackSpec)

/-- 'clerestorylaw17.RoomNobody', WHERE WHAT IT READS IS OF BULK AT MOST 1048576: true; the input reads as it did. -/
def roomNobodyUptoRow : OpenClaim := { program := "ytcgajomngcgchaa", sum := "dba18bc2dfca6a1e40a1a5ded7ce34bd28582162756856fe14ee8416292c5d31", func := "clerestory/clerestorylaw17.RoomNobody", spec := "roomNobody", unfollowed := true, recurses := true, apart := false, narrowed := true }
def RoomNobodyUptoSaid : Prop := roomNobodyUptoRow.holds Try.pinned (OpenSpec.upto roomNobodySpec)

/-- 'clerestorylaw17.RoomSums', WHERE WHAT IT READS IS OF BULK AT MOST 1048576: true; the input reads as it did. -/
def roomSumsUptoRow : OpenClaim := { program := "ytcgajomngcgchaa", sum := "dba18bc2dfca6a1e40a1a5ded7ce34bd28582162756856fe14ee8416292c5d31", func := "clerestory/clerestorylaw17.RoomSums", spec := "roomSums", unfollowed := true, recurses := true, apart := false, narrowed := true }
def RoomSumsUptoSaid : Prop := roomSumsUptoRow.holds Try.pinned (OpenSpec.upto roomSumsSpec)

/-- 'clerestorylaw17.RoomApart', WHERE WHAT IT READS IS OF BULK AT MOST 1048576: true; the input reads as it did. -/
def roomApartUptoRow : OpenClaim := { program := "ytcgajomngcgchaa", sum := "dba18bc2dfca6a1e40a1a5ded7ce34bd28582162756856fe14ee8416292c5d31", func := "clerestory/clerestorylaw17.RoomApart", spec := "roomApart", unfollowed := true, recurses := true, apart := false, narrowed := true }
def RoomApartUptoSaid : Prop := roomApartUptoRow.holds Try.pinned (OpenSpec.upto roomApartSpec)

end Rows
end Go.Proofs.Ytcgajomngcgchaa
