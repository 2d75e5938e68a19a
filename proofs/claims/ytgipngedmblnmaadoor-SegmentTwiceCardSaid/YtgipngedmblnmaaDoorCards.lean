/-
  DERIVED. GIVEN WITH THE SEED: THE CARDS: each row of YtgipngedmblnmaaDoorRows.lean that lists a variable, with what it lists TIED to the program's text (the seventh form; the later family's looks); each row that meets fmt, with fmt's text TOLD by the authors' own Lean function (tested against real Go, not proved from fmt's source: count such statements apart). THE CARD IS WHAT COUNTS. Prove the row's statement (the work); the ties are given (YtgipngedmblnmaaDoorTie.lean); close each card by the builder's one call (the guide's Derived/Test/ToyasCard.lean, 'card_holds'). Laid BY PROGRAM, IN A SANDBOX (cutbox-door.mjs). By AI agents, Wed Nov 11 2026. No macro, syntax, notation, axiom, sorry.
-/
import Derived.Test.YtgipngedmblnmaaDoorRows
import GoSem.ClaimSeven
namespace Go.Proofs.YtgipngedmblnmaaDoor
namespace Rows

/-- THE TIED CARD OF 'clerestorylaw13.SegmentTells'. -/
def segmentTellsCard : Claim7 := { stood := { row := segmentTellsRow, standIns := [], harness := (true, "81cc1635db316a49e98bf87de784c4473f3a218c490d9c4d789adca86ab6ddf5"), looks := true }, kinds := [], alts := [], laidByText := true, laidKinds := [.data], laidTests := true, laidLooks := .later }
def SegmentTellsCardSaid : Prop := Claim7.holds Tryd.pinned (.plain (OpenSpec.ofChange segmentTellsSpec)) segmentTellsCard

/-- THE TIED CARD OF 'clerestorylaw13.SegmentReads'. -/
def segmentReadsCard : Claim7 := { stood := { row := segmentReadsRow, standIns := [], harness := (true, "81cc1635db316a49e98bf87de784c4473f3a218c490d9c4d789adca86ab6ddf5"), looks := true }, kinds := [], alts := [], laidByText := true, laidKinds := [.data], laidTests := true, laidLooks := .later }
def SegmentReadsCardSaid : Prop := Claim7.holds Tryd.pinned (.plain (OpenSpec.ofChange segmentReadsSpec)) segmentReadsCard

/-- THE TIED CARD OF 'clerestorylaw13.SegmentOthers'. -/
def segmentOthersCard : Claim7 := { stood := { row := segmentOthersRow, standIns := [], harness := (true, "81cc1635db316a49e98bf87de784c4473f3a218c490d9c4d789adca86ab6ddf5"), looks := true }, kinds := [], alts := [], laidByText := true, laidKinds := [.data], laidTests := true, laidLooks := .later }
def SegmentOthersCardSaid : Prop := Claim7.holds Tryd.pinned (.plain (OpenSpec.ofChange segmentOthersSpec)) segmentOthersCard

/-- THE TIED CARD OF 'clerestorylaw13.SegmentTwice'. -/
def segmentTwiceCard : Claim7 := { stood := { row := segmentTwiceRow, standIns := [], harness := (true, "81cc1635db316a49e98bf87de784c4473f3a218c490d9c4d789adca86ab6ddf5"), looks := true }, kinds := [], alts := [], laidByText := true, laidKinds := [.data], laidTests := true, laidLooks := .later }
def SegmentTwiceCardSaid : Prop := Claim7.holds Tryd.pinned (.plain (OpenSpec.ofChange segmentTwiceSpec)) segmentTwiceCard

/-- THE TIED CARD OF 'clerestorylaw13.SegmentHeads'. -/
def segmentHeadsCard : Claim7 := { stood := { row := segmentHeadsRow, standIns := [], harness := (true, "81cc1635db316a49e98bf87de784c4473f3a218c490d9c4d789adca86ab6ddf5"), looks := true }, kinds := [], alts := [], laidByText := true, laidKinds := [.data], laidTests := true, laidLooks := .later }
def SegmentHeadsCardSaid : Prop := Claim7.holds Tryd.pinned (.plain (OpenSpec.ofChange segmentHeadsSpec)) segmentHeadsCard

/-- THE SECOND FORM's CARD OF 'clerestorylaw13.SegmentTells'. -/
def segmentTellsUptoCard : Claim7 := { stood := { row := segmentTellsUptoRow, standIns := [], harness := (true, "81cc1635db316a49e98bf87de784c4473f3a218c490d9c4d789adca86ab6ddf5"), looks := true }, kinds := [], alts := [], laidByText := true, laidKinds := [.data], laidTests := true, laidLooks := .later }
def SegmentTellsUptoCardSaid : Prop := Claim7.holds Tryd.pinned (.plain (OpenSpec.upto segmentTellsSpec)) segmentTellsUptoCard

/-- THE SECOND FORM's CARD OF 'clerestorylaw13.SegmentReads'. -/
def segmentReadsUptoCard : Claim7 := { stood := { row := segmentReadsUptoRow, standIns := [], harness := (true, "81cc1635db316a49e98bf87de784c4473f3a218c490d9c4d789adca86ab6ddf5"), looks := true }, kinds := [], alts := [], laidByText := true, laidKinds := [.data], laidTests := true, laidLooks := .later }
def SegmentReadsUptoCardSaid : Prop := Claim7.holds Tryd.pinned (.plain (OpenSpec.upto segmentReadsSpec)) segmentReadsUptoCard

/-- THE SECOND FORM's CARD OF 'clerestorylaw13.SegmentOthers'. -/
def segmentOthersUptoCard : Claim7 := { stood := { row := segmentOthersUptoRow, standIns := [], harness := (true, "81cc1635db316a49e98bf87de784c4473f3a218c490d9c4d789adca86ab6ddf5"), looks := true }, kinds := [], alts := [], laidByText := true, laidKinds := [.data], laidTests := true, laidLooks := .later }
def SegmentOthersUptoCardSaid : Prop := Claim7.holds Tryd.pinned (.plain (OpenSpec.upto segmentOthersSpec)) segmentOthersUptoCard

/-- THE SECOND FORM's CARD OF 'clerestorylaw13.SegmentTwice'. -/
def segmentTwiceUptoCard : Claim7 := { stood := { row := segmentTwiceUptoRow, standIns := [], harness := (true, "81cc1635db316a49e98bf87de784c4473f3a218c490d9c4d789adca86ab6ddf5"), looks := true }, kinds := [], alts := [], laidByText := true, laidKinds := [.data], laidTests := true, laidLooks := .later }
def SegmentTwiceUptoCardSaid : Prop := Claim7.holds Tryd.pinned (.plain (OpenSpec.upto segmentTwiceSpec)) segmentTwiceUptoCard

/-- THE SECOND FORM's CARD OF 'clerestorylaw13.SegmentHeads'. -/
def segmentHeadsUptoCard : Claim7 := { stood := { row := segmentHeadsUptoRow, standIns := [], harness := (true, "81cc1635db316a49e98bf87de784c4473f3a218c490d9c4d789adca86ab6ddf5"), looks := true }, kinds := [], alts := [], laidByText := true, laidKinds := [.data], laidTests := true, laidLooks := .later }
def SegmentHeadsUptoCardSaid : Prop := Claim7.holds Tryd.pinned (.plain (OpenSpec.upto segmentHeadsSpec)) segmentHeadsUptoCard
end Rows
end Go.Proofs.YtgipngedmblnmaaDoor
