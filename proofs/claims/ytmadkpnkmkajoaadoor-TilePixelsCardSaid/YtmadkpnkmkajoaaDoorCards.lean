/-
  DERIVED. GIVEN WITH THE SEED: THE CARDS: each row of YtmadkpnkmkajoaaDoorRows.lean that lists a variable, with what it lists TIED to the program's text (the seventh form; the later family's looks); each row that meets fmt, with fmt's text TOLD by the authors' own Lean function (tested against real Go, not proved from fmt's source: count such statements apart). THE CARD IS WHAT COUNTS. Prove the row's statement (the work); the ties are given (YtmadkpnkmkajoaaDoorTie.lean); close each card by the builder's one call (the guide's Derived/Test/ToyasCard.lean, 'card_holds'). Laid BY PROGRAM, IN A SANDBOX (cutbox-door.mjs). By AI agents, Wed Nov 11 2026. No macro, syntax, notation, axiom, sorry.
-/
import Derived.Test.YtmadkpnkmkajoaaDoorRows
import GoSem.ClaimSeven
namespace Go.Proofs.YtmadkpnkmkajoaaDoor
namespace Rows

/-- THE TIED CARD OF 'clerestorylaw15.TileWords'. -/
def tileWordsCard : Claim7 := { stood := { row := tileWordsRow, standIns := [], harness := (true, "72dde8dc5a9ecd0dce1c7a78109ac0a171f58e90aa2a26edfb8c29a3a056a94f"), looks := false }, kinds := [], alts := [], laidByText := true, laidKinds := [.data, .data, .data, .data], laidTests := true, laidLooks := .later }
def TileWordsCardSaid : Prop := Claim7.holds Tryd.pinned (.plain (OpenSpec.ofChange tileWordsSpec)) tileWordsCard

/-- THE TIED CARD OF 'clerestorylaw15.TilePixels'. -/
def tilePixelsCard : Claim7 := { stood := { row := tilePixelsRow, standIns := [], harness := (true, "72dde8dc5a9ecd0dce1c7a78109ac0a171f58e90aa2a26edfb8c29a3a056a94f"), looks := false }, kinds := [], alts := [], laidByText := true, laidKinds := [.data, .data, .data, .data], laidTests := true, laidLooks := .later }
def TilePixelsCardSaid : Prop := Claim7.holds Tryd.pinned (.plain (OpenSpec.ofChange tilePixelsSpec)) tilePixelsCard

/-- THE TIED CARD OF 'clerestorylaw15.TileReduces'. -/
def tileReducesCard : Claim7 := { stood := { row := tileReducesRow, standIns := [], harness := (true, "72dde8dc5a9ecd0dce1c7a78109ac0a171f58e90aa2a26edfb8c29a3a056a94f"), looks := false }, kinds := [], alts := [], laidByText := true, laidKinds := [.data, .data, .data, .data, .data], laidTests := true, laidLooks := .later }
def TileReducesCardSaid : Prop := Claim7.holds Tryd.pinned (.plain (OpenSpec.ofChange tileReducesSpec)) tileReducesCard

/-- THE TIED CARD OF 'clerestorylaw15.TileNoughts'. -/
def tileNoughtsCard : Claim7 := { stood := { row := tileNoughtsRow, standIns := [], harness := (true, "72dde8dc5a9ecd0dce1c7a78109ac0a171f58e90aa2a26edfb8c29a3a056a94f"), looks := false }, kinds := [], alts := [], laidByText := true, laidKinds := [.data, .data, .data, .data, .data], laidTests := true, laidLooks := .later }
def TileNoughtsCardSaid : Prop := Claim7.holds Tryd.pinned (.plain (OpenSpec.ofChange tileNoughtsSpec)) tileNoughtsCard

/-- THE TIED CARD OF 'clerestorylaw15.TileGreys'. -/
def tileGreysCard : Claim7 := { stood := { row := tileGreysRow, standIns := [], harness := (true, "72dde8dc5a9ecd0dce1c7a78109ac0a171f58e90aa2a26edfb8c29a3a056a94f"), looks := false }, kinds := [], alts := [], laidByText := true, laidKinds := [.data, .data, .data, .data, .data], laidTests := true, laidLooks := .later }
def TileGreysCardSaid : Prop := Claim7.holds Tryd.pinned (.plain (OpenSpec.ofChange tileGreysSpec)) tileGreysCard

/-- THE SECOND FORM's CARD OF 'clerestorylaw15.TileWords'. -/
def tileWordsUptoCard : Claim7 := { stood := { row := tileWordsUptoRow, standIns := [], harness := (true, "72dde8dc5a9ecd0dce1c7a78109ac0a171f58e90aa2a26edfb8c29a3a056a94f"), looks := false }, kinds := [], alts := [], laidByText := true, laidKinds := [.data, .data, .data, .data], laidTests := true, laidLooks := .later }
def TileWordsUptoCardSaid : Prop := Claim7.holds Tryd.pinned (.plain (OpenSpec.upto tileWordsSpec)) tileWordsUptoCard

/-- THE SECOND FORM's CARD OF 'clerestorylaw15.TilePixels'. -/
def tilePixelsUptoCard : Claim7 := { stood := { row := tilePixelsUptoRow, standIns := [], harness := (true, "72dde8dc5a9ecd0dce1c7a78109ac0a171f58e90aa2a26edfb8c29a3a056a94f"), looks := false }, kinds := [], alts := [], laidByText := true, laidKinds := [.data, .data, .data, .data], laidTests := true, laidLooks := .later }
def TilePixelsUptoCardSaid : Prop := Claim7.holds Tryd.pinned (.plain (OpenSpec.upto tilePixelsSpec)) tilePixelsUptoCard

/-- THE SECOND FORM's CARD OF 'clerestorylaw15.TileReduces'. -/
def tileReducesUptoCard : Claim7 := { stood := { row := tileReducesUptoRow, standIns := [], harness := (true, "72dde8dc5a9ecd0dce1c7a78109ac0a171f58e90aa2a26edfb8c29a3a056a94f"), looks := false }, kinds := [], alts := [], laidByText := true, laidKinds := [.data, .data, .data, .data, .data], laidTests := true, laidLooks := .later }
def TileReducesUptoCardSaid : Prop := Claim7.holds Tryd.pinned (.plain (OpenSpec.upto tileReducesSpec)) tileReducesUptoCard

/-- THE SECOND FORM's CARD OF 'clerestorylaw15.TileNoughts'. -/
def tileNoughtsUptoCard : Claim7 := { stood := { row := tileNoughtsUptoRow, standIns := [], harness := (true, "72dde8dc5a9ecd0dce1c7a78109ac0a171f58e90aa2a26edfb8c29a3a056a94f"), looks := false }, kinds := [], alts := [], laidByText := true, laidKinds := [.data, .data, .data, .data, .data], laidTests := true, laidLooks := .later }
def TileNoughtsUptoCardSaid : Prop := Claim7.holds Tryd.pinned (.plain (OpenSpec.upto tileNoughtsSpec)) tileNoughtsUptoCard

/-- THE SECOND FORM's CARD OF 'clerestorylaw15.TileGreys'. -/
def tileGreysUptoCard : Claim7 := { stood := { row := tileGreysUptoRow, standIns := [], harness := (true, "72dde8dc5a9ecd0dce1c7a78109ac0a171f58e90aa2a26edfb8c29a3a056a94f"), looks := false }, kinds := [], alts := [], laidByText := true, laidKinds := [.data, .data, .data, .data, .data], laidTests := true, laidLooks := .later }
def TileGreysUptoCardSaid : Prop := Claim7.holds Tryd.pinned (.plain (OpenSpec.upto tileGreysSpec)) tileGreysUptoCard
end Rows
end Go.Proofs.YtmadkpnkmkajoaaDoor
