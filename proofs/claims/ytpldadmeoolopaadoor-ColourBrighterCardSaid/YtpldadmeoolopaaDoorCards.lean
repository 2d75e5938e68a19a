/-
  DERIVED. GIVEN WITH THE SEED: THE CARDS: each row of YtpldadmeoolopaaDoorRows.lean that lists a variable, with what it lists TIED to the program's text (the seventh form; the later family's looks); each row that meets fmt, with fmt's text TOLD by the authors' own Lean function (tested against real Go, not proved from fmt's source: count such statements apart). THE CARD IS WHAT COUNTS. Prove the row's statement (the work); the ties are given (YtpldadmeoolopaaDoorTie.lean); close each card by the builder's one call (the guide's Derived/Test/ToyasCard.lean, 'card_holds'). Laid BY PROGRAM, IN A SANDBOX (cutbox-door.mjs). By AI agents, Wed Nov 11 2026. No macro, syntax, notation, axiom, sorry.
-/
import Derived.Test.YtpldadmeoolopaaDoorRows
import GoSem.ClaimSeven
namespace Go.Proofs.YtpldadmeoolopaaDoor
namespace Rows

/-- THE TIED CARD OF 'clerestorylaw11.ColourPixels'. -/
def colourPixelsCard : Claim7 := { stood := { row := colourPixelsRow, standIns := [], harness := (true, "a75ba419780f34cd90b0c2c8a2ddba7037d02e63d6d4565cd51fa9a9fb96c988"), looks := false }, kinds := [], alts := [], laidByText := true, laidKinds := [.data, .data], laidTests := true, laidLooks := .later }
def ColourPixelsCardSaid : Prop := Claim7.holds Tryd.pinned (.plain (OpenSpec.ofChange colourPixelsSpec)) colourPixelsCard

/-- THE TIED CARD OF 'clerestorylaw11.ColourGrey'. -/
def colourGreyCard : Claim7 := { stood := { row := colourGreyRow, standIns := [], harness := (true, "a75ba419780f34cd90b0c2c8a2ddba7037d02e63d6d4565cd51fa9a9fb96c988"), looks := false }, kinds := [], alts := [], laidByText := true, laidKinds := [.data, .data], laidTests := true, laidLooks := .later }
def ColourGreyCardSaid : Prop := Claim7.holds Tryd.pinned (.plain (OpenSpec.ofChange colourGreySpec)) colourGreyCard

/-- THE TIED CARD OF 'clerestorylaw11.ColourBounds'. -/
def colourBoundsCard : Claim7 := { stood := { row := colourBoundsRow, standIns := [], harness := (true, "a75ba419780f34cd90b0c2c8a2ddba7037d02e63d6d4565cd51fa9a9fb96c988"), looks := false }, kinds := [], alts := [], laidByText := true, laidKinds := [.data, .data], laidTests := true, laidLooks := .later }
def ColourBoundsCardSaid : Prop := Claim7.holds Tryd.pinned (.plain (OpenSpec.ofChange colourBoundsSpec)) colourBoundsCard

/-- THE TIED CARD OF 'clerestorylaw11.ColourBrighter'. -/
def colourBrighterCard : Claim7 := { stood := { row := colourBrighterRow, standIns := [], harness := (true, "a75ba419780f34cd90b0c2c8a2ddba7037d02e63d6d4565cd51fa9a9fb96c988"), looks := false }, kinds := [], alts := [], laidByText := true, laidKinds := [.data], laidTests := true, laidLooks := .later }
def ColourBrighterCardSaid : Prop := Claim7.holds Tryd.pinned (.plain (OpenSpec.ofChange colourBrighterSpec)) colourBrighterCard

/-- THE SECOND FORM's CARD OF 'clerestorylaw11.ColourPixels'. -/
def colourPixelsUptoCard : Claim7 := { stood := { row := colourPixelsUptoRow, standIns := [], harness := (true, "a75ba419780f34cd90b0c2c8a2ddba7037d02e63d6d4565cd51fa9a9fb96c988"), looks := false }, kinds := [], alts := [], laidByText := true, laidKinds := [.data, .data], laidTests := true, laidLooks := .later }
def ColourPixelsUptoCardSaid : Prop := Claim7.holds Tryd.pinned (.plain (OpenSpec.upto colourPixelsSpec)) colourPixelsUptoCard

/-- THE SECOND FORM's CARD OF 'clerestorylaw11.ColourGrey'. -/
def colourGreyUptoCard : Claim7 := { stood := { row := colourGreyUptoRow, standIns := [], harness := (true, "a75ba419780f34cd90b0c2c8a2ddba7037d02e63d6d4565cd51fa9a9fb96c988"), looks := false }, kinds := [], alts := [], laidByText := true, laidKinds := [.data, .data], laidTests := true, laidLooks := .later }
def ColourGreyUptoCardSaid : Prop := Claim7.holds Tryd.pinned (.plain (OpenSpec.upto colourGreySpec)) colourGreyUptoCard

/-- THE SECOND FORM's CARD OF 'clerestorylaw11.ColourBounds'. -/
def colourBoundsUptoCard : Claim7 := { stood := { row := colourBoundsUptoRow, standIns := [], harness := (true, "a75ba419780f34cd90b0c2c8a2ddba7037d02e63d6d4565cd51fa9a9fb96c988"), looks := false }, kinds := [], alts := [], laidByText := true, laidKinds := [.data, .data], laidTests := true, laidLooks := .later }
def ColourBoundsUptoCardSaid : Prop := Claim7.holds Tryd.pinned (.plain (OpenSpec.upto colourBoundsSpec)) colourBoundsUptoCard

/-- THE SECOND FORM's CARD OF 'clerestorylaw11.ColourBrighter'. -/
def colourBrighterUptoCard : Claim7 := { stood := { row := colourBrighterUptoRow, standIns := [], harness := (true, "a75ba419780f34cd90b0c2c8a2ddba7037d02e63d6d4565cd51fa9a9fb96c988"), looks := false }, kinds := [], alts := [], laidByText := true, laidKinds := [.data], laidTests := true, laidLooks := .later }
def ColourBrighterUptoCardSaid : Prop := Claim7.holds Tryd.pinned (.plain (OpenSpec.upto colourBrighterSpec)) colourBrighterUptoCard
end Rows
end Go.Proofs.YtpldadmeoolopaaDoor
