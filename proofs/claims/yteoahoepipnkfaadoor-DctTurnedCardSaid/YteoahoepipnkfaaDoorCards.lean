/-
  DERIVED. GIVEN WITH THE SEED: THE CARDS: each row of YteoahoepipnkfaaDoorRows.lean that lists a variable, with what it lists TIED to the program's text (the seventh form; the later family's looks); each row that meets fmt, with fmt's text TOLD by the authors' own Lean function (tested against real Go, not proved from fmt's source: count such statements apart). THE CARD IS WHAT COUNTS. Prove the row's statement (the work); the ties are given (YteoahoepipnkfaaDoorTie.lean); close each card by the builder's one call (the guide's Derived/Test/ToyasCard.lean, 'card_holds'). Laid BY PROGRAM, IN A SANDBOX (cutbox-door.mjs). By AI agents, Wed Nov 11 2026. No macro, syntax, notation, axiom, sorry.
-/
import Derived.Test.YteoahoepipnkfaaDoorRows
import GoSem.ClaimSeven
namespace Go.Proofs.YteoahoepipnkfaaDoor
namespace Rows

/-- THE TIED CARD OF 'clerestorylaw09.DctForward'. -/
def dctForwardCard : Claim7 := { stood := { row := dctForwardRow, standIns := [], harness := (true, "63243e57b17ec9843ec7b9c1c20f91e0cd8c0d9993d0c1fb3640b1808f370168"), looks := false }, kinds := [], alts := [], laidByText := true, laidKinds := [.data], laidTests := true, laidLooks := .later }
def DctForwardCardSaid : Prop := Claim7.holds Tryd.pinned (.plain (OpenSpec.ofChange dctForwardSpec)) dctForwardCard

/-- THE TIED CARD OF 'clerestorylaw09.DctInverse'. -/
def dctInverseCard : Claim7 := { stood := { row := dctInverseRow, standIns := [], harness := (true, "63243e57b17ec9843ec7b9c1c20f91e0cd8c0d9993d0c1fb3640b1808f370168"), looks := false }, kinds := [], alts := [], laidByText := true, laidKinds := [.data], laidTests := true, laidLooks := .later }
def DctInverseCardSaid : Prop := Claim7.holds Tryd.pinned (.plain (OpenSpec.ofChange dctInverseSpec)) dctInverseCard

/-- THE TIED CARD OF 'clerestorylaw09.DctNear'. -/
def dctNearCard : Claim7 := { stood := { row := dctNearRow, standIns := [], harness := (true, "63243e57b17ec9843ec7b9c1c20f91e0cd8c0d9993d0c1fb3640b1808f370168"), looks := false }, kinds := [], alts := [], laidByText := true, laidKinds := [.data], laidTests := true, laidLooks := .later }
def DctNearCardSaid : Prop := Claim7.holds Tryd.pinned (.plain (OpenSpec.ofChange dctNearSpec)) dctNearCard

/-- THE TIED CARD OF 'clerestorylaw09.DctTurns'. -/
def dctTurnsCard : Claim7 := { stood := { row := dctTurnsRow, standIns := [], harness := (true, "63243e57b17ec9843ec7b9c1c20f91e0cd8c0d9993d0c1fb3640b1808f370168"), looks := false }, kinds := [], alts := [], laidByText := true, laidKinds := [.data], laidTests := true, laidLooks := .later }
def DctTurnsCardSaid : Prop := Claim7.holds Tryd.pinned (.plain (OpenSpec.ofChange dctTurnsSpec)) dctTurnsCard

/-- THE TIED CARD OF 'clerestorylaw09.DctFlat'. -/
def dctFlatCard : Claim7 := { stood := { row := dctFlatRow, standIns := [], harness := (true, "63243e57b17ec9843ec7b9c1c20f91e0cd8c0d9993d0c1fb3640b1808f370168"), looks := false }, kinds := [], alts := [], laidByText := true, laidKinds := [.data], laidTests := true, laidLooks := .later }
def DctFlatCardSaid : Prop := Claim7.holds Tryd.pinned (.plain (OpenSpec.ofChange dctFlatSpec)) dctFlatCard

/-- THE TIED CARD OF 'clerestorylaw09.DctTurned'. -/
def dctTurnedCard : Claim7 := { stood := { row := dctTurnedRow, standIns := [], harness := (true, "63243e57b17ec9843ec7b9c1c20f91e0cd8c0d9993d0c1fb3640b1808f370168"), looks := false }, kinds := [], alts := [], laidByText := true, laidKinds := [.data], laidTests := true, laidLooks := .later }
def DctTurnedCardSaid : Prop := Claim7.holds Tryd.pinned (.plain (OpenSpec.ofChange dctTurnedSpec)) dctTurnedCard

/-- THE SECOND FORM's CARD OF 'clerestorylaw09.DctForward'. -/
def dctForwardUptoCard : Claim7 := { stood := { row := dctForwardUptoRow, standIns := [], harness := (true, "63243e57b17ec9843ec7b9c1c20f91e0cd8c0d9993d0c1fb3640b1808f370168"), looks := false }, kinds := [], alts := [], laidByText := true, laidKinds := [.data], laidTests := true, laidLooks := .later }
def DctForwardUptoCardSaid : Prop := Claim7.holds Tryd.pinned (.plain (OpenSpec.upto dctForwardSpec)) dctForwardUptoCard

/-- THE SECOND FORM's CARD OF 'clerestorylaw09.DctInverse'. -/
def dctInverseUptoCard : Claim7 := { stood := { row := dctInverseUptoRow, standIns := [], harness := (true, "63243e57b17ec9843ec7b9c1c20f91e0cd8c0d9993d0c1fb3640b1808f370168"), looks := false }, kinds := [], alts := [], laidByText := true, laidKinds := [.data], laidTests := true, laidLooks := .later }
def DctInverseUptoCardSaid : Prop := Claim7.holds Tryd.pinned (.plain (OpenSpec.upto dctInverseSpec)) dctInverseUptoCard

/-- THE SECOND FORM's CARD OF 'clerestorylaw09.DctNear'. -/
def dctNearUptoCard : Claim7 := { stood := { row := dctNearUptoRow, standIns := [], harness := (true, "63243e57b17ec9843ec7b9c1c20f91e0cd8c0d9993d0c1fb3640b1808f370168"), looks := false }, kinds := [], alts := [], laidByText := true, laidKinds := [.data], laidTests := true, laidLooks := .later }
def DctNearUptoCardSaid : Prop := Claim7.holds Tryd.pinned (.plain (OpenSpec.upto dctNearSpec)) dctNearUptoCard

/-- THE SECOND FORM's CARD OF 'clerestorylaw09.DctTurns'. -/
def dctTurnsUptoCard : Claim7 := { stood := { row := dctTurnsUptoRow, standIns := [], harness := (true, "63243e57b17ec9843ec7b9c1c20f91e0cd8c0d9993d0c1fb3640b1808f370168"), looks := false }, kinds := [], alts := [], laidByText := true, laidKinds := [.data], laidTests := true, laidLooks := .later }
def DctTurnsUptoCardSaid : Prop := Claim7.holds Tryd.pinned (.plain (OpenSpec.upto dctTurnsSpec)) dctTurnsUptoCard

/-- THE SECOND FORM's CARD OF 'clerestorylaw09.DctFlat'. -/
def dctFlatUptoCard : Claim7 := { stood := { row := dctFlatUptoRow, standIns := [], harness := (true, "63243e57b17ec9843ec7b9c1c20f91e0cd8c0d9993d0c1fb3640b1808f370168"), looks := false }, kinds := [], alts := [], laidByText := true, laidKinds := [.data], laidTests := true, laidLooks := .later }
def DctFlatUptoCardSaid : Prop := Claim7.holds Tryd.pinned (.plain (OpenSpec.upto dctFlatSpec)) dctFlatUptoCard

/-- THE SECOND FORM's CARD OF 'clerestorylaw09.DctTurned'. -/
def dctTurnedUptoCard : Claim7 := { stood := { row := dctTurnedUptoRow, standIns := [], harness := (true, "63243e57b17ec9843ec7b9c1c20f91e0cd8c0d9993d0c1fb3640b1808f370168"), looks := false }, kinds := [], alts := [], laidByText := true, laidKinds := [.data], laidTests := true, laidLooks := .later }
def DctTurnedUptoCardSaid : Prop := Claim7.holds Tryd.pinned (.plain (OpenSpec.upto dctTurnedSpec)) dctTurnedUptoCard
end Rows
end Go.Proofs.YteoahoepipnkfaaDoor
