/-
  DERIVED. GIVEN WITH THE SEED: THE CARDS: each row of YtdnjnbfmmgkpjaaDoorRows.lean that lists a variable, with what it lists TIED to the program's text (the seventh form; the later family's looks); each row that meets fmt, with fmt's text TOLD by the authors' own Lean function (tested against real Go, not proved from fmt's source: count such statements apart). THE CARD IS WHAT COUNTS. Prove the row's statement (the work); the ties are given (YtdnjnbfmmgkpjaaDoorTie.lean); close each card by the builder's one call (the guide's Derived/Test/ToyasCard.lean, 'card_holds'). Laid BY PROGRAM, IN A SANDBOX (cutbox-door.mjs). By AI agents, Wed Nov 11 2026. No macro, syntax, notation, axiom, sorry.
-/
import Derived.Test.YtdnjnbfmmgkpjaaDoorRows
import GoSem.ClaimSeven
namespace Go.Proofs.YtdnjnbfmmgkpjaaDoor
namespace Rows

/-- THE TIED CARD OF 'clerestorylaw14.ScanPuts'. -/
def scanPutsCard : Claim7 := { stood := { row := scanPutsRow, standIns := [], harness := (true, "c2280790cd32482ef0abe4c0d5903a14dfbb84568e9f3da4b5a339f98900b7f6"), looks := false }, kinds := [], alts := [], laidByText := true, laidKinds := [.data], laidTests := true, laidLooks := .later }
def ScanPutsCardSaid : Prop := Claim7.holds Tryd.pinned (.plain (OpenSpec.ofChange scanPutsSpec)) scanPutsCard

/-- THE TIED CARD OF 'clerestorylaw14.ScanBack'. -/
def scanBackCard : Claim7 := { stood := { row := scanBackRow, standIns := [], harness := (true, "c2280790cd32482ef0abe4c0d5903a14dfbb84568e9f3da4b5a339f98900b7f6"), looks := false }, kinds := [], alts := [], laidByText := true, laidKinds := [.data], laidTests := true, laidLooks := .later }
def ScanBackCardSaid : Prop := Claim7.holds Tryd.pinned (.plain (OpenSpec.ofChange scanBackSpec)) scanBackCard

/-- THE TIED CARD OF 'clerestorylaw14.ScanRests'. -/
def scanRestsCard : Claim7 := { stood := { row := scanRestsRow, standIns := [], harness := (true, "c2280790cd32482ef0abe4c0d5903a14dfbb84568e9f3da4b5a339f98900b7f6"), looks := false }, kinds := [], alts := [], laidByText := true, laidKinds := [.data], laidTests := true, laidLooks := .later }
def ScanRestsCardSaid : Prop := Claim7.holds Tryd.pinned (.plain (OpenSpec.ofChange scanRestsSpec)) scanRestsCard

/-- THE TIED CARD OF 'clerestorylaw14.ScanSteps'. -/
def scanStepsCard : Claim7 := { stood := { row := scanStepsRow, standIns := [], harness := (true, "c2280790cd32482ef0abe4c0d5903a14dfbb84568e9f3da4b5a339f98900b7f6"), looks := false }, kinds := [], alts := [], laidByText := true, laidKinds := [.data], laidTests := true, laidLooks := .later }
def ScanStepsCardSaid : Prop := Claim7.holds Tryd.pinned (.plain (OpenSpec.ofChange scanStepsSpec)) scanStepsCard

/-- THE SECOND FORM's CARD OF 'clerestorylaw14.ScanPuts'. -/
def scanPutsUptoCard : Claim7 := { stood := { row := scanPutsUptoRow, standIns := [], harness := (true, "c2280790cd32482ef0abe4c0d5903a14dfbb84568e9f3da4b5a339f98900b7f6"), looks := false }, kinds := [], alts := [], laidByText := true, laidKinds := [.data], laidTests := true, laidLooks := .later }
def ScanPutsUptoCardSaid : Prop := Claim7.holds Tryd.pinned (.plain (OpenSpec.upto scanPutsSpec)) scanPutsUptoCard

/-- THE SECOND FORM's CARD OF 'clerestorylaw14.ScanBack'. -/
def scanBackUptoCard : Claim7 := { stood := { row := scanBackUptoRow, standIns := [], harness := (true, "c2280790cd32482ef0abe4c0d5903a14dfbb84568e9f3da4b5a339f98900b7f6"), looks := false }, kinds := [], alts := [], laidByText := true, laidKinds := [.data], laidTests := true, laidLooks := .later }
def ScanBackUptoCardSaid : Prop := Claim7.holds Tryd.pinned (.plain (OpenSpec.upto scanBackSpec)) scanBackUptoCard

/-- THE SECOND FORM's CARD OF 'clerestorylaw14.ScanRests'. -/
def scanRestsUptoCard : Claim7 := { stood := { row := scanRestsUptoRow, standIns := [], harness := (true, "c2280790cd32482ef0abe4c0d5903a14dfbb84568e9f3da4b5a339f98900b7f6"), looks := false }, kinds := [], alts := [], laidByText := true, laidKinds := [.data], laidTests := true, laidLooks := .later }
def ScanRestsUptoCardSaid : Prop := Claim7.holds Tryd.pinned (.plain (OpenSpec.upto scanRestsSpec)) scanRestsUptoCard

/-- THE SECOND FORM's CARD OF 'clerestorylaw14.ScanSteps'. -/
def scanStepsUptoCard : Claim7 := { stood := { row := scanStepsUptoRow, standIns := [], harness := (true, "c2280790cd32482ef0abe4c0d5903a14dfbb84568e9f3da4b5a339f98900b7f6"), looks := false }, kinds := [], alts := [], laidByText := true, laidKinds := [.data], laidTests := true, laidLooks := .later }
def ScanStepsUptoCardSaid : Prop := Claim7.holds Tryd.pinned (.plain (OpenSpec.upto scanStepsSpec)) scanStepsUptoCard
end Rows
end Go.Proofs.YtdnjnbfmmgkpjaaDoor
