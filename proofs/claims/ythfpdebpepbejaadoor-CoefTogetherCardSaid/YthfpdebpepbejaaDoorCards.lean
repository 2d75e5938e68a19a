/-
  DERIVED. GIVEN WITH THE SEED: THE CARDS: each row of YthfpdebpepbejaaDoorRows.lean that lists a variable, with what it lists TIED to the program's text (the seventh form; the later family's looks); each row that meets fmt, with fmt's text TOLD by the authors' own Lean function (tested against real Go, not proved from fmt's source: count such statements apart). THE CARD IS WHAT COUNTS. Prove the row's statement (the work); the ties are given (YthfpdebpepbejaaDoorTie.lean); close each card by the builder's one call (the guide's Derived/Test/ToyasCard.lean, 'card_holds'). Laid BY PROGRAM, IN A SANDBOX (cutbox-door.mjs). By AI agents, Wed Nov 11 2026. No macro, syntax, notation, axiom, sorry.
-/
import Derived.Test.YthfpdebpepbejaaDoorRows
import GoSem.ClaimSeven
namespace Go.Proofs.YthfpdebpepbejaaDoor
namespace Rows

/-- THE TIED CARD OF 'clerestorylaw07.CoefWords'. -/
def coefWordsCard : Claim7 := { stood := { row := coefWordsRow, standIns := [], harness := (true, "0dd3a78de650885f3d376844b57224d3abcfd68da1f4deeaaf59d46b90cbcf37"), looks := false }, kinds := [], alts := [], laidByText := true, laidKinds := [.data], laidTests := true, laidLooks := .later }
def CoefWordsCardSaid : Prop := Claim7.holds Tryd.pinned (.plain (OpenSpec.ofChange coefWordsSpec)) coefWordsCard

/-- THE TIED CARD OF 'clerestorylaw07.CoefTallies'. -/
def coefTalliesCard : Claim7 := { stood := { row := coefTalliesRow, standIns := [], harness := (true, "0dd3a78de650885f3d376844b57224d3abcfd68da1f4deeaaf59d46b90cbcf37"), looks := false }, kinds := [], alts := [], laidByText := true, laidKinds := [.data], laidTests := true, laidLooks := .later }
def CoefTalliesCardSaid : Prop := Claim7.holds Tryd.pinned (.plain (OpenSpec.ofChange coefTalliesSpec)) coefTalliesCard

/-- THE TIED CARD OF 'clerestorylaw07.CoefPuts'. -/
def coefPutsCard : Claim7 := { stood := { row := coefPutsRow, standIns := [], harness := (true, "0dd3a78de650885f3d376844b57224d3abcfd68da1f4deeaaf59d46b90cbcf37"), looks := false }, kinds := [], alts := [], laidByText := true, laidKinds := [.data], laidTests := true, laidLooks := .later }
def CoefPutsCardSaid : Prop := Claim7.holds Tryd.pinned (.plain (OpenSpec.ofChange coefPutsSpec)) coefPutsCard

/-- THE TIED CARD OF 'clerestorylaw07.CoefGets'. -/
def coefGetsCard : Claim7 := { stood := { row := coefGetsRow, standIns := [], harness := (true, "0dd3a78de650885f3d376844b57224d3abcfd68da1f4deeaaf59d46b90cbcf37"), looks := false }, kinds := [], alts := [], laidByText := true, laidKinds := [.data], laidTests := true, laidLooks := .later }
def CoefGetsCardSaid : Prop := Claim7.holds Tryd.pinned (.plain (OpenSpec.ofChange coefGetsSpec)) coefGetsCard

/-- THE TIED CARD OF 'clerestorylaw07.CoefBack'. -/
def coefBackCard : Claim7 := { stood := { row := coefBackRow, standIns := [], harness := (true, "0dd3a78de650885f3d376844b57224d3abcfd68da1f4deeaaf59d46b90cbcf37"), looks := false }, kinds := [], alts := [], laidByText := true, laidKinds := [.data], laidTests := true, laidLooks := .later }
def CoefBackCardSaid : Prop := Claim7.holds Tryd.pinned (.plain (OpenSpec.ofChange coefBackSpec)) coefBackCard

/-- THE TIED CARD OF 'clerestorylaw07.CoefTogether'. -/
def coefTogetherCard : Claim7 := { stood := { row := coefTogetherRow, standIns := [], harness := (true, "0dd3a78de650885f3d376844b57224d3abcfd68da1f4deeaaf59d46b90cbcf37"), looks := false }, kinds := [], alts := [], laidByText := true, laidKinds := [.data], laidTests := true, laidLooks := .later }
def CoefTogetherCardSaid : Prop := Claim7.holds Tryd.pinned (.plain (OpenSpec.ofChange coefTogetherSpec)) coefTogetherCard

/-- THE TIED CARD OF 'clerestorylaw07.CoefSizes'. -/
def coefSizesCard : Claim7 := { stood := { row := coefSizesRow, standIns := [], harness := (true, "0dd3a78de650885f3d376844b57224d3abcfd68da1f4deeaaf59d46b90cbcf37"), looks := false }, kinds := [], alts := [], laidByText := true, laidKinds := [.data], laidTests := true, laidLooks := .later }
def CoefSizesCardSaid : Prop := Claim7.holds Tryd.pinned (.plain (OpenSpec.ofChange coefSizesSpec)) coefSizesCard

/-- THE SECOND FORM's CARD OF 'clerestorylaw07.CoefWords'. -/
def coefWordsUptoCard : Claim7 := { stood := { row := coefWordsUptoRow, standIns := [], harness := (true, "0dd3a78de650885f3d376844b57224d3abcfd68da1f4deeaaf59d46b90cbcf37"), looks := false }, kinds := [], alts := [], laidByText := true, laidKinds := [.data], laidTests := true, laidLooks := .later }
def CoefWordsUptoCardSaid : Prop := Claim7.holds Tryd.pinned (.plain (OpenSpec.upto coefWordsSpec)) coefWordsUptoCard

/-- THE SECOND FORM's CARD OF 'clerestorylaw07.CoefTallies'. -/
def coefTalliesUptoCard : Claim7 := { stood := { row := coefTalliesUptoRow, standIns := [], harness := (true, "0dd3a78de650885f3d376844b57224d3abcfd68da1f4deeaaf59d46b90cbcf37"), looks := false }, kinds := [], alts := [], laidByText := true, laidKinds := [.data], laidTests := true, laidLooks := .later }
def CoefTalliesUptoCardSaid : Prop := Claim7.holds Tryd.pinned (.plain (OpenSpec.upto coefTalliesSpec)) coefTalliesUptoCard

/-- THE SECOND FORM's CARD OF 'clerestorylaw07.CoefPuts'. -/
def coefPutsUptoCard : Claim7 := { stood := { row := coefPutsUptoRow, standIns := [], harness := (true, "0dd3a78de650885f3d376844b57224d3abcfd68da1f4deeaaf59d46b90cbcf37"), looks := false }, kinds := [], alts := [], laidByText := true, laidKinds := [.data], laidTests := true, laidLooks := .later }
def CoefPutsUptoCardSaid : Prop := Claim7.holds Tryd.pinned (.plain (OpenSpec.upto coefPutsSpec)) coefPutsUptoCard

/-- THE SECOND FORM's CARD OF 'clerestorylaw07.CoefGets'. -/
def coefGetsUptoCard : Claim7 := { stood := { row := coefGetsUptoRow, standIns := [], harness := (true, "0dd3a78de650885f3d376844b57224d3abcfd68da1f4deeaaf59d46b90cbcf37"), looks := false }, kinds := [], alts := [], laidByText := true, laidKinds := [.data], laidTests := true, laidLooks := .later }
def CoefGetsUptoCardSaid : Prop := Claim7.holds Tryd.pinned (.plain (OpenSpec.upto coefGetsSpec)) coefGetsUptoCard

/-- THE SECOND FORM's CARD OF 'clerestorylaw07.CoefBack'. -/
def coefBackUptoCard : Claim7 := { stood := { row := coefBackUptoRow, standIns := [], harness := (true, "0dd3a78de650885f3d376844b57224d3abcfd68da1f4deeaaf59d46b90cbcf37"), looks := false }, kinds := [], alts := [], laidByText := true, laidKinds := [.data], laidTests := true, laidLooks := .later }
def CoefBackUptoCardSaid : Prop := Claim7.holds Tryd.pinned (.plain (OpenSpec.upto coefBackSpec)) coefBackUptoCard

/-- THE SECOND FORM's CARD OF 'clerestorylaw07.CoefTogether'. -/
def coefTogetherUptoCard : Claim7 := { stood := { row := coefTogetherUptoRow, standIns := [], harness := (true, "0dd3a78de650885f3d376844b57224d3abcfd68da1f4deeaaf59d46b90cbcf37"), looks := false }, kinds := [], alts := [], laidByText := true, laidKinds := [.data], laidTests := true, laidLooks := .later }
def CoefTogetherUptoCardSaid : Prop := Claim7.holds Tryd.pinned (.plain (OpenSpec.upto coefTogetherSpec)) coefTogetherUptoCard

/-- THE SECOND FORM's CARD OF 'clerestorylaw07.CoefSizes'. -/
def coefSizesUptoCard : Claim7 := { stood := { row := coefSizesUptoRow, standIns := [], harness := (true, "0dd3a78de650885f3d376844b57224d3abcfd68da1f4deeaaf59d46b90cbcf37"), looks := false }, kinds := [], alts := [], laidByText := true, laidKinds := [.data], laidTests := true, laidLooks := .later }
def CoefSizesUptoCardSaid : Prop := Claim7.holds Tryd.pinned (.plain (OpenSpec.upto coefSizesSpec)) coefSizesUptoCard
end Rows
end Go.Proofs.YthfpdebpepbejaaDoor
