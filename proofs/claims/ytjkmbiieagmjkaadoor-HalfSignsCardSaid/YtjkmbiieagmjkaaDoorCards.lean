/-
  DERIVED. GIVEN WITH THE SEED: THE CARDS: each row of YtjkmbiieagmjkaaDoorRows.lean that lists a variable, with what it lists TIED to the program's text (the seventh form; the later family's looks); each row that meets fmt, with fmt's text TOLD by the authors' own Lean function (tested against real Go, not proved from fmt's source: count such statements apart). THE CARD IS WHAT COUNTS. Prove the row's statement (the work); the ties are given (YtjkmbiieagmjkaaDoorTie.lean); close each card by the builder's one call (the guide's Derived/Test/ToyasCard.lean, 'card_holds'). Laid BY PROGRAM, IN A SANDBOX (cutbox-door.mjs). By AI agents, Wed Nov 11 2026. No macro, syntax, notation, axiom, sorry.
-/
import Derived.Test.YtjkmbiieagmjkaaDoorRows
import GoSem.ClaimSeven
namespace Go.Proofs.YtjkmbiieagmjkaaDoor
namespace Rows

/-- THE TIED CARD OF 'clerestorylaw10.HalfMerges'. -/
def halfMergesCard : Claim7 := { stood := { row := halfMergesRow, standIns := [], harness := (true, "ab5abdda2fa5a26555f6bdc0584e99596f6f1035787d38f65c972f6bc93758d3"), looks := false }, kinds := [], alts := [], laidByText := true, laidKinds := [.data], laidTests := true, laidLooks := .later }
def HalfMergesCardSaid : Prop := Claim7.holds Tryd.pinned (.plain (OpenSpec.ofChange halfMergesSpec)) halfMergesCard

/-- THE TIED CARD OF 'clerestorylaw10.HalfTold'. -/
def halfToldCard : Claim7 := { stood := { row := halfToldRow, standIns := [], harness := (true, "ab5abdda2fa5a26555f6bdc0584e99596f6f1035787d38f65c972f6bc93758d3"), looks := false }, kinds := [], alts := [], laidByText := true, laidKinds := [.data], laidTests := true, laidLooks := .later }
def HalfToldCardSaid : Prop := Claim7.holds Tryd.pinned (.plain (OpenSpec.ofChange halfToldSpec)) halfToldCard

/-- THE TIED CARD OF 'clerestorylaw10.HalfNoughts'. -/
def halfNoughtsCard : Claim7 := { stood := { row := halfNoughtsRow, standIns := [], harness := (true, "ab5abdda2fa5a26555f6bdc0584e99596f6f1035787d38f65c972f6bc93758d3"), looks := false }, kinds := [], alts := [], laidByText := true, laidKinds := [.data], laidTests := true, laidLooks := .later }
def HalfNoughtsCardSaid : Prop := Claim7.holds Tryd.pinned (.plain (OpenSpec.ofChange halfNoughtsSpec)) halfNoughtsCard

/-- THE TIED CARD OF 'clerestorylaw10.HalfFlat'. -/
def halfFlatCard : Claim7 := { stood := { row := halfFlatRow, standIns := [], harness := (true, "ab5abdda2fa5a26555f6bdc0584e99596f6f1035787d38f65c972f6bc93758d3"), looks := false }, kinds := [], alts := [], laidByText := true, laidKinds := [.data], laidTests := true, laidLooks := .later }
def HalfFlatCardSaid : Prop := Claim7.holds Tryd.pinned (.plain (OpenSpec.ofChange halfFlatSpec)) halfFlatCard

/-- THE TIED CARD OF 'clerestorylaw10.HalfTurned'. -/
def halfTurnedCard : Claim7 := { stood := { row := halfTurnedRow, standIns := [], harness := (true, "ab5abdda2fa5a26555f6bdc0584e99596f6f1035787d38f65c972f6bc93758d3"), looks := false }, kinds := [], alts := [], laidByText := true, laidKinds := [.data], laidTests := true, laidLooks := .later }
def HalfTurnedCardSaid : Prop := Claim7.holds Tryd.pinned (.plain (OpenSpec.ofChange halfTurnedSpec)) halfTurnedCard

/-- THE TIED CARD OF 'clerestorylaw10.HalfSigns'. -/
def halfSignsCard : Claim7 := { stood := { row := halfSignsRow, standIns := [], harness := (true, "ab5abdda2fa5a26555f6bdc0584e99596f6f1035787d38f65c972f6bc93758d3"), looks := false }, kinds := [], alts := [], laidByText := true, laidKinds := [.data], laidTests := true, laidLooks := .later }
def HalfSignsCardSaid : Prop := Claim7.holds Tryd.pinned (.plain (OpenSpec.ofChange halfSignsSpec)) halfSignsCard

/-- THE SECOND FORM's CARD OF 'clerestorylaw10.HalfMerges'. -/
def halfMergesUptoCard : Claim7 := { stood := { row := halfMergesUptoRow, standIns := [], harness := (true, "ab5abdda2fa5a26555f6bdc0584e99596f6f1035787d38f65c972f6bc93758d3"), looks := false }, kinds := [], alts := [], laidByText := true, laidKinds := [.data], laidTests := true, laidLooks := .later }
def HalfMergesUptoCardSaid : Prop := Claim7.holds Tryd.pinned (.plain (OpenSpec.upto halfMergesSpec)) halfMergesUptoCard

/-- THE SECOND FORM's CARD OF 'clerestorylaw10.HalfTold'. -/
def halfToldUptoCard : Claim7 := { stood := { row := halfToldUptoRow, standIns := [], harness := (true, "ab5abdda2fa5a26555f6bdc0584e99596f6f1035787d38f65c972f6bc93758d3"), looks := false }, kinds := [], alts := [], laidByText := true, laidKinds := [.data], laidTests := true, laidLooks := .later }
def HalfToldUptoCardSaid : Prop := Claim7.holds Tryd.pinned (.plain (OpenSpec.upto halfToldSpec)) halfToldUptoCard

/-- THE SECOND FORM's CARD OF 'clerestorylaw10.HalfNoughts'. -/
def halfNoughtsUptoCard : Claim7 := { stood := { row := halfNoughtsUptoRow, standIns := [], harness := (true, "ab5abdda2fa5a26555f6bdc0584e99596f6f1035787d38f65c972f6bc93758d3"), looks := false }, kinds := [], alts := [], laidByText := true, laidKinds := [.data], laidTests := true, laidLooks := .later }
def HalfNoughtsUptoCardSaid : Prop := Claim7.holds Tryd.pinned (.plain (OpenSpec.upto halfNoughtsSpec)) halfNoughtsUptoCard

/-- THE SECOND FORM's CARD OF 'clerestorylaw10.HalfFlat'. -/
def halfFlatUptoCard : Claim7 := { stood := { row := halfFlatUptoRow, standIns := [], harness := (true, "ab5abdda2fa5a26555f6bdc0584e99596f6f1035787d38f65c972f6bc93758d3"), looks := false }, kinds := [], alts := [], laidByText := true, laidKinds := [.data], laidTests := true, laidLooks := .later }
def HalfFlatUptoCardSaid : Prop := Claim7.holds Tryd.pinned (.plain (OpenSpec.upto halfFlatSpec)) halfFlatUptoCard

/-- THE SECOND FORM's CARD OF 'clerestorylaw10.HalfTurned'. -/
def halfTurnedUptoCard : Claim7 := { stood := { row := halfTurnedUptoRow, standIns := [], harness := (true, "ab5abdda2fa5a26555f6bdc0584e99596f6f1035787d38f65c972f6bc93758d3"), looks := false }, kinds := [], alts := [], laidByText := true, laidKinds := [.data], laidTests := true, laidLooks := .later }
def HalfTurnedUptoCardSaid : Prop := Claim7.holds Tryd.pinned (.plain (OpenSpec.upto halfTurnedSpec)) halfTurnedUptoCard

/-- THE SECOND FORM's CARD OF 'clerestorylaw10.HalfSigns'. -/
def halfSignsUptoCard : Claim7 := { stood := { row := halfSignsUptoRow, standIns := [], harness := (true, "ab5abdda2fa5a26555f6bdc0584e99596f6f1035787d38f65c972f6bc93758d3"), looks := false }, kinds := [], alts := [], laidByText := true, laidKinds := [.data], laidTests := true, laidLooks := .later }
def HalfSignsUptoCardSaid : Prop := Claim7.holds Tryd.pinned (.plain (OpenSpec.upto halfSignsSpec)) halfSignsUptoCard
end Rows
end Go.Proofs.YtjkmbiieagmjkaaDoor
