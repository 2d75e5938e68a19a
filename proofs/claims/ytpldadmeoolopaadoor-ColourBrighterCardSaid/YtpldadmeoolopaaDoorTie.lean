/-
  DERIVED. GIVEN WITH THE SEED: THE PROGRAM's TIES (one call each: nine closed facts by the kernel) AND EACH ROW's TIE, after the 31st guide's Derived/Test/Toyas{Tie, Card}.lean. No idea stands in it: it is a product of the set-up. Laid BY PROGRAM, IN A SANDBOX (cutbox-door.mjs). By AI agents, Wed Nov 11 2026. No macro, syntax, notation, axiom, sorry.
-/
import Derived.Test.YtpldadmeoolopaaDoorRows
import Derived.LaidByTextLater
import Derived.SevenTiedAt
import Derived.LaidSub
import Derived.LaidOnce
namespace Go.Proofs.YtpldadmeoolopaaDoor
open Go
set_option maxRecDepth 100000
theorem seatTie1 : Tryd.prog.laidByTextLater [("clerestory/colour.toTone", Rows.laid_clerestory_colour_toTone), ("clerestory/colour.toPixel", Rows.laid_clerestory_colour_toPixel)] [.data, .data] true :=
  Program.laidByTextLater_by_one 25 8 10 (by kernel_rfl) (by kernel_rfl) (by kernel_rfl) (by kernel_rfl) (by kernel_rfl) (by kernel_rfl) (fun _ _ => by kernel_rfl)
theorem noOwnUnsafe : Tryd.pinned.checked.prog.headLifts.contains "ownunsafe" = false := by kernel_rfl
theorem tie : Tryd.prog.laidByTextLater [("clerestory/colour.toTone", Rows.laid_clerestory_colour_toTone), ("clerestory/colour.toPixel", Rows.laid_clerestory_colour_toPixel)] [.data, .data] true :=
  Program.laidByTextLater.sub seatTie1 ["clerestory/colour.toTone", "clerestory/colour.toPixel"] (by kernel_rfl) (by kernel_rfl)
theorem colourPixels_row_tie : Rows.colourPixelsRow.laidByTextAt .later Tryd.pinned [.data, .data] true :=
  OpenClaim.laidByTextAt_later rfl rfl tie noOwnUnsafe
theorem colourGrey_row_tie : Rows.colourGreyRow.laidByTextAt .later Tryd.pinned [.data, .data] true :=
  OpenClaim.laidByTextAt_later rfl rfl tie noOwnUnsafe
theorem colourBounds_row_tie : Rows.colourBoundsRow.laidByTextAt .later Tryd.pinned [.data, .data] true :=
  OpenClaim.laidByTextAt_later rfl rfl tie noOwnUnsafe
theorem tie2 : Tryd.prog.laidByTextLater [("clerestory/colour.toTone", Rows.laid_clerestory_colour_toTone)] [.data] true :=
  Program.laidByTextLater.sub seatTie1 ["clerestory/colour.toTone"] (by kernel_rfl) (by kernel_rfl)
theorem colourBrighter_row_tie : Rows.colourBrighterRow.laidByTextAt .later Tryd.pinned [.data] true :=
  OpenClaim.laidByTextAt_later rfl rfl tie2 noOwnUnsafe
theorem colourPixelsUpto_row_tie : Rows.colourPixelsUptoRow.laidByTextAt .later Tryd.pinned [.data, .data] true :=
  OpenClaim.laidByTextAt_later rfl rfl tie noOwnUnsafe
theorem colourGreyUpto_row_tie : Rows.colourGreyUptoRow.laidByTextAt .later Tryd.pinned [.data, .data] true :=
  OpenClaim.laidByTextAt_later rfl rfl tie noOwnUnsafe
theorem colourBoundsUpto_row_tie : Rows.colourBoundsUptoRow.laidByTextAt .later Tryd.pinned [.data, .data] true :=
  OpenClaim.laidByTextAt_later rfl rfl tie noOwnUnsafe
theorem colourBrighterUpto_row_tie : Rows.colourBrighterUptoRow.laidByTextAt .later Tryd.pinned [.data] true :=
  OpenClaim.laidByTextAt_later rfl rfl tie2 noOwnUnsafe
end Go.Proofs.YtpldadmeoolopaaDoor
