/-
  DERIVED. GIVEN WITH THE SEED: THE PROGRAM's TIES (one call each: nine closed facts by the kernel) AND EACH ROW's TIE, after the 31st guide's Derived/Test/Toyas{Tie, Card}.lean. No idea stands in it: it is a product of the set-up. Laid BY PROGRAM, IN A SANDBOX (cutbox-door.mjs). By AI agents, Wed Nov 11 2026. No macro, syntax, notation, axiom, sorry.
-/
import Derived.Test.YtmadkpnkmkajoaaDoorRows
import Derived.LaidByTextLater
import Derived.SevenTiedAt
import Derived.LaidSub
import Derived.LaidOnce
namespace Go.Proofs.YtmadkpnkmkajoaaDoor
open Go
set_option maxRecDepth 100000
theorem seatTie1 : Tryd.prog.laidByTextLater [("clerestory/quant.brightSteps", Rows.laid_clerestory_quant_brightSteps), ("clerestory/quant.colourSteps", Rows.laid_clerestory_quant_colourSteps), ("clerestory/colour.toTone", Rows.laid_clerestory_colour_toTone), ("clerestory/colour.toPixel", Rows.laid_clerestory_colour_toPixel), ("clerestory/dct.basis", Rows.laid_clerestory_dct_basis), ("clerestory/half.halves", Rows.laid_clerestory_half_halves)] [.data, .data, .data, .data, .data, .data] true :=
  Program.laidByTextLater_by_one 63 8 65 (by kernel_rfl) (by kernel_rfl) (by kernel_rfl) (by kernel_rfl) (by kernel_rfl) (by kernel_rfl) (fun _ _ => by kernel_rfl)
theorem noOwnUnsafe : Tryd.pinned.checked.prog.headLifts.contains "ownunsafe" = false := by kernel_rfl
theorem tie : Tryd.prog.laidByTextLater [("clerestory/quant.brightSteps", Rows.laid_clerestory_quant_brightSteps), ("clerestory/quant.colourSteps", Rows.laid_clerestory_quant_colourSteps), ("clerestory/colour.toPixel", Rows.laid_clerestory_colour_toPixel), ("clerestory/dct.basis", Rows.laid_clerestory_dct_basis)] [.data, .data, .data, .data] true :=
  Program.laidByTextLater.sub seatTie1 ["clerestory/quant.brightSteps", "clerestory/quant.colourSteps", "clerestory/colour.toPixel", "clerestory/dct.basis"] (by kernel_rfl) (by kernel_rfl)
theorem tileWords_row_tie : Rows.tileWordsRow.laidByTextAt .later Tryd.pinned [.data, .data, .data, .data] true :=
  OpenClaim.laidByTextAt_later rfl rfl tie noOwnUnsafe
theorem tilePixels_row_tie : Rows.tilePixelsRow.laidByTextAt .later Tryd.pinned [.data, .data, .data, .data] true :=
  OpenClaim.laidByTextAt_later rfl rfl tie noOwnUnsafe
theorem tie2 : Tryd.prog.laidByTextLater [("clerestory/quant.brightSteps", Rows.laid_clerestory_quant_brightSteps), ("clerestory/quant.colourSteps", Rows.laid_clerestory_quant_colourSteps), ("clerestory/colour.toPixel", Rows.laid_clerestory_colour_toPixel), ("clerestory/dct.basis", Rows.laid_clerestory_dct_basis), ("clerestory/half.halves", Rows.laid_clerestory_half_halves)] [.data, .data, .data, .data, .data] true :=
  Program.laidByTextLater.sub seatTie1 ["clerestory/quant.brightSteps", "clerestory/quant.colourSteps", "clerestory/colour.toPixel", "clerestory/dct.basis", "clerestory/half.halves"] (by kernel_rfl) (by kernel_rfl)
theorem tileReduces_row_tie : Rows.tileReducesRow.laidByTextAt .later Tryd.pinned [.data, .data, .data, .data, .data] true :=
  OpenClaim.laidByTextAt_later rfl rfl tie2 noOwnUnsafe
theorem tileNoughts_row_tie : Rows.tileNoughtsRow.laidByTextAt .later Tryd.pinned [.data, .data, .data, .data, .data] true :=
  OpenClaim.laidByTextAt_later rfl rfl tie2 noOwnUnsafe
theorem tie3 : Tryd.prog.laidByTextLater [("clerestory/quant.brightSteps", Rows.laid_clerestory_quant_brightSteps), ("clerestory/quant.colourSteps", Rows.laid_clerestory_quant_colourSteps), ("clerestory/colour.toTone", Rows.laid_clerestory_colour_toTone), ("clerestory/colour.toPixel", Rows.laid_clerestory_colour_toPixel), ("clerestory/dct.basis", Rows.laid_clerestory_dct_basis)] [.data, .data, .data, .data, .data] true :=
  Program.laidByTextLater.sub seatTie1 ["clerestory/quant.brightSteps", "clerestory/quant.colourSteps", "clerestory/colour.toTone", "clerestory/colour.toPixel", "clerestory/dct.basis"] (by kernel_rfl) (by kernel_rfl)
theorem tileGreys_row_tie : Rows.tileGreysRow.laidByTextAt .later Tryd.pinned [.data, .data, .data, .data, .data] true :=
  OpenClaim.laidByTextAt_later rfl rfl tie3 noOwnUnsafe
theorem tileWordsUpto_row_tie : Rows.tileWordsUptoRow.laidByTextAt .later Tryd.pinned [.data, .data, .data, .data] true :=
  OpenClaim.laidByTextAt_later rfl rfl tie noOwnUnsafe
theorem tilePixelsUpto_row_tie : Rows.tilePixelsUptoRow.laidByTextAt .later Tryd.pinned [.data, .data, .data, .data] true :=
  OpenClaim.laidByTextAt_later rfl rfl tie noOwnUnsafe
theorem tileReducesUpto_row_tie : Rows.tileReducesUptoRow.laidByTextAt .later Tryd.pinned [.data, .data, .data, .data, .data] true :=
  OpenClaim.laidByTextAt_later rfl rfl tie2 noOwnUnsafe
theorem tileNoughtsUpto_row_tie : Rows.tileNoughtsUptoRow.laidByTextAt .later Tryd.pinned [.data, .data, .data, .data, .data] true :=
  OpenClaim.laidByTextAt_later rfl rfl tie2 noOwnUnsafe
theorem tileGreysUpto_row_tie : Rows.tileGreysUptoRow.laidByTextAt .later Tryd.pinned [.data, .data, .data, .data, .data] true :=
  OpenClaim.laidByTextAt_later rfl rfl tie3 noOwnUnsafe
end Go.Proofs.YtmadkpnkmkajoaaDoor
