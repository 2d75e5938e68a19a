/-
  HuffBack: the walk.
-/
import Derived.Test.YthfpdebpepbejaaDoorPutT
import Derived.Test.YthfpdebpepbejaaDoorAwake
import Derived.Test.YthfpdebpepbejaaDoorSpec
import Derived.Test.YthfpdebpepbejaaDoorFind
import Derived.Test.YthfpdebpepbejaaDoorAgain
import Derived.Test.YthfpdebpepbejaaDoorRefCodes
namespace Go.Proofs.YthfpdebpepbejaaDoor
open Go.RowKit

theorem Scan.full {L l : List Int} (h : Scan L l) : ∃ F : List Int, Fit F ∧ l = stuff F ∧ ∃ j, j < 8 ∧ by8 F = L ++ List.replicate j 1 ∧ 8 * F.length = L.length + j := by
  obtain ⟨B, v, c, h1, h2, h3, h4, h5⟩ := h
  have e := by8_filledUp B (v := v) h2
  rw [← h4] at e
  have hl := congrArg List.length e
  rw [by8_len, List.length_append, List.length_replicate] at hl
  exact ⟨filledUp B v c, fit_filledUp h1 h2 h3, h5, (8 - c) % 8, by omega, e, hl⟩

/-- what the loops stand on: the table, the list, the values offered, at w -/
structure Base6 (w0 w : World) (lo t : Nat) (B V : List Int) (Ac : Option Addr) (nc : Nat) (A : Option Addr) (n c : Nat) (l : List Int) : Prop where
  tab : Tb w lo w.heap.size t B V (codes B V)
  te : Te w Ac nc (codes B V)
  few : nc ≤ 256
  arg : Ia w A n c l
  bel : Below w0.heap.size w0 w
  val : Valid B V

/-- how things stand when k values have been offered: those of ps were put -/
structure BackV (w wr : World) (base d k : Nat) (L : List En) (v : Value) (ps : List Int) : Prop where
  wri : Wr wr d (bitsV L ps)
  row : wr.ownsRow base 3 1 v ps.length (cellsI ps)
  may : ∀ p ∈ ps, ∃ en, fnd L p = some en
  ord : w.heap.size ≤ d ∧ d < base ∧ base ≤ wr.heap.size
  bel : Below w.heap.size w wr
  few : ps.length ≤ k
  bits : (bitsV L ps).length ≤ 16 * k
section
variable {w wr w' : World} {base d k : Nat} {L : List En} {v : Value} {ps : List Int}
theorem BackV.on (h : BackV w wr base d k L v ps) (b : Below wr.heap.size wr w') : BackV w w' base d k L v ps :=
  ⟨h.wri.on b, ownsRow_block h.row fun g _ _ hb => b.block g (Array.getElem?_eq_some_iff.1 hb).1, h.may, ⟨h.ord.1, h.ord.2.1, Nat.le_trans h.ord.2.2 b.size⟩, on_trans h.bel b, h.few, h.bits⟩
theorem BackV.more (h : BackV w wr base d k L v ps) : BackV w wr base d (k + 1) L v ps :=
  ⟨h.wri, h.row, h.may, h.ord, h.bel, by have := h.few; omega, by have := h.bits; omega⟩
theorem BackV.put (h : BackV w wr base d k L v ps) (b : Kept (fun i => i = d) wr w') : w'.ownsRow base 3 1 v ps.length (cellsI ps) ∧ Below w.heap.size w w' ∧ base ≤ w'.heap.size :=
  ⟨ownsRow_block h.row fun g cs hg hb => b.block g (Array.getElem?_eq_some_iff.1 hb).1 (fun e => by have := (h.row.lt g hg).1; have := h.ord; omega), h.bel.trans (b.below h.bel.size (fun i hi e => by have := h.ord; omega)), Nat.le_trans h.ord.2.2 b.size⟩
end
/-- how things stand while the values are got -/
structure Backing (w wr : World) (r g : Nat) (l : List Int) (s : St) : Prop where
  rd : Rd wr r g l s
  new : w.heap.size ≤ r
  bel : Below w.heap.size w wr

end Go.Proofs.YthfpdebpepbejaaDoor
