/-
  CrcSeals: what the walk holds on to.
-/
import Derived.Test.YthfeblkbkndbkaaDoorRefCheck
namespace Go.Proofs.YthfeblkbkndbkaaDoor
open Go.RowKit

/-- what CrcSeals holds on to: its bytes, and its own copy of them -/
structure SealsAt (w w' : World) (A X : Option Addr) (n c d : Nat) (l : List Int) : Prop where
  bel : Below w.heap.size w w'
  tab : Tab w'
  a : Sl w' (fun _ => True) A n c l
  x : Sl w' (fun _ => True) X n d l
theorem SealsAt.on {w w' w2 : World} {A X : Option Addr} {n c d : Nat} {l : List Int} (h : SealsAt w w' A X n c d l) (k : Below w'.heap.size w' w2) : SealsAt w w2 A X n c d l :=
  ⟨on_trans h.bel k, h.tab.below k, h.a.on k, h.x.on k⟩

theorem box_set {w : World} {g k m : Nat} {L : List Int} {z : Int} (h : Box w g 5 (cellsOf L).toArray) (hL : L.length = m) : ∃ L' : List Int, L'.length = m ∧ Box (w.setCell ⟨g, k, none⟩ (.int .u8 z)) g 5 (cellsOf L').toArray :=
  ⟨L.set k z, by rw [List.length_set]; exact hL, by have := h.put k (.int .u8 z); rwa [set_cells] at this⟩

end Go.Proofs.YthfeblkbkndbkaaDoor
