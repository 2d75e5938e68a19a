/-
  HuffAgain: the walk.
-/
import Derived.Test.YthfpdebpepbejaaDoorAwake5
namespace Go.Proofs.YthfpdebpepbejaaDoor
open Go.RowKit

/-- a law's specification in memory -/
structure Boxed (w w1 : World) (g : Nat) (B V : List Int) (A : Option Addr) (n c : Nat) : Prop where
  box : Box w1 g 42 (specC B (.slice A n c))
  vals : Ia w1 A n c V
  bel : Below w.heap.size w w1
  len : B.length = 16
theorem Boxed.on {w w1 w2 : World} {g : Nat} {B V : List Int} {A : Option Addr} {n c : Nat} (h : Boxed w w1 g B V A n c) (k : Below w1.heap.size w1 w2) : Boxed w w2 g B V A n c :=
  ⟨h.box.on k, h.vals.on k, on_trans h.bel k, h.len⟩
theorem boxed_made {w w1 : World} {g : Nat} {B V : List Int} {A : Option Addr} {n c : Nat} (hB : B.length = 16) (h : Ia w A n c V) (hw : w1 = w.alloc (.cells (specC B (.slice A n c)) 42)) (hg : g = w.heap.size) : Boxed w w1 g B V A n c := by
  subst hw hg
  exact ⟨Box.made _ _ _, h.alloc _, on_alloc _ _, hB⟩
theorem Boxed.slice {w w1 : World} {g : Nat} {B V : List Int} {A : Option Addr} {n c : Nat} (h : Boxed w w1 g B V A n c) : w1.cell? ⟨g, 16, none⟩ = some (.slice A n c) := (h.box.cell 16).trans (specC_last h.len)
end Go.Proofs.YthfpdebpepbejaaDoor
