/-
  HuffAgain: the walk. HuffRises: the walk.
-/
import Derived.Test.YthfpdebpepbejaaDoorAwake5
namespace Go.Proofs.YthfpdebpepbejaaDoor
open Go.RowKit

/-- a law's specification in memory -/
structure Boxed (w w1 : World) (g : Nat) (B V : List Int) (A : Option Addr) (n c : Nat) : Prop where
  box : Box w1 g 42 (specC B (.slice A n c))
  vals : Ia w1 A n c V
  bel : Below w.heap.size w w1
  len : B.length = 16
theorem Boxed.on {w w1 w2 : World} {g : Nat} {B V : List Int} {A : Option Addr} {n c : Nat} (h : Boxed w w1 g B V A n c) (k : Below w1.heap.size w1 w2) : Boxed w w2 g B V A n c :=
  ⟨h.box.on k, h.vals.on k, on_trans h.bel k, h.len⟩
theorem boxed_made {w w1 : World} {g : Nat} {B V : List Int} {A : Option Addr} {n c : Nat} (hB : B.length = 16) (h : Ia w A n c V) (hw : w1 = w.alloc (.cells (specC B (.slice A n c)) 42)) (hg : g = w.heap.size) : Boxed w w1 g B V A n c := by
  subst hw hg
  exact ⟨Box.made _ _ _, h.alloc _, on_alloc _ _, hB⟩
theorem Boxed.slice {w w1 : World} {g : Nat} {B V : List Int} {A : Option Addr} {n c : Nat} (h : Boxed w w1 g B V A n c) : w1.cell? ⟨g, 16, none⟩ = some (.slice A n c) := (h.box.cell 16).trans (specC_last h.len)
end Go.Proofs.YthfpdebpepbejaaDoor

namespace Go.Proofs.YthfpdebpepbejaaDoor
open Go.RowKit

theorem nodup_inj {V : List Int} (h : V.Nodup) {i j : Nat} (hi : i < V.length) (hj : j < V.length) (e : V[i] = V[j]) : i = j := by
  rcases Nat.lt_trichotomy i j with h1 | h1 | h1
  · exact absurd e (List.pairwise_iff_getElem.1 h i j hi hj h1)
  · exact h1
  · exact absurd e.symm (List.pairwise_iff_getElem.1 h j i hj hi h1)
/-- a value's code is the one in its place -/
theorem code_at {B V : List Int} (h : Valid B V) {p : Nat} (hp : p < V.length) : ∃ x, (pre (cnt B) 16)[p]? = some x ∧ codeOf (codes B V) (V.getD p 0) = x := by
  have hl := h.lens
  have hx : (pre (cnt B) 16)[p]? = some ((pre (cnt B) 16)[p]'(by omega)) := List.getElem?_eq_getElem (by omega)
  generalize (pre (cnt B) 16)[p]'(by omega) = x at hx
  refine ⟨x, hx, ?_⟩
  have hv : V[p]? = some (V.getD p 0) := by rw [List.getD_eq_getElem?_getD, List.getElem?_eq_getElem hp]; rfl
  have he : (codes B V)[p]? = some (V.getD p 0, x) := ents_at.2 ⟨hv, hx⟩
  have hs : (fnd (codes B V) (V.getD p 0)).isSome = true := by
    unfold fnd
    rw [List.find?_isSome]
    exact ⟨_, List.mem_of_getElem? he, by simp⟩
  obtain ⟨e, hf⟩ := Option.isSome_iff_exists.1 hs
  obtain ⟨h1, h2⟩ := fnd_some hf
  obtain ⟨j, hj⟩ := List.getElem?_of_mem h1
  obtain ⟨h3, h4⟩ := ents_at.1 hj
  obtain ⟨hjl, h3'⟩ := List.getElem?_eq_some_iff.1 h3
  have ej : j = p := nodup_inj h.dif hjl hp (by
    rw [h3', h2, List.getD_eq_getElem?_getD, List.getElem?_eq_getElem hp]
    rfl)
  subst ej
  rw [hx] at h4
  unfold codeOf
  rw [hf]
  exact (Option.some.inj h4).symm

/-- what the laws that look at codes hold on to -/
structure Looking (w wr : World) (g lo hi t : Nat) (B V : List Int) (A : Option Addr) (n c : Nat) : Prop where
  box : Boxed w wr g B V A n c
  tab : Tb wr lo hi t B V (codes B V)
theorem Looking.on {w w1 w2 : World} {g lo hi t : Nat} {B V : List Int} {A : Option Addr} {n c : Nat} (h : Looking w w1 g lo hi t B V A n c) (k : Below w1.heap.size w1 w2) : Looking w w2 g lo hi t B V A n c := ⟨h.box.on k, h.tab.on k⟩

theorem Ia.get {w : World} {b off n c k : Nat} {V : List Int} (h : Ia w (some ⟨b, off, none⟩) n c V) (hk : k < n) : w.cell? ⟨b, off + k, none⟩ = some (.int .i64 (V.getD k 0)) := by
  obtain ⟨b', off', e, _, hc⟩ := h.at_ (by omega)
  cases e
  exact hc k hk
/-- Code tells a value's code -/
def CodedIn (w : World) (x : Nat × Nat) (e : Ending) (w' : World) : Prop := e = .returned (.tuple #[.int .i64 (x.1 : Int), .int .i64 (x.2 : Int), .bool true]) ∧ Below w.heap.size w w'
theorem code_in (w : World) (lo hi t : Nat) (B V : List Int) (p : Nat) (x : Nat × Nat) (v : Int) (h : Tb w lo hi t B V (codes B V)) (hv : Valid B V) (hx : (pre (cnt B) 16)[p]? = some x) (hc : codeOf (codes B V) v = x) :
    Calls Tryd.prog 42 #[.pointer (some ⟨t, 0, none⟩), .int .i64 v] w (CodedIn w x) := by
  refine (code_any w lo hi t B V _ v h (valid_vals hv)).mono ?_
  rintro e w' ⟨rfl, b⟩
  rw [hc]
  have := (mem_pre (List.mem_of_getElem? hx)).1
  exact ⟨by rw [show decide (0 < x.2) = true from decide_eq_true (by omega)], b⟩

end Go.Proofs.YthfpdebpepbejaaDoor
