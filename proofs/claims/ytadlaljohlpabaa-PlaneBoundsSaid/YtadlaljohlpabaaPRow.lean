/-
  A plane that is made: its struct in memory, its samples in a row of one's own that grows.
-/
import Derived.Test.YtadlaljohlpabaaPOwn
import Derived.Deep.RegionLaw
import Derived.Deep.AppendLies
namespace Go.Proofs.Ytadlaljohlpabaa
open Go.RowKit

/-- what lies in memory: the argument's box, what is told, a plane whose samples are appended one by one -/
structure Mk (w wr : World) (base gA gR gO : Nat) (P : Array Value) (W H : Int) (xs : List Int) (A : Option Addr) (n c : Nat) : Prop where
  arg : Box wr gA 24 P
  res : Box wr gR 24 #[.int .i64 0, .int .i64 0, .slice none 0 0]
  out : Box wr gO 24 #[.int .i64 W, .int .i64 H, .slice A n c]
  own : wr.ownsRow base 3 1 (.slice A n c) n (cellsI xs)
  bel : Below w.heap.size w wr
  lo : base ≤ wr.heap.size
  lA : gA < base
  lR : gR < base
  lO : gO < base
  nA : gA ≠ gO
  nR : gR ≠ gO
  new : w.heap.size ≤ gR ∧ w.heap.size ≤ gO
  old : w.heap.size ≤ base
section
variable {w wr w' : World} {base gA gR gO : Nat} {P : Array Value} {W H : Int} {xs : List Int} {A : Option Addr} {n c : Nat}
theorem Mk.on (h : Mk w wr base gA gR gO P W H xs A n c) (k : Below wr.heap.size wr w') : Mk w w' base gA gR gO P W H xs A n c :=
  ⟨h.arg.on k, h.res.on k, h.out.on k, ownsRow_block h.own (fun g _ _ hh => k.block g (Array.getElem?_eq_some_iff.1 hh).1), on_trans h.bel k, Nat.le_trans h.lo k.size, h.lA, h.lR, h.lO, h.nA, h.nR, h.new, h.old⟩
theorem Mk.len (h : Mk w wr base gA gR gO P W H xs A n c) : n = xs.length := by have := h.own.1; simpa [cellsI] using this.symm
/-- one sample more -/
theorem Mk.more (h : Mk w wr base gA gR gO P W H xs A n c) {A' : Option Addr} {n' c' : Nat} {ys : List Int} (hown : w'.ownsRow base 3 1 (.slice A' n' c') n' (cellsI ys)) (k : Below base wr w') :
    Mk w (w'.setCell ⟨gO, 2, none⟩ (.slice A' n' c')) base gA gR gO P W H ys A' n' c' := by
  have b2 : Box w' gO 24 #[.int .i64 W, .int .i64 H, .slice A n c] := h.out.bel k h.lO
  refine ⟨(h.arg.bel k h.lA).beside (p := ⟨gO, 2, none⟩) h.nA _, (h.res.bel k h.lR).beside (p := ⟨gO, 2, none⟩) h.nR _, ?_, ?_, ?_, ?_, h.lA, h.lR, h.lO, h.nA, h.nR, h.new, h.old⟩
  · exact b2.put 2 (.slice A' n' c')
  · refine ownsRow_block hown fun g _ e hh => ?_
    have hg : base ≤ g := by
      rcases hown.2 with ⟨e0, _⟩ | ⟨g', cap, cur, e0, hg', _⟩
      · rw [e0] at e; cases e
      · rw [e0] at e; cases e; exact hg'
    exact Below.heap_setCell w' ⟨gO, 2, none⟩ _ g (fun e => by have := h.lO; have e' : g = gO := e; omega)
  · have k1 : Below w.heap.size w w' := h.bel.trans (k.mono h.old)
    exact ((Kept.of_below k1 (fun i => i = gO)).setCell (p := ⟨gO, 2, none⟩) (fun _ => rfl) _).below (Nat.le_refl _) (fun i hi e => by have := h.new.2; omega)
  · have := k.size
    have := h.lo
    simp [World.setCell]
    omega
/-- the plane is told -/
theorem Mk.done (h : Mk w wr base gA gR gO P W H xs A n c) (k : Kept (fun i => i = gR) wr w') : Below w.heap.size w w' ∧ Os w' w.heap.size A n c xs := by
  obtain ⟨A1, c1, e, ho⟩ := os_of_own h.own
  cases e
  exact ⟨h.bel.trans (k.below h.bel.size (fun i hi e => by have := h.new.1; omega)), (ho.down h.old).kept k (fun b off e hb => by have := (ho.new b off e).1; have := h.lR; omega)⟩
end
theorem load_plane {w : World} {g : Nat} {cs : Array Value} (h : Box w g 24 cs) (hcs : cs.size = 3) : (Instr.loadAt 24 (.pointer (some ⟨g, 0, none⟩))).run Try.prog w = .ok (.agg cs) w := by
  have := run_loadAt_mid w g 0 24 cs.toList (.struct _) (fun j u hu => by rw [Nat.zero_add, h.cell j]; simpa using hu) Try.underlying24 rfl (by rw [plane_size]; simp [hcs])
  simpa using this
/-- a plane is stored whole -/
theorem wpList_store_plane {ops : Array Oper} {rest : List Oper} {o : Oper} {a : Act} {w : World} {Q : Exit → Act → World → Prop} (hgd : o.guard = none) (x y : Operand) (ho : o.op = .store 24 x y) (hd : o.dst = none)
    (g : Nat) (cs : Array Value) (hcs : cs.size = 3) (hone : cs.all (·.oneCell') = true) (hx : a.eval x = .pointer (some ⟨g, 0, none⟩)) (hy : a.eval y = .agg cs) (old : Array Value) (hg : Box w g 24 old) (hold : old.size = 3)
    (h : ∀ w', Box w' g 24 cs → Kept (fun i => i = g) w w' → wpList Try.prog ops Q rest a w') : wpList Try.prog ops Q (o :: rest) a w :=
  wpList_plain hgd fun _ hK => wp_store_plane x y ho hd g cs hcs hone hx hy old hg hold fun w' h1 h2 => hK _ _ (h w' h1 h2)
/-- what a call answers that tells a plane and an error -/
def PTells (w : World) (R : Int × Int × List Int × Int) (e : Ending) (w' : World) : Prop :=
  ∃ A n c, e = .returned (.tuple #[.agg #[.int .i64 R.1, .int .i64 R.2.1, .slice A n c], .int .i64 R.2.2.2]) ∧ Os w' w.heap.size A n c R.2.2.1 ∧ Below w.heap.size w w'
/-- two boxes: the argument, what is told -/
theorem two_made (w : World) (P : Array Value) : ∃ w2, (w.alloc (.cells P 24)).alloc (.cells #[.int .i64 0, .int .i64 0, .slice none 0 0] 24) = w2 ∧ Box w2 w.heap.size 24 P ∧ Box w2 (w.heap.size + 1) 24 #[.int .i64 0, .int .i64 0, .slice none 0 0] ∧ Below w.heap.size w w2 := by
  refine ⟨_, rfl, (Box.made w 24 P).alloc _, ?_, on_trans (on_alloc _ _) (on_alloc _ _)⟩
  have a2 : Box ((w.alloc (.cells P 24)).alloc (.cells #[.int .i64 0, .int .i64 0, .slice none 0 0] 24)) (w.alloc (.cells P 24)).heap.size 24 #[.int .i64 0, .int .i64 0, .slice none 0 0] := Box.made _ _ _
  rwa [show (w.alloc (.cells P 24)).heap.size = w.heap.size + 1 by simp] at a2
/-- the plane that is made, laid behind them -/
theorem mk_made {w w4 : World} {gA gR : Nat} {P : Array Value} (hA : Box w4 gA 24 P) (hR : Box w4 gR 24 #[.int .i64 0, .int .i64 0, .slice none 0 0]) (k : Below w.heap.size w w4) (hn : w.heap.size ≤ gR) (W H : Int) :
    Mk w (w4.alloc (.cells #[.int .i64 W, .int .i64 H, .slice none 0 0] 24)) (w4.heap.size + 1) gA gR w4.heap.size P W H [] none 0 0 := by
  have k4 := on_alloc w4 (.cells #[.int .i64 W, .int .i64 H, .slice none 0 0] 24)
  have a := hA.lt
  have b := hR.lt
  have s := k.size
  exact ⟨hA.on k4, hR.on k4, Box.made _ _ _, World.ownsRow_nil _ _ _ _, on_trans k k4, by simp, by omega, by omega, by omega, by omega, by omega, ⟨by omega, by omega⟩, by omega⟩
end Go.Proofs.Ytadlaljohlpabaa
