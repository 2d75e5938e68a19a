/-
  The table of the waves in memory; blocks that are known by a list.
-/
import Derived.Test.YteoahoepipnkfaaDoorDctNear
namespace Go.Proofs.YteoahoepipnkfaaDoor
open Go.RowKit

/-- the waves lie in the program's memory as its text lays them -/
structure Tab (w : World) : Prop where
  waves : w.rangeAt 0 0 (cellsI wz)
theorem range_on {w w' : World} {g : Nat} {L : List Int} (h : w.rangeAt g 0 (cellsI L)) (k : Below w.heap.size w w') (h0 : 0 < L.length) : w'.rangeAt g 0 (cellsI L) := by
  have hg : g < w.heap.size := World.block_lt_of_cell? w ⟨g, 0 + 0, none⟩ (h 0 _ (cellsI_get L 0 h0))
  intro j u hu
  exact (k.cell (p := ⟨g, 0 + j, none⟩) hg).trans (h j u hu)
theorem Tab.on {w w' : World} (h : Tab w) (k : Below w.heap.size w w') : Tab w' := ⟨range_on h.waves k (by decide)⟩
theorem Tab.load {w : World} (h : Tab w) : (Instr.loadAt 22 (.pointer (some ⟨0, 0, none⟩))).run Tryd.prog w = .ok (blkV wz) w :=
  run_loadAt_mid w 0 0 22 (cellsI wz) _ h.waves Tryd.underlying22 rfl (by rw [arr25_size, cellsI_len]; rfl)
theorem Tab.cell {w : World} (h : Tab w) {k : Nat} (hk : k < 64) : w.cell? ⟨0, k, none⟩ = some (.int .i64 (wz.getD k 0)) := by
  have := h.waves k _ (cellsI_get wz k (by rw [wz_len]; exact hk))
  rwa [Nat.zero_add] at this

/-- the blocks of a list lie in memory -/
structure Know (w wr : World) (L : List (Nat × List Int)) : Prop where
  all : ∀ p ∈ L, Blk wr p.1 p.2
  tab : Tab wr
  bel : Below w.heap.size w wr
section
variable {w wr w' : World} {L : List (Nat × List Int)}
theorem Know.on (h : Know w wr L) (k : Below wr.heap.size wr w') : Know w w' L := ⟨fun p hp => (h.all p hp).on k, h.tab.on k, on_trans h.bel k⟩
theorem Know.get (h : Know w wr L) {g : Nat} {b : List Int} (hp : (g, b) ∈ L) : Blk wr g b := h.all _ hp
theorem Know.n0 {g : Nat} {b : List Int} (h : Know w wr ((g, b) :: L)) : Blk wr g b := h.all _ (.head _)
theorem Know.n1 {p0 : Nat × List Int} {g : Nat} {b : List Int} (h : Know w wr (p0 :: (g, b) :: L)) : Blk wr g b := h.all _ (.tail _ (.head _))
theorem Know.n2 {p0 p1 : Nat × List Int} {g : Nat} {b : List Int} (h : Know w wr (p0 :: p1 :: (g, b) :: L)) : Blk wr g b := h.all _ (.tail _ (.tail _ (.head _)))
theorem Know.n3 {p0 p1 p2 : Nat × List Int} {g : Nat} {b : List Int} (h : Know w wr (p0 :: p1 :: p2 :: (g, b) :: L)) : Blk wr g b := h.all _ (.tail _ (.tail _ (.tail _ (.head _))))
theorem Know.n4 {p0 p1 p2 p3 : Nat × List Int} {g : Nat} {b : List Int} (h : Know w wr (p0 :: p1 :: p2 :: p3 :: (g, b) :: L)) : Blk wr g b := h.all _ (.tail _ (.tail _ (.tail _ (.tail _ (.head _)))))
theorem Know.n5 {p0 p1 p2 p3 p4 : Nat × List Int} {g : Nat} {b : List Int} (h : Know w wr (p0 :: p1 :: p2 :: p3 :: p4 :: (g, b) :: L)) : Blk wr g b := h.all _ (.tail _ (.tail _ (.tail _ (.tail _ (.tail _ (.head _))))))
theorem Know.n6 {p0 p1 p2 p3 p4 p5 : Nat × List Int} {g : Nat} {b : List Int} (h : Know w wr (p0 :: p1 :: p2 :: p3 :: p4 :: p5 :: (g, b) :: L)) : Blk wr g b := h.all _ (.tail _ (.tail _ (.tail _ (.tail _ (.tail _ (.tail _ (.head _)))))))
theorem Know.laid {b : List Int} {Z : Array Value} (h : Know w wr L) (hb : Blk w' wr.heap.size b) (k : Kept (fun i => i = wr.heap.size) (wr.alloc (.cells Z 23)) w') : Know w w' ((wr.heap.size, b) :: L) := by
  have hk := (on_alloc wr (.cells Z 23)).trans (k.below (B := wr.heap.size) (by simp) (fun i hi e => by omega))
  refine ⟨fun p hp => ?_, h.tab.on hk, on_trans h.bel hk⟩
  rcases List.mem_cons.1 hp with rfl | hp
  · exact hb
  · exact (h.all p hp).on hk
theorem Know.two {b s : List Int} {cs cu : Array Value} (hT : Tab w) (h : Two w wr cs cu b s) : Know w wr [(w.heap.size + 1, s), (w.heap.size, b)] := by
  refine ⟨fun p hp => ?_, hT.on h.bel, h.bel⟩
  rcases List.mem_cons.1 hp with rfl | hp
  · exact h.b2
  · rw [List.mem_singleton] at hp
    subst hp
    exact h.b1
end

/-- a number of the block laid last is written -/
theorem Know.put {w wr : World} {L : List (Nat × List Int)} {g : Nat} {b : List Int} (h : Know w wr ((g, b) :: L)) (hT : Tab w) (hg : w.heap.size ≤ g) (hne : ∀ p ∈ L, p.1 ≠ g) (k : Nat) (z : Int) : Know w (wr.setCell ⟨g, k, none⟩ (.int .i64 z)) ((g, b.set k z) :: L) := by
  have hb : Below w.heap.size w (wr.setCell ⟨g, k, none⟩ (.int .i64 z)) := ((Kept.of_below h.bel (fun i => i = g)).setCell (p := ⟨g, k, none⟩) (fun _ => rfl) _).below (Nat.le_refl _) (fun i hi e => by omega)
  refine ⟨fun p hp => ?_, hT.on hb, hb⟩
  rcases List.mem_cons.1 hp with rfl | hp
  · exact h.n0.put k z
  · exact ⟨(h.all p (.tail _ hp)).box.beside (hne p hp) _, (h.all p (.tail _ hp)).len⟩

/-- what awake answers -/
def Woke (w : World) (e : Ending) (w' : World) : Prop := e = .returned (.bool true) ∧ Below w.heap.size w w'

/-- a block that a call told is laid in new memory -/
theorem laid_new {w w' w2 : World} {b : List Int} {Z : Array Value} (bel : Below w.heap.size w w') (hb : Blk w2 w'.heap.size b) (k : Kept (fun i => i = w'.heap.size) (w'.alloc (.cells Z 23)) w2) : Blk w2 w'.heap.size b ∧ Below w'.heap.size w' w2 ∧ Below w.heap.size w w2 := by
  have h := (on_alloc w' (.cells Z 23)).trans (k.below (B := w'.heap.size) (by simp) (fun i hi e => by omega))
  exact ⟨hb, h, on_trans bel h⟩

/-- two equal blocks are equal: the operation may be taken first -/
theorem yieldsIf_eql23 {ops : Array Oper} {S : World → Prop} {op : Oper} {a : Act} (hw : Region.wanted op (yielded ops a.tmps) = true) (x y : Operand) (ho : op.op = .binOp .eql 23 x y 23)
    (B : List Int) (hB : B.length = 64) (hx : a.eval x = blkV B) (hy : a.eval y = blkV B) : YieldsIf Tryd.prog ops S op (.bool true) a :=
  .inl ⟨hw, fun w _ => by
    have hg : Tryd.prog.eqGuardType Tryd.prog.depth 23 = false := by kernel_rfl
    unfold execOp
    unfold blkV at hx hy
    have he := blk_equal w hB
    unfold blkV at he
    simp only [ho, hx, hy, Sem.run_bind, run_eqGuard_agg w .eql 23 x y _ _ hg, run_eql_struct, he, Result.andThen_ok]
    rfl⟩
end Go.Proofs.YteoahoepipnkfaaDoor
