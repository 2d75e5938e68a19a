/-
  Slices of blocks: those that are handed in, and rows of one's own.
-/
import Derived.Test.YtadlaljohlpabaaPHalve3
import Derived.Great.BuildSlice
namespace Go.Proofs.Ytadlaljohlpabaa
open Go.RowKit

/-- what is laid into a row of cells, one behind the other -/
theorem fold_set (off : Nat) : ∀ (l : List Value) (s : Nat) (cs : Array Value), off + s + l.length ≤ cs.size → ∀ k, ((l.zipIdx s).foldl (fun (cs : Array Value) (p : Value × Nat) => cs.setIfInBounds (off + p.2) p.1) cs)[k]? = if off + s ≤ k ∧ k < off + s + l.length then l[k - off - s]? else cs[k]?
  | [], s, cs, _, k => by
    rw [if_neg (by simp)]
    rfl
  | a :: l, s, cs, h, k => by
    rw [List.zipIdx_cons, List.foldl_cons, fold_set off l (s + 1) _ (by simp at h ⊢; omega)]
    simp only [List.length_cons] at h ⊢
    by_cases hk : k = off + s
    · subst hk
      rw [if_neg (by omega), if_pos (by omega), Array.getElem?_setIfInBounds_self_of_lt (by omega), show off + s - off - s = 0 by omega]
      rfl
    · by_cases h1 : off + (s + 1) ≤ k ∧ k < off + (s + 1) + l.length
      · rw [if_pos h1, if_pos (by omega), show k - off - s = (k - off - (s + 1)) + 1 by omega, List.getElem?_cons_succ]
      · rw [if_neg h1, if_neg (by omega), Array.getElem?_setIfInBounds_ne (by omega)]
theorem own_block3 {w : World} {base e size n i : Nat} {v : Value} {xs : List Value} (h : w.ownsRow base e size v n xs) (hi : v.ownBlock = some i) : base ≤ i ∧ ∃ cs, w.heap[i]? = some (.cells cs e (0, 0)) := by
  rcases h.2 with ⟨rfl, _⟩ | ⟨g, cap, cur, rfl, hg, hh, _⟩
  · cases hi
  · cases hi
    exact ⟨hg, _, hh⟩

/-- a slice that reads as blocks -/
structure Bs (w : World) (A : Option Addr) (n : Nat) (bl : List (List Int)) : Prop where
  len : bl.length = n
  wide : ∀ x ∈ bl, x.length = 64
  at_ : 0 < n → ∃ b off, A = some ⟨b, off, none⟩ ∧ b < w.heap.size ∧ ∀ i x, bl[i]? = some x → ∀ j, j < 64 → w.cell? ⟨b, off + i * 64 + j, none⟩ = some (.int .i64 (x.getD j 0))
theorem Bs.on {w w' : World} {A : Option Addr} {n : Nat} {bl : List (List Int)} (h : Bs w A n bl) (k : Below w.heap.size w w') : Bs w' A n bl :=
  ⟨h.len, h.wide, fun h0 => by
    obtain ⟨b, off, e, hb, hc⟩ := h.at_ h0
    exact ⟨b, off, e, Nat.lt_of_lt_of_le hb k.size, fun i x hx j hj => (k.cell (p := ⟨b, off + i * 64 + j, none⟩) hb).trans (hc i x hx j hj)⟩⟩
/-- one of the blocks is loaded -/
theorem Bs.load {w : World} {b off n : Nat} {bl : List (List Int)} {k : Nat} {x : List Int} (h : Bs w (some ⟨b, off, none⟩) n bl) (hx : bl[k]? = some x) : (Instr.loadAt 51 (.pointer (some ⟨b, off + k * 64, none⟩))).run Try.prog w = .ok (blkV x) w := by
  have hk := (List.getElem?_eq_some_iff.1 hx).1
  have hl := h.wide x (List.mem_of_getElem? hx)
  obtain ⟨b', off', e, _, hc⟩ := h.at_ (by have := h.len; omega)
  cases e
  refine run_loadAt_mid w b (off + k * 64) 51 (cellsI x) _ (fun j u hu => ?_) Try.underlying51 rfl (by rw [arr26_size, cellsI_len, hl])
  have hj : j < 64 := by
    have := (List.getElem?_eq_some_iff.1 hu).1
    rw [cellsI_len, hl] at this
    exact this
  rw [hc k x hx j hj, ← hu, cellsI_get _ _ (by omega)]

/-- the cells of blocks -/
def blocksC (bl : List (List Int)) : List Value := bl.flatMap cellsI
theorem blocksC_app (a b : List (List Int)) : blocksC (a ++ b) = blocksC a ++ blocksC b := by simp [blocksC]
theorem blocksC_len : ∀ {bl : List (List Int)}, (∀ x ∈ bl, x.length = 64) → (blocksC bl).length = 64 * bl.length
  | [], _ => rfl
  | x :: r, h => by
    have h1 : blocksC (x :: r) = cellsI x ++ blocksC r := by simp [blocksC]
    rw [h1, List.length_append, cellsI_len, h x (by simp), blocksC_len (fun y hy => h y (by simp [hy])), List.length_cons]
    omega
theorem blocksC_at : ∀ {bl : List (List Int)}, (∀ x ∈ bl, x.length = 64) → ∀ {i : Nat} {x : List Int}, bl[i]? = some x → ∀ {j : Nat}, j < 64 → (blocksC bl)[i * 64 + j]? = some (.int .i64 (x.getD j 0))
  | [], _, i, x, hx, j, hj => by simp at hx
  | y :: r, h, 0, x, hx, j, hj => by
    have h1 : blocksC (y :: r) = cellsI y ++ blocksC r := by simp [blocksC]
    simp at hx
    subst hx
    have hy := h y (by simp)
    rw [h1, Nat.zero_mul, Nat.zero_add, List.getElem?_append_left (by rw [cellsI_len]; omega), cellsI_get _ _ (by omega)]
  | y :: r, h, i + 1, x, hx, j, hj => by
    have h1 : blocksC (y :: r) = cellsI y ++ blocksC r := by simp [blocksC]
    have hy := h y (by simp)
    rw [List.getElem?_cons_succ] at hx
    rw [h1, List.getElem?_append_right (by rw [cellsI_len]; omega), cellsI_len, hy, show (i + 1) * 64 + j - 64 = i * 64 + j by omega]
    exact blocksC_at (fun z hz => h z (by simp [hz])) hx hj
theorem bs_of_own {w : World} {base : Nat} {v : Value} {n : Nat} {bl : List (List Int)} (h : w.ownsRow base 51 64 v n (blocksC bl)) (hw : ∀ x ∈ bl, x.length = 64) : ∃ A c, v = .slice A n c ∧ Bs w A n bl ∧ ∀ b off, A = some ⟨b, off, none⟩ → base ≤ b := by
  have hl : bl.length = n := by have := h.1; rw [blocksC_len hw] at this; omega
  have hown := h
  rcases h.2 with ⟨rfl, rfl⟩ | ⟨g, cap, cur, rfl, hg, hh, hn, hm, _, _⟩
  · exact ⟨_, 0, rfl, ⟨hl, hw, fun h0 => by omega⟩, fun b off e => by cases e⟩
  · refine ⟨some ⟨g, 0, none⟩, cap, rfl, ⟨hl, hw, fun _ => ⟨g, 0, rfl, (Array.getElem?_eq_some_iff.1 hh).1, fun i x hx j hj => ?_⟩⟩, fun b off e => by cases e; exact hg⟩
    have hi := (List.getElem?_eq_some_iff.1 hx).1
    rw [Nat.zero_add, hown.cellAt (i * 64 + j) (by omega), blocksC_at hw hx hj]
theorem blk_info : (Try.prog.info? 51).map (fun i => (i.zero, i.size, i.bytes)) = some (some (blkV (List.replicate 64 0)), 64, 512) := by kernel_rfl
/-- an append of one block to a row of one's own: only the row's own block turns -/
theorem wpList_append_bk {w : World} {ops : Array Oper} {rest : List Oper} {o : Oper} {a : Act} {Q : Exit → Act → World → Prop} (hgd : o.guard = none) (s x : Operand)
    (ho : o.op = .call { callee := .builtin .append, args := #[s, x], argTypes := #[37, 37] })
    (base : Nat) (v : Value) (n : Nat) (bl : List (List Int)) (y : List Int) (hs : a.eval s = v) (hown : w.ownsRow base 51 64 v n (blocksC bl)) (g : Nat)
    (hx : a.eval x = .slice (some ⟨g, 0, none⟩) 1 1) (hb : Blk w g y) (hn : n ≤ 1000) (hbase : base ≤ w.heap.size)
    (h : ∀ v' w', w'.ownsRow base 51 64 v' (n + 1) (blocksC (bl ++ [y])) → Kept (fun i => v.ownBlock = some i) w w' → wpList Try.prog ops Q rest (a.put o.dst v') w') : wpList Try.prog ops Q (o :: rest) a w := by
  obtain ⟨i0, hi0, h2⟩ := Option.map_eq_some_iff.1 blk_info
  simp only [Prod.mk.injEq] at h2
  obtain ⟨hz0, hz1, hz2⟩ := h2
  refine wpList_append_own _ hgd s x 37 ho base 51 i0 _ 64 512 Try.underlying37 hi0 hz0 hz1 hz2 rfl (by omega) v n (blocksC bl) hs hown ⟨g, 0, none⟩ 1 1 (cellsI y) hx (by rw [cellsI_len, hb.len]) ?_ (cellsI_one y) (by unfold maxLen; omega) (by omega) hbase ?_
  · intro j u hu
    rw [plain_add, Nat.zero_add, hb.box.cell j]
    simpa using hu
  · intro v' w' h1 h2 _
    have e1 : blocksC (bl ++ [y]) = blocksC bl ++ cellsI y := by rw [blocksC_app]; simp [blocksC]
    rw [← e1] at h1
    exact h v' w' h1 ⟨h2.os, h2.tape, h2.output, h2.size, fun k hk hn => h2.block k hk (fun e => hn e.symm)⟩

theorem fill67 {cells : Array Value} {xs : List Value} (hc : cells.size = 64) (hx : xs.length = 64) : Instr.fill (fun i => some (i * 64, 64)) cells [(0, .agg xs.toArray)] = some xs.toArray := by
  have hs : ∀ (l : List Value) (s : Nat) (cs : Array Value), ((l.zipIdx s).foldl (fun (cs : Array Value) (p : Value × Nat) => cs.setIfInBounds (0 + p.2) p.1) cs).size = cs.size := by
    intro l
    induction l with
    | nil => intro s cs; rfl
    | cons a l ih => intro s cs; rw [List.zipIdx_cons, List.foldl_cons, ih]; simp
  simp only [Instr.fill]
  have hx2 : (Value.agg xs.toArray).cells = xs.toArray := rfl
  rw [hx2]
  simp [hx, hc]
  apply Array.ext_getElem?
  intro k
  have hf := fold_set 0 xs 0 cells (by simp [hc, hx]) k
  simp only [Nat.zero_add] at hf
  rw [hf]
  by_cases h1 : 0 ≤ k ∧ k < xs.length
  · rw [if_pos h1]
    simp
  · rw [if_neg h1, Array.getElem?_eq_none (by omega), Array.getElem?_eq_none (by simp; omega)]
theorem wpList_one_blk {ops : Array Oper} {rest : List Oper} {o : Oper} {a : Act} {w : World} {Q : Exit → Act → World → Prop} (hg : o.guard = none) (x : Operand) (ho : o.op = .buildSlice 37 1 #[(0, x)])
    (b : List Int) (hb : b.length = 64) (hx : a.eval x = blkV b)
    (h : wpList Try.prog ops Q rest (a.put o.dst (.slice (some ⟨w.heap.size, 0, none⟩) 1 1)) (w.alloc (.cells (cellsI b).toArray 51))) : wpList Try.prog ops Q (o :: rest) a w := by
  obtain ⟨i0, hi0, h2⟩ := Option.map_eq_some_iff.1 blk_info
  simp only [Prod.mk.injEq] at h2
  obtain ⟨hz0, hz1, hz2⟩ := h2
  refine wpList_buildSlice hg 37 51 1 _ ho (cellsI b).toArray i0 _ Try.underlying37 hi0 hz0 (by rw [hz1]; omega) (by rw [hz1]; omega) ?_ h
  have e : ((#[(0, x)] : Array (Nat × Operand)).map fun (i, y) => (i, a.eval y)).toList = [(0, .agg (cellsI b).toArray)] := by
    simp [hx, blkV]
  rw [e, hz1]
  exact fill67 (by simp) (by rw [cellsI_len, hb])

end Go.Proofs.Ytadlaljohlpabaa
