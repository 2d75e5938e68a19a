/-
  Four blocks in memory: read, built, written; one of them read and written whole; the table of the half matrices; lists of what lies in memory.
-/
import Derived.Test.YtjkmbiieagmjkaaDoorHalfTold
namespace Go.Proofs.YtjkmbiieagmjkaaDoor
open Go.RowKit

/-- four blocks as a value -/
def fourV (f : List Int) : Value := .agg (cellsI f).toArray
/-- block m of four -/
def sub (f : List Int) (m : Nat) : List Int := (f.drop (64 * m)).take 64
section
variable {f : List Int} {m : Nat}
theorem sub_len (h : f.length = 256) (hm : m < 4) : (sub f m).length = 64 := by
  unfold sub
  rw [List.length_take, List.length_drop]
  omega
theorem sub_at {j : Nat} (hj : j < 64) : (sub f m).getD j 0 = fo f m j := by
  unfold sub fo
  rw [List.getD_eq_getElem?_getD, List.getElem?_take_of_lt hj, List.getElem?_drop, List.getD_eq_getElem?_getD]
theorem w4_sub {lo hi : Int} : W4 f lo hi ↔ ∀ m, m < 4 → Wi (sub f m) lo hi :=
  ⟨fun h m hm j hj => by rw [sub_at hj]; exact h m hm j hj, fun h m hm j hj => by have := h m hm j hj; rwa [sub_at hj] at this⟩
theorem four_eq {x y : List Int} (hx : x.length = 256) (hy : y.length = 256) (h : ∀ m, m < 4 → ∀ j, j < 64 → fo x m j = fo y m j) : x = y := by
  apply List.ext_getElem (by omega)
  intro i h1 h2
  have := h (i / 64) (by omega) (i % 64) (by omega)
  unfold fo at this
  rw [show 64 * (i / 64) + i % 64 = i by omega, List.getD_eq_getElem?_getD, List.getD_eq_getElem?_getD, List.getElem?_eq_getElem h1, List.getElem?_eq_getElem h2] at this
  exact this
end
/-- what is written one behind the other from place o on -/
def layL : List Int → Nat → List Int → List Int
  | f, _, [] => f
  | f, o, z :: r => layL (f.set o z) (o + 1) r
theorem layL_len : ∀ (f : List Int) (o : Nat) (x : List Int), (layL f o x).length = f.length
  | f, _, [] => rfl
  | f, o, z :: r => by rw [layL, layL_len, List.length_set]
theorem layL_out : ∀ (f : List Int) (o : Nat) (x : List Int) (j : Nat), (j < o ∨ o + x.length ≤ j) → (layL f o x).getD j 0 = f.getD j 0
  | f, _, [], _, _ => rfl
  | f, o, z :: r, j, h => by
    rw [layL, layL_out _ _ _ _ (by simp only [List.length_cons] at h; omega), List.getD_eq_getElem?_getD, List.getElem?_set_ne (by simp only [List.length_cons] at h; omega), List.getD_eq_getElem?_getD]
theorem layL_in : ∀ (f : List Int) (o : Nat) (x : List Int) (j : Nat), j < x.length → o + x.length ≤ f.length → (layL f o x).getD (o + j) 0 = x.getD j 0
  | f, _, [], _, h, _ => absurd h (by simp)
  | f, o, z :: r, 0, _, hl => by
    rw [layL, layL_out _ _ _ _ (by omega), List.getD_eq_getElem?_getD, Nat.add_zero, List.getElem?_set_self (by simp only [List.length_cons] at hl; omega)]
    rfl
  | f, o, z :: r, j + 1, h, hl => by
    have := layL_in (f.set o z) (o + 1) r j (by simp only [List.length_cons] at h; omega) (by simp only [List.length_cons, List.length_set] at hl ⊢; omega)
    rw [layL, show o + (j + 1) = o + 1 + j by omega, this]
    rfl
theorem box_lay : ∀ (x : List Int) (w : World) (g o : Nat) (t : TypeId) (f : List Int), Box w g t (cellsI f).toArray → Box (w.setCells g o (cellsI x)) g t (cellsI (layL f o x)).toArray ∧ Kept (fun i => i = g) w (w.setCells g o (cellsI x))
  | [], w, g, o, t, f, h => ⟨h, Kept.refl _ _⟩
  | z :: r, w, g, o, t, f, h => by
    have h1 := h.put o (.int .i64 z)
    rw [put_cellsI] at h1
    have h2 := box_lay r _ g (o + 1) t _ h1
    have k1 := (Kept.refl (fun i => i = g) w).setCell (p := ⟨g, o, none⟩) (fun _ => rfl) (.int .i64 z)
    exact ⟨h2.1, k1.trans h2.2 (fun _ _ h => h)⟩

/-- one of four blocks laid anew -/
def setB (f : List Int) (m : Nat) (x : List Int) : List Int := layL f (64 * m) x
theorem setB_len {f : List Int} {m : Nat} {x : List Int} (h : f.length = 256) : (setB f m x).length = 256 := (layL_len _ _ _).trans h
theorem setB_at {f : List Int} {m : Nat} {x : List Int} (h : f.length = 256) (hx : x.length = 64) (hm : m < 4) {k j : Nat} (hj : j < 64) : fo (setB f m x) k j = if k = m then x.getD j 0 else fo f k j := by
  unfold fo setB
  by_cases e : k = m
  · subst e
    rw [if_pos rfl, layL_in _ _ _ _ (by omega) (by omega)]
  · rw [if_neg e, layL_out _ _ _ _ (by omega)]

theorem arr24_size : (Tryd.prog.info? 24).map (·.size) = some 256 := by kernel_rfl
/-- four blocks in memory -/
structure Frs (w : World) (g : Nat) (f : List Int) : Prop where
  box : Box w g 24 (cellsI f).toArray
  len : f.length = 256
section
variable {w w' : World} {g : Nat} {f : List Int}
theorem Frs.on (h : Frs w g f) (k : Below w.heap.size w w') : Frs w' g f := ⟨h.box.on k, h.len⟩
theorem Frs.kept {S : Nat → Prop} (h : Frs w g f) (k : Kept S w w') (hS : ¬ S g) : Frs w' g f := ⟨k.box h.box hS, h.len⟩
theorem Frs.cell (h : Frs w g f) {k : Nat} (hk : k < 256) : w.cell? ⟨g, k, none⟩ = some (.int .i64 (f.getD k 0)) := by
  rw [h.box.cell k, List.getElem?_toArray, cellsI_get _ _ (by rw [h.len]; exact hk)]
theorem Frs.free (h : Frs w g f) (k : Nat) : w.frozen? ⟨g, k, none⟩ = false := h.box.free k
theorem Frs.range (h : Frs w g f) : w.rangeAt g 0 (cellsI f) := by
  intro j u hu
  rw [Nat.zero_add, h.box.cell j]
  simpa using hu
theorem Frs.load (h : Frs w g f) : (Instr.loadAt 24 (.pointer (some ⟨g, 0, none⟩))).run Tryd.prog w = .ok (fourV f) w :=
  run_loadAt_mid w g 0 24 (cellsI f) _ h.range Tryd.underlying24 rfl (by rw [arr24_size, cellsI_len, h.len])
theorem Frs.part (h : Frs w g f) (m : Nat) : w.rangeAt g (m * 64) (cellsI (sub f m)) := by
  intro j u hu
  have hj := (List.getElem?_eq_some_iff.1 hu).1
  rw [cellsI_len] at hj
  have hj' : j < 64 := by unfold sub at hj; rw [List.length_take] at hj; omega
  have hm : m * 64 + j < 256 := by unfold sub at hj; rw [List.length_take, List.length_drop, h.len] at hj; omega
  rw [h.cell hm, ← hu, cellsI_get _ _ hj, sub_at hj']
  unfold fo
  rw [Nat.mul_comm]
theorem Frs.loadb (h : Frs w g f) {m : Nat} (hm : m < 4) : (Instr.loadAt 23 (.pointer (some ⟨g, m * 64, none⟩))).run Tryd.prog w = .ok (blkV (sub f m)) w :=
  run_loadAt_mid w g (m * 64) 23 (cellsI (sub f m)) _ (h.part m) Tryd.underlying23 rfl (by rw [arr26_size, cellsI_len, sub_len h.len hm])
theorem Frs.put (h : Frs w g f) (k : Nat) (z : Int) : Frs (w.setCell ⟨g, k, none⟩ (.int .i64 z)) g (f.set k z) := by
  refine ⟨?_, by rw [List.length_set, h.len]⟩
  have := h.box.put k (.int .i64 z)
  rwa [put_cellsI] at this
theorem Frs.made (w : World) (f : List Int) (hf : f.length = 256) : Frs (w.alloc (.cells (cellsI f).toArray 24)) w.heap.size f := ⟨Box.made _ _ _, hf⟩
end
/-- one of four blocks as a value is read -/
theorem index24 (w : World) {f : List Int} {m : Nat} (hm : m < 4) : (Instr.index 24 (fourV f) (.int .i64 (m : Int))).run Tryd.prog w = .ok (blkV (sub f m)) w := by
  have hp : (part 23 (cellsI f).toArray (m * 64)).run Tryd.prog w = .ok (blkV (sub f m)) w := by
    have h1 : (isAgg 23).run Tryd.prog w = .ok true w := by kernel_rfl
    have h2 : (sizeOf 23).run Tryd.prog w = .ok 64 w := by kernel_rfl
    unfold part
    simp only [Sem.run_bind, h1, h2, Result.andThen_ok, if_true]
    rw [List.extract_toArray]
    unfold blkV sub cellsI
    rw [List.map_take, List.map_drop, List.extract_eq_take_drop, show m * 64 + 64 - m * 64 = 64 by omega, Nat.mul_comm]
    rfl
  have h2 : (sizeOf 23).run Tryd.prog w = .ok 64 w := by kernel_rfl
  simp [fourV, Instr.index, run_underlying Tryd.underlying24, asIntOf, h2, hp, Result.andThen]
  intro h
  omega
/-- 256 noughts -/
def zeros256 : List Int := List.replicate 256 0
theorem zeros256_len : zeros256.length = 256 := List.length_replicate
theorem zeros256_at (m j : Nat) : fo zeros256 m j = 0 := by
  unfold fo zeros256
  rw [List.getD_eq_getElem?_getD]
  by_cases h : 64 * m + j < 256
  · rw [List.getElem?_replicate_of_lt h]; rfl
  · rw [List.getElem?_eq_none (by rw [List.length_replicate]; omega)]; rfl
theorem zero24 (w : World) : (zeroValue 24).run Tryd.prog w = .ok (fourV zeros256) w := by kernel_rfl
theorem build24 (w : World) : (Instr.build 24 #[]).run Tryd.prog w = .ok (fourV zeros256) w := run_build w 24 _ _ (by kernel_rfl)
/-- four blocks are written whole -/
theorem wpList_store_four {ops : Array Oper} {rest : List Oper} {o : Oper} {a : Act} {w : World} {Q : Exit → Act → World → Prop} (hgd : o.guard = none) (x y : Operand) (ho : o.op = .store 24 x y) (hd : o.dst = none)
    (g : Nat) (f : List Int) (hx : a.eval x = .pointer (some ⟨g, 0, none⟩)) (hy : a.eval y = fourV f) (old : Array Value) (hg : Box w g 24 old) (hold : old.size = 256) (hf : f.length = 256)
    (h : ∀ w', Frs w' g f → Kept (fun i => i = g) w w' → wpList Tryd.prog ops Q rest a w') : wpList Tryd.prog ops Q (o :: rest) a w := by
  refine wpList_plain hgd fun _ hK => ?_
  refine wp_store_row 24 x y ho g (cellsI f).toArray hx hy 24 old hg (by rw [arr24_size]; simp [cellsI_len, hf]) (by rw [hold]; simp [cellsI_len, hf]) (all_oneCell_toArray (cellsI_one f)) ?_
  rw [hd]
  exact hK _ _ (h _ ⟨setRow_heap w g old _ 24 _ hg, hf⟩ ⟨rfl, rfl, rfl, by simp, fun k _ hk => setRow_other w g k _ hk⟩)
/-- one of four blocks is written whole -/
theorem wpList_store_part {ops : Array Oper} {rest : List Oper} {o : Oper} {a : Act} {w : World} {Q : Exit → Act → World → Prop} (hgd : o.guard = none) (x y : Operand) (ho : o.op = .store 23 x y) (hd : o.dst = none)
    (g m : Nat) (b f : List Int) (hm : m < 4) (hx : a.eval x = .pointer (some ⟨g, m * 64, none⟩)) (hy : a.eval y = blkV b) (hg : Frs w g f) (hb : b.length = 64)
    (h : ∀ w', Frs w' g (setB f m b) → Kept (fun i => i = g) w w' → wpList Tryd.prog ops Q rest a w') : wpList Tryd.prog ops Q (o :: rest) a w := by
  refine wpList_store_mid hgd 23 x y ho g (m * 64) (cellsI b).toArray hx hy (fun j hj => ?_) (by rw [arr26_size]; simp [cellsI_len, hb]) (all_oneCell_toArray (cellsI_one b)) ?_
  · have hj' : j < 64 := by simpa [cellsI_len, hb] using hj
    exact ⟨by rw [hg.cell (by omega)]; rfl, hg.free _⟩
  · have h1 := box_lay b w g (m * 64) 24 f hg.box
    rw [hd]
    refine h _ ⟨?_, setB_len hg.len⟩ h1.2
    unfold setB
    rw [Nat.mul_comm 64 m]
    exact h1.1

/-- the half matrices lie in the program's memory as its text lays them -/
structure Tab (w : World) : Prop where
  halves : w.rangeAt 0 0 (cellsI hz)
theorem range_on {w w' : World} {g : Nat} {L : List Int} (h : w.rangeAt g 0 (cellsI L)) (k : Below w.heap.size w w') (h0 : 0 < L.length) : w'.rangeAt g 0 (cellsI L) := by
  have hg : g < w.heap.size := World.block_lt_of_cell? w ⟨g, 0 + 0, none⟩ (h 0 _ (cellsI_get L 0 h0))
  intro j u hu
  exact (k.cell (p := ⟨g, 0 + j, none⟩) hg).trans (h j u hu)
theorem Tab.on {w w' : World} (h : Tab w) (k : Below w.heap.size w w') : Tab w' := ⟨range_on h.halves k (by decide)⟩
theorem Tab.lt {w : World} (h : Tab w) : 0 < w.heap.size := World.block_lt_of_cell? w ⟨0, 0 + 0, none⟩ (h.halves 0 _ (cellsI_get hz 0 (by decide)))
theorem Tab.cell {w : World} (h : Tab w) {p u i : Nat} (hp : p < 2) (hu : u < 8) (hi : i < 4) : w.cell? ⟨0, p * 32 + u * 4 + i, none⟩ = some (.int .i64 (hv p u i)) := by
  have := h.halves (p * 32 + u * 4 + i) _ (cellsI_get hz _ (by rw [hz_len]; omega))
  rw [Nat.zero_add] at this
  rw [this]
  unfold hv
  rw [show 32 * p + 4 * u + i = p * 32 + u * 4 + i by omega]

/-- what awake answers -/
def Woke (w : World) (e : Ending) (w' : World) : Prop := e = .returned (.bool true) ∧ Below w.heap.size w w'
/-- a block and numbers: what lies in memory -/
inductive Lies where
  | blk (g : Nat) (b : List Int)
  | four (g : Nat) (f : List Int)
def Lies.at (w : World) : Lies → Prop
  | .blk g b => Blk w g b
  | .four g f => Frs w g f
def Lies.addr : Lies → Nat
  | .blk g _ => g
  | .four g _ => g
theorem Lies.on {w w' : World} (x : Lies) (h : x.at w) (k : Below w.heap.size w w') : x.at w' := by
  cases x with
  | blk g b => exact Blk.on h k
  | four g f => exact Frs.on h k
theorem Lies.kept {w w' : World} {S : Nat → Prop} (x : Lies) (h : x.at w) (k : Kept S w w') (hS : ¬ S x.addr) : x.at w' := by
  cases x with
  | blk g b => exact Blk.kept h k hS
  | four g f => exact Frs.kept h k hS
/-- the blocks of a list lie in memory -/
structure Know (w wr : World) (L : List Lies) : Prop where
  all : ∀ p ∈ L, p.at wr
  tab : Tab wr
  bel : Below w.heap.size w wr
section
variable {w wr w' : World} {L : List Lies}
theorem Know.on (h : Know w wr L) (k : Below wr.heap.size wr w') : Know w w' L := ⟨fun p hp => p.on (h.all p hp) k, h.tab.on k, on_trans h.bel k⟩
theorem Know.nil (hT : Tab w) : Know w w [] := ⟨fun _ hp => absurd hp List.not_mem_nil, hT, Below.refl _ _⟩
theorem Know.made (h : Know w wr L) {b : List Int} (hb : b.length = 64) : Know w (wr.alloc (.cells (cellsI b).toArray 23)) (.blk wr.heap.size b :: L) := by
  have k := on_alloc wr (.cells (cellsI b).toArray 23)
  refine ⟨fun p hp => ?_, h.tab.on k, on_trans h.bel k⟩
  rcases List.mem_cons.1 hp with rfl | hp
  · exact Blk.made _ _ hb
  · exact p.on (h.all p hp) k
theorem Know.made4 (h : Know w wr L) {f : List Int} (hf : f.length = 256) : Know w (wr.alloc (.cells (cellsI f).toArray 24)) (.four wr.heap.size f :: L) := by
  have k := on_alloc wr (.cells (cellsI f).toArray 24)
  refine ⟨fun p hp => ?_, h.tab.on k, on_trans h.bel k⟩
  rcases List.mem_cons.1 hp with rfl | hp
  · exact Frs.made _ _ hf
  · exact p.on (h.all p hp) k
theorem Know.n0 {p : Lies} (h : Know w wr (p :: L)) : p.at wr := h.all _ (.head _)
theorem Know.n1 {p0 p : Lies} (h : Know w wr (p0 :: p :: L)) : p.at wr := h.all _ (.tail _ (.head _))
theorem Know.n2 {p0 p1 p : Lies} (h : Know w wr (p0 :: p1 :: p :: L)) : p.at wr := h.all _ (.tail _ (.tail _ (.head _)))
theorem Know.n3 {p0 p1 p2 p : Lies} (h : Know w wr (p0 :: p1 :: p2 :: p :: L)) : p.at wr := h.all _ (.tail _ (.tail _ (.tail _ (.head _))))
theorem Know.b0 {g : Nat} {b : List Int} (h : Know w wr (.blk g b :: L)) : Blk wr g b := h.n0
theorem Know.b1 {p0 : Lies} {g : Nat} {b : List Int} (h : Know w wr (p0 :: .blk g b :: L)) : Blk wr g b := h.n1
theorem Know.b2 {p0 p1 : Lies} {g : Nat} {b : List Int} (h : Know w wr (p0 :: p1 :: .blk g b :: L)) : Blk wr g b := h.n2
theorem Know.b3 {p0 p1 p2 : Lies} {g : Nat} {b : List Int} (h : Know w wr (p0 :: p1 :: p2 :: .blk g b :: L)) : Blk wr g b := h.n3
theorem Know.f0 {g : Nat} {f : List Int} (h : Know w wr (.four g f :: L)) : Frs wr g f := h.n0
theorem Know.f1 {p0 : Lies} {g : Nat} {f : List Int} (h : Know w wr (p0 :: .four g f :: L)) : Frs wr g f := h.n1
theorem Know.f2 {p0 p1 : Lies} {g : Nat} {f : List Int} (h : Know w wr (p0 :: p1 :: .four g f :: L)) : Frs wr g f := h.n2
theorem Know.f3 {p0 p1 p2 : Lies} {g : Nat} {f : List Int} (h : Know w wr (p0 :: p1 :: p2 :: .four g f :: L)) : Frs wr g f := h.n3
theorem Know.less {p : Lies} (h : Know w wr (p :: L)) : Know w wr L := ⟨fun q hq => h.all q (.tail _ hq), h.tab, h.bel⟩
/-- a block that a call told is laid in new memory -/
theorem Know.laid {b : List Int} {Z : Array Value} (h : Know w wr L) (hb : Blk w' wr.heap.size b) (k : Kept (fun i => i = wr.heap.size) (wr.alloc (.cells Z 23)) w') : Know w w' (.blk wr.heap.size b :: L) := by
  have hk := (on_alloc wr (.cells Z 23)).trans (k.below (B := wr.heap.size) (by simp) (fun i hi e => by omega))
  refine ⟨fun p hp => ?_, h.tab.on hk, on_trans h.bel hk⟩
  rcases List.mem_cons.1 hp with rfl | hp
  · exact hb
  · exact p.on (h.all p hp) hk
theorem Know.laid4 {f : List Int} {Z : Array Value} (h : Know w wr L) (hb : Frs w' wr.heap.size f) (k : Kept (fun i => i = wr.heap.size) (wr.alloc (.cells Z 24)) w') : Know w w' (.four wr.heap.size f :: L) := by
  have hk := (on_alloc wr (.cells Z 24)).trans (k.below (B := wr.heap.size) (by simp) (fun i hi e => by omega))
  refine ⟨fun p hp => ?_, h.tab.on hk, on_trans h.bel hk⟩
  rcases List.mem_cons.1 hp with rfl | hp
  · exact hb
  · exact p.on (h.all p hp) hk
/-- what was laid last is written -/
theorem Know.turn {p p' : Lies} (h : Know w wr (p :: L)) (hT : Tab w) (hg : w.heap.size ≤ p.addr) (hne : ∀ q ∈ L, q.addr ≠ p.addr) (k : Kept (fun i => i = p.addr) wr w') (hp : p'.at w') : Know w w' (p' :: L) := by
  have hb : Below w.heap.size w w' := h.bel.trans (k.below h.bel.size (fun i hi e => by omega))
  refine ⟨fun q hq => ?_, hT.on hb, hb⟩
  rcases List.mem_cons.1 hq with rfl | hq
  · exact hp
  · exact q.kept (h.all q (.tail _ hq)) k (hne q hq)
end

/-- two equal blocks are equal: the operation may be taken first -/
theorem yieldsIf_eql23 {ops : Array Oper} {S : World → Prop} {op : Oper} {a : Act} (hw : Region.wanted op (yielded ops a.tmps) = true) (x y : Operand) (ho : op.op = .binOp .eql 23 x y 23)
    (B : List Int) (hB : B.length = 64) (hx : a.eval x = blkV B) (hy : a.eval y = blkV B) : YieldsIf Tryd.prog ops S op (.bool true) a :=
  .inl ⟨hw, fun w _ => by
    have hg : Tryd.prog.eqGuardType Tryd.prog.depth 23 = false := by kernel_rfl
    unfold execOp
    unfold blkV at hx hy
    have he := blk_equal w hB
    unfold blkV at he
    simp only [ho, hx, hy, Sem.run_bind, run_eqGuard_agg w .eql 23 x y _ _ hg, run_eql_struct, he, Result.andThen_ok]
    rfl⟩
end Go.Proofs.YtjkmbiieagmjkaaDoor
