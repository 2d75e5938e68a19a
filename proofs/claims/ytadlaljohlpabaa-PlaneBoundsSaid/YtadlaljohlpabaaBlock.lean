/-
  Blocks of 64 numbers in memory: read, built, written whole; the two tables of base steps.
-/
import Derived.Test.YtadlaljohlpabaaBase
import Derived.Deep.MidRow
import Derived.Deep.RegionHeld3
import Derived.Laws.Rows
import Derived.Laws.StructEq
import Derived.ChangeKeysEq
namespace Go.Proofs.Ytadlaljohlpabaa
open Go.RowKit

/-- a block as a value -/
def blkV (b : List Int) : Value := .agg (cellsI b).toArray
/-- a block in memory -/
structure Blk (w : World) (g : Nat) (b : List Int) : Prop where
  box : Box w g 51 (cellsI b).toArray
  len : b.length = 64
theorem arr26_size : (Try.prog.info? 51).map (·.size) = some 64 := by kernel_rfl
theorem arr25_size : (Try.prog.info? 50).map (·.size) = some 64 := by kernel_rfl
theorem cellsI_get (l : List Int) (k : Nat) (hk : k < l.length) : (cellsI l)[k]? = some (.int .i64 (l.getD k 0)) := by
  simp [cellsI, List.getD_eq_getElem?_getD, List.getElem?_eq_getElem hk]
section
variable {w w' : World} {g : Nat} {b : List Int}
theorem Blk.cell (h : Blk w g b) {k : Nat} (hk : k < 64) : w.cell? ⟨g, k, none⟩ = some (.int .i64 (b.getD k 0)) := by
  rw [h.box.cell k, List.getElem?_toArray, cellsI_get _ _ (by rw [h.len]; exact hk)]
theorem Blk.on (h : Blk w g b) (k : Below w.heap.size w w') : Blk w' g b := ⟨h.box.on k, h.len⟩
theorem Blk.kept {S : Nat → Prop} (h : Blk w g b) (k : Kept S w w') (hS : ¬ S g) : Blk w' g b := ⟨k.box h.box hS, h.len⟩
theorem Blk.range (h : Blk w g b) : w.rangeAt g 0 (cellsI b) := by
  intro j u hu
  rw [Nat.zero_add, h.box.cell j]
  simpa using hu
theorem Blk.load (h : Blk w g b) : (Instr.loadAt 51 (.pointer (some ⟨g, 0, none⟩))).run Try.prog w = .ok (blkV b) w :=
  run_loadAt_mid w g 0 51 (cellsI b) _ h.range Try.underlying51 rfl (by rw [arr26_size, cellsI_len, h.len])
theorem put_cellsI (l : List Int) (i : Nat) (z : Int) : (cellsI l).toArray.setIfInBounds i (.int .i64 z) = (cellsI (l.set i z)).toArray := by
  simp [cellsI, List.map_set]
theorem Blk.put (h : Blk w g b) (k : Nat) (z : Int) : Blk (w.setCell ⟨g, k, none⟩ (.int .i64 z)) g (b.set k z) := by
  refine ⟨?_, by rw [List.length_set, h.len]⟩
  have := h.box.put k (.int .i64 z)
  rwa [put_cellsI] at this
theorem Blk.free (h : Blk w g b) (k : Nat) : w.frozen? ⟨g, k, none⟩ = false := h.box.free k
theorem Blk.made (w : World) (b : List Int) (hb : b.length = 64) : Blk (w.alloc (.cells (cellsI b).toArray 51)) w.heap.size b := ⟨Box.made _ _ _, hb⟩
end
/-- a block's numbers are read -/
theorem index51 (w : World) {l : List Int} (hl : l.length = 64) {k : Nat} (hk : k < 64) : (Instr.index 51 (blkV l) (.int .i64 (k : Int))).run Try.prog w = .ok (.int .i64 (l.getD k 0)) w := by
  have hp : (part 3 (cellsI l).toArray k).run Try.prog w = .ok (.int .i64 (l.getD k 0)) w := run_part_plain w (by kernel_rfl) (by simpa using cellsI_get l k (by omega))
  simp [blkV, Instr.index, run_underlying Try.underlying51, asIntOf, hp, Result.andThen]
  intro h
  omega
/-- 64 noughts -/
def zeros64 : List Int := List.replicate 64 0
theorem zeros_len : zeros64.length = 64 := by decide
theorem zeros_at (k : Nat) : zeros64.getD k 0 = 0 := by
  unfold zeros64
  rw [List.getD_eq_getElem?_getD]
  by_cases h : k < 64
  · rw [List.getElem?_replicate_of_lt h]; rfl
  · rw [List.getElem?_eq_none (by simp; omega)]; rfl
theorem zero51 (w : World) : (zeroValue 51).run Try.prog w = .ok (blkV zeros64) w := by kernel_rfl
theorem build0 (w : World) : (Instr.build 51 #[]).run Try.prog w = .ok (blkV zeros64) w := run_build w 51 _ _ (by kernel_rfl)
/-- a block is written whole -/
theorem wpList_store_blk {ops : Array Oper} {rest : List Oper} {o : Oper} {a : Act} {w : World} {Q : Exit → Act → World → Prop} (hgd : o.guard = none) (x y : Operand) (ho : o.op = .store 51 x y) (hd : o.dst = none)
    (g : Nat) (b : List Int) (hx : a.eval x = .pointer (some ⟨g, 0, none⟩)) (hy : a.eval y = blkV b) (old : Array Value) (hg : Box w g 51 old) (hold : old.size = 64) (hb : b.length = 64)
    (h : ∀ w', Blk w' g b → Kept (fun i => i = g) w w' → wpList Try.prog ops Q rest a w') : wpList Try.prog ops Q (o :: rest) a w := by
  refine wpList_plain hgd fun _ hK => ?_
  refine wp_store_row 51 x y ho g (cellsI b).toArray hx hy 51 old hg (by rw [arr26_size]; simp [cellsI_len, hb]) (by rw [hold]; simp [cellsI_len, hb]) (all_oneCell_toArray (cellsI_one b)) ?_
  rw [hd]
  exact hK _ _ (h _ ⟨setRow_heap w g old _ 51 _ hg, hb⟩ ⟨rfl, rfl, rfl, by simp, fun k _ hk => setRow_other w g k _ hk⟩)
theorem results_ct {fn : Func} {p q : Tmp} {ty : TypeId} (h : fn.results = #[.cell p ty, .tmp q]) (tmps : Array Value) (w : World) (g : Nat) (x v : Value)
    (hp : tmps.getD p undef = .pointer (some ⟨g, 0, none⟩)) (hq : tmps.getD q undef = v) (hl : (loadVar ty ⟨g, 0, none⟩).run Try.prog w = .ok x w) : (results fn tmps).run Try.prog w = .ok (.tuple #[x, v]) w := by
  have hp' : tmps[p]?.getD undef = .pointer (some ⟨g, 0, none⟩) := by simpa using hp
  have hq' : tmps[q]?.getD undef = v := by simpa using hq
  simp [results, h, hp', hq', asAddr, hl]
theorem loadVar_blk {w : World} {g : Nat} {b : List Int} (h : Blk w g b) : (loadVar 51 ⟨g, 0, none⟩).run Try.prog w = .ok (blkV b) w :=
  run_loadVar_row w g 51 51 _ (0, 0) _ h.box Try.underlying51 rfl (by rw [arr26_size]; simp [cellsI_len, h.len])

/-- an operation is taken first, and its slot is named -/
theorem take_to {ops : Array Oper} {Q : Exit → Act → World → Prop} {md : Region.Mode} {S : World → Prop} {i : Nat} {oi : Oper} {v : Value} {fuel : Nat} {listed : Array Bool} {a : Act} {w : World} (hi : ops[i]? = some oi)
    (hs : Region.noSelect ops = true) (hf : Region.free md ops listed i = true) (hr : (Region.ready md ops listed).contains i = true)
    (hQ : ∀ c a w, Q (.panic c) (a.put oi.dst v) w → Q (.panic c) a w) (hy : YieldsIf Try.prog ops S oi v a) (hS : S w) (d : Option Tmp) (hd : oi.dst = d)
    (h : wpAnyH Try.prog md ops Q S fuel (listed.setIfInBounds i true) (a.put d v) w) : wpAnyH Try.prog md ops Q S (fuel + 1) listed a w :=
  wpAnyH_take hi hs hf hr hQ hy hS (by rw [hd]; exact h)
/-- an operation that builds may be taken first -/
theorem yieldsIf_build {ops : Array Oper} {S : World → Prop} {op : Oper} {a : Act} (hw : Region.wanted op (yielded ops a.tmps) = true) (t : TypeId) (parts : Array (Nat × Operand)) (ho : op.op = .build t parts)
    (v : Value) (ps : Array (Nat × Value)) (hps : (parts.map fun (i, x) => (i, a.eval x)) = ps) (h : ∀ w, (Instr.build t ps).run Try.prog w = .ok v w) : YieldsIf Try.prog ops S op v a :=
  .inl ⟨hw, fun w _ => by
    unfold execOp
    simp only [ho, hps, Sem.run_bind, h w, Result.andThen_ok, Sem.run_pure]⟩
theorem int_size : (Try.prog.info? 3).map (·.size) = some 1 := by kernel_rfl
/-- an operation that builds, at a plain region's list -/
theorem wpList_build_to {ops : Array Oper} {rest : List Oper} {op : Oper} {a : Act} {w : World} {Q : Exit → Act → World → Prop} (hgd : op.guard = none) (t : TypeId) (parts : Array (Nat × Operand)) (ho : op.op = .build t parts)
    (v : Value) (ps : Array (Nat × Value)) (hps : (parts.map fun (i, x) => (i, a.eval x)) = ps) (h : (Instr.build t ps).run Try.prog w = .ok v w)
    (hK : wpList Try.prog ops Q rest (a.put op.dst v) w) : wpList Try.prog ops Q (op :: rest) a w :=
  wpList_plain hgd fun _ hQ => by
    unfold Oper.wp execOp
    simp only [ho, hps, Sem.run_bind, h, Result.andThen_ok]
    exact hQ _ _ hK
/-- a load, at a plain region's list -/
theorem wpList_load_to {ops : Array Oper} {rest : List Oper} {op : Oper} {a : Act} {w : World} {Q : Exit → Act → World → Prop} (hgd : op.guard = none) (ty : TypeId) (x : Operand) (ho : op.op = .load ty x)
    (u : Value) (hx : a.eval x = u) (v : Value) (hl : (Instr.loadAt ty u).run Try.prog w = .ok v w)
    (hK : wpList Try.prog ops Q rest (a.put op.dst v) w) : wpList Try.prog ops Q (op :: rest) a w :=
  wpList_plain hgd fun _ hQ => by
    unfold Oper.wp execOp
    simp only [ho, hx, Sem.run_bind, hl, Result.andThen_ok]
    exact hQ _ _ hK
/-- a guarded load whose guard says yes -/
theorem wpList_load_when {ops : Array Oper} {rest : List Oper} {op : Oper} {a : Act} {w : World} {Q : Exit → Act → World → Prop} (hw : Region.wanted op (yielded ops a.tmps) = true) (ty : TypeId) (x : Operand) (ho : op.op = .load ty x)
    (u : Value) (hx : a.eval x = u) (v : Value) (hl : (Instr.loadAt ty u).run Try.prog w = .ok v w)
    (hK : wpList Try.prog ops Q rest (a.put op.dst v) w) : wpList Try.prog ops Q (op :: rest) a w := by
  unfold wpList
  rw [if_pos hw]
  refine .inl ?_
  unfold Oper.wp execOp
  simp only [ho, hx, Sem.run_bind, hl, Result.andThen_ok]
  exact hK
theorem yieldsIf_load {ops : Array Oper} {S : World → Prop} {op : Oper} {a : Act} (hw : Region.wanted op (yielded ops a.tmps) = true) (t : TypeId) (x : Operand) (ho : op.op = .load t x) (u : Value) (hx : a.eval x = u) (v : Value)
    (h : ∀ w, S w → (Instr.loadAt t u).run Try.prog w = .ok v w) : YieldsIf Try.prog ops S op v a :=
  .inl ⟨hw, fun w hS => by
    unfold execOp
    simp only [ho, hx, Sem.run_bind, h w hS, Result.andThen_ok, Sem.run_pure]⟩
/-- two blocks of the same numbers are equal -/
theorem items51 (w : World) {B : List Int} (hB : B.length = 64) (d : Nat) : ∀ is : List Nat, (∀ i ∈ is, i < 64) → (Op.eqItems (d + 1) 3 1 (cellsI B).toArray (cellsI B).toArray is).run Try.prog w = .ok true w
  | [], _ => by simp [Op.eqItems]
  | i :: is, h => by
    have hp : (part 3 (cellsI B).toArray (i * 1)).run Try.prog w = .ok (.int .i64 (B.getD i 0)) w := run_part_plain w (by kernel_rfl) (by rw [Nat.mul_one]; simpa using cellsI_get B i (by have := h i (by simp); omega))
    have he := run_equalIn_int w d 3 .i64 .i64 (B.getD i 0) (B.getD i 0) Try.underlying3
    have ih := items51 w hB d is (fun j hj => h j (by simp [hj]))
    simp only [Op.eqItems, Sem.run_bind, hp, he, Result.andThen_ok, beq_self_eq_true]
    simp
    exact ih
theorem blk_equal (w : World) {B : List Int} (hB : B.length = 64) : (Op.equalIn 10000 51 (blkV B) (blkV B)).run Try.prog w = .ok true w := by
  obtain ⟨i, hi⟩ : ∃ i, Try.prog.info? 3 = some i := by
    obtain ⟨i, h, _⟩ := Option.map_eq_some_iff.1 int_size
    exact ⟨i, h⟩
  have h1 : Try.prog.cellsOf 3 = 1 := by kernel_rfl
  rw [show (10000 : Nat) = 9999 + 1 from rfl]
  unfold blkV
  rw [run_equalIn_array (P := Try.prog) w 9999 _ _ Try.underlying51 hi, h1]
  exact items51 w hB 9998 (List.range 64) (fun i hi => List.mem_range.1 hi)
theorem wpList_eql51_when {ops : Array Oper} {rest : List Oper} {op : Oper} {a : Act} {w : World} {Q : Exit → Act → World → Prop} (hw : Region.wanted op (yielded ops a.tmps) = true) (x y : Operand) (ho : op.op = .binOp .eql 51 x y 51)
    (B : List Int) (hB : B.length = 64) (hx : a.eval x = blkV B) (hy : a.eval y = blkV B)
    (hK : wpList Try.prog ops Q rest (a.put op.dst (.bool true)) w) : wpList Try.prog ops Q (op :: rest) a w :=
  wpList_step fun _ hQ => by
    have hg : Try.prog.eqGuardType Try.prog.depth 51 = false := by kernel_rfl
    rw [if_pos hw]
    unfold Oper.wp execOp
    unfold blkV at hx hy
    have he := blk_equal w hB
    unfold blkV at he
    simp only [ho, hx, hy, Sem.run_bind, run_eqGuard_agg w .eql 51 x y _ _ hg, run_eql_struct, he, Result.andThen_ok]
    exact hQ _ _ hK
/-- two equal blocks are not unlike: the operation may be taken first -/
theorem yieldsIf_neq51 {ops : Array Oper} {S : World → Prop} {op : Oper} {a : Act} (hw : Region.wanted op (yielded ops a.tmps) = true) (x y : Operand) (ho : op.op = .binOp .neq 51 x y 51)
    (B : List Int) (hB : B.length = 64) (hx : a.eval x = blkV B) (hy : a.eval y = blkV B) : YieldsIf Try.prog ops S op (.bool false) a :=
  .inl ⟨hw, fun w _ => by
    have hg : Try.prog.eqGuardType Try.prog.depth 51 = false := by kernel_rfl
    unfold execOp
    unfold blkV at hx hy
    have he := blk_equal w hB
    unfold blkV at he
    simp only [ho, hx, hy, Sem.run_bind, run_eqGuard_agg w .neq 51 x y _ _ hg, run_neq_struct, he, Result.andThen_ok]
    rfl⟩

end Go.Proofs.Ytadlaljohlpabaa
