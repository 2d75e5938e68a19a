/-
  Rows of three numbers in memory, and three such rows: read, indexed, written whole. The tables of weights.
-/
import Derived.Test.YtpldadmeoolopaaDoorSmall
import Derived.Deep.MidRow
import Derived.Deep.RegionHeld3
import Derived.Laws.Rows
import Derived.Laws.StructEq
import Derived.ChangeKeysEq
namespace Go.Proofs.YtpldadmeoolopaaDoor
open Go.RowKit

theorem cellsI_get (l : List Int) (k : Nat) (hk : k < l.length) : (cellsI l)[k]? = some (.int .i64 (l.getD k 0)) := by
  simp [cellsI, List.getD_eq_getElem?_getD, List.getElem?_eq_getElem hk]
theorem put_cellsI (l : List Int) (i : Nat) (z : Int) : (cellsI l).toArray.setIfInBounds i (.int .i64 z) = (cellsI (l.set i z)).toArray := by
  simp [cellsI, List.map_set]
/-- numbers as a value -/
def rowV (l : List Int) : Value := .agg (cellsI l).toArray
theorem sz39 : (Tryd.prog.info? 39).map (·.size) = some 3 := by kernel_rfl
theorem sz41 : (Tryd.prog.info? 41).map (·.size) = some 9 := by kernel_rfl
/-- a row of three in memory -/
structure Row (w : World) (g : Nat) (l : List Int) : Prop where
  box : Box w g 39 (cellsI l).toArray
  len : l.length = 3
section
variable {w w' : World} {g : Nat} {l : List Int}
theorem Row.cell (h : Row w g l) {k : Nat} (hk : k < 3) : w.cell? ⟨g, k, none⟩ = some (.int .i64 (l.getD k 0)) := by
  rw [h.box.cell k, List.getElem?_toArray, cellsI_get _ _ (by rw [h.len]; exact hk)]
theorem Row.on (h : Row w g l) (k : Below w.heap.size w w') : Row w' g l := ⟨h.box.on k, h.len⟩
theorem Row.kept {S : Nat → Prop} (h : Row w g l) (k : Kept S w w') (hS : ¬ S g) : Row w' g l := ⟨k.box h.box hS, h.len⟩
theorem Row.range (h : Row w g l) : w.rangeAt g 0 (cellsI l) := by
  intro j u hu
  rw [Nat.zero_add, h.box.cell j]
  simpa using hu
theorem Row.load (h : Row w g l) : (Instr.loadAt 39 (.pointer (some ⟨g, 0, none⟩))).run Tryd.prog w = .ok (rowV l) w :=
  run_loadAt_mid w g 0 39 (cellsI l) _ h.range Tryd.underlying39 rfl (by rw [sz39, cellsI_len, h.len])
theorem Row.put (h : Row w g l) (k : Nat) (z : Int) : Row (w.setCell ⟨g, k, none⟩ (.int .i64 z)) g (l.set k z) := by
  refine ⟨?_, by rw [List.length_set, h.len]⟩
  have := h.box.put k (.int .i64 z)
  rwa [put_cellsI] at this
theorem Row.free (h : Row w g l) (k : Nat) : w.frozen? ⟨g, k, none⟩ = false := h.box.free k
theorem Row.made (w : World) (l : List Int) (hl : l.length = 3) : Row (w.alloc (.cells (cellsI l).toArray 39)) w.heap.size l := ⟨Box.made _ _ _, hl⟩
theorem loadVar_row (h : Row w g l) : (loadVar 39 ⟨g, 0, none⟩).run Tryd.prog w = .ok (rowV l) w :=
  run_loadVar_row w g 39 39 _ (0, 0) _ h.box Tryd.underlying39 rfl (by rw [sz39]; simp [cellsI_len, h.len])
end
/-- nine numbers in memory are read -/
theorem load_nine {w : World} {g : Nat} {l : List Int} (h : Box w g 41 (cellsI l).toArray) (hl : l.length = 9) : (Instr.loadAt 41 (.pointer (some ⟨g, 0, none⟩))).run Tryd.prog w = .ok (rowV l) w :=
  run_loadAt_mid w g 0 41 (cellsI l) _ (fun j u hu => by rw [Nat.zero_add, h.cell j]; simpa using hu) Tryd.underlying41 rfl (by rw [sz41, cellsI_len, hl])
/-- one of three is read -/
theorem index39 (w : World) {l : List Int} (hl : l.length = 3) {k : Nat} (hk : k < 3) : (Instr.index 39 (rowV l) (.int .i64 (k : Int))).run Tryd.prog w = .ok (.int .i64 (l.getD k 0)) w := by
  have hp : (part 3 (cellsI l).toArray k).run Tryd.prog w = .ok (.int .i64 (l.getD k 0)) w := run_part_plain w (by kernel_rfl) (by simpa using cellsI_get l k (by omega))
  simp [rowV, Instr.index, run_underlying Tryd.underlying39, asIntOf, hp, Result.andThen]
  intro h
  omega
/-- row i of three -/
def sub (f : List Int) (i : Nat) : List Int := (f.drop (3 * i)).take 3
theorem sub_len {f : List Int} {i : Nat} (h : f.length = 9) (hi : i < 3) : (sub f i).length = 3 := by
  unfold sub
  rw [List.length_take, List.length_drop]
  omega
theorem sub_at {f : List Int} {i k : Nat} (hk : k < 3) : (sub f i).getD k 0 = f.getD (3 * i + k) 0 := by
  unfold sub
  rw [List.getD_eq_getElem?_getD, List.getElem?_take_of_lt hk, List.getElem?_drop, List.getD_eq_getElem?_getD]
theorem index41 (w : World) {f : List Int} {i : Nat} (hi : i < 3) : (Instr.index 41 (rowV f) (.int .i64 (i : Int))).run Tryd.prog w = .ok (rowV (sub f i)) w := by
  have hp : (part 39 (cellsI f).toArray (i * 3)).run Tryd.prog w = .ok (rowV (sub f i)) w := by
    have h1 : (isAgg 39).run Tryd.prog w = .ok true w := by kernel_rfl
    have h2 : (sizeOf 39).run Tryd.prog w = .ok 3 w := by kernel_rfl
    unfold part
    simp only [Sem.run_bind, h1, h2, Result.andThen_ok, if_true]
    rw [List.extract_toArray]
    unfold rowV sub cellsI
    rw [List.map_take, List.map_drop, List.extract_eq_take_drop, show i * 3 + 3 - i * 3 = 3 by omega, Nat.mul_comm]
    rfl
  have h2 : (sizeOf 39).run Tryd.prog w = .ok 3 w := by kernel_rfl
  simp [rowV, Instr.index, run_underlying Tryd.underlying41, asIntOf, h2, hp, Result.andThen]
  intro h
  omega
theorem zero39 (w : World) : (zeroValue 39).run Tryd.prog w = .ok (rowV [0, 0, 0]) w := by kernel_rfl
/-- three numbers are written whole -/
theorem wpList_store_row3 {ops : Array Oper} {rest : List Oper} {o : Oper} {a : Act} {w : World} {Q : Exit → Act → World → Prop} (hgd : o.guard = none) (x y : Operand) (ho : o.op = .store 39 x y) (hd : o.dst = none)
    (g : Nat) (b : List Int) (hx : a.eval x = .pointer (some ⟨g, 0, none⟩)) (hy : a.eval y = rowV b) (old : Array Value) (hg : Box w g 39 old) (hold : old.size = 3) (hb : b.length = 3)
    (h : ∀ w', Row w' g b → Kept (fun i => i = g) w w' → wpList Tryd.prog ops Q rest a w') : wpList Tryd.prog ops Q (o :: rest) a w := by
  refine wpList_plain hgd fun _ hK => ?_
  refine wp_store_row 39 x y ho g (cellsI b).toArray hx hy 39 old hg (by rw [sz39]; simp [cellsI_len, hb]) (by rw [hold]; simp [cellsI_len, hb]) (all_oneCell_toArray (cellsI_one b)) ?_
  rw [hd]
  exact hK _ _ (h _ ⟨setRow_heap w g old _ 39 _ hg, hb⟩ ⟨rfl, rfl, rfl, by simp, fun k _ hk => setRow_other w g k _ hk⟩)
/-- a load, at a plain region's list -/
theorem wpList_load_to {ops : Array Oper} {rest : List Oper} {op : Oper} {a : Act} {w : World} {Q : Exit → Act → World → Prop} (hgd : op.guard = none) (ty : TypeId) (x : Operand) (ho : op.op = .load ty x)
    (u : Value) (hx : a.eval x = u) (v : Value) (hl : (Instr.loadAt ty u).run Tryd.prog w = .ok v w)
    (hK : wpList Tryd.prog ops Q rest (a.put op.dst v) w) : wpList Tryd.prog ops Q (op :: rest) a w :=
  wpList_plain hgd fun _ hQ => by
    unfold Oper.wp execOp
    simp only [ho, hx, Sem.run_bind, hl, Result.andThen_ok]
    exact hQ _ _ hK
theorem results_c {fn : Func} {p : Tmp} {ty : TypeId} (h : fn.results = #[.cell p ty]) (tmps : Array Value) (w : World) (g : Nat) (x : Value)
    (hp : tmps.getD p undef = .pointer (some ⟨g, 0, none⟩)) (hl : (loadVar ty ⟨g, 0, none⟩).run Tryd.prog w = .ok x w) : (results fn tmps).run Tryd.prog w = .ok x w := by
  have hp' : tmps[p]?.getD undef = .pointer (some ⟨g, 0, none⟩) := by simpa using hp
  simp [results, h, hp', asAddr, hl]
theorem results_ct {fn : Func} {p q : Tmp} {ty : TypeId} (h : fn.results = #[.cell p ty, .tmp q]) (tmps : Array Value) (w : World) (g : Nat) (x v : Value)
    (hp : tmps.getD p undef = .pointer (some ⟨g, 0, none⟩)) (hq : tmps.getD q undef = v) (hl : (loadVar ty ⟨g, 0, none⟩).run Tryd.prog w = .ok x w) : (results fn tmps).run Tryd.prog w = .ok (.tuple #[x, v]) w := by
  have hp' : tmps[p]?.getD undef = .pointer (some ⟨g, 0, none⟩) := by simpa using hp
  have hq' : tmps[q]?.getD undef = v := by simpa using hq
  simp [results, h, hp', hq', asAddr, hl]
/-- the weights -/
def toneW : List Int := [19595, 38470, 7471, -11059, -21709, 32768, 32768, -27439, -5329]
def pixW : List Int := [0, 0, 91881, 0, -22554, -46802, 0, 116130, 0]
/-- the weights of tones lie in the program's memory as its text lays them -/
structure TabT (w : World) : Prop where
  tone : w.rangeAt 1 0 (cellsI toneW)
/-- and those of colours -/
structure TabP (w : World) : Prop where
  pix : w.rangeAt 0 0 (cellsI pixW)
theorem range_on {w w' : World} {g : Nat} {L : List Int} (h : w.rangeAt g 0 (cellsI L)) (k : Below w.heap.size w w') (h0 : 0 < L.length) : w'.rangeAt g 0 (cellsI L) := by
  have hg : g < w.heap.size := World.block_lt_of_cell? w ⟨g, 0 + 0, none⟩ (h 0 _ (cellsI_get L 0 h0))
  intro j u hu
  exact (k.cell (p := ⟨g, 0 + j, none⟩) hg).trans (h j u hu)
theorem TabT.on {w w' : World} (h : TabT w) (k : Below w.heap.size w w') : TabT w' := ⟨range_on h.tone k (by decide)⟩
theorem TabP.on {w w' : World} (h : TabP w) (k : Below w.heap.size w w') : TabP w' := ⟨range_on h.pix k (by decide)⟩
theorem TabT.load {w : World} (h : TabT w) : (Instr.loadAt 41 (.pointer (some ⟨1, 0, none⟩))).run Tryd.prog w = .ok (rowV toneW) w :=
  run_loadAt_mid w 1 0 41 (cellsI toneW) _ h.tone Tryd.underlying41 rfl (by rw [sz41]; rfl)
theorem TabP.load {w : World} (h : TabP w) : (Instr.loadAt 41 (.pointer (some ⟨0, 0, none⟩))).run Tryd.prog w = .ok (rowV pixW) w :=
  run_loadAt_mid w 0 0 41 (cellsI pixW) _ h.pix Tryd.underlying41 rfl (by rw [sz41]; rfl)
end Go.Proofs.YtpldadmeoolopaaDoor
