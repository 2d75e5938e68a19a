/-
  A writer with pages, in memory. A writer with pages: the contracts of Put and Count. A writer with pages: the contract of all. A writer with pages: the contract of Bytes. Reading a block: mathematics, no code. The contracts of getNumber, of getFirst and of the reference's number. The contract of getOthers. The contract of the program's Get. What was put is what is got, a block: mathematics, no code. A writer with pages: the contract of the program's Put of a block. Slices of blocks in memory; blocks one behind the other. A slice built of one block.
-/
import Derived.Test.YtdnjnbfmmgkpjaaDoorMB
import Derived.Deep.RegionHeld
import Derived.Deep.RegionHeld3
import Derived.Test.YtdnjnbfmmgkpjaaDoorMC
import Derived.Test.YtdnjnbfmmgkpjaaDoorMA
import Derived.Test.YtdnjnbfmmgkpjaaDoorMD
import Derived.Great.BuildSlice
namespace Go.Proofs.YtdnjnbfmmgkpjaaDoor
open Go.RowKit

/-- a writer's cells: the last page, the open bytes, how many, the part's value and count -/
def cellsX (pg : Value) (op : List Int) (n v c : Nat) : Array Value := (pg :: (cellsOf op ++ [.int .i64 (n : Int), .int .i64 (v : Int), .int .i64 (c : Int)])).toArray
section
variable {pg : Value} {op : List Int} {n v c : Nat}
theorem cellsX_size (h : op.length = 256) : (cellsX pg op n v c).size = 260 := by simp [cellsX, cellsOf_len, h]
theorem cellsX_0 : (cellsX pg op n v c)[0]? = some pg := by simp [cellsX]
theorem cellsX_n (h : op.length = 256) : (cellsX pg op n v c)[257]? = some (.int .i64 (n : Int)) := by
  simp only [cellsX, List.getElem?_toArray, List.getElem?_cons_succ]
  rw [List.getElem?_append_right (by rw [cellsOf_len, h]; omega), cellsOf_len, h]; rfl
theorem cellsX_v (h : op.length = 256) : (cellsX pg op n v c)[258]? = some (.int .i64 (v : Int)) := by
  simp only [cellsX, List.getElem?_toArray, List.getElem?_cons_succ]
  rw [List.getElem?_append_right (by rw [cellsOf_len, h]; omega), cellsOf_len, h]; rfl
theorem cellsX_c (h : op.length = 256) : (cellsX pg op n v c)[259]? = some (.int .i64 (c : Int)) := by
  simp only [cellsX, List.getElem?_toArray, List.getElem?_cons_succ]
  rw [List.getElem?_append_right (by rw [cellsOf_len, h]; omega), cellsOf_len, h]; rfl
theorem cellsX_at (h : op.length = 256) (i : Nat) (hi : i < 256) : (cellsX pg op n v c)[1 + i]? = some (.int .u8 (op.getD i 0)) := by
  simp only [cellsX, List.getElem?_toArray, Nat.add_comm 1 i, List.getElem?_cons_succ]
  rw [List.getElem?_append_left (by rw [cellsOf_len, h]; omega)]
  simp [cellsOf, List.getD_eq_getElem?_getD, List.getElem?_eq_getElem (show i < op.length by omega)]
theorem cellsX_set_0 (q : Value) : (cellsX pg op n v c).setIfInBounds 0 q = cellsX q op n v c := by simp [cellsX]
theorem cellsX_set_n (h : op.length = 256) (m : Nat) : (cellsX pg op n v c).setIfInBounds 257 (.int .i64 (m : Int)) = cellsX pg op m v c := by
  simp only [cellsX, List.setIfInBounds_toArray, List.set_cons_succ]
  rw [List.set_append_right _ _ (by rw [cellsOf_len, h]; omega), cellsOf_len, h]; rfl
theorem cellsX_set_v (h : op.length = 256) (m : Nat) : (cellsX pg op n v c).setIfInBounds 258 (.int .i64 (m : Int)) = cellsX pg op n m c := by
  simp only [cellsX, List.setIfInBounds_toArray, List.set_cons_succ]
  rw [List.set_append_right _ _ (by rw [cellsOf_len, h]; omega), cellsOf_len, h]; rfl
theorem cellsX_set_c (h : op.length = 256) (m : Nat) : (cellsX pg op n v c).setIfInBounds 259 (.int .i64 (m : Int)) = cellsX pg op n v m := by
  simp only [cellsX, List.setIfInBounds_toArray, List.set_cons_succ]
  rw [List.set_append_right _ _ (by rw [cellsOf_len, h]; omega), cellsOf_len, h]; rfl
theorem cellsX_set_at (h : op.length = 256) (i : Nat) (hi : i < 256) (z : Int) : (cellsX pg op n v c).setIfInBounds (1 + i) (.int .u8 z) = cellsX pg (op.set i z) n v c := by
  simp only [cellsX, List.setIfInBounds_toArray, Nat.add_comm 1 i, List.set_cons_succ]
  rw [List.set_append_left _ _ (by rw [cellsOf_len, h]; omega)]
  simp [cellsOf, List.map_set]
end

/-- a chain of pages, the last one first -/
def Chain (w : World) : List (List Int) → Value → Prop
  | [], pg => pg = .pointer none
  | x :: r, pg => ∃ g nx, pg = .pointer (some ⟨g, 0, none⟩) ∧ x.length = 256 ∧ Fit x ∧ Box w g 163 (nx :: cellsOf x).toArray ∧ Chain w r nx
theorem Chain.kept {S : Nat → Prop} {w w' : World} (k : Kept S w w') (hS : ∀ i cs, S i → w.heap[i]? ≠ some (.cells cs 163 (0, 0))) : ∀ (ps : List (List Int)) (pg : Value), Chain w ps pg → Chain w' ps pg
  | [], _, h => h
  | x :: r, pg, h => by
    obtain ⟨g, nx, h1, h2, h3, h4, h5⟩ := h
    exact ⟨g, nx, h1, h2, h3, k.box h4 (fun e => hS g _ e h4), Chain.kept k hS r nx h5⟩
theorem Chain.on {w w' : World} (k : Below w.heap.size w w') (ps : List (List Int)) (pg : Value) (h : Chain w ps pg) : Chain w' ps pg :=
  Chain.kept (Kept.of_below k (fun _ => False)) (fun _ _ e => e.elim) ps pg h
theorem Chain.one {w : World} {ps : List (List Int)} {pg : Value} (h : Chain w ps pg) : pg.oneCell' = true ∧ pg.cells = #[pg] ∧ ∃ a, pg = .pointer a := by
  cases ps with
  | nil => rw [show pg = .pointer none from h]; exact ⟨rfl, rfl, _, rfl⟩
  | cons x r =>
    obtain ⟨g, nx, rfl, _⟩ := h
    exact ⟨rfl, rfl, _, rfl⟩
theorem Chain.fit {w : World} : ∀ {ps : List (List Int)} {pg : Value}, Chain w ps pg → Fit ps.reverse.flatten ∧ ps.reverse.flatten.length = 256 * ps.length
  | [], _, _ => ⟨fun y hy => by simp at hy, by simp⟩
  | x :: r, _, h => by
    obtain ⟨g, nx, _, h2, h3, _, h5⟩ := h
    obtain ⟨h6, h7⟩ := Chain.fit h5
    refine ⟨?_, ?_⟩
    · rw [List.reverse_cons, List.flatten_append]
      intro y hy
      rcases List.mem_append.1 hy with h | h
      · exact h6 y h
      · exact h3 y (by simpa using h)
    · rw [List.reverse_cons, List.flatten_append, List.length_append, h7]
      simp [h2]
      omega

/-- a writer in memory: its whole bytes are P, n of them -/
def ByX (w : World) (d : Nat) (P : List Int) (n v c : Nat) : Prop :=
  ∃ pg ps op, Box w d 117 (cellsX pg op n v c) ∧ op.length = 256 ∧ Fit op ∧ Chain w ps pg ∧ ps.length = n / 256 ∧ P = ps.reverse.flatten ++ op.take (n % 256)
theorem ByX.fit {w : World} {d : Nat} {P : List Int} {n v c : Nat} (h : ByX w d P n v c) : Fit P ∧ P.length = n := by
  obtain ⟨pg, ps, op, h1, h2, h3, h4, h5, rfl⟩ := h
  obtain ⟨h6, h7⟩ := h4.fit
  refine ⟨fun y hy => ?_, by rw [List.length_append, h7, List.length_take, h5]; omega⟩
  rcases List.mem_append.1 hy with h | h
  · exact h6 y h
  · exact h3 y (List.mem_of_mem_take h)
theorem ByX.kept {S : Nat → Prop} {w w' : World} {d : Nat} {P : List Int} {n v c : Nat} (h : ByX w d P n v c) (k : Kept S w w') (hd : ¬ S d) (hS : ∀ i cs, S i → w.heap[i]? ≠ some (.cells cs 163 (0, 0))) : ByX w' d P n v c := by
  obtain ⟨pg, ps, op, h1, h2, h3, h4, h5, h6⟩ := h
  exact ⟨pg, ps, op, k.box h1 hd, h2, h3, Chain.kept k hS ps pg h4, h5, h6⟩
theorem ByX.on {w w' : World} {d : Nat} {P : List Int} {n v c : Nat} (h : ByX w d P n v c) (k : Below w.heap.size w w') : ByX w' d P n v c :=
  h.kept (Kept.of_below k (fun _ => False)) (fun e => e) (fun _ _ e => e.elim)

/-- what is laid into a row of cells, one behind the other -/
theorem fold_set (off : Nat) : ∀ (l : List Value) (s : Nat) (cs : Array Value), off + s + l.length ≤ cs.size → ∀ k, ((l.zipIdx s).foldl (fun (cs : Array Value) (p : Value × Nat) => cs.setIfInBounds (off + p.2) p.1) cs)[k]? = if off + s ≤ k ∧ k < off + s + l.length then l[k - off - s]? else cs[k]?
  | [], s, cs, _, k => by
    rw [if_neg (by simp)]
    rfl
  | a :: l, s, cs, h, k => by
    rw [List.zipIdx_cons, List.foldl_cons, fold_set off l (s + 1) _ (by simp at h ⊢; omega)]
    simp only [List.length_cons] at h ⊢
    by_cases hk : k = off + s
    · subst hk
      rw [if_neg (by omega), if_pos (by omega), Array.getElem?_setIfInBounds_self_of_lt (by omega), show off + s - off - s = 0 by omega]
      rfl
    · by_cases h1 : off + (s + 1) ≤ k ∧ k < off + (s + 1) + l.length
      · rw [if_pos h1, if_pos (by omega), show k - off - s = (k - off - (s + 1)) + 1 by omega, List.getElem?_cons_succ]
      · rw [if_neg h1, if_neg (by omega), Array.getElem?_setIfInBounds_ne (by omega)]
theorem fill123 {cells : Array Value} {pg : Value} {xs : List Value} (hc : cells.size = 257) (hp : pg.cells = #[pg]) (hx : xs.length = 256) :
    Instr.fill (fun i => (#[(0, 1), (1, 256)] : Array (Nat × Nat))[i]?) cells [(0, pg), (1, .agg xs.toArray)] = some (pg :: xs).toArray := by
  have hs : ∀ (l : List Value) (s : Nat) (cs : Array Value), ((l.zipIdx s).foldl (fun (cs : Array Value) (p : Value × Nat) => cs.setIfInBounds (1 + p.2) p.1) cs).size = cs.size := by
    intro l
    induction l with
    | nil => intro s cs; rfl
    | cons a l ih => intro s cs; rw [List.zipIdx_cons, List.foldl_cons, ih]; simp
  simp only [Instr.fill]
  have hx2 : (Value.agg xs.toArray).cells = xs.toArray := rfl
  rw [hp, hx2]
  simp [hx, hc]
  apply Array.ext_getElem?
  intro k
  rw [fold_set 1 xs 0 _ (by simp [hc, hx])]
  by_cases h1 : 1 + 0 ≤ k ∧ k < 1 + 0 + xs.length
  · rw [if_pos h1]
    obtain ⟨j, rfl⟩ : ∃ j, k = j + 1 := ⟨k - 1, by omega⟩
    simp
  · rw [if_neg h1]
    by_cases h0 : k = 0
    · subst h0
      simp [hc]
    · rw [Array.getElem?_eq_none (by simp [hc]; omega), Array.getElem?_eq_none (by simp [hx]; omega)]
noncomputable def zero123 : Array Value := (((Tryd.prog.info? 163).bind (·.zero)).getD (.pointer none)).cells
theorem zero123_size : zero123.size = 257 := by kernel_rfl
theorem build123 (w : World) {pg : Value} {xs : List Value} (hp : pg.cells = #[pg]) (hx : xs.length = 256) : (Instr.build 163 #[(0, pg), (1, .agg xs.toArray)]).run Tryd.prog w = .ok (.agg (pg :: xs).toArray) w := by
  refine run_build w 163 _ _ ?_
  have e : Tryd.prog.built 163 [(0, pg), (1, .agg xs.toArray)] = Instr.fill (fun i => (#[(0, 1), (1, 256)] : Array (Nat × Nat))[i]?) zero123 [(0, pg), (1, .agg xs.toArray)] := by kernel_rfl
  show Tryd.prog.built 163 [(0, pg), (1, .agg xs.toArray)] = _
  rw [e, fill123 zero123_size hp hx]

theorem load82 {w : World} {d : Nat} {pg : Value} {op : List Int} {n v c : Nat} (h : Box w d 117 (cellsX pg op n v c)) (ho : op.length = 256) : (Instr.loadAt 111 (.pointer (some ⟨d, 1, none⟩))).run Tryd.prog w = .ok (.agg (cellsOf op).toArray) w :=
  run_loadAt_mid w d 1 111 (cellsOf op) _ (fun j u hu => by
    have hj : j < 256 := by
      have := (List.getElem?_eq_some_iff.1 hu).1
      rw [cellsOf_len, ho] at this
      exact this
    rw [h.cell (1 + j), cellsX_at ho j hj, ← hu]
    simp [cellsOf, List.getD_eq_getElem?_getD, List.getElem?_eq_getElem (show j < op.length by omega)]) Tryd.underlying111 rfl (by rw [cellsOf_len, ho]; kernel_rfl)

theorem step_load {ops : Array Oper} {o : Oper} {a : Act} {w : World} {K : Act → World → Prop} {Q : Exit → Act → World → Prop} {E : Prop} (hgd : o.guard = none) (ty : TypeId) (x : Operand) (ho : o.op = .load ty x)
    (u : Value) (hx : a.eval x = u) (v : Value) (hl : (Instr.loadAt ty u).run Tryd.prog w = .ok v w) (d : Option Tmp) (hd : o.dst = d) (h : K (a.put d v) w) :
    if Region.wanted o (yielded ops a.tmps) = true then Oper.wp Tryd.prog o a w K Q else E := by
  have hw : Region.wanted o (yielded ops a.tmps) = true := by simp [Region.wanted, hgd]
  rw [if_pos hw]
  subst hd
  unfold Oper.wp execOp
  simp only [ho, hx, Sem.run_bind, hl, Result.andThen_ok]
  exact h
theorem step_build {ops : Array Oper} {o : Oper} {a : Act} {w : World} {K : Act → World → Prop} {Q : Exit → Act → World → Prop} {E : Prop} (hgd : o.guard = none) (t : TypeId) (parts : Array (Nat × Operand)) (ho : o.op = .build t parts)
    (v : Value) (ps : Array (Nat × Value)) (hps : (parts.map fun (i, x) => (i, a.eval x)) = ps) (hl : (Instr.build t ps).run Tryd.prog w = .ok v w) (d : Option Tmp) (hd : o.dst = d) (h : K (a.put d v) w) :
    if Region.wanted o (yielded ops a.tmps) = true then Oper.wp Tryd.prog o a w K Q else E := by
  have hw : Region.wanted o (yielded ops a.tmps) = true := by simp [Region.wanted, hgd]
  rw [if_pos hw]
  subst hd
  unfold Oper.wp execOp
  simp only [ho, hps, Sem.run_bind, hl, Result.andThen_ok]
  exact h

theorem take_to7 {ops : Array Oper} {Q : Exit → Act → World → Prop} {md : Region.Mode} {S : World → Prop} {i : Nat} {oi : Oper} {v : Value} {fuel : Nat} {listed : Array Bool} {a : Act} {w : World} (hi : ops[i]? = some oi)
    (hs : Region.noSelect ops = true) (hf : Region.free md ops listed i = true) (hr : (Region.ready md ops listed).contains i = true)
    (hQ : ∀ c a w, Q (.panic c) (a.put oi.dst v) w → Q (.panic c) a w) (hy : YieldsIf Tryd.prog ops S oi v a) (hS : S w) (d : Option Tmp) (hd : oi.dst = d)
    (h : wpAnyH Tryd.prog md ops Q S fuel (listed.setIfInBounds i true) (a.put d v) w) : wpAnyH Tryd.prog md ops Q S (fuel + 1) listed a w :=
  wpAnyH_take hi hs hf hr hQ hy hS (by rw [hd]; exact h)
theorem yieldsIf_build7 {ops : Array Oper} {S : World → Prop} {op : Oper} {a : Act} (hw : Region.wanted op (yielded ops a.tmps) = true) (t : TypeId) (parts : Array (Nat × Operand)) (ho : op.op = .build t parts)
    (v : Value) (ps : Array (Nat × Value)) (hps : (parts.map fun (i, x) => (i, a.eval x)) = ps) (h : ∀ w, (Instr.build t ps).run Tryd.prog w = .ok v w) : YieldsIf Tryd.prog ops S op v a :=
  .inl ⟨hw, fun w _ => by
    unfold execOp
    simp only [ho, hps, Sem.run_bind, h w, Result.andThen_ok, Sem.run_pure]⟩

theorem take_set {op : List Int} {m : Nat} {x : Int} (h : m < op.length) : (op.set m x).take (m + 1) = op.take m ++ [x] := by
  rw [List.take_succ_eq_append_getElem (by rw [List.length_set]; exact h), List.take_set_of_le (Nat.le_refl _), List.getElem_set_self]
/-- a page is laid aside -/
theorem paged {w w2 : World} {d n m v c : Nat} {pg : Value} {ps : List (List Int)} {op P : List Int} {x : Int} {Q : Array Value} (hb : Box w2 d 117 (cellsX pg (op.set m x) (n + 1) v c)) (hC : Chain w2 ps pg) (hk : Kept (fun i => i = d) w w2) (hQ : Q = (pg :: cellsOf (op.set m x)).toArray)
    (hf : Fit (op.set m x)) (ho : (op.set m x).length = 256) (hp : ps.length = n / 256) (hP : P = ps.reverse.flatten ++ op.take (n % 256)) (h0 : (n + 1) % 256 = 0) (hm : m = n % 256) :
    ByX ((w2.alloc (.cells Q 163)).setCell ⟨d, 0, none⟩ (.pointer (some ⟨w2.heap.size, 0, none⟩))) d (P ++ [x]) (n + 1) v c ∧ Kept (fun i => i = d) w ((w2.alloc (.cells Q 163)).setCell ⟨d, 0, none⟩ (.pointer (some ⟨w2.heap.size, 0, none⟩))) := by
  have ba := on_alloc w2 (.cells Q 163)
  have kk : Kept (fun i => i = d) (w2.alloc (.cells Q 163)) ((w2.alloc (.cells Q 163)).setCell ⟨d, 0, none⟩ (.pointer (some ⟨w2.heap.size, 0, none⟩))) := (Kept.refl (fun i => i = d) _).setCell (p := ⟨d, 0, none⟩) (fun _ => rfl) _
  have hdl := hb.lt
  have hb1 := (hb.on ba).put 0 (.pointer (some ⟨w2.heap.size, 0, none⟩))
  rw [cellsX_set_0] at hb1
  have hbd : ∀ i cs, i = d → (w2.alloc (.cells Q 163)).heap[i]? ≠ some (.cells cs 163 (0, 0)) := fun i cs e h => by
    subst e
    have hbb : (w2.alloc (.cells Q 163)).heap[i]? = some (.cells (cellsX pg (op.set m x) (n + 1) v c) 117 (0, 0)) := hb.on ba
    rw [hbb] at h
    simp at h
  have hC1 := Chain.kept kk hbd ps pg (Chain.on ba ps pg hC)
  have hpage : Box ((w2.alloc (.cells Q 163)).setCell ⟨d, 0, none⟩ (.pointer (some ⟨w2.heap.size, 0, none⟩))) w2.heap.size 163 (pg :: cellsOf (op.set m x)).toArray := by
    rw [← hQ]
    exact kk.box (Box.made _ _ _) (by omega)
  refine ⟨⟨.pointer (some ⟨w2.heap.size, 0, none⟩), (op.set m x) :: ps, op.set m x, hb1, ho, hf, ⟨w2.heap.size, pg, rfl, ho, hf, hpage, hC1⟩, by rw [List.length_cons, hp]; omega, ?_⟩, hk.trans ((Kept.of_below ba (fun i => i = d)).trans kk (fun _ _ h => h)) (fun _ _ h => h)⟩
  have hol : op.length = 256 := by rw [List.length_set] at ho; exact ho
  have h255 : m = 255 := by omega
  have ht : op.set m x = op.take m ++ [x] := by
    rw [← take_set (by omega), h255, List.take_of_length_le (by rw [List.length_set]; omega)]
  rw [h0, List.take_zero, List.append_nil, List.reverse_cons, List.flatten_append, hP, ← hm, ht]
  simp

/-- what add leaves -/
def AddedX (w : World) (d : Nat) (P : List Int) (n v c : Nat) (e : Ending) (w' : World) : Prop := e = .returned (.tuple #[]) ∧ ByX w' d P n v c ∧ Kept (fun i => i = d) w w'
set_option maxRecDepth 20000 in
set_option maxHeartbeats 1600000 in
theorem addX_any (w : World) (d : Nat) (P : List Int) (n v c : Nat) (x : Int) (h : ByX w d P n v c) (hx0 : 0 ≤ x) (hx1 : x ≤ 255) (hn : n < 21000) :
    Calls Tryd.prog 94 #[.pointer (some ⟨d, 0, none⟩), .int .u8 x] w (AddedX w d (P ++ [x]) (n + 1) v c) := by
  obtain ⟨pg, ps, op, hb, ho, hf, hC, hp, hP⟩ := h
  obtain ⟨m, hm⟩ : ∃ m, m = n % 256 := ⟨_, rfl⟩
  have hm1 : m < 256 := by omega
  have c1 : w.cell? ⟨d, 257, none⟩ = some (.int .i64 (n : Int)) := (hb.cell 257).trans (cellsX_n ho)
  have c2 := (hb.cell (1 + m)).trans (cellsX_at ho m hm1)
  have f1 := hb.free (1 + m)
  have f2 := hb.free 257
  have e1 : (n : Int) % 256 = m := by omega
  have hfs : Fit (op.set m x) := fun y hy => by
    rcases List.mem_or_eq_of_mem_set hy with h | rfl
    · exact hf y h
    · exact ⟨hx0, hx1⟩
  have hos : (op.set m x).length = 256 := by rw [List.length_set]; exact ho
  have hb2 := (hb.put (1 + m) (.int .u8 x)).put 257 (.int .i64 ((n + 1 : Nat) : Int))
  rw [cellsX_set_at ho m hm1, cellsX_set_n hos] at hb2
  have k2 : Kept (fun i => i = d) w ((w.setCell ⟨d, 1 + m, none⟩ (.int .u8 x)).setCell ⟨d, 257, none⟩ (.int .i64 ((n + 1 : Nat) : Int))) := ((Kept.refl (fun i => i = d) w).setCell (p := ⟨d, 1 + m, none⟩) (fun _ => rfl) _).setCell (p := ⟨d, 257, none⟩) (fun _ => rfl) _
  have hC2 : Chain ((w.setCell ⟨d, 1 + m, none⟩ (.int .u8 x)).setCell ⟨d, 257, none⟩ (.int .i64 ((n + 1 : Nat) : Int))) ps pg := Chain.kept k2 (fun i cs e h => by
    have e : i = d := e
    subst e
    have hbb : w.heap[i]? = some (.cells (cellsX pg op n v c) 117 (0, 0)) := hb
    rw [hbb] at h
    simp at h) ps pg hC
  have e3 : ((n + 1 : Nat) : Int) = (n : Int) + 1 := by omega
  rw [e3] at hb2 k2 hC2
  clear e3
  by_cases h0 : (n + 1) % 256 = 0
  · have e2 : ((n : Int) + 1) % 256 = 0 := by omega
    have HH := Lib.hid (And.intro hb2 (And.intro hC2 (And.intro k2 (And.intro hfs (And.intro hos (And.intro hp (And.intro hP (And.intro h0 hm))))))))
    clear hb hf hC hp hP hfs hos hb2 k2 hC2 ho h0 hm
    go_enter Tryd.func94, Tryd.ntmps94
    go_wp2_with fail
    go_region
    all_goals
      (go_wp2_with fail
       obtain ⟨w2, hw2⟩ : ∃ w2, w2 = ((w.setCell ⟨d, 1 + m, none⟩ (.int .u8 x)).setCell ⟨d, 257, none⟩ (.int .i64 ((n : Int) + 1))).drew := ⟨_, rfl⟩
       have HB2 := Lib.hid (show Box w2 d 117 (cellsX pg (op.set m x) (n + 1) v c) ∧ Chain w2 ps pg ∧ Kept (fun i => i = d) w w2 from by rw [hw2]; exact ⟨HH.out.1, Chain.on (on_drew _) _ _ HH.out.2.1, HH.out.2.2.1.drew⟩)
       rw [← hw2]
       clear hw2 c1 c2 f1 f2 e1 e2
       obtain ⟨xs, hxs⟩ : ∃ xs, xs = (cellsOf (op.set m x)).toArray := ⟨_, rfl⟩
       obtain ⟨Q, hQ⟩ : ∃ Q, Q = (pg :: cellsOf (op.set m x)).toArray := ⟨_, rfl⟩
       have L1 := Lib.hid (show (Instr.loadAt 111 (.pointer (some ⟨d, 1, none⟩))).run Tryd.prog w2.drew = .ok (.agg xs) w2.drew by rw [hxs]; exact load82 (HB2.out.1.on (on_drew _)) HH.out.2.2.2.2.1)
       have L2 := Lib.hid (show ∀ w, (Instr.build 163 #[(0, pg), (1, .agg xs)]).run Tryd.prog w = .ok (.agg Q) w from fun w => by rw [hxs, hQ]; exact build123 w HB2.out.2.1.one.2.1 (by rw [cellsOf_len]; exact HH.out.2.2.2.2.1))
       have c0 : w2.drew.cell? ⟨d, 0, none⟩ = some pg := ((HB2.out.1.on (on_drew _)).cell 0).trans cellsX_0
       have L0 := Lib.hid (show (Instr.loadAt 110 (.pointer (some ⟨d, 0, none⟩))).run Tryd.prog w2.drew = .ok pg w2.drew by go_simp)
       have D0 := Lib.hid (show (w2.alloc (.cells Q 163)).cell? ⟨d, 0, none⟩ = some pg from ((HB2.out.1.on (on_alloc _ _)).cell 0).trans cellsX_0)
       have D1 := Lib.hid ((HB2.out.1.on (on_alloc w2 (.cells Q 163))).free 0)
       have HX := Lib.hid (And.intro hxs hQ)
       clear hxs hQ c0
       have t0 : (fun _ : World => True) w2.drew := trivial
       refine wp_region_held_drew (S := fun _ => True) (by kernel_rfl) trivial fun _ => ?_
       refine take_to7 (i := 0) (v := .pointer (some ⟨d, 0, none⟩)) rfl (by kernel_rfl) (by kernel_rfl) (by kernel_rfl) (fun _ _ _ h => h) (Or.inl ⟨by rfl, fun w' hS => by go_simp⟩) trivial (some 27) rfl ?_
       try simp only [Act.put, List.setIfInBounds_toArray, List.set_cons_zero, List.set_cons_succ]
       refine take_to7 (i := 1) (v := .pointer (some ⟨d, 0, none⟩)) rfl (by kernel_rfl) (by kernel_rfl) (by kernel_rfl) (fun _ _ _ h => h) (Or.inl ⟨by rfl, fun w' hS => by go_simp⟩) trivial (some 28) rfl ?_
       try simp only [Act.put, List.setIfInBounds_toArray, List.set_cons_zero, List.set_cons_succ]
       refine take_to7 (i := 2) (v := .pointer (some ⟨d, 0, none⟩)) rfl (by kernel_rfl) (by kernel_rfl) (by kernel_rfl) (fun _ _ _ h => h) (Or.inl ⟨by rfl, fun w' hS => by go_simp⟩) trivial (some 29) rfl ?_
       try simp only [Act.put, List.setIfInBounds_toArray, List.set_cons_zero, List.set_cons_succ]
       refine take_to7 (i := 3) (v := .pointer (some ⟨d, 0, none⟩)) rfl (by kernel_rfl) (by kernel_rfl) (by kernel_rfl) (fun _ _ _ h => h) (Or.inl ⟨by rfl, fun w' hS => by go_simp⟩) trivial (some 30) rfl ?_
       try simp only [Act.put, List.setIfInBounds_toArray, List.set_cons_zero, List.set_cons_succ]
       refine take_to7 (i := 5) (v := .pointer (some ⟨d, 0, none⟩)) rfl (by kernel_rfl) (by kernel_rfl) (by kernel_rfl) (fun _ _ _ h => h) (Or.inl ⟨by rfl, fun w' hS => by go_simp⟩) trivial (some 32) rfl ?_
       try simp only [Act.put, List.setIfInBounds_toArray, List.set_cons_zero, List.set_cons_succ]
       refine take_to7 (i := 6) (v := .pointer (some ⟨d, 0, none⟩)) rfl (by kernel_rfl) (by kernel_rfl) (by kernel_rfl) (fun _ _ _ h => h) (Or.inl ⟨by rfl, fun w' hS => by go_simp⟩) trivial (some 33) rfl ?_
       try simp only [Act.put, List.setIfInBounds_toArray, List.set_cons_zero, List.set_cons_succ]
       refine take_to7 (i := 7) (v := .pointer (some ⟨d, 1, none⟩)) rfl (by kernel_rfl) (by kernel_rfl) (by kernel_rfl) (fun _ _ _ h => h) (Or.inl ⟨by rfl, fun w' hS => by go_simp⟩) trivial (some 34) rfl ?_
       try simp only [Act.put, List.setIfInBounds_toArray, List.set_cons_zero, List.set_cons_succ]
       refine wpAnyH_ready (rs := [4, 8]) (by kernel_rfl) (by simp) ?_
       refine AllReadyH.cons rfl (fun K hK => ?_) (AllReadyH.cons rfl (fun K hK => ?_) AllReadyH.nil)
       · refine step_load rfl 110 (.tmp 30) rfl (.pointer (some ⟨d, 0, none⟩)) rfl pg L0.out (some 31) rfl ?_
         refine hK.out _ _ trivial fun _ => ?_
         clear hK K
         try simp only [Act.put, List.setIfInBounds_toArray, List.set_cons_zero, List.set_cons_succ]
         refine wpAnyH_ready (rs := [8]) (by kernel_rfl) (by simp) ?_
         refine AllReadyH.cons rfl (fun K hK => ?_) AllReadyH.nil
         refine step_load rfl 111 (.tmp 34) rfl (.pointer (some ⟨d, 1, none⟩)) rfl (.agg xs) L1.out (some 35) rfl ?_
         refine hK.out _ _ trivial fun _ => ?_
         clear hK K
         try simp only [Act.put, List.setIfInBounds_toArray, List.set_cons_zero, List.set_cons_succ]
         refine take_to7 (i := 9) (v := .agg Q) rfl (by kernel_rfl) (by kernel_rfl) (by kernel_rfl) (fun _ _ _ h => h) (yieldsIf_build7 (by rfl) 163 _ rfl _ _ (by simp [Act.eval]) (fun w' => L2.out w')) trivial (some 36) rfl ?_
         try simp only [Act.put, List.setIfInBounds_toArray, List.set_cons_zero, List.set_cons_succ]
         refine wpAnyH_ready (rs := [10]) (by kernel_rfl) (by simp) ?_
         refine AllReadyH.cons rfl (fun K hK => ?_) AllReadyH.nil
         rw [if_pos (by rfl)]
         go_simp
         refine hK.out _ _ trivial fun _ => ?_
         clear hK K
         try simp only [Act.put, List.setIfInBounds_toArray, List.set_cons_zero, List.set_cons_succ]
         refine take_to7 (i := 11) (v := .pointer (some ⟨d, 0, none⟩)) rfl (by kernel_rfl) (by kernel_rfl) (by kernel_rfl) (fun _ _ _ h => h) (Or.inl ⟨by rfl, fun w' hS => by go_simp⟩) trivial (some 38) rfl ?_
         try simp only [Act.put, List.setIfInBounds_toArray, List.set_cons_zero, List.set_cons_succ]
         refine take_to7 (i := 12) (v := .pointer (some ⟨d, 0, none⟩)) rfl (by kernel_rfl) (by kernel_rfl) (by kernel_rfl) (fun _ _ _ h => h) (Or.inl ⟨by rfl, fun w' hS => by go_simp⟩) trivial (some 39) rfl ?_
         try simp only [Act.put, List.setIfInBounds_toArray, List.set_cons_zero, List.set_cons_succ]
         refine wpAnyH_ready (rs := [13]) (by kernel_rfl) (by simp) ?_
         refine AllReadyH.cons rfl (fun K hK => ?_) AllReadyH.nil
         rw [if_pos (by rfl)]
         have d0 := D0.out
         have f0 := D1.out
         go_simp
         refine hK.out _ _ trivial fun _ => ?_
         clear hK K
         try simp only [Act.put, List.setIfInBounds_toArray, List.set_cons_zero, List.set_cons_succ]
         refine wpAnyH_done (by kernel_rfl) ?_ _
         clear d0 f0
         have HQ := Lib.hid (show ByX ((w2.alloc (.cells Q 163)).setCell ⟨d, 0, none⟩ (.pointer (some ⟨w2.heap.size, 0, none⟩))) d (P ++ [x]) (n + 1) v c ∧ Kept (fun i => i = d) w ((w2.alloc (.cells Q 163)).setCell ⟨d, 0, none⟩ (.pointer (some ⟨w2.heap.size, 0, none⟩))) from paged HB2.out.1 HB2.out.2.1 HB2.out.2.2 HX.out.2 HH.out.2.2.2.1 HH.out.2.2.2.2.1 HH.out.2.2.2.2.2.1 HH.out.2.2.2.2.2.2.1 HH.out.2.2.2.2.2.2.2.1 HH.out.2.2.2.2.2.2.2.2)
         go_wp2
         go_end0
         exact ⟨rfl, HQ.out.1.on (on_drew _), HQ.out.2.drew⟩
       · refine step_load rfl 111 (.tmp 34) rfl (.pointer (some ⟨d, 1, none⟩)) rfl (.agg xs) L1.out (some 35) rfl ?_
         refine hK.out _ _ trivial fun _ => ?_
         clear hK K
         try simp only [Act.put, List.setIfInBounds_toArray, List.set_cons_zero, List.set_cons_succ]
         refine wpAnyH_ready (rs := [4]) (by kernel_rfl) (by simp) ?_
         refine AllReadyH.cons rfl (fun K hK => ?_) AllReadyH.nil
         refine step_load rfl 110 (.tmp 30) rfl (.pointer (some ⟨d, 0, none⟩)) rfl pg L0.out (some 31) rfl ?_
         refine hK.out _ _ trivial fun _ => ?_
         clear hK K
         try simp only [Act.put, List.setIfInBounds_toArray, List.set_cons_zero, List.set_cons_succ]
         refine take_to7 (i := 9) (v := .agg Q) rfl (by kernel_rfl) (by kernel_rfl) (by kernel_rfl) (fun _ _ _ h => h) (yieldsIf_build7 (by rfl) 163 _ rfl _ _ (by simp [Act.eval]) (fun w' => L2.out w')) trivial (some 36) rfl ?_
         try simp only [Act.put, List.setIfInBounds_toArray, List.set_cons_zero, List.set_cons_succ]
         refine wpAnyH_ready (rs := [10]) (by kernel_rfl) (by simp) ?_
         refine AllReadyH.cons rfl (fun K hK => ?_) AllReadyH.nil
         rw [if_pos (by rfl)]
         go_simp
         refine hK.out _ _ trivial fun _ => ?_
         clear hK K
         try simp only [Act.put, List.setIfInBounds_toArray, List.set_cons_zero, List.set_cons_succ]
         refine take_to7 (i := 11) (v := .pointer (some ⟨d, 0, none⟩)) rfl (by kernel_rfl) (by kernel_rfl) (by kernel_rfl) (fun _ _ _ h => h) (Or.inl ⟨by rfl, fun w' hS => by go_simp⟩) trivial (some 38) rfl ?_
         try simp only [Act.put, List.setIfInBounds_toArray, List.set_cons_zero, List.set_cons_succ]
         refine take_to7 (i := 12) (v := .pointer (some ⟨d, 0, none⟩)) rfl (by kernel_rfl) (by kernel_rfl) (by kernel_rfl) (fun _ _ _ h => h) (Or.inl ⟨by rfl, fun w' hS => by go_simp⟩) trivial (some 39) rfl ?_
         try simp only [Act.put, List.setIfInBounds_toArray, List.set_cons_zero, List.set_cons_succ]
         refine wpAnyH_ready (rs := [13]) (by kernel_rfl) (by simp) ?_
         refine AllReadyH.cons rfl (fun K hK => ?_) AllReadyH.nil
         rw [if_pos (by rfl)]
         have d0 := D0.out
         have f0 := D1.out
         go_simp
         refine hK.out _ _ trivial fun _ => ?_
         clear hK K
         try simp only [Act.put, List.setIfInBounds_toArray, List.set_cons_zero, List.set_cons_succ]
         refine wpAnyH_done (by kernel_rfl) ?_ _
         clear d0 f0
         have HQ := Lib.hid (show ByX ((w2.alloc (.cells Q 163)).setCell ⟨d, 0, none⟩ (.pointer (some ⟨w2.heap.size, 0, none⟩))) d (P ++ [x]) (n + 1) v c ∧ Kept (fun i => i = d) w ((w2.alloc (.cells Q 163)).setCell ⟨d, 0, none⟩ (.pointer (some ⟨w2.heap.size, 0, none⟩))) from paged HB2.out.1 HB2.out.2.1 HB2.out.2.2 HX.out.2 HH.out.2.2.2.1 HH.out.2.2.2.2.1 HH.out.2.2.2.2.2.1 HH.out.2.2.2.2.2.2.1 HH.out.2.2.2.2.2.2.2.1 HH.out.2.2.2.2.2.2.2.2)
         go_wp2
         go_end0
         exact ⟨rfl, HQ.out.1.on (on_drew _), HQ.out.2.drew⟩)
  · have e2 : ¬ ((n : Int) + 1) % 256 = 0 := by omega
    have hfin : ByX ((w.setCell ⟨d, 1 + m, none⟩ (.int .u8 x)).setCell ⟨d, 257, none⟩ (.int .i64 ((n : Int) + 1))) d (P ++ [x]) (n + 1) v c :=
      ⟨pg, ps, op.set m x, hb2, hos, hfs, hC2, by rw [hp]; omega, by rw [show (n + 1) % 256 = m + 1 by omega, take_set (by omega), hP, ← hm, List.append_assoc]⟩
    have HH := Lib.hid (And.intro hfin k2)
    clear hb hf hC hp hP hfs hos hb2 k2 hC2 ho h0 hm hfin
    go_enter Tryd.func94, Tryd.ntmps94
    go_wp2_with fail
    go_region
    all_goals
      (go_wp2
       go_end0
       exact ⟨rfl, HH.out.1.on (on_drew _), HH.out.2.drew⟩)
end Go.Proofs.YtdnjnbfmmgkpjaaDoor

namespace Go.Proofs.YtdnjnbfmmgkpjaaDoor
open Go.RowKit

/-- a writer with pages: its bits are L -/
def WrX (w : World) (d : Nat) (L : List Int) (n v c : Nat) : Prop := v < 2 ^ c ∧ ∃ P, ByX w d P n v c ∧ L = by8 P ++ dig v c
def Wx (w : World) (d : Nat) (L : List Int) : Prop := ∃ n v c, WrX w d L n v c ∧ c < 8 ∧ n ≤ 20000
theorem WrX.len {w : World} {d n v c : Nat} {L : List Int} (h : WrX w d L n v c) : L.length = 8 * n + c := by
  obtain ⟨_, P, hB, rfl⟩ := h
  rw [List.length_append, by8_len, dig_len, hB.fit.2]
theorem WrX.count {w : World} {d n v c : Nat} {L : List Int} (h : WrX w d L n v c) : countOf d w = c := by
  obtain ⟨_, P, ⟨pg, ps, op, hb, ho, _⟩, _⟩ := h
  unfold countOf
  rw [show w.cell? ⟨d, 259, none⟩ = some (.int .i64 (c : Int)) from (hb.cell 259).trans (cellsX_c ho)]
  simp
theorem byX_part {w w' : World} {d n v c v' c' : Nat} {pg : Value} {ps : List (List Int)} {op P : List Int} (hb : Box w d 117 (cellsX pg op n v c)) (ho : op.length = 256) (hf : Fit op) (hC : Chain w ps pg) (hp : ps.length = n / 256) (hP : P = ps.reverse.flatten ++ op.take (n % 256))
    (hb' : Box w' d 117 (cellsX pg op n v' c')) (k : Kept (fun i => i = d) w w') : ByX w' d P n v' c' :=
  ⟨pg, ps, op, hb', ho, hf, Chain.kept k (fun i cs e h => by
    have e : i = d := e
    subst e
    have hbb : w.heap[i]? = some (.cells (cellsX pg op n v c) 117 (0, 0)) := hb
    rw [hbb] at h
    simp at h) ps pg hC, hp, hP⟩
/-- how a writer stands while whole bytes are taken off its part -/
structure PuttingX (w : World) (d : Nat) (L : List Int) (wr : World) (n v c : Nat) : Prop where
  wri : WrX wr d L n v c
  small : c ≤ 31
  few : n ≤ 20004
  bel : Kept (fun i => i = d) w wr
theorem WrX.off {w : World} {d n v c j : Nat} {P L : List Int} (hL : L = by8 P ++ dig v c) (hj : c = 8 + j) (hb : ByX w d (P ++ [((v / 2 ^ j : Nat) : Int)]) (n + 1) (v % 2 ^ j) j) : WrX w d L (n + 1) (v % 2 ^ j) j := by
  refine ⟨Nat.mod_lt _ (pow_pos' j), _, hb, ?_⟩
  rw [hL, hj, dig_cut, by8_app, by8_one, List.append_assoc, Int.toNat_natCast]

set_option maxHeartbeats 1600000 in
theorem putX_done (w : World) (d n v c x k : Nat) (L : List Int) (h : WrX w d L n v c) (hc : c < 8) (hn : n ≤ 20000) (hk : k ≤ 24) (hx : x < 2 ^ k) :
    Calls Tryd.prog 78 #[.pointer (some ⟨d, 0, none⟩), .int .i64 (x : Int), .int .i64 (k : Int)] w fun e w' => e = .returned (.int .i64 0) ∧ (∃ n' v' c', WrX w' d (L ++ dig x k) n' v' c' ∧ c' < 8 ∧ n' ≤ 20004) ∧ Kept (fun i => i = d) w w' := by
  have hlen := h.len
  obtain ⟨hv, PB, ⟨pg, ps, op, hb, ho, hf, hC, hp0, hPB⟩, hL⟩ := h
  have c1 : w.cell? ⟨d, 258, none⟩ = some (.int .i64 (v : Int)) := (hb.cell 258).trans (cellsX_v ho)
  have f1 := hb.free 258
  obtain ⟨p, hp⟩ : ∃ p : Nat, p = 2 ^ k := ⟨_, rfl⟩
  have hp1 : p ≤ 16777216 := by rw [hp]; exact Nat.le_trans (Nat.pow_le_pow_right (by omega) hk) (by decide)
  have hp2 : (2 : Int) ^ k = (p : Int) := by rw [hp]; simp
  have hxp : x < p := by rw [hp]; exact hx
  have hxp2 : ¬ (p : Int) ≤ x := by omega
  have hv8 : v < 128 := Nat.lt_of_lt_of_le hv (Nat.le_trans (Nat.pow_le_pow_right (by omega) (show c ≤ 7 by omega)) (by decide))
  obtain ⟨m, hm⟩ : ∃ m : Nat, m = v * p := ⟨_, rfl⟩
  have hm1 : (v : Int) * p = (m : Int) := by rw [hm]; simp
  have hm2 : m ≤ 2147483648 := by rw [hm]; exact Nat.le_trans (Nat.mul_le_mul (show v ≤ 128 by omega) hp1) (by omega)
  have c2 : w.cell? ⟨d, 259, none⟩ = some (.int .i64 (c : Int)) := (hb.cell 259).trans (cellsX_c ho)
  have f2 := hb.free 259
  have hor : bits .or .i64 (m : Int) (x : Int) = ((m + x : Nat) : Int) := by
    rw [or_i64 _ _ (by omega) (by omega), hm, hp, or_join _ _ _ hx]
  obtain ⟨w1, hw1⟩ : ∃ w1, w1 = (w.setCell ⟨d, 258, none⟩ (.int .i64 ((m + x : Nat) : Int))).setCell ⟨d, 259, none⟩ (.int .i64 ((c + k : Nat) : Int)) := ⟨_, rfl⟩
  have hP : PuttingX w d (L ++ dig x k) w1 n (m + x) (c + k) := by
    refine ⟨⟨?_, PB, byX_part hb ho hf hC hp0 hPB ?_ ?_, ?_⟩, by omega, by omega, ?_⟩
    · rw [hm, hp]; exact join_lt hv hx
    · have := (hb.put 258 (.int .i64 ((m + x : Nat) : Int))).put 259 (.int .i64 ((c + k : Nat) : Int))
      rw [cellsX_set_v ho, cellsX_set_c ho] at this
      rw [hw1]
      exact this
    · rw [hw1]
      exact ((Kept.refl (fun i => i = d) w).setCell (p := ⟨d, 258, none⟩) (fun _ => rfl) _).setCell (p := ⟨d, 259, none⟩) (fun _ => rfl) _
    · rw [hL, hm, hp, dig_join v c x k hx, List.append_assoc]
    · rw [hw1]
      exact ((Kept.refl (fun i => i = d) w).setCell (p := ⟨d, 258, none⟩) (fun _ => rfl) _).setCell (p := ⟨d, 259, none⟩) (fun _ => rfl) _
  have e1 : ((m + x : Nat) : Int) = (m : Int) + x := by omega
  have e2 : ((c + k : Nat) : Int) = (c : Int) + k := by omega
  rw [e1] at hor
  have HH := Lib.hid (And.intro hP (And.intro hw1 (And.intro e1 e2)))
  have HL := Lib.hid hlen
  clear hb ho hf hv hL hp hm hlen hx hP hw1 e1 e2 hC hp0 hPB
  go_enter Tryd.func78, Tryd.ntmps78
  go_wp2_with fail
  obtain ⟨hP, hw1, e1, e2⟩ := HH.out
  rw [← e1, ← e2, ← hw1]
  clear hw1 e1 e2 HH c1 c2 f1 f2 hor
  have HP := Lib.hid hP
  clear hP
  go_loopw [48] (fun _ wr => ∃ n' v' c', PuttingX w d (L ++ dig x k) wr n' v' c') (fun _ wr => countOf d wr)
  case atStart => exact ⟨_, _, _, HP.out⟩
  case round =>
    obtain ⟨n1, v1, c1, hP⟩ := hrel
    have hl1 := hP.wri.len
    rw [List.length_append, dig_len, HL.out] at hl1
    have hs1 := hP.small
    have hw := hP.wri
    obtain ⟨hv1, P1, hB1, hL1⟩ := hw
    obtain ⟨pg1, ps1, op1, hb1, ho1, hf1, hC1, hp1, hP1⟩ := hB1
    have q1 : wr.cell? ⟨d, 259, none⟩ = some (.int .i64 (c1 : Int)) := (hb1.cell 259).trans (cellsX_c ho1)
    by_cases h8 : 8 ≤ c1
    · obtain ⟨j, hj⟩ : ∃ j, c1 = 8 + j := ⟨c1 - 8, by omega⟩
      have hv31 : v1 < 2147483648 := Nat.lt_of_lt_of_le hv1 (Nat.le_trans (Nat.pow_le_pow_right (by omega) (show c1 ≤ 31 by omega)) (by decide))
      obtain ⟨q, hq⟩ : ∃ q, q = v1 / 2 ^ j := ⟨_, rfl⟩
      have hq8 : q < 256 := by
        rw [hq, Nat.div_lt_iff_lt_mul (pow_pos' j)]
        rw [hj, Nat.pow_add] at hv1
        exact hv1
      have hn1 : n1 < 20004 := by omega
      have hcw := hP.wri.count
      have HR := Lib.hid (And.intro hP (And.intro hb1 (And.intro ho1 (And.intro hf1 (And.intro hv1 (And.intro hL1 (And.intro hj (And.intro hq (And.intro hl1 hcw)))))))))
      have HR2 := Lib.hid (And.intro hC1 (And.intro hp1 hP1))
      have HW := Lib.hid (show IntKind.u8.wrap (q : Int) = q by simp [IntKind.wrap, IntKind.bits, IntKind.signed]; omega)
      have HT := Lib.hid (take_at wr.drew d 258 117 (cellsX pg1 op1 n1 v1 c1) v1 c1 j 8 hb1 (cellsX_v ho1) (cellsX_c ho1) (by omega) (by omega) (by omega) (by omega))
      clear hP hb1 ho1 hf1 hv1 hL1 hl1 hj hq hcw hC1 hp1 hP1
      go_wp2_with fail
      go_region_held3 (fun _ => True) (exact trivial)
        (first
          | (go_at_call 95
             with_reducible refine HT.out.mono ?_
             rintro e w2 ⟨rfl, hb2, k2⟩
             rw [cellsX_set_c HR.out.2.2.1, cellsX_set_v HR.out.2.2.1] at hb2
             rw [← HR.out.2.2.2.2.2.2.2.1]
             have H2 := Lib.hid (And.intro (byX_part (HR.out.2.1.on (on_drew wr)) HR.out.2.2.1 HR.out.2.2.2.1 (Chain.on (on_drew wr) _ _ HR2.out.1) HR2.out.2.1 HR2.out.2.2 hb2 k2) k2)
             clear hb2 k2)
          | (go_at_call 94
             rw [HW.out]
             with_reducible refine (addX_any w2 d P1 n1 (v1 % 2 ^ j) j (q : Int) H2.out.1 (by omega) (by omega) (by omega)).mono ?_
             rintro e w3 ⟨rfl, hb3, k3⟩
             have H3 := Lib.hid (And.intro hb3 k3)
             clear hb3 k3))
      all_goals
        (have hP3 : PuttingX w d (L ++ dig x k) w3 (n1 + 1) (v1 % 2 ^ j) j := by
           have hb3 := H3.out.1
           rw [HR.out.2.2.2.2.2.2.2.1] at hb3
           exact ⟨WrX.off HR.out.2.2.2.2.2.1 HR.out.2.2.2.2.2.2.1 hb3, by have := HR.out.2.2.2.2.2.2.1; omega, by omega, ((HR.out.1.bel.drew).trans H2.out.2 (fun _ _ h => h)).trans H3.out.2 (fun _ _ h => h)⟩
         have HQ := Lib.hid hP3
         clear hP3
         go_wp2
         go_roundw
         case rel => exact ⟨_, _, _, _, _, _, _, _, _, _, _, _, _, _, _, ⟨_, _, _, HQ.out⟩, rfl⟩
         case measure =>
           rw [HQ.out.wri.count, HR.out.2.2.2.2.2.2.2.2.2]
           have := HR.out.2.2.2.2.2.2.1
           omega)
    · have HE := Lib.hid (And.intro hP.wri (And.intro hP.few hP.bel))
      clear hP hb1 ho1 hf1 hv1 hL1 hl1 hC1 hp1 hP1
      go_wp2
      go_ret
      exact ⟨rfl, ⟨_, _, _, HE.out.1, by omega, HE.out.2.1⟩, HE.out.2.2⟩


theorem Wx.box {w : World} {d : Nat} {L : List Int} (h : Wx w d L) : ∃ cs, Box w d 117 cs := by
  obtain ⟨_, _, _, ⟨_, _, ⟨_, _, _, hb, _⟩, _⟩, _⟩ := h
  exact ⟨_, hb⟩
theorem Wx.lt {w : World} {d : Nat} {L : List Int} (h : Wx w d L) : d < w.heap.size := by
  obtain ⟨cs, hb⟩ := h.box
  exact hb.lt
theorem Wx.kept {S : Nat → Prop} {w w' : World} {d : Nat} {L : List Int} (h : Wx w d L) (k : Kept S w w') (hd : ¬ S d) (hS : ∀ i cs, S i → w.heap[i]? ≠ some (.cells cs 163 (0, 0))) : Wx w' d L := by
  obtain ⟨n, v, c, ⟨h1, P, hB, h2⟩, h3⟩ := h
  exact ⟨n, v, c, ⟨h1, P, hB.kept k hd hS, h2⟩, h3⟩
theorem Wx.on {w w' : World} {d : Nat} {L : List Int} (h : Wx w d L) (k : Below w.heap.size w w') : Wx w' d L :=
  h.kept (Kept.of_below k (fun _ => False)) (fun e => e) (fun _ _ e => e.elim)
theorem putX_any (w : World) (d : Nat) (L : List Int) (v c : Int) (h : Wx w d L) (hl : L.length ≤ 159900) :
    Calls Tryd.prog 78 #[.pointer (some ⟨d, 0, none⟩), .int .i64 v, .int .i64 c] w fun e w' => e = .returned (.int .i64 (putE v c)) ∧ Wx w' d (putL L v c) ∧ Kept (fun i => i = d) w w' := by
  by_cases hm : mayPut v c
  · obtain ⟨n, v0, c0, h1, h2, h3⟩ := h
    obtain ⟨m0, m1, m2, m3⟩ := hm
    obtain ⟨x, rfl⟩ := Int.eq_ofNat_of_zero_le m2
    obtain ⟨k, rfl⟩ := Int.eq_ofNat_of_zero_le m0
    have hx : x < 2 ^ k := by
      rw [Int.toNat_natCast] at m3
      have e : ((2 : Int) ^ k) = ((2 ^ k : Nat) : Int) := by simp
      rw [e] at m3
      exact Int.ofNat_lt.1 m3
    refine (putX_done w d n v0 c0 x k L h1 h2 h3 (by omega) hx).mono ?_
    rintro e w' ⟨rfl, ⟨n', v', c', g1, g2, g3⟩, g4⟩
    have hm : mayPut (x : Int) (k : Int) := ⟨m0, m1, m2, m3⟩
    refine ⟨by rw [putE, if_pos hm], ?_, g4⟩
    rw [putL, if_pos hm, Int.toNat_natCast, Int.toNat_natCast]
    have := g1.len
    rw [List.length_append, dig_len] at this
    exact ⟨n', v', c', g1, g2, by omega⟩
  · refine (put_refused w d v c hm).mono ?_
    rintro e w' ⟨rfl, rfl⟩
    exact ⟨by rw [putE, if_neg hm], by rw [putL, if_neg hm]; exact h, Kept.refl _ _⟩
theorem newWriterX (w : World) : Calls Tryd.prog 22 #[] w fun e w' => ∃ d, e = .returned (.pointer (some ⟨d, 0, none⟩)) ∧ w.heap.size ≤ d ∧ Wx w' d [] ∧ Below w.heap.size w w' := by
  refine (newWriter_any w).mono ?_
  rintro e w' ⟨rfl, hb, bel⟩
  refine ⟨_, rfl, Nat.le_refl _, ⟨0, 0, 0, ⟨by omega, [], ⟨.pointer none, [], List.replicate 256 0, hb, List.length_replicate, fun z hz => ?_, rfl, rfl, rfl⟩, rfl⟩, by omega, by omega⟩, bel⟩
  rw [List.eq_of_mem_replicate hz]
  omega
end Go.Proofs.YtdnjnbfmmgkpjaaDoor

namespace Go.Proofs.YtdnjnbfmmgkpjaaDoor
open Go.RowKit

/-- how all stands: the pages of r are still to be copied -/
structure AllAt (w wr : World) (g d : Nat) (P : List Int) (r : List (List Int)) (pg : Value) : Prop where
  ch : Chain wr r pg
  pre : r.reverse.flatten = P.take (256 * r.length)
  few : 256 * r.length ≤ P.length
  out_ : Box wr g 5 (cellsOf (List.replicate (256 * r.length) 0 ++ P.drop (256 * r.length))).toArray
  bel : Below g w wr
theorem AllAt.step {w wr w' : World} {g d : Nat} {P x : List Int} {r : List (List Int)} {nx : Value} {gp : Nat} (h : AllAt w wr g d P (x :: r) (.pointer (some ⟨gp, 0, none⟩))) (hx : x.length = 256) (hch : Chain wr r nx) (hg : g = w.heap.size)
    (hb : Box w' g 5 (cellsOf (splice (List.replicate (256 * (x :: r).length) 0 ++ P.drop (256 * (x :: r).length)) (256 * r.length) x)).toArray) (k : Kept (fun i => i = g) wr w') : AllAt w w' g d P r nx := by
  have hf := h.few
  have hp := h.pre
  simp only [List.length_cons] at hf hp hb
  have hrl : r.reverse.flatten.length = 256 * r.length := hch.fit.2
  rw [List.reverse_cons, List.flatten_append] at hp
  have hp1 : r.reverse.flatten = P.take (256 * r.length) := by
    have h1 := congrArg (List.take (256 * r.length)) hp
    rw [List.take_left' hrl, List.take_take, Nat.min_eq_left (by omega)] at h1
    exact h1
  have hp2 : P.drop (256 * r.length) = x ++ P.drop (256 * (r.length + 1)) := by
    have h1 := congrArg (List.drop (256 * r.length)) hp
    rw [List.drop_left' hrl, List.drop_take] at h1
    have h2 : [x].flatten = x := by simp
    rw [h2, show 256 * (r.length + 1) - 256 * r.length = 256 by omega] at h1
    conv => lhs; rw [← List.take_append_drop 256 (P.drop (256 * r.length))]
    rw [← h1, List.drop_drop, show 256 * r.length + 256 = 256 * (r.length + 1) by omega]
  have hs : splice (List.replicate (256 * (r.length + 1)) 0 ++ P.drop (256 * (r.length + 1))) (256 * r.length) x = List.replicate (256 * r.length) 0 ++ P.drop (256 * r.length) := by
    unfold splice
    rw [hp2, hx, List.take_append_of_le_length (by rw [List.length_replicate]; omega), List.take_replicate, Nat.min_eq_left (by omega), show 256 * r.length + 256 = 256 * (r.length + 1) by omega, List.drop_left' (by rw [List.length_replicate])]
    try rw [List.append_assoc]
  rw [hs] at hb
  refine ⟨Chain.kept k (fun i cs e h2 => ?_) r nx hch, hp1, by omega, hb, h.bel.trans (k.below (by rw [hg]; exact Nat.le_trans (Nat.le_refl _) (by have := h.bel.size; omega)) (fun i hi e => by omega))⟩
  have e : i = g := e
  subst e
  have hbb := h.out_
  unfold Box at hbb
  rw [hbb] at h2
  simp at h2

set_option maxRecDepth 10000 in
set_option maxHeartbeats 1600000 in
theorem allX_any (w : World) (d : Nat) (P : List Int) (n v c : Nat) (h : ByX w d P n v c) (hn : n ≤ 20100) :
    Calls Tryd.prog 57 #[.pointer (some ⟨d, 0, none⟩)] w fun e w' => e = .returned (.slice (some ⟨w.heap.size, 0, none⟩) n n) ∧ Box w' w.heap.size 5 (cellsOf P).toArray ∧ Below w.heap.size w w' := by
  have hPl := h.fit.2
  obtain ⟨pg, ps, op, hb, ho, hf, hC, hp, hP⟩ := h
  obtain ⟨m, hm⟩ : ∃ m, m = n % 256 := ⟨_, rfl⟩
  obtain ⟨a, ha⟩ : ∃ a, a = 256 * ps.length := ⟨_, rfl⟩
  have hna : n = a + m := by omega
  have hm1 : m < 256 := by omega
  have c1 : w.cell? ⟨d, 257, none⟩ = some (.int .i64 (n : Int)) := (hb.cell 257).trans (cellsX_n ho)
  have ld := hb.lt
  have hmk := run_make_row' (P := Tryd.prog) 41 5 (.int .u8 0) 1 Tryd.underlying41 byte_info rfl .i64 .i64 n (by omega) (by omega)
  obtain ⟨M, hM⟩ : ∃ M, M = madeCells #[.int .u8 0] n := ⟨_, rfl⟩
  rw [← hM] at hmk
  obtain ⟨g, hg⟩ : ∃ g, g = w.heap.size := ⟨_, rfl⟩
  obtain ⟨w1, hw1⟩ : ∃ w1, w1 = w.alloc (.cells M 5) := ⟨_, rfl⟩
  have hM2 : M = (cellsOf (List.replicate n 0)).toArray := by
    apply Array.toList_inj.1
    rw [hM, toList_madeCells_one]
    simp [cellsOf]
  have hbm : Box w1 g 5 (cellsOf (List.replicate n 0)).toArray := by rw [hw1, hg, ← hM2]; exact Box.made _ _ _
  have bel1 : Below w.heap.size w w1 := by rw [hw1]; exact on_alloc _ _
  have hb1 := hb.on bel1
  have hmw := hmk w
  rw [← hw1, ← hg] at hmw
  have d1 : w1.cell? ⟨d, 257, none⟩ = some (.int .i64 (n : Int)) := (hb1.cell 257).trans (cellsX_n ho)
  have hsrc : ∀ j u, (cellsOf (op.take m))[j]? = some u → w1.cell? ((⟨d, 1, none⟩ : Addr).add j) = some u := fun j u hu => by
    have hj : j < m := by
      have := (List.getElem?_eq_some_iff.1 hu).1
      rw [cellsOf_len, List.length_take] at this
      omega
    rw [plain_add]
    refine (hb1.cell (1 + j)).trans ((cellsX_at ho j (by omega)).trans ?_)
    rw [← hu]
    simp only [cellsOf, List.getElem?_map]
    rw [List.getElem?_take_of_lt hj, List.getElem?_eq_getElem (by omega), List.getD_eq_getElem?_getD, List.getElem?_eq_getElem (by omega)]
    rfl
  have htl : (op.take m).length = m := by rw [List.length_take]; omega
  have HH := Lib.hid (And.intro hb (And.intro ho (And.intro hbm (And.intro bel1 (And.intro hg (And.intro hsrc htl))))))
  have HP := Lib.hid (And.intro hC (And.intro hp (And.intro hP (And.intro hPl (And.intro hna (And.intro ha hm))))))
  have e1 : (n : Int) % 256 = m := by omega
  have e2 : (n : Int) - m = a := by omega
  have e3 : (a : Int) ≤ n := by omega
  have e4 : a ≤ n := by omega
  have e5 : n - a = m := by omega
  clear hb1 hsrc htl hb ho hmk hM hM2 hw1 hbm bel1 ld hC hp hP hPl hna ha hf
  rw [← hg]
  clear hg hm
  go_enter Tryd.func57, Tryd.ntmps57
  go_wp2_with fail
  go_quiet (fail)
  go_wp2_with fail
  generalize hw2 : World.drewN w1 nq = w2
  have HF : Hid (Box w2.drew g 5 (cellsOf (List.replicate n 0)).toArray ∧ (∀ j v, (cellsOf (op.take m))[j]? = some v → (w2.drew).cell? ((⟨d, 1, none⟩ : Addr).add j) = some v) ∧ Below w.heap.size w w2.drew ∧ (op.take m).length = Nat.min 256 (n - a) ∧ a + (op.take m).length ≤ (List.replicate n (0 : Int)).length) := by
    subst hw2
    exact Lib.hid ⟨HH.out.2.2.1, HH.out.2.2.2.2.2.1, on_trans (on_trans HH.out.2.2.2.1 (below_drewN_refl _ _)) (on_drew _), by rw [HH.out.2.2.2.2.2.2, e5]; exact (Nat.min_eq_right (by omega)).symm, by rw [HH.out.2.2.2.2.2.2, List.length_replicate]; omega⟩
  clear hw2 d1 c1 hmw e1 e2
  by_cases heq : n = a
  · refine wp_region_held_drew (S := fun _ => True) (by kernel_rfl) trivial fun _ => ?_
    refine take_to7 (i := 0) (v := .slice (some ⟨g, 0, none⟩) n n) rfl (by kernel_rfl) (by kernel_rfl) (by kernel_rfl) (fun _ _ _ h => h) (Or.inl ⟨by rfl, fun w' hS => by go_simp⟩) trivial (some 21) rfl ?_
    try simp only [Act.put, List.setIfInBounds_toArray, List.set_cons_zero, List.set_cons_succ]
    refine take_to7 (i := 1) (v := .int .i64 (a : Int)) rfl (by kernel_rfl) (by kernel_rfl) (by kernel_rfl) (fun _ _ _ h => h) (Or.inl ⟨by rfl, fun w' hS => by go_simp⟩) trivial (some 22) rfl ?_
    try simp only [Act.put, List.setIfInBounds_toArray, List.set_cons_zero, List.set_cons_succ]
    refine take_to7 (i := 2) (v := .slice (some ⟨g, 0, none⟩) (n - a) (n - a)) rfl (by kernel_rfl) (by kernel_rfl) (by kernel_rfl) (fun _ _ _ h => h) (Or.inl ⟨by rfl, fun w' hS => by go_simp⟩) trivial (some 23) rfl ?_
    try simp only [Act.put, List.setIfInBounds_toArray, List.set_cons_zero, List.set_cons_succ]
    refine take_to7 (i := 3) (v := .pointer (some ⟨d, 0, none⟩)) rfl (by kernel_rfl) (by kernel_rfl) (by kernel_rfl) (fun _ _ _ h => h) (Or.inl ⟨by rfl, fun w' hS => by go_simp⟩) trivial (some 24) rfl ?_
    try simp only [Act.put, List.setIfInBounds_toArray, List.set_cons_zero, List.set_cons_succ]
    refine take_to7 (i := 4) (v := .pointer (some ⟨d, 0, none⟩)) rfl (by kernel_rfl) (by kernel_rfl) (by kernel_rfl) (fun _ _ _ h => h) (Or.inl ⟨by rfl, fun w' hS => by go_simp⟩) trivial (some 25) rfl ?_
    try simp only [Act.put, List.setIfInBounds_toArray, List.set_cons_zero, List.set_cons_succ]
    refine take_to7 (i := 5) (v := .pointer (some ⟨d, 1, none⟩)) rfl (by kernel_rfl) (by kernel_rfl) (by kernel_rfl) (fun _ _ _ h => h) (Or.inl ⟨by rfl, fun w' hS => by go_simp⟩) trivial (some 26) rfl ?_
    try simp only [Act.put, List.setIfInBounds_toArray, List.set_cons_zero, List.set_cons_succ]
    refine take_to7 (i := 6) (v := .slice (some ⟨d, 1, none⟩) 256 256) rfl (by kernel_rfl) (by kernel_rfl) (by kernel_rfl) (fun _ _ _ h => h) (Or.inl ⟨by rfl, fun w' hS => by go_simp⟩) trivial (some 27) rfl ?_
    try simp only [Act.put, List.setIfInBounds_toArray, List.set_cons_zero, List.set_cons_succ]
    refine wpAnyH_ready (rs := [7]) (by kernel_rfl) (by simp) ?_
    refine AllReadyH.cons rfl (fun K hK => ?_) AllReadyH.nil
    refine step_copy_only rfl (.tmp 23) (.tmp 27) rfl g 0 (n - a) (n - a) 256 256 ⟨d, 1, none⟩ rfl rfl (List.replicate n 0) (op.take m) HF.out.1 HF.out.2.2.2.1 HF.out.2.1 (by have := HF.out.2.2.2.2; omega) ?_
    intro w6 hb6 k6
    have H6 := Lib.hid (And.intro hb6 k6)
    clear hb6 k6
    refine hK.out _ _ trivial fun _ => ?_
    clear hK K
    simp only [Act.put]
    refine wpAnyH_done (by kernel_rfl) ?_ _
    have hA : AllAt w w6 g d P ps pg := by
      obtain ⟨hC, hp, hP, hPl, hna, ha, hm⟩ := HP.out
      have hlen := hC.fit.2
      have bw : Below w.heap.size w w6 := HF.out.2.2.1.trans (H6.out.2.below HF.out.2.2.1.size (fun i hi e => by have := HH.out.2.2.2.2.1; omega))
      have hb6 := H6.out.1
      have hPa : P.take (256 * ps.length) = ps.reverse.flatten := by rw [hP, List.take_left' hlen]
      have hPd : P.drop (256 * ps.length) = op.take m := by rw [hP, List.drop_left' hlen, ← hm]
      have hm0 : m = 0 := by omega
      have hsp : splice (List.replicate n 0) 0 (op.take m) = List.replicate (256 * ps.length) 0 ++ P.drop (256 * ps.length) := by
        unfold splice
        rw [hPd, hm0, List.take_zero, List.take_zero, List.append_nil, List.length_nil, Nat.add_zero, List.drop_zero, ← ha, heq]
        rfl
      rw [hsp] at hb6
      exact ⟨Chain.on bw ps pg hC, hPa.symm, by omega, hb6, by rw [HH.out.2.2.2.2.1]; exact bw⟩
    have hd6 : Box w6 d 117 (cellsX pg op n v c) := by
      have := HH.out.1.lt
      exact H6.out.2.box (HH.out.1.on HF.out.2.2.1) (fun e => by have := HH.out.2.2.2.2.1; omega)
    have c0 : w6.cell? ⟨d, 0, none⟩ = some pg := (hd6.cell 0).trans cellsX_0
    have HA := Lib.hid hA
    have hpl : 256 * ps.length = a := by have := HP.out.2.2.2.2.2.1; omega
    have HD := Lib.hid hpl
    clear hA hd6 H6 HF hpl heq
    go_wp2_with fail
    go_loopw [4, 5] (fun x p wr => ∃ r, x = .int .i64 ((256 * r.length : Nat) : Int) ∧ AllAt w wr g d P r p) (fun x _ _ => (intOf x).toNat)
    case atStart => exact ⟨ps, by rw [HD.out], HA.out⟩
    case round =>
      obtain ⟨r, rfl, hR⟩ := hrel
      have hPn := HP.out.2.2.2.1
      cases r with
      | nil =>
        obtain rfl : u5 = .pointer none := hR.ch
        have HR := Lib.hid hR
        clear hR
        go_wp2
        go_ret
        have h1 := HR.out.out_
        rw [List.length_nil, Nat.mul_zero, List.replicate_zero, List.nil_append, List.drop_zero] at h1
        exact ⟨rfl, h1, HR.out.bel⟩
      | cons x r =>
        have hch := hR.ch
        obtain ⟨gp, nx, rfl, hx, hfx, hbx, hch⟩ := hch
        obtain ⟨A1, hA1⟩ : ∃ A1, A1 = 256 * (x :: r).length := ⟨_, rfl⟩
        obtain ⟨A0, hA0⟩ : ∃ A0, A0 = 256 * r.length := ⟨_, rfl⟩
        have h10 : A1 = A0 + 256 := by rw [hA1, hA0, List.length_cons]; omega
        have hfew := hR.few
        rw [← hA1] at hfew ⊢
        have i1 : (A1 : Int) - 256 = (A0 : Int) := by omega
        have i2 : (A0 : Int) ≤ n := by omega
        have i3 : ¬ n = A0 := by omega
        have i4 : A0 ≤ n := by omega
        have i5 : (A1 : Int) ≤ 21000 := by omega
        have hfree : ∀ j v, (cellsOf x)[j]? = some v → (wr.drew).cell? ((⟨gp, 1, none⟩ : Addr).add j) = some v := fun j v hv => by
          rw [plain_add, Nat.add_comm 1 j]
          have := hbx.cell (j + 1)
          rw [List.getElem?_toArray, List.getElem?_cons_succ, hv] at this
          exact this
        have hout := hR.out_
        have HR := Lib.hid (And.intro hR (And.intro hx (And.intro hbx (And.intro hch (And.intro hfree (And.intro hA1 (And.intro hA0 (And.intro h10 hfew))))))))
        have HO := Lib.hid (show Box wr.drew g 5 (cellsOf (List.replicate A1 0 ++ P.drop A1)).toArray by rw [hA1]; exact hout.on (on_drew wr))
        clear hR hx hfx hbx hch hfree hA1 hA0 h10 hfew hout hPn
        go_wp2_with fail
        refine wp_region_held_drew (S := fun _ => True) (by kernel_rfl) trivial fun _ => ?_
        refine take_to7 (i := 0) (v := .slice (some ⟨g, 0, none⟩) n n) rfl (by kernel_rfl) (by kernel_rfl) (by kernel_rfl) (fun _ _ _ h => h) (Or.inl ⟨by rfl, fun w' hS => by go_simp⟩) trivial (some 41) rfl ?_
        try simp only [Act.put, List.setIfInBounds_toArray, List.set_cons_zero, List.set_cons_succ]
        refine take_to7 (i := 1) (v := .int .i64 (A0 : Int)) rfl (by kernel_rfl) (by kernel_rfl) (by kernel_rfl) (fun _ _ _ h => h) (Or.inl ⟨by rfl, fun w' hS => by go_simp⟩) trivial (some 42) rfl ?_
        try simp only [Act.put, List.setIfInBounds_toArray, List.set_cons_zero, List.set_cons_succ]
        refine take_to7 (i := 2) (v := .slice (some ⟨g, A0, none⟩) (n - A0) (n - A0)) rfl (by kernel_rfl) (by kernel_rfl) (by kernel_rfl) (fun _ _ _ h => h) (Or.inl ⟨by rfl, fun w' hS => by go_simp⟩) trivial (some 43) rfl ?_
        try simp only [Act.put, List.setIfInBounds_toArray, List.set_cons_zero, List.set_cons_succ]
        refine take_to7 (i := 3) (v := .pointer (some ⟨gp, 0, none⟩)) rfl (by kernel_rfl) (by kernel_rfl) (by kernel_rfl) (fun _ _ _ h => h) (Or.inl ⟨by rfl, fun w' hS => by go_simp⟩) trivial (some 44) rfl ?_
        try simp only [Act.put, List.setIfInBounds_toArray, List.set_cons_zero, List.set_cons_succ]
        refine take_to7 (i := 4) (v := .pointer (some ⟨gp, 0, none⟩)) rfl (by kernel_rfl) (by kernel_rfl) (by kernel_rfl) (fun _ _ _ h => h) (Or.inl ⟨by rfl, fun w' hS => by go_simp⟩) trivial (some 45) rfl ?_
        try simp only [Act.put, List.setIfInBounds_toArray, List.set_cons_zero, List.set_cons_succ]
        refine take_to7 (i := 5) (v := .pointer (some ⟨gp, 1, none⟩)) rfl (by kernel_rfl) (by kernel_rfl) (by kernel_rfl) (fun _ _ _ h => h) (Or.inl ⟨by rfl, fun w' hS => by go_simp⟩) trivial (some 46) rfl ?_
        try simp only [Act.put, List.setIfInBounds_toArray, List.set_cons_zero, List.set_cons_succ]
        refine take_to7 (i := 6) (v := .slice (some ⟨gp, 1, none⟩) 256 256) rfl (by kernel_rfl) (by kernel_rfl) (by kernel_rfl) (fun _ _ _ h => h) (Or.inl ⟨by rfl, fun w' hS => by go_simp⟩) trivial (some 47) rfl ?_
        try simp only [Act.put, List.setIfInBounds_toArray, List.set_cons_zero, List.set_cons_succ]
        refine wpAnyH_ready (rs := [7]) (by kernel_rfl) (by simp) ?_
        refine AllReadyH.cons rfl (fun K hK => ?_) AllReadyH.nil
        refine step_copy_only rfl (.tmp 43) (.tmp 47) rfl g A0 (n - A0) (n - A0) 256 256 ⟨gp, 1, none⟩ rfl rfl (List.replicate A1 0 ++ P.drop A1) x HO.out (by rw [HR.out.2.1]; exact (Nat.min_eq_left (by have := HR.out.2.2.2.2.2.2.2.2; have := HR.out.2.2.2.2.2.2.2.1; have := HP.out.2.2.2.1; omega)).symm) HR.out.2.2.2.2.1 (by rw [List.length_append, List.length_replicate, List.length_drop, HR.out.2.1]; have := HR.out.2.2.2.2.2.2.2.2; have := HR.out.2.2.2.2.2.2.2.1; omega) ?_
        intro w7 hb7 k7
        have hk7 : Kept (fun i => i = g) wr w7 := (Kept.of_below (on_drew wr) (fun i => i = g)).trans k7 (fun _ _ h => h)
        have hA7 : AllAt w w7 g d P r nx := HR.out.1.step HR.out.2.1 HR.out.2.2.2.1 HH.out.2.2.2.2.1 (by rw [← HR.out.2.2.2.2.2.1, ← HR.out.2.2.2.2.2.2.1]; exact hb7) hk7
        have hgp : gp ≠ g := HR.out.2.2.1.apart HR.out.1.out_ (by decide)
        have c7 : w7.cell? ⟨gp, 0, none⟩ = some nx := (hk7.box HR.out.2.2.1 hgp).cell 0
        have H7 := Lib.hid hA7
        clear hb7 k7 hk7 hA7 hgp
        refine hK.out _ _ trivial fun _ => ?_
        clear hK K
        simp only [Act.put]
        refine wpAnyH_done (by kernel_rfl) ?_ _
        go_wp2_with fail
        go_roundw
        case rel =>
          exact ⟨r, by rw [← HR.out.2.2.2.2.2.2.1], H7.out⟩
        case measure =>
          have := HR.out.2.2.2.2.2.2.2.1
          simp [intOf]
          omega
  · refine wp_region_held_drew (S := fun _ => True) (by kernel_rfl) trivial fun _ => ?_
    refine take_to7 (i := 0) (v := .slice (some ⟨g, 0, none⟩) n n) rfl (by kernel_rfl) (by kernel_rfl) (by kernel_rfl) (fun _ _ _ h => h) (Or.inl ⟨by rfl, fun w' hS => by go_simp⟩) trivial (some 21) rfl ?_
    try simp only [Act.put, List.setIfInBounds_toArray, List.set_cons_zero, List.set_cons_succ]
    refine take_to7 (i := 1) (v := .int .i64 (a : Int)) rfl (by kernel_rfl) (by kernel_rfl) (by kernel_rfl) (fun _ _ _ h => h) (Or.inl ⟨by rfl, fun w' hS => by go_simp⟩) trivial (some 22) rfl ?_
    try simp only [Act.put, List.setIfInBounds_toArray, List.set_cons_zero, List.set_cons_succ]
    refine take_to7 (i := 2) (v := .slice (some ⟨g, a, none⟩) (n - a) (n - a)) rfl (by kernel_rfl) (by kernel_rfl) (by kernel_rfl) (fun _ _ _ h => h) (Or.inl ⟨by rfl, fun w' hS => by go_simp⟩) trivial (some 23) rfl ?_
    try simp only [Act.put, List.setIfInBounds_toArray, List.set_cons_zero, List.set_cons_succ]
    refine take_to7 (i := 3) (v := .pointer (some ⟨d, 0, none⟩)) rfl (by kernel_rfl) (by kernel_rfl) (by kernel_rfl) (fun _ _ _ h => h) (Or.inl ⟨by rfl, fun w' hS => by go_simp⟩) trivial (some 24) rfl ?_
    try simp only [Act.put, List.setIfInBounds_toArray, List.set_cons_zero, List.set_cons_succ]
    refine take_to7 (i := 4) (v := .pointer (some ⟨d, 0, none⟩)) rfl (by kernel_rfl) (by kernel_rfl) (by kernel_rfl) (fun _ _ _ h => h) (Or.inl ⟨by rfl, fun w' hS => by go_simp⟩) trivial (some 25) rfl ?_
    try simp only [Act.put, List.setIfInBounds_toArray, List.set_cons_zero, List.set_cons_succ]
    refine take_to7 (i := 5) (v := .pointer (some ⟨d, 1, none⟩)) rfl (by kernel_rfl) (by kernel_rfl) (by kernel_rfl) (fun _ _ _ h => h) (Or.inl ⟨by rfl, fun w' hS => by go_simp⟩) trivial (some 26) rfl ?_
    try simp only [Act.put, List.setIfInBounds_toArray, List.set_cons_zero, List.set_cons_succ]
    refine take_to7 (i := 6) (v := .slice (some ⟨d, 1, none⟩) 256 256) rfl (by kernel_rfl) (by kernel_rfl) (by kernel_rfl) (fun _ _ _ h => h) (Or.inl ⟨by rfl, fun w' hS => by go_simp⟩) trivial (some 27) rfl ?_
    try simp only [Act.put, List.setIfInBounds_toArray, List.set_cons_zero, List.set_cons_succ]
    refine wpAnyH_ready (rs := [7]) (by kernel_rfl) (by simp) ?_
    refine AllReadyH.cons rfl (fun K hK => ?_) AllReadyH.nil
    refine step_copy_only rfl (.tmp 23) (.tmp 27) rfl g a (n - a) (n - a) 256 256 ⟨d, 1, none⟩ rfl rfl (List.replicate n 0) (op.take m) HF.out.1 HF.out.2.2.2.1 HF.out.2.1 HF.out.2.2.2.2 ?_
    intro w6 hb6 k6
    have H6 := Lib.hid (And.intro hb6 k6)
    clear hb6 k6
    refine hK.out _ _ trivial fun _ => ?_
    clear hK K
    simp only [Act.put]
    refine wpAnyH_done (by kernel_rfl) ?_ _
    have hA : AllAt w w6 g d P ps pg := by
      obtain ⟨hC, hp, hP, hPl, hna, ha, hm⟩ := HP.out
      have hlen := hC.fit.2
      have bw : Below w.heap.size w w6 := HF.out.2.2.1.trans (H6.out.2.below HF.out.2.2.1.size (fun i hi e => by have := HH.out.2.2.2.2.1; omega))
      have hb6 := H6.out.1
      have hPa : P.take (256 * ps.length) = ps.reverse.flatten := by rw [hP, List.take_left' hlen]
      have hPd : P.drop (256 * ps.length) = op.take m := by rw [hP, List.drop_left' hlen, ← hm]
      have hsp : splice (List.replicate n 0) a (op.take m) = List.replicate (256 * ps.length) 0 ++ P.drop (256 * ps.length) := by
        unfold splice
        rw [hPd, List.take_replicate, Nat.min_eq_left (by omega), ← ha, List.drop_of_length_le (by rw [List.length_replicate, HH.out.2.2.2.2.2.2]; omega), List.append_nil]
      rw [hsp] at hb6
      exact ⟨Chain.on bw ps pg hC, hPa.symm, by omega, hb6, by rw [HH.out.2.2.2.2.1]; exact bw⟩
    have hd6 : Box w6 d 117 (cellsX pg op n v c) := by
      have := HH.out.1.lt
      exact H6.out.2.box (HH.out.1.on HF.out.2.2.1) (fun e => by have := HH.out.2.2.2.2.1; omega)
    have c0 : w6.cell? ⟨d, 0, none⟩ = some pg := (hd6.cell 0).trans cellsX_0
    have HA := Lib.hid hA
    have hpl : 256 * ps.length = a := by have := HP.out.2.2.2.2.2.1; omega
    have HD := Lib.hid hpl
    clear hA hd6 H6 HF hpl heq
    go_wp2_with fail
    go_loopw [4, 5] (fun x p wr => ∃ r, x = .int .i64 ((256 * r.length : Nat) : Int) ∧ AllAt w wr g d P r p) (fun x _ _ => (intOf x).toNat)
    case atStart => exact ⟨ps, by rw [HD.out], HA.out⟩
    case round =>
      obtain ⟨r, rfl, hR⟩ := hrel
      have hPn := HP.out.2.2.2.1
      cases r with
      | nil =>
        obtain rfl : u5 = .pointer none := hR.ch
        have HR := Lib.hid hR
        clear hR
        go_wp2
        go_ret
        have h1 := HR.out.out_
        rw [List.length_nil, Nat.mul_zero, List.replicate_zero, List.nil_append, List.drop_zero] at h1
        exact ⟨rfl, h1, HR.out.bel⟩
      | cons x r =>
        have hch := hR.ch
        obtain ⟨gp, nx, rfl, hx, hfx, hbx, hch⟩ := hch
        obtain ⟨A1, hA1⟩ : ∃ A1, A1 = 256 * (x :: r).length := ⟨_, rfl⟩
        obtain ⟨A0, hA0⟩ : ∃ A0, A0 = 256 * r.length := ⟨_, rfl⟩
        have h10 : A1 = A0 + 256 := by rw [hA1, hA0, List.length_cons]; omega
        have hfew := hR.few
        rw [← hA1] at hfew ⊢
        have i1 : (A1 : Int) - 256 = (A0 : Int) := by omega
        have i2 : (A0 : Int) ≤ n := by omega
        have i3 : ¬ n = A0 := by omega
        have i4 : A0 ≤ n := by omega
        have i5 : (A1 : Int) ≤ 21000 := by omega
        have hfree : ∀ j v, (cellsOf x)[j]? = some v → (wr.drew).cell? ((⟨gp, 1, none⟩ : Addr).add j) = some v := fun j v hv => by
          rw [plain_add, Nat.add_comm 1 j]
          have := hbx.cell (j + 1)
          rw [List.getElem?_toArray, List.getElem?_cons_succ, hv] at this
          exact this
        have hout := hR.out_
        have HR := Lib.hid (And.intro hR (And.intro hx (And.intro hbx (And.intro hch (And.intro hfree (And.intro hA1 (And.intro hA0 (And.intro h10 hfew))))))))
        have HO := Lib.hid (show Box wr.drew g 5 (cellsOf (List.replicate A1 0 ++ P.drop A1)).toArray by rw [hA1]; exact hout.on (on_drew wr))
        clear hR hx hfx hbx hch hfree hA1 hA0 h10 hfew hout hPn
        go_wp2_with fail
        refine wp_region_held_drew (S := fun _ => True) (by kernel_rfl) trivial fun _ => ?_
        refine take_to7 (i := 0) (v := .slice (some ⟨g, 0, none⟩) n n) rfl (by kernel_rfl) (by kernel_rfl) (by kernel_rfl) (fun _ _ _ h => h) (Or.inl ⟨by rfl, fun w' hS => by go_simp⟩) trivial (some 41) rfl ?_
        try simp only [Act.put, List.setIfInBounds_toArray, List.set_cons_zero, List.set_cons_succ]
        refine take_to7 (i := 1) (v := .int .i64 (A0 : Int)) rfl (by kernel_rfl) (by kernel_rfl) (by kernel_rfl) (fun _ _ _ h => h) (Or.inl ⟨by rfl, fun w' hS => by go_simp⟩) trivial (some 42) rfl ?_
        try simp only [Act.put, List.setIfInBounds_toArray, List.set_cons_zero, List.set_cons_succ]
        refine take_to7 (i := 2) (v := .slice (some ⟨g, A0, none⟩) (n - A0) (n - A0)) rfl (by kernel_rfl) (by kernel_rfl) (by kernel_rfl) (fun _ _ _ h => h) (Or.inl ⟨by rfl, fun w' hS => by go_simp⟩) trivial (some 43) rfl ?_
        try simp only [Act.put, List.setIfInBounds_toArray, List.set_cons_zero, List.set_cons_succ]
        refine take_to7 (i := 3) (v := .pointer (some ⟨gp, 0, none⟩)) rfl (by kernel_rfl) (by kernel_rfl) (by kernel_rfl) (fun _ _ _ h => h) (Or.inl ⟨by rfl, fun w' hS => by go_simp⟩) trivial (some 44) rfl ?_
        try simp only [Act.put, List.setIfInBounds_toArray, List.set_cons_zero, List.set_cons_succ]
        refine take_to7 (i := 4) (v := .pointer (some ⟨gp, 0, none⟩)) rfl (by kernel_rfl) (by kernel_rfl) (by kernel_rfl) (fun _ _ _ h => h) (Or.inl ⟨by rfl, fun w' hS => by go_simp⟩) trivial (some 45) rfl ?_
        try simp only [Act.put, List.setIfInBounds_toArray, List.set_cons_zero, List.set_cons_succ]
        refine take_to7 (i := 5) (v := .pointer (some ⟨gp, 1, none⟩)) rfl (by kernel_rfl) (by kernel_rfl) (by kernel_rfl) (fun _ _ _ h => h) (Or.inl ⟨by rfl, fun w' hS => by go_simp⟩) trivial (some 46) rfl ?_
        try simp only [Act.put, List.setIfInBounds_toArray, List.set_cons_zero, List.set_cons_succ]
        refine take_to7 (i := 6) (v := .slice (some ⟨gp, 1, none⟩) 256 256) rfl (by kernel_rfl) (by kernel_rfl) (by kernel_rfl) (fun _ _ _ h => h) (Or.inl ⟨by rfl, fun w' hS => by go_simp⟩) trivial (some 47) rfl ?_
        try simp only [Act.put, List.setIfInBounds_toArray, List.set_cons_zero, List.set_cons_succ]
        refine wpAnyH_ready (rs := [7]) (by kernel_rfl) (by simp) ?_
        refine AllReadyH.cons rfl (fun K hK => ?_) AllReadyH.nil
        refine step_copy_only rfl (.tmp 43) (.tmp 47) rfl g A0 (n - A0) (n - A0) 256 256 ⟨gp, 1, none⟩ rfl rfl (List.replicate A1 0 ++ P.drop A1) x HO.out (by rw [HR.out.2.1]; exact (Nat.min_eq_left (by have := HR.out.2.2.2.2.2.2.2.2; have := HR.out.2.2.2.2.2.2.2.1; have := HP.out.2.2.2.1; omega)).symm) HR.out.2.2.2.2.1 (by rw [List.length_append, List.length_replicate, List.length_drop, HR.out.2.1]; have := HR.out.2.2.2.2.2.2.2.2; have := HR.out.2.2.2.2.2.2.2.1; omega) ?_
        intro w7 hb7 k7
        have hk7 : Kept (fun i => i = g) wr w7 := (Kept.of_below (on_drew wr) (fun i => i = g)).trans k7 (fun _ _ h => h)
        have hA7 : AllAt w w7 g d P r nx := HR.out.1.step HR.out.2.1 HR.out.2.2.2.1 HH.out.2.2.2.2.1 (by rw [← HR.out.2.2.2.2.2.1, ← HR.out.2.2.2.2.2.2.1]; exact hb7) hk7
        have hgp : gp ≠ g := HR.out.2.2.1.apart HR.out.1.out_ (by decide)
        have c7 : w7.cell? ⟨gp, 0, none⟩ = some nx := (hk7.box HR.out.2.2.1 hgp).cell 0
        have H7 := Lib.hid hA7
        clear hb7 k7 hk7 hA7 hgp
        refine hK.out _ _ trivial fun _ => ?_
        clear hK K
        simp only [Act.put]
        refine wpAnyH_done (by kernel_rfl) ?_ _
        go_wp2_with fail
        go_roundw
        case rel =>
          exact ⟨r, by rw [← HR.out.2.2.2.2.2.2.1], H7.out⟩
        case measure =>
          have := HR.out.2.2.2.2.2.2.2.1
          simp [intOf]
          omega
end Go.Proofs.YtdnjnbfmmgkpjaaDoor

namespace Go.Proofs.YtdnjnbfmmgkpjaaDoor
open Go.RowKit

theorem ByX.cellc {w : World} {d : Nat} {P : List Int} {n v c : Nat} (h : ByX w d P n v c) : w.cell? ⟨d, 259, none⟩ = some (.int .i64 (c : Int)) := by
  obtain ⟨pg, ps, op, hb, ho, _⟩ := h
  exact (hb.cell 259).trans (cellsX_c ho)
set_option maxHeartbeats 400000 in
theorem filledX_any (w : World) (d : Nat) (P : List Int) (n v c : Nat) (hB : ByX w d P n v c) (hc : c ≤ 8) (hv : v < 2 ^ c) :
    Calls Tryd.prog 58 #[.pointer (some ⟨d, 258, none⟩)] w fun e w' => e = .returned (.int .u8 (fill v c : Nat)) ∧ w = w' := by
  obtain ⟨pg, ps, op, hb, ho, hC⟩ := hB
  have c1 : w.cell? ⟨d, 258, none⟩ = some (.int .i64 (v : Int)) := (hb.cell 258).trans (cellsX_v ho)
  have c2 : w.cell? ⟨d, 259, none⟩ = some (.int .i64 (c : Int)) := (hb.cell 259).trans (cellsX_c ho)
  have hf := fill_lt hc hv
  obtain ⟨k, hk⟩ : ∃ k, k = 8 - c := ⟨_, rfl⟩
  have e1 : (8 : Int) - c = k := by omega
  have hp : v + 1 ≤ 256 := Nat.le_trans hv (Nat.pow_le_pow_right (by omega) hc)
  obtain ⟨f, hf0⟩ : ∃ f, f = fill v c := ⟨_, rfl⟩
  have e2 : ((v : Int) + 1) * 2 ^ k = ((f + 1 : Nat) : Int) := by
    have h3 : 0 < (v + 1) * 2 ^ (8 - c) := Nat.mul_pos (by omega) (pow_pos' _)
    have : f + 1 = (v + 1) * 2 ^ k := by rw [hf0, hk]; unfold fill; omega
    rw [this]; simp
  rw [← hf0] at hf ⊢
  have hk8 : k ≤ 8 := by omega
  have hv1 : v ≤ 255 := by omega
  clear hb hC ho hf0 hk hv hp
  go_enter Tryd.func58, Tryd.ntmps58
  go_wp2
  go_ret
  exact ⟨rfl, rfl⟩

set_option maxHeartbeats 800000 in
theorem bytesX_any (w : World) (d : Nat) (L : List Int) (h : Wx w d L) (hl : L.length ≤ 159900) : Calls Tryd.prog 28 #[.pointer (some ⟨d, 0, none⟩)] w (Tells w L) := by
  obtain ⟨n, v, c, hW, hc, hn⟩ := h
  have hlen := hW.len
  obtain ⟨hv, P, hB, hL⟩ := hW
  have htl : P.length = n := hB.fit.2
  have hn2 : n ≤ 19990 := by omega
  have HH := Lib.hid (And.intro hB (And.intro hB.fit.1 (And.intro hv (And.intro hL htl))))
  clear hv hL htl hB hlen hl
  by_cases h0 : c = 0
  · subst h0
    go_enter Tryd.func28, Tryd.ntmps28
    go_wp2_with fail
    refine (allX_any w d P n v 0 HH.out.1 (by omega)).mono ?_
    rintro e w1 ⟨rfl, hb1, b1⟩
    have hsl := sl_of_box (K := fun _ => True) hb1 HH.out.2.1 HH.out.2.2.2.2 (by unfold maxLen; omega) trivial
    have H1 := Lib.hid (And.intro hsl b1)
    have c1 : w1.cell? ⟨d, 259, none⟩ = some (.int .i64 (0 : Nat)) := (HH.out.1.on b1).cellc
    clear hb1 b1 hsl
    go_wp2_with fail
    refine (stuffed_any w1 _ _ n n (P) H1.out.1 (by omega)).mono ?_
    rintro e w2 ⟨A, c2, rfl, hs2, b2⟩
    have H2 := Lib.hid (And.intro hs2 b2)
    clear hs2 b2
    go_wp2
    go_ret
    exact ⟨A, _, c2, _, rfl, ⟨P, v, 0, HH.out.2.1, by omega, HH.out.2.2.1, HH.out.2.2.2.1, by simp [filledUp]⟩, H2.out.1, on_trans H1.out.2 H2.out.2⟩
  · go_enter Tryd.func28, Tryd.ntmps28
    go_wp2_with fail
    refine (allX_any w d P n v c HH.out.1 (by omega)).mono ?_
    rintro e w1 ⟨rfl, hb1, b1⟩
    have hown := own_of_box hb1 HH.out.2.2.2.2 (Nat.le_refl _) (by unfold maxLen; omega)
    have H1 := Lib.hid (And.intro hown b1)
    have c1 : w1.cell? ⟨d, 259, none⟩ = some (.int .i64 (c : Int)) := (HH.out.1.on b1).cellc
    have hc0 : (0 : Int) < c := by omega
    clear hb1 b1 hown
    go_wp2_with fail
    refine (filledX_any w1 d P n v c (HH.out.1.on H1.out.2) (by omega) HH.out.2.2.1).mono ?_
    rintro e w1' ⟨rfl, rfl⟩
    have hfl := fill_lt (show c ≤ 8 by omega) HH.out.2.2.1
    obtain ⟨z, hz⟩ : ∃ z, z = fill v c := ⟨_, rfl⟩
    rw [← hz] at hfl ⊢
    have HZ := Lib.hid hz
    clear hz
    go_wp2_with (first
      | (at_builtin; refine wpList_append_sl rfl (.tmp 16) (.tmp 21) rfl w.heap.size (.slice (some ⟨w.heap.size, 0, none⟩) n n) n (P) rfl (H1.out.1.alloc _) _ (some ⟨w1.heap.size, 0, none⟩) 1 1 [(z : Int)] rfl (sl_byte w1 z (by omega) (by omega)) (by omega) (by have := H1.out.2.size; simp; omega) ?_; intro v3 w3 hown3 b3; have hb3 := (H1.out.2.trans ((on_alloc w1 _).mono H1.out.2.size)).trans b3; obtain ⟨A3, c3, rfl, hs3⟩ := sl_of_own hown3 (HH.out.2.1.app (fun y hy => by simp at hy; omega)); have H3 := Lib.hid (And.intro hs3 hb3); clear hown3 b3 hb3 hs3)
      | fail)
    refine (stuffed_any w3 _ _ _ _ _ H3.out.1 (by omega)).mono ?_
    rintro e w4 ⟨A4, c4, rfl, hs4, b4⟩
    have H4 := Lib.hid (And.intro hs4 b4)
    clear hs4 b4
    go_wp2
    go_ret
    refine ⟨A4, _, c4, _, rfl, ⟨P, v, c, HH.out.2.1, hc, HH.out.2.2.1, HH.out.2.2.2.1, ?_⟩, H4.out.1, on_trans H3.out.2 H4.out.2⟩
    rw [filledUp, if_neg h0, HZ.out]
end Go.Proofs.YtdnjnbfmmgkpjaaDoor

namespace Go.Proofs.YtdnjnbfmmgkpjaaDoor
open Go.RowKit

/-- the number that so many bits are -/
def ext (v k : Nat) : Int := if 2 * v < 2 ^ k then (v : Int) - ((2 ^ k : Nat) - 1 : Int) else (v : Int)
/-- a number of so many bits: where the reader stands then, the number, the error -/
def numF (l : List Int) (s : St) (k : Nat) : St × Int × Int :=
  if (getF l s k).2.2 = 0 then ((getF l s k).1, ext (getF l s k).2.1 k, 0) else ((getF l s k).1, 0, (getF l s k).2.2)
/-- the difference with which a block begins -/
def firstF (L : List En) (l : List Int) (s : St) : St × Int × Int :=
  if (getsF L l 16 s 0 0).2.2 = 0 then
    (if 11 < (getsF L l 16 s 0 0).2.1 then ((getsF L l 16 s 0 0).1, 0, 4) else numF l (getsF L l 16 s 0 0).1 (getsF L l 16 s 0 0).2.1.toNat)
  else ((getsF L l 16 s 0 0).1, 0, (getsF L l 16 s 0 0).2.2)
/-- a symbol may not be, at place i -/
def badSym (v i : Nat) : Prop := 10 < v % 16 ∨ (v % 16 = 0 ∧ v ≠ 240) ∨ 64 ≤ i + v / 16
instance (v i : Nat) : Decidable (badSym v i) := by unfold badSym; infer_instance
/-- the numbers from place i on -/
def othersG (L : List En) (l : List Int) : Nat → Nat → St → List Int → St × List Int × Int
  | 0, _, s, b => (s, b, 0)
  | f + 1, i, s, b =>
    if 64 ≤ i then (s, b, 0) else
    if (getsF L l 16 s 0 0).2.2 ≠ 0 then ((getsF L l 16 s 0 0).1, b, (getsF L l 16 s 0 0).2.2) else
    if (getsF L l 16 s 0 0).2.1 = 0 then ((getsF L l 16 s 0 0).1, b, 0) else
    if badSym (getsF L l 16 s 0 0).2.1.toNat i then ((getsF L l 16 s 0 0).1, b, 4) else
    if (numF l (getsF L l 16 s 0 0).1 ((getsF L l 16 s 0 0).2.1.toNat % 16)).2.2 ≠ 0 then ((numF l (getsF L l 16 s 0 0).1 ((getsF L l 16 s 0 0).2.1.toNat % 16)).1, b, (numF l (getsF L l 16 s 0 0).1 ((getsF L l 16 s 0 0).2.1.toNat % 16)).2.2) else
    othersG L l f (i + (getsF L l 16 s 0 0).2.1.toNat / 16 + 1) (numF l (getsF L l 16 s 0 0).1 ((getsF L l 16 s 0 0).2.1.toNat % 16)).1
      (b.set (zn (i + (getsF L l 16 s 0 0).2.1.toNat / 16)) (numF l (getsF L l 16 s 0 0).1 ((getsF L l 16 s 0 0).2.1.toNat % 16)).2.1)
def zeros64 : List Int := List.replicate 64 0
/-- a block -/
def blockF (Ld La : List En) (l : List Int) (s : St) (prev : Int) : St × List Int × Int :=
  if In prev then
    (if (firstF Ld l s).2.2 = 0 then
      (if (othersG La l 63 1 (firstF Ld l s).1 ((prev + (firstF Ld l s).2.1) :: List.replicate 63 0)).2.2 = 0 then
        (if RightB (othersG La l 63 1 (firstF Ld l s).1 ((prev + (firstF Ld l s).2.1) :: List.replicate 63 0)).2.1 then
          ((othersG La l 63 1 (firstF Ld l s).1 ((prev + (firstF Ld l s).2.1) :: List.replicate 63 0)).1, (othersG La l 63 1 (firstF Ld l s).1 ((prev + (firstF Ld l s).2.1) :: List.replicate 63 0)).2.1, 0)
        else ((othersG La l 63 1 (firstF Ld l s).1 ((prev + (firstF Ld l s).2.1) :: List.replicate 63 0)).1, zeros64, 4))
      else ((othersG La l 63 1 (firstF Ld l s).1 ((prev + (firstF Ld l s).2.1) :: List.replicate 63 0)).1, zeros64, (othersG La l 63 1 (firstF Ld l s).1 ((prev + (firstF Ld l s).2.1) :: List.replicate 63 0)).2.2))
    else ((firstF Ld l s).1, zeros64, (firstF Ld l s).2.2))
  else (s, zeros64, 2)

section
variable {L : List En} {l : List Int} {f i : Nat} {s : St} {b : List Int} {R N : St × Int × Int}
theorem othersG_end (h : 64 ≤ i) : othersG L l f i s b = (s, b, 0) := by
  cases f with
  | zero => rfl
  | succ f => rw [othersG, if_pos h]
theorem othersG_err (hR : R = getsF L l 16 s 0 0) (h : i < 64) (he : R.2.2 ≠ 0) : othersG L l (f + 1) i s b = (R.1, b, R.2.2) := by
  rw [othersG, if_neg (by omega), ← hR, if_pos he]
theorem othersG_stop (hR : R = getsF L l 16 s 0 0) (h : i < 64) (he : R.2.2 = 0) (h0 : R.2.1 = 0) : othersG L l (f + 1) i s b = (R.1, b, 0) := by
  rw [othersG, if_neg (by omega), ← hR, if_neg (by omega), if_pos h0]
theorem othersG_form (hR : R = getsF L l 16 s 0 0) (h : i < 64) (he : R.2.2 = 0) (h0 : R.2.1 ≠ 0) (hb : badSym R.2.1.toNat i) : othersG L l (f + 1) i s b = (R.1, b, 4) := by
  rw [othersG, if_neg (by omega), ← hR, if_neg (by omega), if_neg h0, if_pos hb]
theorem othersG_num (hR : R = getsF L l 16 s 0 0) (hN : N = numF l R.1 (R.2.1.toNat % 16)) (h : i < 64) (he : R.2.2 = 0) (h0 : R.2.1 ≠ 0) (hb : ¬ badSym R.2.1.toNat i) (hn : N.2.2 ≠ 0) : othersG L l (f + 1) i s b = (N.1, b, N.2.2) := by
  rw [othersG, if_neg (by omega), ← hR, if_neg (by omega), if_neg h0, if_neg hb, ← hN, if_pos hn]
theorem othersG_next (hR : R = getsF L l 16 s 0 0) (hN : N = numF l R.1 (R.2.1.toNat % 16)) (h : i < 64) (he : R.2.2 = 0) (h0 : R.2.1 ≠ 0) (hb : ¬ badSym R.2.1.toNat i) (hn : N.2.2 = 0) :
    othersG L l (f + 1) i s b = othersG L l f (i + R.2.1.toNat / 16 + 1) N.1 (b.set (zn (i + R.2.1.toNat / 16)) N.2.1) := by
  rw [othersG, if_neg (by omega), ← hR, if_neg (by omega), if_neg h0, if_neg hb, ← hN, if_neg (by omega)]
end

/-- so many bits are a number of so many bits -/
theorem goF_lt {l : List Int} (hf : Fit l) : ∀ (k : Nat) (s0 s : St) (m p : Nat), s.ok l.length → m < p → (goF l s0 k s m).2.1 < p * 2 ^ k
  | 0, _, _, m, p, _, h => by simpa [goF] using h
  | k + 1, s0, s, m, p, h, hm => by
    unfold goF
    split
    · have hb := bitF_bit hf h
      have := goF_lt hf k s0 (bitF l s).1 (2 * m + (bitF l s).2.1) (2 * p) (bitF_ok hf h) (by omega)
      rw [Nat.pow_succ]
      rw [Nat.mul_comm (2 ^ k) 2, ← Nat.mul_assoc, Nat.mul_comm p 2]
      exact this
    · have := pow_pos' (k + 1)
      show 0 < p * 2 ^ (k + 1)
      exact Nat.mul_pos (by omega) this
theorem getF_lt {l : List Int} (hf : Fit l) {s : St} (h : s.ok l.length) (k : Nat) : (getF l s k).2.1 < 2 ^ k := by
  unfold getF
  split
  · exact pow_pos' k
  · have := goF_lt hf k s s 0 1 h (by omega)
    rw [Int.toNat_natCast]
    omega
theorem ext_small {v k : Nat} (h : v < 2 ^ k) (hk : k ≤ 11) : -2047 ≤ ext v k ∧ ext v k ≤ 2047 := by
  have hp : 2 ^ k ≤ 2048 := Nat.le_trans (Nat.pow_le_pow_right (by omega) hk) (by decide)
  unfold ext
  split <;> omega
theorem numF_small {l : List Int} (hf : Fit l) {s : St} (h : s.ok l.length) {k : Nat} (hk : k ≤ 11) : -2047 ≤ (numF l s k).2.1 ∧ (numF l s k).2.1 ≤ 2047 := by
  unfold numF
  split
  · exact ext_small (getF_lt hf h k) hk
  · dsimp only; omega
theorem numF_ok {l : List Int} (hf : Fit l) {s : St} (h : s.ok l.length) (k : Nat) : (numF l s k).1.ok l.length := by
  unfold numF
  split <;> exact getF_ok hf h _
/-- a value that is got is one of the codes' -/
theorem getsF_val {L : List En} {l : List Int} (hL : ∀ e ∈ L, 0 ≤ e.1 ∧ e.1 ≤ 255) : ∀ (k : Nat) (s : St) (m z : Nat), 0 ≤ (getsF L l k s m z).2.1 ∧ (getsF L l k s m z).2.1 ≤ 255
  | 0, s, m, z => by unfold getsF; dsimp only; omega
  | k + 1, s, m, z => by
    unfold getsF
    split
    · split
      · next e he => exact hL e (get_some he).1
      · exact getsF_val hL k _ _ _
    · dsimp only; omega
theorem getsF_ok {L : List En} {l : List Int} (hf : Fit l) : ∀ (k : Nat) (s : St) (m z : Nat), s.ok l.length → (getsF L l k s m z).1.ok l.length
  | 0, s, m, z, h => h
  | k + 1, s, m, z, h => by
    unfold getsF
    split
    · split
      · exact bitF_ok hf h
      · exact getsF_ok hf k _ _ _ (bitF_ok hf h)
    · exact h
end Go.Proofs.YtdnjnbfmmgkpjaaDoor

namespace Go.Proofs.YtdnjnbfmmgkpjaaDoor
open Go.RowKit

/-- what getNumber tells -/
def GotN (w : World) (r g : Nat) (l : List Int) (R : St × Int × Int) (e : Ending) (w' : World) : Prop :=
  e = .returned (.tuple #[.int .i64 R.2.1, .int .i64 R.2.2]) ∧ Rd w' r g l R.1 ∧ Kept (fun i => i = r) w w'

set_option maxHeartbeats 800000 in
theorem getNumber_any (w : World) (r g : Nat) (l : List Int) (s : St) (k : Nat) (h : Rd w r g l s) (hk : k ≤ 15) : Calls Tryd.prog 91 #[.pointer (some ⟨r, 0, none⟩), .int .i64 (k : Int)] w (GotN w r g l (numF l s k)) := by
  have hlt := getF_lt h.fit h.ok k
  have HG := Lib.hid (get_any w r g l s (k : Int) h)
  unfold numF
  obtain ⟨R, hR⟩ : ∃ R, R = getF l s (k : Int) := ⟨_, rfl⟩
  rw [← hR] at HG hlt ⊢
  obtain ⟨s1, v, E⟩ := R
  dsimp only at hlt ⊢
  obtain ⟨p, hp⟩ : ∃ p : Nat, p = 2 ^ k := ⟨_, rfl⟩
  have hp1 : p ≤ 32768 := by rw [hp]; exact Nat.le_trans (Nat.pow_le_pow_right (by omega) hk) (by decide)
  have hp2 : (2 : Int) ^ k = (p : Int) := by rw [hp]; simp
  unfold ext
  rw [← hp] at hlt ⊢
  clear hR hp h
  by_cases h0 : E = 0
  · subst h0
    by_cases h2 : 2 * v < p
    · rw [if_pos rfl, if_pos h2]
      have h2i : 2 * (v : Int) < (p : Int) := by omega
      go_enter Tryd.func91, Tryd.ntmps91
      go_wp2_with fail
      refine HG.out.mono ?_
      rintro e w1 ⟨rfl, hr1, k1⟩
      dsimp only at hr1 ⊢
      have H1 := Lib.hid (And.intro hr1 k1)
      clear hr1 k1
      go_wp2
      go_ret2
      exact ⟨rfl, H1.out.1, H1.out.2⟩
    · rw [if_pos rfl, if_neg h2]
      have h2i : ¬ 2 * (v : Int) < (p : Int) := by omega
      go_enter Tryd.func91, Tryd.ntmps91
      go_wp2_with fail
      refine HG.out.mono ?_
      rintro e w1 ⟨rfl, hr1, k1⟩
      dsimp only at hr1 ⊢
      have H1 := Lib.hid (And.intro hr1 k1)
      clear hr1 k1
      go_wp2
      go_ret2
      exact ⟨rfl, H1.out.1, H1.out.2⟩
  · rw [if_neg h0]
    have e0 : (E == 0) = false := by simpa using h0
    have e1 : (E != 0) = true := by simpa using h0
    go_enter Tryd.func91, Tryd.ntmps91
    go_wp2_with fail
    refine HG.out.mono ?_
    rintro e w1 ⟨rfl, hr1, k1⟩
    dsimp only at hr1 ⊢
    have H1 := Lib.hid (And.intro hr1 k1)
    clear hr1 k1
    go_wp2
    go_ret2
    exact ⟨rfl, H1.out.1, H1.out.2⟩

/-- why the first size can't be got -/
theorem firstF_err {L : List En} {l : List Int} {s : St} {R : St × Int × Int} (hR : R = getsF L l 16 s 0 0) (h : R.2.2 ≠ 0) : firstF L l s = (R.1, 0, R.2.2) := by
  unfold firstF
  rw [← hR, if_neg h]
theorem firstF_form {L : List En} {l : List Int} {s : St} {R : St × Int × Int} (hR : R = getsF L l 16 s 0 0) (h : R.2.2 = 0) (h11 : 11 < R.2.1) : firstF L l s = (R.1, 0, 4) := by
  unfold firstF
  rw [← hR, if_pos h, if_pos h11]
theorem firstF_num {L : List En} {l : List Int} {s : St} {R : St × Int × Int} (hR : R = getsF L l 16 s 0 0) (h : R.2.2 = 0) (h11 : ¬ 11 < R.2.1) : firstF L l s = numF l R.1 R.2.1.toNat := by
  unfold firstF
  rw [← hR, if_pos h, if_neg h11]

set_option maxHeartbeats 800000 in
theorem getFirst_any (w : World) (lo hi t r g : Nat) (B V : List Int) (l : List Int) (s : St) (h : Tb w lo hi t B V (codes B V)) (hv : Valid B V) (hr : Rd w r g l s) (hout : r < lo ∨ hi ≤ r) (hhi : hi ≤ w.heap.size) :
    Calls Tryd.prog 70 #[.pointer (some ⟨r, 0, none⟩), .pointer (some ⟨t, 0, none⟩)] w (GotN w r g l (firstF (codes B V) l s)) := by
  have hval := getsF_val (l := l) (valid_vals hv) 16 s 0 0
  have HG := Lib.hid (getT_any w lo hi t r g B V (codes B V) l s h hr hout hhi)
  obtain ⟨R, hR⟩ : ∃ R, R = getsF (codes B V) l 16 s 0 0 := ⟨_, rfl⟩
  have HR := Lib.hid hR
  rw [← hR] at HG hval
  clear hR h hv hr hout hhi
  by_cases h0 : R.2.2 = 0
  · by_cases h11 : 11 < R.2.1
    · rw [firstF_form HR.out h0 h11]
      obtain ⟨s1, v, E⟩ := R
      dsimp only at h0 h11 hval ⊢
      subst h0
      clear HR
      go_enter Tryd.func70, Tryd.ntmps70
      go_wp2_with fail
      refine HG.out.mono ?_
      rintro e w1 ⟨rfl, hr1, k1⟩
      dsimp only at hr1 ⊢
      have H1 := Lib.hid (And.intro hr1 k1)
      clear hr1 k1
      go_wp2
      go_ret2
      exact ⟨rfl, H1.out.1, H1.out.2⟩
    · rw [firstF_num HR.out h0 h11]
      obtain ⟨s1, v, E⟩ := R
      dsimp only at h0 h11 hval ⊢
      subst h0
      clear HR
      obtain ⟨k, rfl⟩ := Int.eq_ofNat_of_zero_le hval.1
      rw [Int.toNat_natCast]
      obtain ⟨hv0, hv1⟩ := hval
      go_enter Tryd.func70, Tryd.ntmps70
      go_wp2_with fail
      refine HG.out.mono ?_
      rintro e w1 ⟨rfl, hr1, k1⟩
      dsimp only at hr1 ⊢
      have H1 := Lib.hid (And.intro hr1 k1)
      clear hr1 k1
      go_wp2_with fail
      refine (getNumber_any w1 r g l s1 k H1.out.1 (by omega)).mono ?_
      rintro e w2 ⟨rfl, hr2, k2⟩
      have H2 := Lib.hid (And.intro hr2 k2)
      clear hr2 k2
      go_wp2
      go_ret2
      exact ⟨rfl, H2.out.1, H1.out.2.trans H2.out.2 (fun _ _ h => h)⟩
  · rw [firstF_err HR.out h0]
    obtain ⟨s1, v, E⟩ := R
    dsimp only at h0 hval ⊢
    have e0 : (E == 0) = false := by simpa using h0
    have e1 : (E != 0) = true := by simpa using h0
    clear HR hval
    go_enter Tryd.func70, Tryd.ntmps70
    go_wp2_with fail
    refine HG.out.mono ?_
    rintro e w1 ⟨rfl, hr1, k1⟩
    dsimp only at hr1 ⊢
    have H1 := Lib.hid (And.intro hr1 k1)
    clear hr1 k1
    go_wp2
    go_ret2
    exact ⟨rfl, H1.out.1, H1.out.2⟩
end Go.Proofs.YtdnjnbfmmgkpjaaDoor

namespace Go.Proofs.YtdnjnbfmmgkpjaaDoor
open Go.RowKit

/-- what getOthers tells -/
def GotO (w : World) (r g gb : Nat) (l : List Int) (O : St × List Int × Int) (e : Ending) (w' : World) : Prop :=
  e = .returned (.int .i64 O.2.2) ∧ Rd w' r g l O.1 ∧ (∃ b', Blk w' gb b' ∧ (O.2.2 = 0 → b' = O.2.1)) ∧ Kept (fun i => i = r ∨ i = gb) w w'

/-- how things stand at place k -/
structure GO (w wr : World) (lo hi t r g gb : Nat) (B V : List Int) (l : List Int) (O : St × List Int × Int) (k f : Nat) (s : St) (b : List Int) : Prop where
  rd : Rd wr r g l s
  blk : Blk wr gb b
  kept : Kept (fun i => i = r ∨ i = gb) w wr
  tab : Tab wr
  tb : Tb wr lo hi t B V (codes B V)
  res : othersG (codes B V) l f k s b = O
  fuel : 64 ≤ k + f
theorem GO.mid {w wr w2 : World} {lo hi t r g gb : Nat} {B V l : List Int} {O : St × List Int × Int} {k f : Nat} {s s2 : St} {b : List Int} (h : GO w wr lo hi t r g gb B V l O k f s b) (hr : Rd w2 r g l s2) (k2 : Kept (fun i => i = r) wr w2) (hrg : r ≠ gb) (hr0 : r ≠ 0) (hout : r < lo ∨ hi ≤ r) {f' k' : Nat}
    (hres : othersG (codes B V) l f' k' s2 b = O) (hf : 64 ≤ k' + f') : GO w w2 lo hi t r g gb B V l O k' f' s2 b :=
  ⟨hr, h.blk.kept k2 (fun e => hrg e.symm), h.kept.trans k2 (fun _ _ e => .inl e), h.tab.kept k2 (fun e => hr0 e.symm), h.tb.kept k2 (fun b' h1 h2 e => by omega), hres, hf⟩

set_option maxRecDepth 10000 in
set_option maxHeartbeats 3200000 in
theorem getOthers_any (w : World) (lo hi t r g gb : Nat) (B V : List Int) (l : List Int) (s : St) (b : List Int) (hT : Tab w) (h : Tb w lo hi t B V (codes B V)) (hv : Valid B V) (hr : Rd w r g l s) (hb : Blk w gb b)
    (hout : r < lo ∨ hi ≤ r) (hgo : gb < lo ∨ hi ≤ gb) (hhi : hi ≤ w.heap.size) (hr0 : r ≠ 0) (hg0 : gb ≠ 0) (hgg : g ≠ gb) :
    Calls Tryd.prog 71 #[.pointer (some ⟨r, 0, none⟩), .pointer (some ⟨t, 0, none⟩), .pointer (some ⟨gb, 0, none⟩)] w (GotO w r g gb l (othersG (codes B V) l 63 1 s b)) := by
  have hrg : r ≠ gb := hr.box.apart hb.box (by decide)
  obtain ⟨O, hO⟩ : ∃ O, O = othersG (codes B V) l 63 1 s b := ⟨_, rfl⟩
  rw [← hO]
  have H := Lib.hid (GO.mk (w := w) (t := t) (B := B) (V := V) hr hb (Kept.refl _ _) hT h hO.symm (show 64 ≤ 1 + 63 by omega))
  have HV := Lib.hid (And.intro hv (And.intro hout (And.intro hgo (And.intro hhi (And.intro hr0 (And.intro hg0 (And.intro hgg hrg)))))))
  clear hT h hv hr hb hout hgo hhi hr0 hg0 hO hgg hrg
  go_enter Tryd.func71, Tryd.ntmps71
  go_wp2_with fail
  go_loopw [7] (fun i wr => ∃ (k f : Nat) (s : St) (b : List Int), k ≤ 100 ∧ i = .int .i64 (k : Int) ∧ GO w wr lo hi t r g gb B V l O k f s b) (fun i _ => 200 - (intOf i).toNat)
  case atStart => exact ⟨1, 63, s, b, by omega, rfl, H.out⟩
  case round =>
    obtain ⟨k, f, s, b, hk, rfl, hP⟩ := hrel
    have HP := Lib.hid hP
    clear hP
    by_cases hlt : k < 64
    · have hki : (k : Int) < 64 := by omega
      have hval := getsF_val (l := l) (valid_vals HV.out.1) 16 s 0 0
      have HG := Lib.hid (getT_any wr lo hi t r g B V (codes B V) l s HP.out.tb HP.out.rd HV.out.2.1 (Nat.le_trans HV.out.2.2.2.1 HP.out.kept.size))
      obtain ⟨R, hR⟩ : ∃ R, R = getsF (codes B V) l 16 s 0 0 := ⟨_, rfl⟩
      obtain ⟨f', hf'⟩ : ∃ f', f = f' + 1 := ⟨f - 1, by have := HP.out.fuel; omega⟩
      have hres := HP.out.res
      rw [hf'] at hres
      have HR := Lib.hid (And.intro hR (And.intro hf' hres))
      rw [← hR] at HG hval
      clear hR hf' hres
      by_cases h0 : R.2.2 = 0
      · by_cases hv0 : R.2.1 = 0
        · have hO := othersG_stop (f := f') (b := b) HR.out.1 hlt h0 hv0
          rw [HR.out.2.2] at hO
          obtain ⟨s1, v, E⟩ := R
          dsimp only at h0 hv0 hval hO HG
          subst h0 hv0
          have HO := Lib.hid hO
          clear hO HR
          go_wp2_with fail
          refine HG.out.mono ?_
          rintro e w1 ⟨rfl, hr1, k1⟩
          dsimp only at hr1 ⊢
          have H1 := Lib.hid (HP.out.mid hr1 k1 HV.out.2.2.2.2.2.2.2 HV.out.2.2.2.2.1 HV.out.2.1 (f' := 64) (k' := 64) (by rw [othersG_end (by omega)]; exact HO.out.symm) (by omega))
          clear hr1 k1
          go_wp2
          go_ret
          refine ⟨by rw [HO.out]; rfl, ?_, ⟨b, H1.out.blk, fun _ => by rw [HO.out]⟩, H1.out.kept⟩
          rw [HO.out]
          exact H1.out.rd
        · obtain ⟨s1, v, E⟩ := R
          dsimp only at h0 hv0 hval HG
          subst h0
          obtain ⟨x, rfl⟩ := Int.eq_ofNat_of_zero_le hval.1
          obtain ⟨hx0, hx1⟩ := hval
          obtain ⟨q, hq⟩ : ∃ q, q = x / 16 := ⟨_, rfl⟩
          obtain ⟨m, hm⟩ : ∃ m, m = x % 16 := ⟨_, rfl⟩
          have hq1 : (x : Int) / 16 = (q : Int) := by omega
          have hm1 : (x : Int) % 16 = (m : Int) := by omega
          have hm15 : m ≤ 15 := by omega
          have hq15 : q ≤ 15 := by omega
          have hbadiff : badSym x k ↔ (10 < m ∨ (m = 0 ∧ x ≠ 240) ∨ 64 ≤ k + q) := by unfold badSym; rw [← hm, ← hq]
          have HM := Lib.hid (And.intro hq (And.intro hm hbadiff))
          have HM := Lib.hid (And.intro HM.out.1 HM.out.2.1)
          have hxv : ¬ (x : Int) = 0 := hv0
          clear hq hm
          by_cases hA : 10 < m
          · have hAi : (10 : Int) < (m : Int) := by omega
            have hbad := hbadiff.2 (.inl hA)
            clear hbadiff
            have hO := othersG_form (f := f') (b := b) HR.out.1 hlt rfl hv0 hbad
            rw [HR.out.2.2] at hO
            have HO := Lib.hid hO
            clear hO HR
            go_wp2_with fail
            refine HG.out.mono ?_
            rintro e w1 ⟨rfl, hr1, k1⟩
            dsimp only at hr1 ⊢
            have H1 := Lib.hid (And.intro hr1 (And.intro (HP.out.blk.kept k1 (fun e => HV.out.2.2.2.2.2.2.2 e.symm)) (HP.out.kept.trans k1 (fun _ _ e => .inl e))))
            clear hr1 k1
            go_wp2
            go_ret
            refine ⟨by rw [HO.out]; rfl, ?_, ⟨b, H1.out.2.1, fun e => ?_⟩, H1.out.2.2⟩
            · rw [HO.out]
              exact H1.out.1
            · rw [HO.out] at e
              cases e
          have hAi : ¬ (10 : Int) < (m : Int) := by omega
          by_cases hB : m = 0
          · by_cases hx : x = 240
            · have hmi : (m : Int) = 0 := by omega
              have hxi : (x : Int) = 240 := by omega
              by_cases hC : 64 ≤ k + q
              · have hCi : (64 : Int) ≤ (k : Int) + (q : Int) := by omega
                have hbad := hbadiff.2 (.inr (.inr hC))
                clear hbadiff
                have hO := othersG_form (f := f') (b := b) HR.out.1 hlt rfl hv0 hbad
                rw [HR.out.2.2] at hO
                have HO := Lib.hid hO
                clear hO HR
                go_wp2_with fail
                refine HG.out.mono ?_
                rintro e w1 ⟨rfl, hr1, k1⟩
                dsimp only at hr1 ⊢
                have H1 := Lib.hid (And.intro hr1 (And.intro (HP.out.blk.kept k1 (fun e => HV.out.2.2.2.2.2.2.2 e.symm)) (HP.out.kept.trans k1 (fun _ _ e => .inl e))))
                clear hr1 k1
                go_wp2
                go_ret
                refine ⟨by rw [HO.out]; rfl, ?_, ⟨b, H1.out.2.1, fun e => ?_⟩, H1.out.2.2⟩
                · rw [HO.out]
                  exact H1.out.1
                · rw [HO.out] at e
                  cases e
              · have hCi : ¬ (64 : Int) ≤ (k : Int) + (q : Int) := by omega
                have hbad : ¬ badSym x k := fun h => by have := hbadiff.1 h; omega
                have hmb : ((m : Int) == 0) = true := by simpa using hmi
                have hxb : ((x : Int) != 240) = false := by simpa using hxi
                clear hbadiff hmi hxi hB hx
                skip
                obtain ⟨kq, hkq0⟩ : ∃ kq, kq = k + q := ⟨_, rfl⟩
                have hkq : (k : Int) + (q : Int) = (kq : Int) := by omega
                have hkq1 : (kq : Int) < 64 := by omega
                have hkq2 : kq < 64 := by omega
                obtain ⟨hz1, hz2⟩ := zn_at kq hkq2
                obtain ⟨zq, hzq⟩ : ∃ zq, zq = zn kq := ⟨_, rfl⟩
                rw [← hzq] at hz1 hz2
                have hzqi : (zq : Int) < 64 := by omega
                have HK := Lib.hid (And.intro hkq0 (And.intro hz1 hzq))
                clear hkq0 hz1 hzq
                go_wp2_with fail
                refine HG.out.mono ?_
                rintro e w1 ⟨rfl, hr1, k1⟩
                dsimp only at hr1 ⊢
                have H1 := Lib.hid (And.intro hr1 (And.intro (HP.out.blk.kept k1 (fun e => HV.out.2.2.2.2.2.2.2 e.symm)) (And.intro (HP.out.kept.trans k1 (fun _ _ e => .inl e)) (And.intro (HP.out.tab.kept k1 (fun e => HV.out.2.2.2.2.1 e.symm)) (HP.out.tb.kept k1 (fun b' h1 h2 e => by have := HV.out.2.1; omega))))))
                clear hr1 k1
                have HN := Lib.hid (getNumber_any w1.drew r g l s1 m (H1.out.1.on (on_drew _)) (by omega))
                have hsm := numF_small H1.out.1.fit H1.out.1.ok (k := m) (by omega)
                obtain ⟨N, hN⟩ : ∃ N, N = numF l s1 m := ⟨_, rfl⟩
                rw [← hN] at HN hsm
                have HNN := Lib.hid hN
                clear hN
                obtain ⟨s2, z, E2⟩ := N
                dsimp only at hsm HN
                have K1 := Lib.hid (show w1.drew.cell? ⟨0, kq, none⟩ = some (.int .i64 (zq : Int)) by rw [← HK.out.2.1]; exact H1.out.2.2.2.1 kq hkq2)
                by_cases hE2 : E2 = 0
                · subst hE2
                  have hO := othersG_next (f := f') (b := b) (N := (s2, z, 0)) HR.out.1 (by dsimp only; rw [Int.toNat_natCast, ← HM.out.2]; exact HNN.out) hlt rfl hv0 hbad rfl
                  rw [HR.out.2.2] at hO
                  dsimp only at hO
                  rw [Int.toNat_natCast, ← HM.out.1, ← HK.out.1, ← HK.out.2.2] at hO
                  have HO := Lib.hid hO
                  clear hO
                  go_wp2_with fail
                  go_region_held (fun w' => w'.cell? ⟨0, kq, none⟩ = some (.int .i64 (zq : Int)))
                    (first
                      | exact K1.out
                      | exact K2.out
                      | exact K3.out)
                    (first
                      | (go_at_call 91
                         with_reducible refine HN.out.mono ?_
                         rintro e w2 ⟨rfl, hr2, k2⟩
                         dsimp only at hr2 ⊢
                         have H2 := Lib.hid (And.intro hr2 (And.intro ((H1.out.2.1.on (on_drew _)).kept k2 (fun e => HV.out.2.2.2.2.2.2.2 e.symm)) (And.intro (H1.out.2.2.1.drew.trans k2 (fun _ _ e => .inl e)) (And.intro ((H1.out.2.2.2.1.on (on_drew _)).kept k2 (fun e => HV.out.2.2.2.2.1 e.symm)) ((H1.out.2.2.2.2.on (on_drew _)).kept k2 (fun b' h1 h2 e => by have := HV.out.2.1; omega))))))
                         have g5 := H2.out.2.1.cell hz2
                         have f5 := H2.out.2.1.box.free zq
                         have K2 := Lib.hid (show w2.cell? ⟨0, kq, none⟩ = some (.int .i64 (zq : Int)) by rw [← HK.out.2.1]; exact H2.out.2.2.2.1 kq hkq2)
                         have K3 := Lib.hid (show (w2.setCell ⟨gb, zq, none⟩ (.int .i64 z)).cell? ⟨0, kq, none⟩ = some (.int .i64 (zq : Int)) by rw [← HK.out.2.1]; exact (H2.out.2.2.2.1.kept ((Kept.refl (fun i => i = gb) _).setCell (p := ⟨gb, zq, none⟩) (fun _ => rfl) _) (fun e => HV.out.2.2.2.2.2.1 e.symm)) kq hkq2)
                         clear hr2 k2))
                  all_goals
                    (have kk : Kept (fun i => i = gb) w2 (w2.setCell ⟨gb, zq, none⟩ (.int .i64 z)) := (Kept.refl (fun i => i = gb) _).setCell (p := ⟨gb, zq, none⟩) (fun _ => rfl) _
                     have HF := Lib.hid (GO.mk (w := w) (lo := lo) (hi := hi) (t := t) (B := B) (V := V) (O := O) (k := kq + 1) (f := f') (H2.out.1.kept kk (fun e => HV.out.2.2.2.2.2.2.2 e) (fun e => HV.out.2.2.2.2.2.2.1 e)) (H2.out.2.1.put zq z) (H2.out.2.2.1.trans kk (fun _ _ e => .inr e)) (H2.out.2.2.2.1.kept kk (fun e => HV.out.2.2.2.2.2.1 e.symm)) (H2.out.2.2.2.2.kept kk (fun b' h1 h2 e => by have := HV.out.2.2.1; omega)) HO.out.symm (by have := HP.out.fuel; have := HR.out.2.1; have := HK.out.1; omega))
                     clear kk g5 f5
                     go_wp2
                     go_roundw
                     case rel => exact ⟨kq + 1, f', s2, _, by omega, by go_num, HF.out⟩
                     case measure => simp [intOf]; omega)
                · have hO := othersG_num (f := f') (b := b) (N := (s2, z, E2)) HR.out.1 (by dsimp only; rw [Int.toNat_natCast, ← HM.out.2]; exact HNN.out) hlt rfl hv0 hbad hE2
                  rw [HR.out.2.2] at hO
                  dsimp only at hO
                  have HO := Lib.hid hO
                  have e0 : (E2 == 0) = false := by simpa using hE2
                  have e1 : (E2 != 0) = true := by simpa using hE2
                  clear hO
                  go_wp2_with fail
                  go_region_held (fun w' => w'.cell? ⟨0, kq, none⟩ = some (.int .i64 (zq : Int)))
                    (first
                      | exact K1.out
                      | exact K2.out
                      | exact K3.out)
                    (first
                      | (go_at_call 91
                         with_reducible refine HN.out.mono ?_
                         rintro e w2 ⟨rfl, hr2, k2⟩
                         dsimp only at hr2 ⊢
                         have H2 := Lib.hid (And.intro hr2 (And.intro ((H1.out.2.1.on (on_drew _)).kept k2 (fun e => HV.out.2.2.2.2.2.2.2 e.symm)) (And.intro (H1.out.2.2.1.drew.trans k2 (fun _ _ e => .inl e)) ((H1.out.2.2.2.1.on (on_drew _)).kept k2 (fun e => HV.out.2.2.2.2.1 e.symm)))))
                         have g5 := H2.out.2.1.cell hz2
                         have f5 := H2.out.2.1.box.free zq
                         have K2 := Lib.hid (show w2.cell? ⟨0, kq, none⟩ = some (.int .i64 (zq : Int)) by rw [← HK.out.2.1]; exact H2.out.2.2.2 kq hkq2)
                         have K3 := Lib.hid (show (w2.setCell ⟨gb, zq, none⟩ (.int .i64 z)).cell? ⟨0, kq, none⟩ = some (.int .i64 (zq : Int)) by rw [← HK.out.2.1]; exact (H2.out.2.2.2.kept ((Kept.refl (fun i => i = gb) _).setCell (p := ⟨gb, zq, none⟩) (fun _ => rfl) _) (fun e => HV.out.2.2.2.2.2.1 e.symm)) kq hkq2)
                         clear hr2 k2))
                  all_goals
                    (have kk : Kept (fun i => i = gb) w2 (w2.setCell ⟨gb, zq, none⟩ (.int .i64 z)) := (Kept.refl (fun i => i = gb) _).setCell (p := ⟨gb, zq, none⟩) (fun _ => rfl) _
                     have HF := Lib.hid (And.intro (H2.out.1.kept kk (fun e => HV.out.2.2.2.2.2.2.2 e) (fun e => HV.out.2.2.2.2.2.2.1 e)) (And.intro (H2.out.2.1.put zq z) (H2.out.2.2.1.trans kk (fun _ _ e => .inr e))))
                     clear kk g5 f5
                     go_wp2
                     go_ret
                     refine ⟨by rw [HO.out]; rfl, ?_, ⟨_, HF.out.2.1, fun e => ?_⟩, HF.out.2.2⟩
                     · rw [HO.out]
                       exact HF.out.1
                     · rw [HO.out] at e
                       exact absurd e hE2)
            · have hmi : (m : Int) = 0 := by omega
              have hxi : ¬ (x : Int) = 240 := by omega
              have hbad := hbadiff.2 (.inr (.inl ⟨hB, hx⟩))
              clear hbadiff
              have hO := othersG_form (f := f') (b := b) HR.out.1 hlt rfl hv0 hbad
              rw [HR.out.2.2] at hO
              have HO := Lib.hid hO
              clear hO HR
              go_wp2_with fail
              refine HG.out.mono ?_
              rintro e w1 ⟨rfl, hr1, k1⟩
              dsimp only at hr1 ⊢
              have H1 := Lib.hid (And.intro hr1 (And.intro (HP.out.blk.kept k1 (fun e => HV.out.2.2.2.2.2.2.2 e.symm)) (HP.out.kept.trans k1 (fun _ _ e => .inl e))))
              clear hr1 k1
              go_wp2
              go_ret
              refine ⟨by rw [HO.out]; rfl, ?_, ⟨b, H1.out.2.1, fun e => ?_⟩, H1.out.2.2⟩
              · rw [HO.out]
                exact H1.out.1
              · rw [HO.out] at e
                cases e
          · have hmi : ¬ (m : Int) = 0 := by omega
            by_cases hC : 64 ≤ k + q
            · have hCi : (64 : Int) ≤ (k : Int) + (q : Int) := by omega
              have hbad := hbadiff.2 (.inr (.inr hC))
              clear hbadiff
              have hO := othersG_form (f := f') (b := b) HR.out.1 hlt rfl hv0 hbad
              rw [HR.out.2.2] at hO
              have HO := Lib.hid hO
              clear hO HR
              go_wp2_with fail
              refine HG.out.mono ?_
              rintro e w1 ⟨rfl, hr1, k1⟩
              dsimp only at hr1 ⊢
              have H1 := Lib.hid (And.intro hr1 (And.intro (HP.out.blk.kept k1 (fun e => HV.out.2.2.2.2.2.2.2 e.symm)) (HP.out.kept.trans k1 (fun _ _ e => .inl e))))
              clear hr1 k1
              go_wp2
              go_ret
              refine ⟨by rw [HO.out]; rfl, ?_, ⟨b, H1.out.2.1, fun e => ?_⟩, H1.out.2.2⟩
              · rw [HO.out]
                exact H1.out.1
              · rw [HO.out] at e
                cases e
            · have hCi : ¬ (64 : Int) ≤ (k : Int) + (q : Int) := by omega
              have hbad : ¬ badSym x k := fun h => by have := hbadiff.1 h; omega
              clear hbadiff
              skip
              obtain ⟨kq, hkq0⟩ : ∃ kq, kq = k + q := ⟨_, rfl⟩
              have hkq : (k : Int) + (q : Int) = (kq : Int) := by omega
              have hkq1 : (kq : Int) < 64 := by omega
              have hkq2 : kq < 64 := by omega
              obtain ⟨hz1, hz2⟩ := zn_at kq hkq2
              obtain ⟨zq, hzq⟩ : ∃ zq, zq = zn kq := ⟨_, rfl⟩
              rw [← hzq] at hz1 hz2
              have hzqi : (zq : Int) < 64 := by omega
              have HK := Lib.hid (And.intro hkq0 (And.intro hz1 hzq))
              clear hkq0 hz1 hzq
              go_wp2_with fail
              refine HG.out.mono ?_
              rintro e w1 ⟨rfl, hr1, k1⟩
              dsimp only at hr1 ⊢
              have H1 := Lib.hid (And.intro hr1 (And.intro (HP.out.blk.kept k1 (fun e => HV.out.2.2.2.2.2.2.2 e.symm)) (And.intro (HP.out.kept.trans k1 (fun _ _ e => .inl e)) (And.intro (HP.out.tab.kept k1 (fun e => HV.out.2.2.2.2.1 e.symm)) (HP.out.tb.kept k1 (fun b' h1 h2 e => by have := HV.out.2.1; omega))))))
              clear hr1 k1
              have HN := Lib.hid (getNumber_any w1.drew r g l s1 m (H1.out.1.on (on_drew _)) (by omega))
              have hsm := numF_small H1.out.1.fit H1.out.1.ok (k := m) (by omega)
              obtain ⟨N, hN⟩ : ∃ N, N = numF l s1 m := ⟨_, rfl⟩
              rw [← hN] at HN hsm
              have HNN := Lib.hid hN
              clear hN
              obtain ⟨s2, z, E2⟩ := N
              dsimp only at hsm HN
              have K1 := Lib.hid (show w1.drew.cell? ⟨0, kq, none⟩ = some (.int .i64 (zq : Int)) by rw [← HK.out.2.1]; exact H1.out.2.2.2.1 kq hkq2)
              by_cases hE2 : E2 = 0
              · subst hE2
                have hO := othersG_next (f := f') (b := b) (N := (s2, z, 0)) HR.out.1 (by dsimp only; rw [Int.toNat_natCast, ← HM.out.2]; exact HNN.out) hlt rfl hv0 hbad rfl
                rw [HR.out.2.2] at hO
                dsimp only at hO
                rw [Int.toNat_natCast, ← HM.out.1, ← HK.out.1, ← HK.out.2.2] at hO
                have HO := Lib.hid hO
                clear hO
                go_wp2_with fail
                go_region_held (fun w' => w'.cell? ⟨0, kq, none⟩ = some (.int .i64 (zq : Int)))
                  (first
                    | exact K1.out
                    | exact K2.out
                    | exact K3.out)
                  (first
                    | (go_at_call 91
                       with_reducible refine HN.out.mono ?_
                       rintro e w2 ⟨rfl, hr2, k2⟩
                       dsimp only at hr2 ⊢
                       have H2 := Lib.hid (And.intro hr2 (And.intro ((H1.out.2.1.on (on_drew _)).kept k2 (fun e => HV.out.2.2.2.2.2.2.2 e.symm)) (And.intro (H1.out.2.2.1.drew.trans k2 (fun _ _ e => .inl e)) (And.intro ((H1.out.2.2.2.1.on (on_drew _)).kept k2 (fun e => HV.out.2.2.2.2.1 e.symm)) ((H1.out.2.2.2.2.on (on_drew _)).kept k2 (fun b' h1 h2 e => by have := HV.out.2.1; omega))))))
                       have g5 := H2.out.2.1.cell hz2
                       have f5 := H2.out.2.1.box.free zq
                       have K2 := Lib.hid (show w2.cell? ⟨0, kq, none⟩ = some (.int .i64 (zq : Int)) by rw [← HK.out.2.1]; exact H2.out.2.2.2.1 kq hkq2)
                       have K3 := Lib.hid (show (w2.setCell ⟨gb, zq, none⟩ (.int .i64 z)).cell? ⟨0, kq, none⟩ = some (.int .i64 (zq : Int)) by rw [← HK.out.2.1]; exact (H2.out.2.2.2.1.kept ((Kept.refl (fun i => i = gb) _).setCell (p := ⟨gb, zq, none⟩) (fun _ => rfl) _) (fun e => HV.out.2.2.2.2.2.1 e.symm)) kq hkq2)
                       clear hr2 k2))
                all_goals
                  (have kk : Kept (fun i => i = gb) w2 (w2.setCell ⟨gb, zq, none⟩ (.int .i64 z)) := (Kept.refl (fun i => i = gb) _).setCell (p := ⟨gb, zq, none⟩) (fun _ => rfl) _
                   have HF := Lib.hid (GO.mk (w := w) (lo := lo) (hi := hi) (t := t) (B := B) (V := V) (O := O) (k := kq + 1) (f := f') (H2.out.1.kept kk (fun e => HV.out.2.2.2.2.2.2.2 e) (fun e => HV.out.2.2.2.2.2.2.1 e)) (H2.out.2.1.put zq z) (H2.out.2.2.1.trans kk (fun _ _ e => .inr e)) (H2.out.2.2.2.1.kept kk (fun e => HV.out.2.2.2.2.2.1 e.symm)) (H2.out.2.2.2.2.kept kk (fun b' h1 h2 e => by have := HV.out.2.2.1; omega)) HO.out.symm (by have := HP.out.fuel; have := HR.out.2.1; have := HK.out.1; omega))
                   clear kk g5 f5
                   go_wp2
                   go_roundw
                   case rel => exact ⟨kq + 1, f', s2, _, by omega, by go_num, HF.out⟩
                   case measure => simp [intOf]; omega)
              · have hO := othersG_num (f := f') (b := b) (N := (s2, z, E2)) HR.out.1 (by dsimp only; rw [Int.toNat_natCast, ← HM.out.2]; exact HNN.out) hlt rfl hv0 hbad hE2
                rw [HR.out.2.2] at hO
                dsimp only at hO
                have HO := Lib.hid hO
                have e0 : (E2 == 0) = false := by simpa using hE2
                have e1 : (E2 != 0) = true := by simpa using hE2
                clear hO
                go_wp2_with fail
                go_region_held (fun w' => w'.cell? ⟨0, kq, none⟩ = some (.int .i64 (zq : Int)))
                  (first
                    | exact K1.out
                    | exact K2.out
                    | exact K3.out)
                  (first
                    | (go_at_call 91
                       with_reducible refine HN.out.mono ?_
                       rintro e w2 ⟨rfl, hr2, k2⟩
                       dsimp only at hr2 ⊢
                       have H2 := Lib.hid (And.intro hr2 (And.intro ((H1.out.2.1.on (on_drew _)).kept k2 (fun e => HV.out.2.2.2.2.2.2.2 e.symm)) (And.intro (H1.out.2.2.1.drew.trans k2 (fun _ _ e => .inl e)) ((H1.out.2.2.2.1.on (on_drew _)).kept k2 (fun e => HV.out.2.2.2.2.1 e.symm)))))
                       have g5 := H2.out.2.1.cell hz2
                       have f5 := H2.out.2.1.box.free zq
                       have K2 := Lib.hid (show w2.cell? ⟨0, kq, none⟩ = some (.int .i64 (zq : Int)) by rw [← HK.out.2.1]; exact H2.out.2.2.2 kq hkq2)
                       have K3 := Lib.hid (show (w2.setCell ⟨gb, zq, none⟩ (.int .i64 z)).cell? ⟨0, kq, none⟩ = some (.int .i64 (zq : Int)) by rw [← HK.out.2.1]; exact (H2.out.2.2.2.kept ((Kept.refl (fun i => i = gb) _).setCell (p := ⟨gb, zq, none⟩) (fun _ => rfl) _) (fun e => HV.out.2.2.2.2.2.1 e.symm)) kq hkq2)
                       clear hr2 k2))
                all_goals
                  (have kk : Kept (fun i => i = gb) w2 (w2.setCell ⟨gb, zq, none⟩ (.int .i64 z)) := (Kept.refl (fun i => i = gb) _).setCell (p := ⟨gb, zq, none⟩) (fun _ => rfl) _
                   have HF := Lib.hid (And.intro (H2.out.1.kept kk (fun e => HV.out.2.2.2.2.2.2.2 e) (fun e => HV.out.2.2.2.2.2.2.1 e)) (And.intro (H2.out.2.1.put zq z) (H2.out.2.2.1.trans kk (fun _ _ e => .inr e))))
                   clear kk g5 f5
                   go_wp2
                   go_ret
                   refine ⟨by rw [HO.out]; rfl, ?_, ⟨_, HF.out.2.1, fun e => ?_⟩, HF.out.2.2⟩
                   · rw [HO.out]
                     exact HF.out.1
                   · rw [HO.out] at e
                     exact absurd e hE2)
      · have hO := othersG_err (f := f') (b := b) HR.out.1 hlt h0
        rw [HR.out.2.2] at hO
        obtain ⟨s1, v, E⟩ := R
        dsimp only at h0 hval hO HG
        have HO := Lib.hid hO
        have e0 : (E == 0) = false := by simpa using h0
        have e1 : (E != 0) = true := by simpa using h0
        clear hO HR
        go_wp2_with fail
        refine HG.out.mono ?_
        rintro e w1 ⟨rfl, hr1, k1⟩
        dsimp only at hr1 ⊢
        have H1 := Lib.hid (And.intro hr1 (And.intro (HP.out.blk.kept k1 (fun e => HV.out.2.2.2.2.2.2.2 e.symm)) (HP.out.kept.trans k1 (fun _ _ e => .inl e))))
        clear hr1 k1
        go_wp2
        go_ret
        refine ⟨by rw [HO.out]; rfl, ?_, ⟨b, H1.out.2.1, fun e => ?_⟩, H1.out.2.2⟩
        · rw [HO.out]
          exact H1.out.1
        · rw [HO.out] at e
          exact absurd e h0
    · have hres := HP.out.res
      rw [othersG_end (by omega)] at hres
      have HO := Lib.hid hres
      have hki : ¬ (k : Int) < 64 := by omega
      clear hres
      go_wp2
      go_ret
      refine ⟨by rw [← HO.out]; rfl, ?_, ⟨b, HP.out.blk, fun _ => by rw [← HO.out]⟩, HP.out.kept⟩
      rw [← HO.out]
      exact HP.out.rd
end Go.Proofs.YtdnjnbfmmgkpjaaDoor

namespace Go.Proofs.YtdnjnbfmmgkpjaaDoor
open Go.RowKit

theorem results_ct {fn : Func} {p q : Tmp} {ty : TypeId} (h : fn.results = #[.cell p ty, .tmp q]) (tmps : Array Value) (w : World) (g : Nat) (x v : Value)
    (hp : tmps.getD p undef = .pointer (some ⟨g, 0, none⟩)) (hq : tmps.getD q undef = v) (hl : (loadVar ty ⟨g, 0, none⟩).run Tryd.prog w = .ok x w) : (results fn tmps).run Tryd.prog w = .ok (.tuple #[x, v]) w := by
  have hp' : tmps[p]?.getD undef = .pointer (some ⟨g, 0, none⟩) := by simpa using hp
  have hq' : tmps[q]?.getD undef = v := by simpa using hq
  simp [results, h, hp', hq', asAddr, hl]
theorem results_cct {fn : Func} {p p' q : Tmp} {ty ty' : TypeId} (h : fn.results = #[.cell p ty, .cell p' ty', .tmp q]) (tmps : Array Value) (w : World) (g g' : Nat) (x x' v : Value)
    (hp : tmps.getD p undef = .pointer (some ⟨g, 0, none⟩)) (hp' : tmps.getD p' undef = .pointer (some ⟨g', 0, none⟩)) (hq : tmps.getD q undef = v)
    (hl : (loadVar ty ⟨g, 0, none⟩).run Tryd.prog w = .ok x w) (hl' : (loadVar ty' ⟨g', 0, none⟩).run Tryd.prog w = .ok x' w) : (results fn tmps).run Tryd.prog w = .ok (.tuple #[x, x', v]) w := by
  have e1 : tmps[p]?.getD undef = .pointer (some ⟨g, 0, none⟩) := by simpa using hp
  have e2 : tmps[p']?.getD undef = .pointer (some ⟨g', 0, none⟩) := by simpa using hp'
  have e3 : tmps[q]?.getD undef = v := by simpa using hq
  simp [results, h, e1, e2, e3, asAddr, hl, hl']
theorem loadVar_blk {w : World} {g : Nat} {b : List Int} (h : Box w g 25 (cellsI b).toArray) (hl : b.length = 64) : (loadVar 25 ⟨g, 0, none⟩).run Tryd.prog w = .ok (blkV b) w :=
  run_loadVar_row w g 25 25 _ (0, 0) _ h Tryd.underlying25 rfl (by rw [arr23_size]; simp [cellsI_len, hl])

/-- what Get tells -/
def GotB (w : World) (r g : Nat) (l : List Int) (R : St × List Int × Int) (e : Ending) (w' : World) : Prop :=
  e = .returned (.tuple #[blkV R.2.1, .int .i64 R.2.2]) ∧ Rd w' r g l R.1 ∧ Kept (fun i => i = r) w w'

theorem blockF_prev {Ld La : List En} {l : List Int} {s : St} {prev : Int} (h : ¬ In prev) : blockF Ld La l s prev = (s, zeros64, 2) := by unfold blockF; rw [if_neg h]
section
variable {Ld La : List En} {l : List Int} {s : St} {prev : Int} {F : St × Int × Int} {O : St × List Int × Int}
theorem blockF_first (h : In prev) (hF : F = firstF Ld l s) (h0 : F.2.2 ≠ 0) : blockF Ld La l s prev = (F.1, zeros64, F.2.2) := by
  unfold blockF
  rw [← hF, if_pos h, if_neg h0]
theorem blockF_others (h : In prev) (hF : F = firstF Ld l s) (h0 : F.2.2 = 0) (hO : O = othersG La l 63 1 F.1 ((prev + F.2.1) :: List.replicate 63 0)) (h1 : O.2.2 ≠ 0) : blockF Ld La l s prev = (O.1, zeros64, O.2.2) := by
  unfold blockF
  rw [← hF, if_pos h, if_pos h0, ← hO, if_neg h1]
theorem blockF_form (h : In prev) (hF : F = firstF Ld l s) (h0 : F.2.2 = 0) (hO : O = othersG La l 63 1 F.1 ((prev + F.2.1) :: List.replicate 63 0)) (h1 : O.2.2 = 0) (h2 : ¬ RightB O.2.1) : blockF Ld La l s prev = (O.1, zeros64, 4) := by
  unfold blockF
  rw [← hF, if_pos h, if_pos h0, ← hO, if_pos h1, if_neg h2]
theorem blockF_done (h : In prev) (hF : F = firstF Ld l s) (h0 : F.2.2 = 0) (hO : O = othersG La l 63 1 F.1 ((prev + F.2.1) :: List.replicate 63 0)) (h1 : O.2.2 = 0) (h2 : RightB O.2.1) : blockF Ld La l s prev = (O.1, O.2.1, 0) := by
  unfold blockF
  rw [← hF, if_pos h, if_pos h0, ← hO, if_pos h1, if_pos h2]
theorem firstF_small {B V : List Int} (hv : Valid B V) (hf : Fit l) (h : s.ok l.length) : -2047 ≤ (firstF (codes B V) l s).2.1 ∧ (firstF (codes B V) l s).2.1 ≤ 2047 := by
  have hval := getsF_val (l := l) (valid_vals hv) 16 s 0 0
  have hok := getsF_ok (L := codes B V) hf 16 s 0 0 h
  unfold firstF
  split
  · split
    · dsimp only; omega
    · exact numF_small hf hok (by omega)
  · dsimp only; omega
end

section
variable (w : World) (lo hi t lo' hi' t' r g : Nat) (B V B' V' : List Int) (l : List Int) (s : St) (prev : Int)
set_option maxRecDepth 10000 in
set_option maxHeartbeats 3200000 in
theorem getB_any (hT : Tab w) (h : Tb w lo hi t B V (codes B V)) (hv : Valid B V) (h' : Tb w lo' hi' t' B' V' (codes B' V')) (hv' : Valid B' V') (hr : Rd w r g l s) (hout : r < lo ∨ hi ≤ r) (hout' : r < lo' ∨ hi' ≤ r) (hhi : hi ≤ w.heap.size) (hhi' : hi' ≤ w.heap.size) (hr0 : r ≠ 0) :
    Calls Tryd.prog 40 #[.pointer (some ⟨r, 0, none⟩), .pointer (some ⟨t, 0, none⟩), .pointer (some ⟨t', 0, none⟩), .int .i64 prev] w (GotB w r g l (blockF (codes B V) (codes B' V') l s prev)) := by
  obtain ⟨Z, hZ⟩ : ∃ Z, Z = (cellsI zeros64).toArray := ⟨_, rfl⟩
  have hz : ∀ w, (zeroValue 25).run Tryd.prog w = .ok (.agg Z) w := fun w => by rw [hZ]; exact zero23 w
  have hZs : Z.size = 64 := by rw [hZ]; rfl
  obtain ⟨g8, hg8⟩ : ∃ g8, g8 = w.heap.size := ⟨_, rfl⟩
  obtain ⟨w1, hw1⟩ : ∃ w1, w1 = w.alloc (.cells Z 25) := ⟨_, rfl⟩
  have bel : Below w.heap.size w w1 := by rw [hw1]; exact on_alloc _ _
  have hb8 : Blk w1 g8 zeros64 := ⟨by rw [hw1, hg8, ← hZ]; exact Box.made _ _ _, rfl⟩
  have hr8 : r ≠ g8 := by have := hr.box.lt; omega
  have hbd : ∀ w, (Instr.build 25 #[]).run Tryd.prog w = .ok (.agg Z) w := fun w => by rw [hZ]; exact build0 w
  have H1 := Lib.hid (And.intro hb8 (And.intro (hr.on bel) (And.intro bel (And.intro (hT.on bel) (And.intro (h.on bel) (h'.on bel))))))
  have HP := Lib.hid (And.intro hv (And.intro hv' (And.intro hout (And.intro hout' (And.intro hhi (And.intro hhi' (And.intro hr0 (And.intro hr8 (And.intro hg8 (And.intro hw1 (And.intro hZ hZs)))))))))))
  have HT0 := Lib.hid (And.intro hT.zero (And.intro hr.own.lt hr.box.lt))
  have hZV : Value.agg Z = blkV zeros64 := by rw [hZ]; rfl
  have HZV := Lib.hid hZV
  clear hZV hZ hZs hw1 bel hb8 hr8 hg8 hT h hv h' hv' hr hout hout' hhi hhi' hr0
  by_cases hin : In prev
  · have hd : decide (In prev) = true := by simpa using hin
    have HD := Lib.hid (And.intro hd hin)
    have hprev := hin
    unfold In at hprev
    obtain ⟨hp0, hp1⟩ := hprev
    clear hd hin
    have HF := Lib.hid (getFirst_any w1 lo hi t r g B V l s H1.out.2.2.2.2.1 HP.out.1 H1.out.2.1 HP.out.2.2.1 (Nat.le_trans HP.out.2.2.2.2.1 H1.out.2.2.1.size))
    have hsm := firstF_small (l := l) HP.out.1 H1.out.2.1.fit H1.out.2.1.ok
    obtain ⟨F, hF⟩ : ∃ F, F = firstF (codes B V) l s := ⟨_, rfl⟩
    rw [← hF] at HF hsm
    have HFF := Lib.hid hF
    clear hF
    by_cases h0 : F.2.2 = 0
    · obtain ⟨b0, hb0⟩ : ∃ b0, b0 = (prev + F.2.1) :: List.replicate 63 0 := ⟨_, rfl⟩
      obtain ⟨Z1, hZ1⟩ : ∃ Z1, Z1 = (cellsI b0).toArray := ⟨_, rfl⟩
      have hb0l : b0.length = 64 := by rw [hb0]; simp
      have HB1 := Lib.hid (show ∀ w, (Instr.build 25 #[(0, .int .i64 (prev + F.2.1))]).run Tryd.prog w = .ok (.agg Z1) w from fun w => by rw [hZ1, hb0]; exact build1 w _)
      have HB0 := Lib.hid (And.intro hb0 (And.intro hZ1 hb0l))
      have HZ1 := Lib.hid (show Value.agg Z1 = blkV b0 by rw [hZ1]; rfl)
      clear hb0 hZ1 hb0l
      obtain ⟨O, hO⟩ : ∃ O, O = othersG (codes B' V') l 63 1 F.1 b0 := ⟨_, rfl⟩
      have HO := Lib.hid hO
      clear hO
      have HOX := Lib.hid (show O = othersG (codes B' V') l 63 1 F.1 ((prev + F.2.1) :: List.replicate 63 0) by rw [← HB0.out.1]; exact HO.out)
      obtain ⟨R, hR⟩ : ∃ R, R = blockF (codes B V) (codes B' V') l s prev := ⟨_, rfl⟩
      rw [← hR]
      have HR := Lib.hid hR
      clear hR
      have HE0 := Lib.hid h0
      obtain ⟨s1, d, E⟩ := F
      dsimp only at h0 hsm HF HB1
      subst h0
      obtain ⟨hs0, hs1⟩ := hsm
      go_enter Tryd.func40, Tryd.ntmps40
      go_wp2_with fail
      rw [← HP.out.2.2.2.2.2.2.2.2.2.1]
      refine (inRange_any w1 prev).mono ?_
      rintro e w2 ⟨rfl, rfl⟩
      rw [HD.out.1]
      go_wp2_with fail
      refine HF.out.mono ?_
      rintro e w2 ⟨rfl, hr2, k2⟩
      dsimp only at hr2 ⊢
      have hb2 := H1.out.1.kept k2 (fun e => HP.out.2.2.2.2.2.2.2.1 e.symm)
      have H2 := Lib.hid (And.intro hr2 (And.intro hb2 (And.intro ((Kept.of_below H1.out.2.2.1 (fun i => i = r)).trans k2 (fun _ _ e => e)) (And.intro (H1.out.2.2.2.1.kept k2 (fun e => HP.out.2.2.2.2.2.2.1 e.symm)) (H1.out.2.2.2.2.2.kept k2 (fun b' h1 h2 e => by have := HP.out.2.2.2.1; omega))))))
      clear hr2 k2 hb2
      obtain ⟨gb, hgb⟩ : ∃ gb, gb = w2.heap.size := ⟨_, rfl⟩
      have hgb2 := Lib.hid (And.intro hgb True.intro)
      clear hgb
      go_wp2_with (first
        | (with_reducible refine wpList_build_to (op := ⟨some 31, _, _, _, _, _⟩) rfl 25 _ rfl (.agg Z1) _ (by simp [Act.eval]) (HB1.out _) ?_)
        | ((with_reducible refine wpList_store_blk (o := ⟨none, _, _, _, _, _⟩) arr23_size rfl (.tmp 12) (.tmp 31) rfl rfl w2.heap.size b0 rfl ?hy Z (Box.made _ _ _) HP.out.2.2.2.2.2.2.2.2.2.2.2 HB0.out.2.2 ?_)
           case hy => exact HZ1.out
           intro w3 b3 k3
           have H3 := Lib.hid (And.intro (Blk.mk b3 HB0.out.2.2) k3)
           clear b3 k3)
        | fail)
      rw [← hgb2.out.1]
      have b23 : Below w2.heap.size w2 w3 := (on_alloc w2 _).trans (H3.out.2.below (by simp) (fun i hi e => by omega))
      have hs12 := H1.out.2.2.1.size
      have hs2 := H2.out.2.2.1.size
      have hsg : w.heap.size ≤ gb := by have := hgb2.out.1; omega
      have HG := Lib.hid hsg
      have h3b := H3.out.1
      rw [← hgb2.out.1] at h3b
      have H3 := Lib.hid (And.intro (H2.out.1.on b23) (And.intro (H2.out.2.1.on b23) (And.intro (H2.out.2.2.1.trans (Kept.of_below b23 (fun _ => False)) (fun _ _ h => h.elim)) h3b)))
      have HC := Lib.hid (getOthers_any w3 lo' hi' t' r g gb B' V' l s1 b0 (H2.out.2.2.2.1.on b23) (H2.out.2.2.2.2.on b23) HP.out.2.1 H3.out.1 H3.out.2.2.2 HP.out.2.2.2.1 (.inr (by have := HP.out.2.2.2.2.2.1; omega)) (by have := HP.out.2.2.2.2.2.1; have := H3.out.2.2.1.size; omega) HP.out.2.2.2.2.2.2.1 (by have := HT0.out.1; omega) (by have := HT0.out.2.1; omega))
      clear b23 hs12 hs2 hsg h3b
      rw [← HO.out] at HC
      refine HC.out.mono ?_
      rintro e w4 ⟨rfl, hr4, ⟨b', hb', himp⟩, k4⟩
      have hg8 := HP.out.2.2.2.2.2.2.2.2.1
      have H4 := Lib.hid (And.intro hr4 (And.intro hb' (And.intro himp (And.intro (H3.out.2.1.kept k4 (fun e => by
        rcases e with e | e
        · exact HP.out.2.2.2.2.2.2.2.1 e.symm
        · have h1 := hgb2.out.1
          have h2 := H1.out.1.box.lt
          have h3 := H2.out.2.1.box.lt
          omega)) ((H3.out.2.2.1.trans k4 (fun i hi e => by
        rcases e with e | e
        · exact e
        · have := HG.out; omega)))))))
      clear hr4 hb' himp k4 hg8 HC
      have HOE := Lib.hid (show ∃ E2, E2 = O.2.2 from ⟨_, rfl⟩)
      obtain ⟨E2, hE2⟩ := HOE.out
      rw [← hE2]
      have HE2 := Lib.hid hE2
      clear hE2 HOE
      by_cases hz2 : E2 = 0
      · subst hz2
        have hb'O := H4.out.2.2.1 HE2.out.symm
        have HbO := Lib.hid hb'O
        clear hb'O
        have HL := Lib.hid H4.out.2.1.load
        by_cases hrr : RightB b'
        · have hd : decide (RightB b') = true := by simpa using hrr
          have hRd := blockF_done HD.out.2 HFF.out rfl HOX.out HE2.out.symm (by rw [← HbO.out]; exact hrr)
          rw [← HR.out] at hRd
          have HRR := Lib.hid (And.intro hRd hd)
          clear hRd hd hrr
          go_wp2_with (first
            | (with_reducible refine wpList_load_to (op := ⟨some 39, _, _, _, _, _⟩) rfl 25 (.tmp 12) rfl (.pointer (some ⟨gb, 0, none⟩)) rfl (blkV b') HL.out ?_)
            | fail)
          refine (right64_any w4 b' H4.out.2.1.len).mono ?_
          rintro e w5 ⟨rfl, b5⟩
          rw [HRR.out.2]
          have H5 := Lib.hid (And.intro (H4.out.2.1.on b5) (And.intro (H4.out.2.2.2.1.on b5) (And.intro (H4.out.2.2.2.2.trans (Kept.of_below b5 (fun _ => False)) (fun _ _ h => h.elim)) (H4.out.1.on b5))))
          have HL5 := Lib.hid H5.out.1.load
          clear b5
          go_wp2_with (first
            | (with_reducible refine wpList_load_to (op := ⟨some 43, _, _, _, _, _⟩) rfl 25 (.tmp 12) rfl (.pointer (some ⟨gb, 0, none⟩)) rfl (blkV b') HL5.out ?_)
            | ((with_reducible refine wpList_store_blk (o := ⟨none, _, _, _, _, _⟩) arr23_size rfl (.tmp 8) (.tmp 43) rfl rfl w.heap.size b' rfl rfl Z ?hg HP.out.2.2.2.2.2.2.2.2.2.2.2 H5.out.1.len ?_)
               case hg => have := H5.out.2.1.box; rw [HP.out.2.2.2.2.2.2.2.2.1, ← HP.out.2.2.2.2.2.2.2.2.2.2.1] at this; exact this
               intro w9 b9 k9
               have H9 := Lib.hid (And.intro b9 k9)
               clear b9 k9)
            | fail)
          refine bodyPost_ret (v := .tuple #[blkV b', .int .i64 0]) (results_ct (fn := Tryd.f40) Tryd.results40 _ _ w.heap.size _ _ rfl rfl (loadVar_blk H9.out.1 H5.out.1.len)) rfl ?_
          rw [HRR.out.1, ← HbO.out]
          exact ⟨rfl, H5.out.2.2.2.kept H9.out.2 (fun e => by have := HT0.out.2.2; omega) (fun e => by have := HT0.out.2.1; omega), H5.out.2.2.1.trans H9.out.2 (fun i hi e => by omega)⟩
        · have hd : decide (RightB b') = false := by simpa using hrr
          have hRd := blockF_form HD.out.2 HFF.out rfl HOX.out HE2.out.symm (by rw [← HbO.out]; exact hrr)
          rw [← HR.out] at hRd
          have HRR := Lib.hid (And.intro hRd hd)
          clear hRd hd hrr
          go_wp2_with (first
            | (with_reducible refine wpList_load_to (op := ⟨some 39, _, _, _, _, _⟩) rfl 25 (.tmp 12) rfl (.pointer (some ⟨gb, 0, none⟩)) rfl (blkV b') HL.out ?_)
            | fail)
          refine (right64_any w4 b' H4.out.2.1.len).mono ?_
          rintro e w5 ⟨rfl, b5⟩
          rw [HRR.out.2]
          have H5 := Lib.hid (And.intro (H4.out.2.1.on b5) (And.intro (H4.out.2.2.2.1.on b5) (And.intro (H4.out.2.2.2.2.trans (Kept.of_below b5 (fun _ => False)) (fun _ _ h => h.elim)) (H4.out.1.on b5))))
          clear b5
          go_wp2_with (first
            | ((with_reducible refine wpList_store_blk (o := ⟨none, _, _, _, _, _⟩) arr23_size rfl (.tmp 8) (.tmp 42) rfl rfl w.heap.size zeros64 rfl ?hy Z ?hg HP.out.2.2.2.2.2.2.2.2.2.2.2 rfl ?_)
               case hy => exact HZV.out
               case hg => have := H5.out.2.1.box; rw [HP.out.2.2.2.2.2.2.2.2.1, ← HP.out.2.2.2.2.2.2.2.2.2.2.1] at this; exact this
               intro w9 b9 k9
               have H9 := Lib.hid (And.intro b9 k9)
               clear b9 k9)
            | fail)
          rw [HRR.out.1]
          refine bodyPost_ret (v := .tuple #[blkV zeros64, .int .i64 4]) (results_ct (fn := Tryd.f40) Tryd.results40 _ _ w.heap.size _ _ rfl rfl (loadVar_blk H9.out.1 rfl)) rfl ?_
          exact ⟨rfl, H5.out.2.2.2.kept H9.out.2 (fun e => by have := HT0.out.2.2; omega) (fun e => by have := HT0.out.2.1; omega), H5.out.2.2.1.trans H9.out.2 (fun i hi e => by omega)⟩
      · have hRd := blockF_others HD.out.2 HFF.out rfl HOX.out (by rw [← HE2.out]; exact hz2)
        rw [← HR.out, ← HE2.out] at hRd
        have HRR := Lib.hid hRd
        clear hRd
        have e0 : (E2 == 0) = false := by simpa using hz2
        have e1 : (E2 != 0) = true := by simpa using hz2
        go_wp2_with (first
          | ((with_reducible refine wpList_store_blk (o := ⟨none, _, _, _, _, _⟩) arr23_size rfl (.tmp 8) (.tmp 37) rfl rfl w.heap.size zeros64 rfl ?hy Z ?hg HP.out.2.2.2.2.2.2.2.2.2.2.2 rfl ?_)
             case hy => exact HZV.out
             case hg => have := H4.out.2.2.2.1.box; rw [HP.out.2.2.2.2.2.2.2.2.1, ← HP.out.2.2.2.2.2.2.2.2.2.2.1] at this; exact this
             intro w9 b9 k9
             have H9 := Lib.hid (And.intro b9 k9)
             clear b9 k9)
          | fail)
        rw [HRR.out]
        refine bodyPost_ret (v := .tuple #[blkV zeros64, .int .i64 E2]) (results_ct (fn := Tryd.f40) Tryd.results40 _ _ w.heap.size _ _ rfl rfl (loadVar_blk H9.out.1 rfl)) rfl ?_
        exact ⟨rfl, H4.out.1.kept H9.out.2 (fun e => by have := HT0.out.2.2; omega) (fun e => by have := HT0.out.2.1; omega), H4.out.2.2.2.2.trans H9.out.2 (fun i hi e => by omega)⟩
    · rw [blockF_first HD.out.2 HFF.out h0]
      clear HFF
      obtain ⟨s1, d, E⟩ := F
      dsimp only at h0 hsm HF ⊢
      have e0 : (E == 0) = false := by simpa using h0
      have e1 : (E != 0) = true := by simpa using h0
      go_enter Tryd.func40, Tryd.ntmps40
      go_wp2_with fail
      rw [← HP.out.2.2.2.2.2.2.2.2.2.1]
      refine (inRange_any w1 prev).mono ?_
      rintro e w2 ⟨rfl, rfl⟩
      rw [HD.out.1]
      go_wp2_with fail
      refine HF.out.mono ?_
      rintro e w2 ⟨rfl, hr2, k2⟩
      dsimp only at hr2 ⊢
      have hb2 := H1.out.1.kept k2 (fun e => HP.out.2.2.2.2.2.2.2.1 e.symm)
      have H2 := Lib.hid (And.intro hr2 (And.intro hb2 ((Kept.of_below H1.out.2.2.1 (fun i => i = r)).trans k2 (fun _ _ e => e))))
      clear hr2 k2 hb2
      go_wp2_with (first
        | ((with_reducible refine wpList_store_blk (o := ⟨none, _, _, _, _, _⟩) arr23_size rfl (.tmp 8) (.tmp 26) rfl rfl w.heap.size zeros64 rfl ?hy Z ?hg HP.out.2.2.2.2.2.2.2.2.2.2.2 rfl ?_)
           case hy => exact HZV.out
           case hg => have := H2.out.2.1.box; rw [HP.out.2.2.2.2.2.2.2.2.1, ← HP.out.2.2.2.2.2.2.2.2.2.2.1] at this; exact this
           intro w9 b9 k9
           have H9 := Lib.hid (And.intro b9 k9)
           clear b9 k9)
        | fail)
      refine bodyPost_ret (v := .tuple #[blkV zeros64, .int .i64 E]) (results_ct (fn := Tryd.f40) Tryd.results40 _ _ w.heap.size _ _ rfl rfl (loadVar_blk H9.out.1 rfl)) rfl ?_
      exact ⟨rfl, H2.out.1.kept H9.out.2 (fun e => by have := HT0.out.2.2; omega) (fun e => by have := HT0.out.2.1; omega), H2.out.2.2.trans H9.out.2 (fun i hi e => by omega)⟩
  · rw [blockF_prev hin]
    have hd : decide (In prev) = false := by simpa using hin
    have HD := Lib.hid hd
    clear hd hin
    go_enter Tryd.func40, Tryd.ntmps40
    go_wp2_with fail
    rw [← HP.out.2.2.2.2.2.2.2.2.2.1]
    refine (inRange_any w1 prev).mono ?_
    rintro e w2 ⟨rfl, rfl⟩
    rw [HD.out]
    go_wp2_with (first
      | ((with_reducible refine wpList_store_blk (o := ⟨none, _, _, _, _, _⟩) arr23_size rfl (.tmp 8) (.tmp 17) rfl rfl w.heap.size zeros64 rfl ?hy Z ?hg HP.out.2.2.2.2.2.2.2.2.2.2.2 rfl ?_)
         case hy => exact HZV.out
         case hg => have := H1.out.1.box; rw [HP.out.2.2.2.2.2.2.2.2.1, ← HP.out.2.2.2.2.2.2.2.2.2.2.1] at this; exact this
         intro w4 b4 k4
         have H4 := Lib.hid (And.intro b4 k4)
         clear b4 k4)
      | fail)
    refine bodyPost_ret (v := .tuple #[blkV zeros64, .int .i64 2]) (results_ct (fn := Tryd.f40) Tryd.results40 _ _ w.heap.size _ _ rfl rfl (loadVar_blk H4.out.1 rfl)) rfl ?_
    exact ⟨rfl, H1.out.2.1.kept H4.out.2 (fun e => HP.out.2.2.2.2.2.2.2.1 (by rw [e, HP.out.2.2.2.2.2.2.2.2.1])) (fun e => by have := HT0.out.2.1; omega), ((Kept.of_below H1.out.2.2.1 (fun i => i = r)).trans H4.out.2 (fun i hi e => by omega))⟩
end
end Go.Proofs.YtdnjnbfmmgkpjaaDoor

namespace Go.Proofs.YtdnjnbfmmgkpjaaDoor
open Go.RowKit

/-- at place p of the bits of F lie the bits X -/
def Lies (F : List Int) (p : Nat) (X : List Int) : Prop := p + X.length ≤ 8 * F.length ∧ ∃ S, (by8 F).drop p = X ++ S
theorem Lies.split {F : List Int} {p : Nat} {X Y : List Int} (h : Lies F p (X ++ Y)) : Lies F p X ∧ Lies F (p + X.length) Y := by
  obtain ⟨h1, S, h2⟩ := h
  rw [List.length_append] at h1
  refine ⟨⟨by omega, Y ++ S, by rw [h2, List.append_assoc]⟩, ⟨by omega, S, ?_⟩⟩
  rw [← List.drop_drop, h2, List.append_assoc, List.drop_left]
theorem Lies.at_ {F : List Int} {p : Nat} {X : List Int} (h : Lies F p X) {i : Nat} (hi : i < X.length) : (by8 F).getD (p + i) 0 = X.getD i 0 := by
  obtain ⟨_, S, h2⟩ := h
  have h3 := congrArg (fun l : List Int => l[i]?) h2
  rw [List.getElem?_drop, List.getElem?_append_left hi] at h3
  rw [List.getD_eq_getElem?_getD, List.getD_eq_getElem?_getD, h3]

theorem ext_num (z : Int) : ext (numB z) (sz z) = z := by
  have h1 := (sz_le (z := z)).1 (Nat.le_refl _)
  by_cases h0 : z = 0
  · subst h0
    have hn0 : numB 0 = 0 := by unfold numB; rw [if_neg (by omega)]; rfl
    rw [sz_zero, hn0]
    rfl
  · obtain ⟨k, hk⟩ : ∃ k, sz z = k + 1 := ⟨sz z - 1, by have : sz z ≠ 0 := fun h => h0 (sz_eq_zero.1 h); omega⟩
    have h2 : ¬ z.natAbs < 2 ^ k := fun h => by
      have := sz_le.2 h
      omega
    rw [hk] at h1 ⊢
    rw [Nat.pow_succ] at h1
    unfold ext numB
    rw [hk, Nat.pow_succ]
    by_cases hn : z < 0
    · rw [if_pos hn, if_pos (by omega)]
      omega
    · rw [if_neg hn, if_neg (by omega)]
      omega

section
variable {B V F : List Int}
theorem got_code (hv : Valid B V) (hf : Fit F) {p : Nat} {v : Int} (hen : (fnd (codes B V) v).isSome = true) (h : Lies F p (dig (codeOf (codes B V) v).1 (codeOf (codes B V) v).2)) :
    getsF (codes B V) (stuff F) 16 (stAt F p) 0 0 = (stAt F (p + (codeOf (codes B V) v).2), v, 0) := by
  obtain ⟨en, hen⟩ := Option.isSome_iff_exists.1 hen
  have hc : codeOf (codes B V) v = en.2 := by unfold codeOf; rw [hen]; rfl
  obtain ⟨hm, hn⟩ := fnd_some hen
  obtain ⟨hz1, hz16, hlt, _⟩ := hv.code hm
  rw [hc] at h ⊢
  have hb : ∀ i, i < en.2.2 → (by8 F).getD (p + i) 0 = ((en.2.1 / 2 ^ (en.2.2 - 1 - i) % 2 : Nat) : Int) := fun i hi => by
    rw [h.at_ (by rw [dig_len]; exact hi), dig_at _ _ _ hi]
  have hl := h.1
  rw [dig_len] at hl
  have hgo := gets_go (L := codes B V) (F := F) (T := []) (p := p) (b := en.2.1) (z := en.2.2) (en := en) hf hb hl (fun t ht => get_before hm ht) (get_self hm) (en.2.2 - 1) 0 16 (by omega) (by omega)
  rw [List.append_nil, Nat.add_zero, Nat.sub_zero, Nat.div_eq_of_lt (by omega)] at hgo
  rw [hgo, hn]
theorem got_num (hf : Fit F) {p : Nat} {z : Int} (hz : sz z ≤ 24) (h : Lies F p (dig (numB z) (sz z))) : numF (stuff F) (stAt F p) (sz z) = (stAt F (p + sz z), z, 0) := by
  have hl := h.1
  rw [dig_len] at hl
  have e1 : ((by8 F).drop p).take (sz z) = dig (numB z) (sz z) := by
    obtain ⟨_, S, h2⟩ := h
    rw [h2, List.take_left' (dig_len _ _)]
  have hg := goF_bits F [] hf (stAt F p) (sz z) p 0 hl
  rw [List.append_nil, e1, num_dig 0 _ _ (numB_lt z), Nat.zero_mul, Nat.zero_add] at hg
  have hgf : getF (stuff F) (stAt F p) (sz z : Int) = (stAt F (p + sz z), numB z, 0) := by
    unfold getF
    rw [if_neg (by omega), Int.toNat_natCast, hg]
  unfold numF
  rw [hgf, if_pos rfl]
  dsimp only
  rw [ext_num]
end

/-- the place of a number in the scan -/
def zi (j : Nat) : Nat := zz.findIdx (· == (j : Int))
theorem zi_zn : ∀ k, k < 64 → zi (zn k) = k := by decide +kernel
theorem zn_zi : ∀ j, j < 64 → zn (zi j) = j ∧ zi j < 64 := by decide +kernel
theorem zn_inj {k m : Nat} (hk : k < 64) (hm : m < 64) (h : zn k = zn m) : k = m := by rw [← zi_zn k hk, ← zi_zn m hm, h]

/-- c has the numbers of b at the first i places of the scan, and noughts behind -/
structure PartOf (b c : List Int) (i : Nat) : Prop where
  len : c.length = 64
  has : ∀ k, k < 64 → c.getD (zn k) 0 = if k < i then zig b k else 0
section
variable {b c : List Int} {i : Nat}
theorem PartOf.full (h : PartOf b c 64) (hb : b.length = 64) : c = b := by
  apply List.ext_getElem?
  intro j
  by_cases hj : j < 64
  · obtain ⟨h1, h2⟩ := zn_zi j hj
    have h3 := h.has (zi j) h2
    rw [if_pos h2, h1] at h3
    unfold zig at h3
    rw [h1, List.getD_eq_getElem?_getD, List.getD_eq_getElem?_getD, List.getElem?_eq_getElem (by rw [h.len]; exact hj), List.getElem?_eq_getElem (by rw [hb]; exact hj)] at h3
    rw [List.getElem?_eq_getElem (by rw [h.len]; exact hj), List.getElem?_eq_getElem (by rw [hb]; exact hj)]
    exact congrArg some h3
  · rw [List.getElem?_eq_none (by rw [h.len]; omega), List.getElem?_eq_none (by rw [hb]; omega)]
theorem PartOf.skip (h : PartOf b c i) (hz : i < 64 → zig b i = 0) : PartOf b c (i + 1) :=
  ⟨h.len, fun k hk => by
    rw [h.has k hk]
    by_cases h1 : k < i
    · rw [if_pos h1, if_pos (by omega)]
    · by_cases h2 : k = i
      · subst h2
        rw [if_neg h1, if_pos (by omega), hz hk]
      · rw [if_neg h1, if_neg (by omega)]⟩
theorem PartOf.skips (h : PartOf b c i) : ∀ r, (∀ k, i ≤ k → k < i + r → k < 64 → zig b k = 0) → PartOf b c (i + r)
  | 0, _ => h
  | r + 1, hz => (PartOf.skips h r (fun k h1 h2 h3 => hz k h1 (by omega) h3)).skip (fun h3 => hz (i + r) (by omega) (by omega) h3)
theorem PartOf.put (h : PartOf b c i) (hi : i < 64) : PartOf b (c.set (zn i) (zig b i)) (i + 1) := by
  refine ⟨by rw [List.length_set]; exact h.len, fun k hk => ?_⟩
  by_cases h2 : k = i
  · subst h2
    rw [if_pos (by omega), List.getD_eq_getElem?_getD, List.getElem?_set_self (by rw [h.len]; exact (zn_at k hk).2)]
    rfl
  · rw [List.getD_eq_getElem?_getD, List.getElem?_set_ne (fun e => h2 (zn_inj hi hk e).symm), ← List.getD_eq_getElem?_getD, h.has k hk]
    by_cases h1 : k < i
    · rw [if_pos h1, if_pos (by omega)]
    · rw [if_neg h1, if_neg (by omega)]
end

section
variable {B V F : List Int} {b : List Int}
theorem symB1 {Ld La : List En} {v : Nat} {z : Int} : symB Ld La (1, v, z) = dig (codeOf La (v : Int)).1 (codeOf La (v : Int)).2 ++ dig (numB z) (sz z) := by
  unfold symB symBits
  rw [if_neg Nat.one_ne_zero]
theorem found1 {Ld La : List En} {v : Nat} {z : Int} (h : foundS Ld La (1, v, z) = true) : (fnd La (v : Int)).isSome = true := by
  unfold foundS at h
  rw [if_neg Nat.one_ne_zero] at h
  exact h
/-- a symbol of a number: it is read, and put at its place -/
theorem one_run {Ld : List En} {c : List Int} (hv : Valid B V) (hf : Fit F) (hR : RightB b) : ∀ (q run j p : Nat) (f : Nat), run = 16 * q + run % 16 → j + run < 64 → (∀ k, j ≤ k → k < j + run → zig b k = 0) → zig b (j + run) ≠ 0 → PartOf b c j → 64 ≤ f + j →
    (runsOf run (zig b (j + run))).all (foundS Ld (codes B V)) = true → Lies F p (bitsOf Ld (codes B V) (runsOf run (zig b (j + run)))) →
    ∃ f' c', 64 ≤ f' + (j + run + 1) ∧ PartOf b c' (j + run + 1) ∧ othersG (codes B V) (stuff F) f j (stAt F p) c = othersG (codes B V) (stuff F) f' (j + run + 1) (stAt F (p + (bitsOf Ld (codes B V) (runsOf run (zig b (j + run)))).length)) c'
  | 0, run, j, p, f, hq, hj, hz, hn, hP, hfu, hall, hl => by
    obtain ⟨f, rfl⟩ : ∃ f', f = f' + 1 := ⟨f - 1, by omega⟩
    obtain ⟨z, hzz⟩ : ∃ z, z = zig b (j + run) := ⟨_, rfl⟩
    have hin : In z := by rw [hzz]; exact hR.zig hj
    have hs10 := in_size hin
    rw [← hzz] at hn hall hl ⊢
    have hs0 : sz z ≠ 0 := fun h => hn (sz_eq_zero.1 h)
    rw [runsOf_small z (by omega)] at hall hl ⊢
    have hfo := found1 (by simpa using hall)
    obtain ⟨v, hvv⟩ : ∃ v, v = 16 * run + sz z := ⟨_, rfl⟩
    have hvi : ((16 * run + sz z : Nat) : Int) = (v : Int) := by rw [hvv]
    rw [hvi] at hfo
    rw [bitsOf_cons] at hl ⊢
    have hl1 := hl.split.1
    rw [symB1] at hl1 ⊢
    rw [hvi] at hl1 ⊢
    obtain ⟨h1, h2⟩ := hl1.split
    have hg := got_code hv hf hfo h1
    rw [dig_len] at h2
    have hnum := got_num hf (by omega) h2
    have hb0 : bitsOf Ld (codes B V) [] = [] := rfl
    refine ⟨f, c.set (zn (j + run)) z, by omega, ?_, ?_⟩
    · have := hP.skips run (fun k a1 a2 _ => hz k a1 a2)
      rw [hzz]
      exact this.put hj
    · have hbad : ¬ badSym v j := by unfold badSym; omega
      rw [othersG_next (R := (stAt F (p + (codeOf (codes B V) (v : Int)).2), (v : Int), 0)) (N := (stAt F (p + (codeOf (codes B V) (v : Int)).2 + sz z), z, 0)) hg.symm (by
        dsimp only
        rw [Int.toNat_natCast, show v % 16 = sz z by omega]
        exact hnum.symm) (by omega) rfl (by dsimp only; omega) (by dsimp only; rw [Int.toNat_natCast]; exact hbad) rfl]
      dsimp only
      rw [Int.toNat_natCast, show v / 16 = run by omega, hb0, List.append_nil, List.length_append, dig_len, dig_len, Nat.add_assoc p]
  | q + 1, run, j, p, f, hq, hj, hz, hn, hP, hfu, hall, hl => by
    obtain ⟨f, rfl⟩ : ∃ f', f = f' + 1 := ⟨f - 1, by omega⟩
    rw [runsOf_big (zig b (j + run)) (by omega)] at hall hl ⊢
    rw [List.all_cons, Bool.and_eq_true] at hall
    have hfo := found1 hall.1
    rw [bitsOf_cons] at hl ⊢
    obtain ⟨hl1, hl2⟩ := hl.split
    rw [symB1, sz_zero] at hl1 hl2 ⊢
    obtain ⟨h1, _⟩ := hl1.split
    have hg := got_code hv hf hfo h1
    have hd0 : ∀ x, dig x 0 = [] := fun x => rfl
    rw [hd0, List.append_nil] at hl2 ⊢
    rw [dig_len] at hl2
    have hnum : numF (stuff F) (stAt F (p + (codeOf (codes B V) ((240 : Nat) : Int)).2)) 0 = (stAt F (p + (codeOf (codes B V) ((240 : Nat) : Int)).2), 0, 0) := rfl
    have e16 : j + 16 + (run - 16) = j + run := by omega
    have hbad : ¬ badSym 240 j := by unfold badSym; omega
    have hc15 : c.set (zn (j + 15)) 0 = c := by
      have h3 := hP.has (j + 15) (by omega)
      rw [if_neg (by omega)] at h3
      apply List.ext_getElem?
      intro m
      by_cases hm : zn (j + 15) = m
      · have hml : m < c.length := by rw [hP.len, ← hm]; exact (zn_at _ (by omega)).2
        rw [hm] at h3
        rw [hm, List.getElem?_set_self hml]
        rw [List.getD_eq_getElem?_getD, List.getElem?_eq_getElem hml] at h3
        rw [List.getElem?_eq_getElem hml]
        exact congrArg some h3.symm
      · rw [List.getElem?_set_ne hm]
    have hP16 := hP.skips 16 (fun k a1 a2 _ => hz k a1 (by omega))
    obtain ⟨f', c', g1, g2, g3⟩ := one_run (Ld := Ld) hv hf hR q (run - 16) (j + 16) (p + (codeOf (codes B V) ((240 : Nat) : Int)).2) f (by omega) (by omega) (fun k a1 a2 => hz k (by omega) (by omega)) (by rw [e16]; exact hn) hP16 (by omega) (by rw [e16]; exact hall.2) (by rw [e16]; exact hl2)
    rw [e16] at g1 g2 g3
    refine ⟨f', c', g1, g2, ?_⟩
    rw [othersG_next (R := (stAt F (p + (codeOf (codes B V) ((240 : Nat) : Int)).2), ((240 : Nat) : Int), 0)) (N := (stAt F (p + (codeOf (codes B V) ((240 : Nat) : Int)).2), 0, 0)) hg.symm (by
      dsimp only
      rw [Int.toNat_natCast]
      exact hnum.symm) (by omega) rfl (by dsimp only; omega) (by dsimp only; rw [Int.toNat_natCast]; exact hbad) rfl]
    dsimp only
    rw [Int.toNat_natCast, show 240 / 16 = 15 by decide, hc15, List.length_append, dig_len, ← Nat.add_assoc p, ← g3]

/-- the numbers behind the first -/
theorem others_back {Ld : List En} (hv : Valid B V) (hf : Fit F) (hR : RightB b) (hb : b.length = 64) : ∀ (n i run p f : Nat) (c : List Int), i + n = 64 → run ≤ i → (∀ k, i - run ≤ k → k < i → zig b k = 0) → PartOf b c (i - run) → 64 ≤ f + (i - run) →
    (symsF b n i run).all (foundS Ld (codes B V)) = true → Lies F p (bitsOf Ld (codes B V) (symsF b n i run)) →
    othersG (codes B V) (stuff F) f (i - run) (stAt F p) c = (stAt F (p + (bitsOf Ld (codes B V) (symsF b n i run)).length), b, 0)
  | 0, i, run, p, f, c, hi, hr, hz, hP, hfu, hall, hl => by
    have hfull : c = b := by
      have := hP.skips run (fun k a1 a2 _ => hz k a1 (by omega))
      rw [show i - run + run = 64 by omega] at this
      exact this.full hb
    rw [symsF_nil] at hall hl ⊢
    by_cases h0 : 0 < run
    · rw [if_pos h0] at hall hl ⊢
      obtain ⟨f, rfl⟩ : ∃ f', f = f' + 1 := ⟨f - 1, by omega⟩
      have hfo := found1 (by simpa using hall)
      rw [bitsOf_cons] at hl ⊢
      have hl1 := hl.split.1
      have hb0 : bitsOf Ld (codes B V) [] = [] := rfl
      have hd0 : ∀ x, dig x 0 = [] := fun x => rfl
      rw [symB1, sz_zero, hd0, List.append_nil] at hl1
      rw [symB1, sz_zero, hd0, List.append_nil, hb0, List.append_nil, dig_len]
      have hg := got_code hv hf hfo hl1
      rw [othersG_stop (R := (stAt F (p + (codeOf (codes B V) ((0 : Nat) : Int)).2), ((0 : Nat) : Int), 0)) hg.symm (by omega) rfl rfl, hfull]
    · rw [if_neg h0]
      rw [othersG_end (by omega), hfull]
      rfl
  | n + 1, i, run, p, f, c, hi, hr, hz, hP, hfu, hall, hl => by
    by_cases h0 : zig b i = 0
    · rw [symsF_zero h0] at hall hl ⊢
      have := others_back (Ld := Ld) hv hf hR hb n (i + 1) (run + 1) p f c (by omega) (by omega) (fun k a1 a2 => by
        by_cases hk : k = i
        · rw [hk]; exact h0
        · exact hz k (by omega) (by omega)) (by rw [Nat.add_sub_add_right]; exact hP) (by omega) hall hl
      rw [Nat.add_sub_add_right] at this
      exact this
    · rw [symsF_some h0] at hall hl ⊢
      rw [List.all_append, Bool.and_eq_true] at hall
      have hba : ∀ x y, bitsOf Ld (codes B V) (x ++ y) = bitsOf Ld (codes B V) x ++ bitsOf Ld (codes B V) y := fun x y => by simp [bitsOf]
      rw [hba] at hl ⊢
      obtain ⟨hl1, hl2⟩ := hl.split
      have ei : i - run + run = i := by omega
      obtain ⟨f', c', g1, g2, g3⟩ := one_run (Ld := Ld) (c := c) hv hf hR (run / 16) run (i - run) p f (by omega) (by omega) (fun k a1 a2 => hz k a1 (by omega)) (by rw [ei]; exact h0) hP hfu (by rw [ei]; exact hall.1) (by rw [ei]; exact hl1)
      rw [ei] at g1 g2 g3
      rw [g3, List.length_append, ← Nat.add_assoc p]
      exact others_back (Ld := Ld) hv hf hR hb n (i + 1) 0 _ f' c' (by omega) (by omega) (fun k a1 a2 => by omega) g2 g1 hall.2 hl2
end

/-- a block that was put is got -/
theorem block_back {B V B' V' F b : List Int} {prev : Int} {p : Nat} (hv : Valid B V) (hv' : Valid B' V') (hf : Fit F) (hb : b.length = 64) (h : putBE (codes B V) (codes B' V') prev b = 0) (hl : Lies F p (bitsOf (codes B V) (codes B' V') (allS prev b))) :
    blockF (codes B V) (codes B' V') (stuff F) (stAt F p) prev = (stAt F (p + (bitsOf (codes B V) (codes B' V') (allS prev b)).length), b, 0) := by
  obtain ⟨hin, hR, hall⟩ : In prev ∧ RightB b ∧ (allS prev b).all (foundS (codes B V) (codes B' V')) = true := by
    unfold putBE at h
    split at h
    · next h1 =>
      split at h
      · next h2 => exact ⟨h1.1, h1.2, h2⟩
      · cases h
    · cases h
  obtain ⟨d, hd⟩ : ∃ d, d = b.getD 0 0 - prev := ⟨_, rfl⟩
  have hsd := diff_size (diff_small hR hin)
  rw [← hd] at hsd
  have hS : allS prev b = (0, sz d, d) :: symsF b 63 1 0 := by rw [hd]; rfl
  rw [hS] at hall hl ⊢
  rw [List.all_cons, Bool.and_eq_true] at hall
  have hfo : (fnd (codes B V) ((sz d : Nat) : Int)).isSome = true := by
    have := hall.1
    unfold foundS at this
    rw [if_pos rfl] at this
    exact this
  rw [bitsOf_cons] at hl ⊢
  obtain ⟨hl1, hl2⟩ := hl.split
  have hsb : symB (codes B V) (codes B' V') (0, sz d, d) = dig (codeOf (codes B V) ((sz d : Nat) : Int)).1 (codeOf (codes B V) ((sz d : Nat) : Int)).2 ++ dig (numB d) (sz d) := by
    unfold symB symBits
    rw [if_pos rfl]
  rw [hsb] at hl1 hl2 ⊢
  obtain ⟨h1, h2⟩ := hl1.split
  have hg := got_code hv hf hfo h1
  rw [dig_len] at h2
  have hnum := got_num hf (by omega) h2
  rw [List.length_append, dig_len, dig_len] at hl2
  have hF : (stAt F (p + ((codeOf (codes B V) ((sz d : Nat) : Int)).2 + sz d)), d, 0) = firstF (codes B V) (stuff F) (stAt F p) := by
    unfold firstF
    rw [hg]
    dsimp only
    rw [if_pos rfl, if_neg (by omega), Int.toNat_natCast, hnum, Nat.add_assoc]
  have hP : PartOf b ((prev + d) :: List.replicate 63 0) 1 := by
    refine ⟨by simp, fun k hk => ?_⟩
    by_cases h0 : k = 0
    · subst h0
      have e0 : zn 0 = 0 := by decide
      unfold zig
      rw [if_pos (by omega), e0, hd]
      show prev + (b.getD 0 0 - prev) = _
      omega
    · have hz : zn k ≠ 0 := fun e => h0 (zn_inj hk (by omega) (by rw [e]; decide))
      obtain ⟨m, hm⟩ : ∃ m, zn k = m + 1 := ⟨zn k - 1, by omega⟩
      have hml := (zn_at k hk).2
      rw [if_neg (by omega), hm, List.getD_eq_getElem?_getD, List.getElem?_cons_succ, List.getElem?_replicate_of_lt (by omega)]
      rfl
  have hO := others_back (Ld := codes B V) hv' hf hR hb 63 1 0 (p + ((codeOf (codes B V) ((sz d : Nat) : Int)).2 + sz d)) 63 ((prev + d) :: List.replicate 63 0) (by omega) (by omega) (fun k a1 a2 => by omega) hP (by omega) hall.2 hl2
  have hD := blockF_done (F := (stAt F (p + ((codeOf (codes B V) ((sz d : Nat) : Int)).2 + sz d)), d, 0)) (O := (stAt F (p + ((codeOf (codes B V) ((sz d : Nat) : Int)).2 + sz d) + (bitsOf (codes B V) (codes B' V') (symsF b 63 1 0)).length), b, 0)) hin hF rfl hO.symm rfl hR
  rw [hD, List.length_append, List.length_append, dig_len, dig_len, Nat.add_assoc p]
end Go.Proofs.YtdnjnbfmmgkpjaaDoor

namespace Go.Proofs.YtdnjnbfmmgkpjaaDoor
open Go.RowKit

/-- what Put tells -/
def PutTX (w : World) (d : Nat) (L : List En) (v : Int) (bs : List Int) (e : Ending) (w' : World) : Prop :=
  e = .returned (.int .i64 (if (fnd L v).isSome then 0 else 6)) ∧ Wx w' d (bs ++ dig (codeOf L v).1 (codeOf L v).2) ∧ Kept (fun i => i = d) w w'

set_option maxHeartbeats 800000 in
theorem putTX_any (w : World) (lo hi t d : Nat) (B V bs : List Int) (v : Int) (h : Tb w lo hi t B V (codes B V)) (hv : Valid B V) (hw : Wx w d bs) (hl : bs.length ≤ 159900) :
    Calls Tryd.prog 77 #[.pointer (some ⟨t, 0, none⟩), .pointer (some ⟨d, 0, none⟩), .int .i64 v] w (PutTX w d (codes B V) v bs) := by
  unfold PutTX
  obtain ⟨L, hL⟩ : ∃ L, L = codes B V := ⟨_, rfl⟩
  have hcode := code_any w lo hi t B V L v (by rw [hL]; exact h) (by rw [hL]; exact valid_vals hv)
  rw [← hL]
  cases ho : fnd L v with
  | none =>
    have hc : codeOf L v = (0, 0) := by unfold codeOf; rw [ho]; rfl
    rw [hc] at hcode ⊢
    have HC := Lib.hid hcode
    have HW := Lib.hid hw
    clear h hL hcode hw hl hv ho hc
    go_enter Tryd.func77, Tryd.ntmps77
    go_wp2_with fail
    refine HC.out.mono ?_
    rintro e w1 ⟨rfl, b1⟩
    have H1 := Lib.hid b1
    clear b1
    go_wp2
    go_ret
    exact ⟨rfl, by simpa [dig] using HW.out.on H1.out, Kept.of_below H1.out _⟩
  | some en =>
    have hc : codeOf L v = en.2 := by unfold codeOf; rw [ho]; rfl
    have hm := may_code hv (en := en) (by rw [← hL]; exact (fnd_some ho).1)
    have hz : 1 ≤ en.2.2 := (hv.code (by rw [← hL]; exact (fnd_some ho).1)).1
    rw [hc] at hcode ⊢
    have HC := Lib.hid hcode
    have HW := Lib.hid hw
    have HM := Lib.hid (And.intro hm hl)
    obtain ⟨z, x, y⟩ := en
    dsimp only at hz
    have hpos : 0 < y := hz
    clear h hL hcode hw hl hv ho hc hm hz
    go_enter Tryd.func77, Tryd.ntmps77
    go_wp2_with fail
    refine HC.out.mono ?_
    rintro e w1 ⟨rfl, b1⟩
    have H1 := Lib.hid b1
    clear b1
    go_wp2_with fail
    refine (putX_any w1 d bs (x : Int) (y : Int) (HW.out.on H1.out) HM.out.2).mono ?_
    rintro e w2 ⟨rfl, hw2, k2⟩
    have H2 := Lib.hid (And.intro hw2 k2)
    clear hw2 k2
    go_wp2
    go_ret
    have h2 := H2.out.1
    rw [putL, if_pos HM.out.1, Int.toNat_natCast, Int.toNat_natCast] at h2
    refine ⟨?_, h2, (Kept.of_below H1.out _).trans H2.out.2 (fun _ _ e => e)⟩
    rw [putE, if_pos HM.out.1]
    rfl

/-- what a symbol's put tells -/
def SymPutX (w : World) (d : Nat) (L : List En) (s : Sym) (bs : List Int) (e : Ending) (w' : World) : Prop :=
  e = .returned (.int .i64 0) ∧ Wx w' d (bs ++ symBits L s) ∧ Kept (fun i => i = d) w w'
set_option maxRecDepth 10000 in
set_option maxHeartbeats 1600000 in
theorem symPutX_any (w : World) (lo hi t d : Nat) (B V bs : List Int) (s : Sym) (h : Tb w lo hi t B V (codes B V)) (hv : Valid B V) (hw : Wx w d bs) (hl : bs.length ≤ 159800) (hs : s.2.2.natAbs ≤ 2046) (hf : (fnd (codes B V) (s.2.1 : Int)).isSome = true) :
    Calls Tryd.prog 56 #[symV s, .pointer (some ⟨d, 0, none⟩), .pointer (some ⟨t, 0, none⟩)] w (SymPutX w d (codes B V) s bs) := by
  unfold SymPutX symBits
  obtain ⟨tt, v, z⟩ := s
  dsimp only at hs hf ⊢
  have hsz := diff_size hs
  have hcl := code_len hv (v : Int)
  have hmay := may_num z (by omega)
  obtain ⟨w1, hw1⟩ : ∃ w1, w1 = w.alloc (.cells #[.int .i64 (tt : Int), .int .i64 (v : Int), .int .i64 z] 123) := ⟨_, rfl⟩
  have bel : Below w.heap.size w w1 := by rw [hw1]; exact on_alloc _ _
  have hb : Box w1 w.heap.size 123 #[.int .i64 (tt : Int), .int .i64 (v : Int), .int .i64 z] := by rw [hw1]; exact Box.made _ _ _
  have HP := Lib.hid (putTX_any w1 lo hi t d B V bs (v : Int) (h.on bel) hv (hw.on bel) (by omega))
  unfold PutTX at HP
  rw [if_pos hf] at HP
  obtain ⟨cb, hcb⟩ : ∃ cb, cb = bs ++ dig (codeOf (codes B V) v).1 (codeOf (codes B V) v).2 := ⟨_, rfl⟩
  have hcbl : cb.length ≤ 159900 := by rw [hcb, List.length_append, dig_len]; omega
  rw [← hcb] at HP
  have hz1 : isInt z := by unfold isInt; omega
  have hzlo : -2046 ≤ z ∧ z ≤ 2046 := by omega
  obtain ⟨y, hy⟩ : ∃ y, y = sz z := ⟨_, rfl⟩
  obtain ⟨x, hx⟩ : ∃ x, x = numB z := ⟨_, rfl⟩
  have hpos : ¬ z < 0 → z = (x : Int) := by rw [hx]; unfold numB; intro h; rw [if_neg h]; omega
  obtain ⟨q, hq⟩ : ∃ q : Nat, q = 2 ^ y := ⟨_, rfl⟩
  have hneg : z < 0 → z + ((q : Int) - 1) = (x : Int) := by
    intro h
    have h1 := (sz_le (z := z)).1 (Nat.le_refl _)
    rw [hx, hq, hy]
    unfold numB
    rw [if_pos h]
    omega
  rw [← List.append_assoc, ← hcb]
  rw [← hy] at hsz hmay ⊢
  rw [← hx] at hmay ⊢
  have hq1 : q ≤ 2048 := by rw [hq]; exact Nat.le_trans (Nat.pow_le_pow_right (by omega) hsz) (by decide)
  have hq2 : (2 : Int) ^ y = (q : Int) := by rw [hq]; simp
  have HW := Lib.hid (And.intro hb (And.intro bel (And.intro hw1 (And.intro hcbl (And.intro hz1 (And.intro hmay (And.intro hy hw.lt)))))))
  have HX := Lib.hid (And.intro hpos hneg)
  have c1 : (w.alloc (.cells #[.int .i64 (tt : Int), .int .i64 (v : Int), .int .i64 z] 123)).cell? ⟨w.heap.size, 1, none⟩ = some (.int .i64 (v : Int)) := by rw [← hw1]; exact hb.cell 1
  have hsv : symV (tt, v, z) = .agg #[.int .i64 (tt : Int), .int .i64 (v : Int), .int .i64 z] := rfl
  rw [hsv]
  clear hb bel hw1 hcbl hz1 hmay hy hx hq hcb hpos hneg h hv hw hl hs hf hcl hsv
  go_enter Tryd.func56, Tryd.ntmps56
  go_wp2_with fail
  rw [← HW.out.2.2.1]
  refine HP.out.mono ?_
  rintro e w2 ⟨rfl, hw2, k2⟩
  have H2 := Lib.hid (And.intro hw2 (And.intro k2 (k2.box HW.out.1 (by have := HW.out.2.2.2.2.2.2.2; omega))))
  clear hw2 k2 c1
  go_wp2_with fail
  have HC := Lib.hid (show w2.cell? ⟨w.heap.size, 2, none⟩ = some (.int .i64 z) from H2.out.2.2.cell 2)
  refine wp_region_held_drew (S := fun w' => w' = w2.drew) (by kernel_rfl) rfl fun q0 => ?_
  refine take_to (i := 0) (v := .pointer (some ⟨w.heap.size, 2, none⟩)) rfl (by kernel_rfl) (by kernel_rfl) (by kernel_rfl) (fun _ _ _ h => h) (Or.inl ⟨by rfl, fun w' hS => by go_simp⟩) q0 (some 18) rfl ?_
  try simp only [Act.put, List.setIfInBounds_toArray, List.set_cons_zero, List.set_cons_succ]
  refine take_to (i := 1) (v := .int .i64 z) rfl (by kernel_rfl) (by kernel_rfl) (by kernel_rfl) (fun _ _ _ h => h) (Or.inl ⟨by rfl, fun w' hS => by have := HC.out; go_simp⟩) q0 (some 19) rfl ?_
  try simp only [Act.put, List.setIfInBounds_toArray, List.set_cons_zero, List.set_cons_succ]
  refine take_to (i := 2) (v := .pointer (some ⟨w.heap.size, 2, none⟩)) rfl (by kernel_rfl) (by kernel_rfl) (by kernel_rfl) (fun _ _ _ h => h) (Or.inl ⟨by rfl, fun w' hS => by go_simp⟩) q0 (some 20) rfl ?_
  try simp only [Act.put, List.setIfInBounds_toArray, List.set_cons_zero, List.set_cons_succ]
  refine take_to (i := 3) (v := .int .i64 z) rfl (by kernel_rfl) (by kernel_rfl) (by kernel_rfl) (fun _ _ _ h => h) (Or.inl ⟨by rfl, fun w' hS => by have := HC.out; go_simp⟩) q0 (some 21) rfl ?_
  try simp only [Act.put, List.setIfInBounds_toArray, List.set_cons_zero, List.set_cons_succ]
  refine wpAnyH_ready (rs := [4]) (by kernel_rfl) (by simp) ?_
  refine AllReadyH.cons rfl (fun K hK => ?_) AllReadyH.nil
  go_simp
  refine (size_any _ z HW.out.2.2.2.2.1).mono ?_
  rintro e w3 ⟨rfl, rfl⟩
  rw [← HW.out.2.2.2.2.2.2.1]
  refine hK.out _ _ rfl fun q1 => ?_
  clear hK K
  try simp only [Act.put, List.setIfInBounds_toArray, List.set_cons_zero, List.set_cons_succ]
  refine take_to (i := 5) (v := .int .i64 z) rfl (by kernel_rfl) (by kernel_rfl) (by kernel_rfl) (fun _ _ _ h => h) (Or.inl ⟨by rfl, fun w' hS => by go_simp⟩) q1 (some 8) rfl ?_
  try simp only [Act.put, List.setIfInBounds_toArray, List.set_cons_zero, List.set_cons_succ]
  refine take_to (i := 6) (v := .int .i64 (y : Int)) rfl (by kernel_rfl) (by kernel_rfl) (by kernel_rfl) (fun _ _ _ h => h) (Or.inl ⟨by rfl, fun w' hS => by go_simp⟩) q1 (some 9) rfl ?_
  try simp only [Act.put, List.setIfInBounds_toArray, List.set_cons_zero, List.set_cons_succ]
  refine wpAnyH_done (by kernel_rfl) ?_ _
  clear q0 q1
  have HW2 := Lib.hid (And.intro (H2.out.1.on (on_drew w2)) (H2.out.2.1.trans (Kept.of_below (on_drew w2) (fun _ => False)) (fun _ _ h => h.elim)))
  obtain ⟨w4, hw4⟩ : ∃ w4, w4 = w2.drew := ⟨_, rfl⟩
  rw [← hw4] at HW2 ⊢
  clear hw4 HC
  by_cases hn : z < 0
  · have hxz := HX.out.2 hn
    go_wp2_with fail
    refine (putX_any w4 d cb (x : Int) (y : Int) HW2.out.1 HW.out.2.2.2.1).mono ?_
    rintro e w5 ⟨rfl, hw5, k5⟩
    have H5 := Lib.hid (And.intro hw5 k5)
    clear hw5 k5
    go_wp2
    go_ret
    have h5 := H5.out.1
    rw [putL, if_pos HW.out.2.2.2.2.2.1, Int.toNat_natCast, Int.toNat_natCast] at h5
    refine ⟨?_, h5, ((Kept.of_below HW.out.2.1 (fun i => i = d)).trans (HW2.out.2.trans H5.out.2 (fun _ _ e => e)) (fun _ _ e => e))⟩
    rw [putE, if_pos HW.out.2.2.2.2.2.1]
    rfl
  · have hxz := HX.out.1 (by omega)
    clear HX
    subst hxz
    go_wp2_with fail
    refine (putX_any w4 d cb (x : Int) (y : Int) HW2.out.1 HW.out.2.2.2.1).mono ?_
    rintro e w5 ⟨rfl, hw5, k5⟩
    have H5 := Lib.hid (And.intro hw5 k5)
    clear hw5 k5
    go_wp2
    go_ret
    have h5 := H5.out.1
    rw [putL, if_pos HW.out.2.2.2.2.2.1, Int.toNat_natCast, Int.toNat_natCast] at h5
    refine ⟨?_, h5, ((Kept.of_below HW.out.2.1 (fun i => i = d)).trans (HW2.out.2.trans H5.out.2 (fun _ _ e => e)) (fun _ _ e => e))⟩
    rw [putE, if_pos HW.out.2.2.2.2.2.1]
    rfl

section
variable (w : World) (g13 g5 g11 lo hi t d : Nat) (B V bs : List Int) (s : Sym)
set_option maxRecDepth 10000 in
set_option maxHeartbeats 1600000 in
theorem put2X_any (h : Tb w lo hi t B V (codes B V)) (hv : Valid B V) (hw : Wx w d bs) (hl : bs.length ≤ 159800) (hn : s.2.2.natAbs ≤ 2046) (hf : (fnd (codes B V) (s.2.1 : Int)).isSome = true) (h13 : Box w g13 42 #[.int .i64 0])
    (h5 : w.cell? ⟨g5, 0, none⟩ = some (.pointer (some ⟨d, 0, none⟩))) (h11 : w.cell? ⟨g11, s.1, none⟩ = some (.pointer (some ⟨t, 0, none⟩))) (hs : s.1 < 2) (hd5 : d ≠ g5) (hd11 : d ≠ g11) (h135 : g13 ≠ g5) (h1311 : g13 ≠ g11) :
    Calls Tryd.prog 55 #[symV s, .pointer (some ⟨g13, 0, none⟩), .pointer (some ⟨g5, 0, none⟩), .pointer (some ⟨g11, 0, none⟩)] w fun e w' => e = .returned (.tuple #[]) ∧ (Box w' g13 42 #[.int .i64 0] ∧ Wx w' d (bs ++ symBits (codes B V) s)) ∧ Kept (fun i => i = d ∨ i = g13) w w' := by
  have hg11 : g11 < w.heap.size := World.block_lt_of_cell? w _ h11
  have hg5 : g5 < w.heap.size := World.block_lt_of_cell? w _ h5
  obtain ⟨cs, hcs⟩ : ∃ cs : Array Value, cs = #[.int .i64 (s.1 : Int), .int .i64 (s.2.1 : Int), .int .i64 s.2.2] := ⟨_, rfl⟩
  have hsv : symV s = .agg cs := by rw [hcs]; rfl
  have hcs3 : cs.size = 3 := by rw [hcs]; rfl
  obtain ⟨w1, hw1⟩ : ∃ w1, w1 = w.alloc (.cells cs 123) := ⟨_, rfl⟩
  have bel : Below w.heap.size w w1 := by rw [hw1]; exact on_alloc _ _
  have hb : Box w1 w.heap.size 123 cs := by rw [hw1]; exact Box.made _ _ _
  have hdw : d ≠ w.heap.size := by have := hw.lt; omega
  have h13w : g13 ≠ w.heap.size := by have := h13.lt; omega
  have hd13 : d ≠ g13 := by
    obtain ⟨_, hbd⟩ := hw.box
    exact hbd.apart h13 (by decide)
  have HF := Lib.hid (fun w' (k : Kept (fun i => i = d ∨ i = g13) w1 w') => (show Box w' w.heap.size 123 cs ∧ w'.cell? ⟨w.heap.size, 0, none⟩ = some (.int .i64 (s.1 : Int)) ∧ w'.cell? ⟨g5, 0, none⟩ = some (.pointer (some ⟨d, 0, none⟩)) ∧ w'.cell? ⟨g11, s.1, none⟩ = some (.pointer (some ⟨t, 0, none⟩)) from by
    have hb' := k.box hb (by omega)
    refine ⟨hb', by rw [hb'.cell 0, hcs]; rfl, ?_, ?_⟩
    · exact ((k.cell (p := ⟨g5, 0, none⟩) (Nat.lt_of_lt_of_le hg5 bel.size) (fun h => h.elim (fun e => hd5 e.symm) (fun e => h135 e.symm))).trans (bel.cell (p := ⟨g5, 0, none⟩) hg5)).trans h5
    · exact ((k.cell (p := ⟨g11, s.1, none⟩) (Nat.lt_of_lt_of_le hg11 bel.size) (fun h => h.elim (fun e => hd11 e.symm) (fun e => h1311 e.symm))).trans (bel.cell (p := ⟨g11, s.1, none⟩) hg11)).trans h11))
  have HC := Lib.hid (fun w' (b : Below w1.heap.size w1 w') => symPutX_any w' lo hi t d B V bs s ((h.on bel).on b) hv ((hw.on bel).on b) hl hn hf)
  rw [hsv] at HC ⊢
  have c0 : (w.alloc (.cells cs 123)).cell? ⟨g13, 0, none⟩ = some (.int .i64 0) := by rw [← hw1]; exact (h13.on bel).cell 0
  have H1 := Lib.hid (And.intro bel (And.intro hw1 (And.intro (h13.on bel) (And.intro hd13 hcs3))))
  obtain ⟨tt, htt⟩ : ∃ tt, tt = s.1 := ⟨_, rfl⟩
  rw [← htt] at HF hs
  have hti : (tt : Int) < 2 := by omega
  clear hg11 hg5 hsv bel hb hdw h13w h hv hw hl hn hf h13 h5 h11 hs hd5 hd11 h135 h1311 hcs hcs3 hw1 hd13 htt
  go_enter Tryd.func55, Tryd.ntmps55
  go_wp2_with fail
  rw [← H1.out.2.1]
  have q0 : Hid (Kept (fun i => i = d ∨ i = g13) w1 w1.drew) := Lib.hid (Kept.of_below (on_drew w1) _)
  refine wp_region_held_drew (S := fun w' => Hid (Kept (fun i => i = d ∨ i = g13) w1 w')) (by kernel_rfl) q0 fun q0 => ?_
  refine take_to (i := 0) (v := .agg cs) rfl (by kernel_rfl) (by kernel_rfl) (by kernel_rfl) (fun _ _ _ h => h) (yieldsIf_load7 (by rfl) 123 (.tmp 4) rfl (.pointer (some ⟨w.heap.size, 0, none⟩)) rfl (.agg cs) (fun w' h => load74 (HF.out w' h.out).1 H1.out.2.2.2.2)) q0 (some 7) rfl ?_
  try simp only [Act.put, List.setIfInBounds_toArray, List.set_cons_zero, List.set_cons_succ]
  refine take_to (i := 1) (v := .pointer (some ⟨d, 0, none⟩)) rfl (by kernel_rfl) (by kernel_rfl) (by kernel_rfl) (fun _ _ _ h => h) (Or.inl ⟨by rfl, fun w' hS => by have := (HF.out w' hS.out).2.2.1; go_simp⟩) q0 (some 8) rfl ?_
  try simp only [Act.put, List.setIfInBounds_toArray, List.set_cons_zero, List.set_cons_succ]
  refine take_to (i := 2) (v := .pointer (some ⟨w.heap.size, 0, none⟩)) rfl (by kernel_rfl) (by kernel_rfl) (by kernel_rfl) (fun _ _ _ h => h) (Or.inl ⟨by rfl, fun w' hS => by go_simp⟩) q0 (some 9) rfl ?_
  try simp only [Act.put, List.setIfInBounds_toArray, List.set_cons_zero, List.set_cons_succ]
  refine take_to (i := 3) (v := .int .i64 (tt : Int)) rfl (by kernel_rfl) (by kernel_rfl) (by kernel_rfl) (fun _ _ _ h => h) (Or.inl ⟨by rfl, fun w' hS => by have := (HF.out w' hS.out).2.1; go_simp⟩) q0 (some 10) rfl ?_
  try simp only [Act.put, List.setIfInBounds_toArray, List.set_cons_zero, List.set_cons_succ]
  refine take_to (i := 4) (v := .pointer (some ⟨g11, tt, none⟩)) rfl (by kernel_rfl) (by kernel_rfl) (by kernel_rfl) (fun _ _ _ h => h) (Or.inl ⟨by rfl, fun w' hS => by go_simp⟩) q0 (some 11) rfl ?_
  try simp only [Act.put, List.setIfInBounds_toArray, List.set_cons_zero, List.set_cons_succ]
  refine take_to (i := 5) (v := .pointer (some ⟨t, 0, none⟩)) rfl (by kernel_rfl) (by kernel_rfl) (by kernel_rfl) (fun _ _ _ h => h) (Or.inl ⟨by rfl, fun w' hS => by have := (HF.out w' hS.out).2.2.2; go_simp⟩) q0 (some 12) rfl ?_
  try simp only [Act.put, List.setIfInBounds_toArray, List.set_cons_zero, List.set_cons_succ]
  refine wpAnyH_ready (rs := [6]) (by kernel_rfl) (by simp) ?_
  refine AllReadyH.cons rfl (fun K hK => ?_) AllReadyH.nil
  go_simp
  refine (HC.out _ (on_drew w1)).mono ?_
  rintro e w3 ⟨rfl, hw3, k3⟩
  have H3 := Lib.hid (And.intro hw3 (And.intro ((Kept.of_below (on_drew w1) (fun i => i = d)).trans k3 (fun _ _ h => h)) (k3.box (H1.out.2.2.1.on (on_drew w1)) (fun e => H1.out.2.2.2.1 e.symm))))
  have q1 : Hid (Kept (fun i => i = d ∨ i = g13) w1 w3) := Lib.hid (H3.out.2.1.mono (fun i _ h => Or.inl h))
  clear hw3 k3
  refine hK.out _ _ q1 fun _ => ?_
  clear hK K
  try simp only [Act.put, List.setIfInBounds_toArray, List.set_cons_zero, List.set_cons_succ]
  refine wpAnyH_ready (rs := [7]) (by kernel_rfl) (by simp) ?_
  refine AllReadyH.cons rfl (fun K hK => ?_) AllReadyH.nil
  have f0 := H3.out.2.2.free 0
  have c3 : w3.cell? ⟨g13, 0, none⟩ = some (.int .i64 0) := H3.out.2.2.cell 0
  rw [if_pos (by rfl)]
  go_simp
  have kk : Kept (fun i => i = g13) w3 (w3.setCell ⟨g13, 0, none⟩ (.int .i64 0)) := (Kept.refl (fun i => i = g13) w3).setCell (p := ⟨g13, 0, none⟩) (fun _ => rfl) _
  have H4 := Lib.hid (And.intro (H3.out.2.2.put 0 (.int .i64 0)) (And.intro (H3.out.1.kept kk H1.out.2.2.2.1 (fun i cs e h => by
  have e : i = g13 := e
  subst e
  have hbb : w3.heap[i]? = some (.cells #[.int .i64 0] 42 (0, 0)) := H3.out.2.2
  rw [hbb] at h
  simp at h)) ((Kept.of_below H1.out.1 (fun i => i = d ∨ i = g13)).trans (q1.out.trans (kk.mono (fun i _ h => Or.inr h)) (fun _ _ h => h)) (fun _ _ h => h))))
  have q2 : Hid (Kept (fun i => i = d ∨ i = g13) w1 (w3.setCell ⟨g13, 0, none⟩ (.int .i64 0))) := Lib.hid (q1.out.trans (kk.mono (fun i _ h => Or.inr h)) (fun _ _ h => h))
  clear kk
  refine hK.out _ _ q2 fun _ => ?_
  clear hK K
  try simp only [Act.put, List.setIfInBounds_toArray, List.set_cons_zero, List.set_cons_succ]
  refine wpAnyH_done (by kernel_rfl) ?_ _
  go_wp2
  go_end0
  exact ⟨rfl, ⟨H4.out.1, H4.out.2.1⟩, H4.out.2.2⟩
end

section
variable {w : World} {g11 g12 g13 g5 d lo hi t lo' hi' t' : Nat} {B V B' V' bs : List Int} {s : Sym} {f : Bool}
theorem twoX_step (h : TwoT w g11 lo hi t lo' hi' t' B V B' V') (hv : Valid B V) (hv' : Valid B' V') (hs : SymOk s) (hf : foundS (codes B V) (codes B' V') s = true) (hw : Wx w d bs) (hl : bs.length ≤ 159800) (h13 : Box w g13 42 #[.int .i64 0])
    (h5 : w.cell? ⟨g5, 0, none⟩ = some (.pointer (some ⟨d, 0, none⟩))) (hd5 : d ≠ g5) (hd11 : d ≠ g11) (h135 : g13 ≠ g5) (h1311 : g13 ≠ g11) (h2 : g13 < lo ∨ hi ≤ g13) (h3 : g13 < lo' ∨ hi' ≤ g13) (hd2 : d < lo ∨ hi ≤ d) (hd3 : d < lo' ∨ hi' ≤ d) :
    Calls Tryd.prog 55 (#[symV s] ++ #[.pointer (some ⟨g13, 0, none⟩), .pointer (some ⟨g5, 0, none⟩), .pointer (some ⟨g11, 0, none⟩)]) w fun e w' => e = .returned (.tuple #[]) ∧ (TwoT w' g11 lo hi t lo' hi' t' B V B' V' ∧ Box w' g13 42 #[.int .i64 0] ∧ w'.cell? ⟨g5, 0, none⟩ = some (.pointer (some ⟨d, 0, none⟩)) ∧ Wx w' d (bs ++ symB (codes B V) (codes B' V') s)) ∧ Kept (fun i => i = d ∨ i = g13) w w' := by
  unfold foundS at hf
  unfold symB
  have h5l : g5 < w.heap.size := World.block_lt_of_cell? w _ h5
  have fin : ∀ w', Kept (fun i => i = d ∨ i = g13) w w' → TwoT w' g11 lo hi t lo' hi' t' B V B' V' ∧ w'.cell? ⟨g5, 0, none⟩ = some (.pointer (some ⟨d, 0, none⟩)) := fun w' k =>
    ⟨h.kept k (fun e => e.elim (fun e => hd11 e.symm) (fun e => h1311 e.symm)) (fun b _ _ e => by rcases e with e | e <;> omega) (fun b _ _ e => by rcases e with e | e <;> omega), (k.cell (p := ⟨g5, 0, none⟩) h5l (fun e => e.elim (fun e => hd5 e.symm) (fun e => h135 e.symm))).trans h5⟩
  by_cases h0 : s.1 = 0
  · rw [if_pos h0] at hf ⊢
    refine (put2X_any w g13 g5 g11 lo hi t d B V bs s h.t1 hv hw hl hs.num hf h13 h5 (by rw [h0]; exact h.c0) hs.tab hd5 hd11 h135 h1311).mono ?_
    rintro e w' ⟨rfl, ⟨hb, hw'⟩, k⟩
    exact ⟨rfl, ⟨(fin w' k).1, hb, (fin w' k).2, hw'⟩, k⟩
  · have h1 : s.1 = 1 := by have := hs.tab; omega
    rw [if_neg h0] at hf ⊢
    refine (put2X_any w g13 g5 g11 lo' hi' t' d B' V' bs s h.t2 hv' hw hl hs.num hf h13 h5 (by rw [h1]; exact h.c1) hs.tab hd5 hd11 h135 h1311).mono ?_
    rintro e w' ⟨rfl, ⟨hb, hw'⟩, k⟩
    exact ⟨rfl, ⟨(fin w' k).1, hb, (fin w' k).2, hw'⟩, k⟩
end


/-- what Put of a block tells -/
def PutBX (w : World) (d : Nat) (Ld La : List En) (prev : Int) (b bs : List Int) (e : Ending) (w' : World) : Prop :=
  e = .returned (.int .i64 (putBE Ld La prev b)) ∧ Wx w' d (putBL Ld La bs prev b) ∧ Kept (fun i => i = d) w w'

section
variable (w : World) (d lo hi t lo' hi' t' : Nat) (B V B' V' bs : List Int) (prev : Int) (b : List Int)
set_option maxRecDepth 10000 in
set_option maxHeartbeats 3200000 in
theorem putBX_any (hT : Tab w) (hb : b.length = 64) (h : Tb w lo hi t B V (codes B V)) (hv : Valid B V) (h' : Tb w lo' hi' t' B' V' (codes B' V')) (hv' : Valid B' V') (hw : Wx w d bs) (hl : bs.length ≤ 158000) (hd2 : d < lo ∨ hi ≤ d) (hd3 : d < lo' ∨ hi' ≤ d) (hhi : hi ≤ w.heap.size) (hhi' : hi' ≤ w.heap.size) (hd0 : d ≠ 0) :
    Calls Tryd.prog 26 #[.pointer (some ⟨d, 0, none⟩), .pointer (some ⟨t, 0, none⟩), .pointer (some ⟨t', 0, none⟩), .int .i64 prev, blkV b] w (PutBX w d (codes B V) (codes B' V') prev b bs) := by
  unfold PutBX
  obtain ⟨cs, hcs⟩ : ∃ cs, cs = (cellsI b).toArray := ⟨_, rfl⟩
  have hvc : blkV b = .agg cs := by rw [hcs]; rfl
  obtain ⟨w1, hw1⟩ : ∃ w1, w1 = (w.alloc (.cells #[.pointer (some ⟨d, 0, none⟩)] 72)).alloc (.cells cs 25) := ⟨_, rfl⟩
  have bel : Below w.heap.size w w1 := by rw [hw1]; exact on_trans (on_alloc _ _) (on_alloc _ _)
  have hs1 : w1.heap.size = w.heap.size + 2 := by rw [hw1]; simp
  have hB : Blk w1 (w.heap.size + 1) b := ⟨by rw [hw1, ← hcs]; have := Box.made (w.alloc (.cells #[.pointer (some ⟨d, 0, none⟩)] 72)) 25 cs; rwa [show (w.alloc (.cells #[.pointer (some ⟨d, 0, none⟩)] 72)).heap.size = w.heap.size + 1 by simp] at this, hb⟩
  have h5 : Box w1 w.heap.size 72 #[.pointer (some ⟨d, 0, none⟩)] := by rw [hw1]; exact (Box.made _ _ _).on (on_alloc _ _)
  have HB := Lib.hid (And.intro hB (And.intro bel (And.intro hw1 (And.intro (hT.on bel) (And.intro (h.on bel) (And.intro (h'.on bel) (And.intro (hw.on bel) (And.intro h5 hs1))))))))
  have HI := Lib.hid (And.intro hb (And.intro hv (And.intro hv' (And.intro hl (And.intro hd2 (And.intro hd3 (And.intro hhi (And.intro hhi' (And.intro hd0 (And.intro hw.lt hT.zero))))))))))
  have HL := Lib.hid (show (Instr.loadAt 25 (.pointer (some ⟨w.heap.size + 1, 0, none⟩))).run Tryd.prog w1 = .ok (blkV b) w1 from hB.load)
  have HV := Lib.hid hvc
  rw [hvc]
  clear hvc hcs hw1 bel hs1 hB h5 hT hb h hv h' hv' hw hl hd2 hd3 hhi hhi' hd0
  by_cases hin : In prev
  · have hd1 : decide (In prev) = true := by simpa using hin
    have HD := Lib.hid (And.intro hd1 hin)
    clear hd1 hin
    go_enter Tryd.func26, Tryd.ntmps26
    go_wp2_with fail
    rw [← HB.out.2.2.1]
    refine (inRange_any _ prev).mono ?_
    rintro e w2 ⟨rfl, rfl⟩
    rw [HD.out.1]
    go_wp2_with (first
      | ((with_reducible refine wpList_load_when (op := ⟨some 18, _, _, _, _, _⟩) ?hw 25 (.tmp 9) rfl (.pointer (some ⟨w.heap.size + 1, 0, none⟩)) rfl (blkV b) HL.out ?_)
         case hw => rfl)
      | fail)
    refine (right64_any _ b HI.out.1).mono ?_
    rintro e w2 ⟨rfl, b2⟩
    have H2 := Lib.hid b2
    clear b2
    by_cases hr : RightB b
    · have hd1 : decide (RightB b) = true := by simpa using hr
      rw [hd1]
      have HR := Lib.hid hr
      clear hd1 hr
      have hz90 : ∀ w, (zeroValue 120).run Tryd.prog w = .ok (.agg #[.pointer none, .pointer none]) w := fun w => by kernel_rfl
      have hb90 : ∀ w, (Instr.build 120 #[(0, .pointer (some ⟨t, 0, none⟩)), (1, .pointer (some ⟨t', 0, none⟩))]).run Tryd.prog w = .ok (.agg #[.pointer (some ⟨t, 0, none⟩), .pointer (some ⟨t', 0, none⟩)]) w := fun w => run_build w 120 _ _ (by show Program.built _ _ _ = _; kernel_rfl)
      have hmf : ∀ (fn : Fn) (first cap : Array Value) (w : World), (Instr.makeFunc fn first cap).run Tryd.prog w = .ok (.func fn first cap) w := fun _ _ _ _ => rfl
      obtain ⟨w3, hw3⟩ : ∃ w3, w3 = (w2.alloc (.cells #[.pointer (some ⟨t, 0, none⟩), .pointer (some ⟨t', 0, none⟩)] 120)).alloc (.cells #[.bool true] 4) := ⟨_, rfl⟩
      have b3 : Below w2.heap.size w2 w3 := by rw [hw3]; exact on_trans (on_alloc _ _) (on_alloc _ _)
      have HL3 := Lib.hid (show (Instr.loadAt 25 (.pointer (some ⟨w.heap.size + 1, 0, none⟩))).run Tryd.prog w3 = .ok (blkV b) w3 from ((HB.out.1.on H2.out).on b3).load)
      have H3 := Lib.hid (And.intro hw3 b3)
      clear hw3 b3
      go_wp2_with (first
        | (with_reducible refine wpList_load_to (op := ⟨some 26, _, _, _, _, _⟩) rfl 25 (.tmp 9) rfl (.pointer (some ⟨w.heap.size + 1, 0, none⟩)) rfl (blkV b) (by rw [← H3.out.1]; exact HL3.out) ?_)
        | fail)
      rw [← H3.out.1]
      have hsz2 := H2.out.size
      have hsz1 := HB.out.2.2.2.2.2.2.2.2
      have hT2 : TwoT w3 w2.heap.size lo hi t lo' hi' t' B V B' V' := by
        have hbx : Box w3 w2.heap.size 120 #[.pointer (some ⟨t, 0, none⟩), .pointer (some ⟨t', 0, none⟩)] := by rw [H3.out.1]; exact (Box.made _ _ _).on (on_alloc _ _)
        exact ⟨hbx.cell 0, hbx.cell 1, (HB.out.2.2.2.2.1.on H2.out).on H3.out.2, (HB.out.2.2.2.2.2.1.on H2.out).on H3.out.2⟩
      have hok : Box w3 (w2.heap.size + 1) 4 #[.bool true] := by
        have := Box.made (w2.alloc (.cells #[.pointer (some ⟨t, 0, none⟩), .pointer (some ⟨t', 0, none⟩)] 120)) 4 #[.bool true]
        rw [show (w2.alloc (.cells #[.pointer (some ⟨t, 0, none⟩), .pointer (some ⟨t', 0, none⟩)] 120)).heap.size = w2.heap.size + 1 by simp] at this
        rw [H3.out.1]
        exact this
      obtain ⟨g11, hg11⟩ : ∃ g11, g11 = w2.heap.size := ⟨_, rfl⟩
      obtain ⟨hhi, hhi'⟩ : hi ≤ w.heap.size ∧ hi' ≤ w.heap.size := ⟨HI.out.2.2.2.2.2.2.1, HI.out.2.2.2.2.2.2.2.1⟩
      rw [← hg11] at hT2 hok ⊢
      have hokl := hok.lt
      have h30 : 0 < w3.heap.size := by omega
      have HX := Lib.hid (And.intro hsz2 (And.intro hsz1 (And.intro hg11 (And.intro hhi (And.intro hhi' hokl)))))
      refine (each_any (fun i => i = g11 + 1) (fun l w => TwoT w g11 lo hi t lo' hi' t' B V B' V' ∧ Box w (g11 + 1) 4 #[.bool (l.all (foundS (codes B V) (codes B' V')))]) 53 #[.pointer (some ⟨g11, 0, none⟩), .pointer (some ⟨g11 + 1, 0, none⟩)] calls41 (fun l w1 w2 h k => ⟨h.1.on k, h.2.on k⟩) w3 prev b ((HB.out.2.2.2.1.on H2.out).on H3.out.2) HI.out.1 HR.out HD.out.2 ?_ ⟨hT2, hok⟩ ?_).mono ?_
      · intro i hi
        have hi : i = g11 + 1 := hi
        omega
      · intro l s w6 ⟨r, hr⟩ hc hk
        have hs : SymOk s := allS_ok HR.out HD.out.2 s (by rw [← hr]; simp)
        refine (one_step hc.1 HI.out.2.1 HI.out.2.2.1 hs hc.2 (by omega) (.inr (by omega)) (.inr (by omega))).mono ?_
        rintro e w7 ⟨rfl, ⟨h7, h8⟩, k7⟩
        refine ⟨rfl, ⟨h7, ?_⟩, k7⟩
        rw [List.all_append, List.all_cons, List.all_nil, Bool.and_true]
        exact h8
      rintro e w4 ⟨rfl, ⟨hT4, hok4⟩, k4⟩
      obtain ⟨fo, hfo⟩ : ∃ fo, fo = (allS prev b).all (foundS (codes B V) (codes B' V')) := ⟨_, rfl⟩
      rw [← hfo] at hok4
      have c4 : w4.cell? ⟨g11 + 1, 0, none⟩ = some (.bool fo) := hok4.cell 0
      have bel4 : Below w1.heap.size w1 w4 := by
        have b13 := on_trans H2.out H3.out.2
        exact b13.trans (k4.below b13.size (fun i hi e => by omega))
      have H4 := Lib.hid (And.intro hT4 (And.intro bel4 (And.intro hfo k4.size)))
      clear hT2 hok hT4 hok4 k4 bel4 hfo hsz2 hsz1 hg11 hhi hhi' hokl h30
      cases fo with
      | false =>
        have hE : putBE (codes B V) (codes B' V') prev b = 6 := by unfold putBE; rw [if_pos ⟨HD.out.2, HR.out⟩, ← H4.out.2.2.1]; rfl
        have HE := Lib.hid hE
        clear hE
        go_wp2
        go_ret
        unfold putBL
        rw [HE.out, if_neg (by decide)]
        exact ⟨rfl, HB.out.2.2.2.2.2.2.1.on H4.out.2.1, Kept.of_below (on_trans HB.out.2.1 H4.out.2.1) _⟩
      | true =>
        have hz31 : ∀ w, (zeroValue 42).run Tryd.prog w = .ok (.int .i64 0) w := fun w => by kernel_rfl
        obtain ⟨w5, hw5⟩ : ∃ w5, w5 = w4.alloc (.cells #[.int .i64 0] 42) := ⟨_, rfl⟩
        have b5 : Below w4.heap.size w4 w5 := by rw [hw5]; exact on_alloc _ _
        have H5 := Lib.hid (And.intro hw5 b5)
        have HL5 := Lib.hid (show (Instr.loadAt 25 (.pointer (some ⟨w.heap.size + 1, 0, none⟩))).run Tryd.prog w5 = .ok (blkV b) w5 from ((HB.out.1.on H4.out.2.1).on b5).load)
        clear hw5 b5
        go_wp2_with (first
          | (with_reducible refine wpList_load_to (op := ⟨some 32, _, _, _, _, _⟩) rfl 25 (.tmp 9) rfl (.pointer (some ⟨w.heap.size + 1, 0, none⟩)) rfl (blkV b) (by rw [← H5.out.1]; exact HL5.out) ?_)
          | fail)
        rw [← H5.out.1]
        obtain ⟨hsz2, hsz1, hg11, hhi, hhi', hokl⟩ := HX.out
        have hsz4 := H4.out.2.2.2
        have hall : ∀ s ∈ allS prev b, foundS (codes B V) (codes B' V') s = true := List.all_eq_true.1 H4.out.2.2.1.symm
        have h5b := HB.out.2.2.2.2.2.2.2.1.on (on_trans H4.out.2.1 H5.out.2)
        obtain ⟨g13, hg13⟩ : ∃ g13, g13 = w4.heap.size := ⟨_, rfl⟩
        have h13 : Box w5 g13 42 #[.int .i64 0] := by rw [H5.out.1, hg13]; exact Box.made _ _ _
        rw [← hg13]
        have hdl := HI.out.2.2.2.2.2.2.2.2.2.1
        have hd0 := HI.out.2.2.2.2.2.2.2.2.1
        have hd2 := HI.out.2.2.2.2.1
        have hd3 := HI.out.2.2.2.2.2.1
        have hbs := HI.out.2.2.2.1
        have h13l := h13.lt
        have HY := Lib.hid (And.intro hsz4 (And.intro hg13 hdl))
        refine (each_any (fun i => i = d ∨ i = g13) (fun l w6 => TwoT w6 g11 lo hi t lo' hi' t' B V B' V' ∧ Box w6 g13 42 #[.int .i64 0] ∧ w6.cell? ⟨w.heap.size, 0, none⟩ = some (.pointer (some ⟨d, 0, none⟩)) ∧ Wx w6 d (bs ++ bitsOf (codes B V) (codes B' V') l)) 55 #[.pointer (some ⟨g13, 0, none⟩), .pointer (some ⟨w.heap.size, 0, none⟩), .pointer (some ⟨g11, 0, none⟩)] calls43
          (fun l w1 w2 h k => ⟨h.1.on k, h.2.1.on k, (k.cell (p := ⟨w.heap.size, 0, none⟩) (World.block_lt_of_cell? _ _ h.2.2.1)).trans h.2.2.1, h.2.2.2.on k⟩) w5 prev b ((HB.out.2.2.2.1.on H4.out.2.1).on H5.out.2) HI.out.1 HR.out HD.out.2 ?_ ⟨H4.out.1.on H5.out.2, h13, h5b.cell 0, by simpa [bitsOf] using (HB.out.2.2.2.2.2.2.1.on H4.out.2.1).on H5.out.2⟩ ?_).mono ?_
        · intro i hi
          have hi : i = d ∨ i = g13 := hi
          omega
        · intro l s w6 ⟨r, hr⟩ hc hk
          have hmem : s ∈ allS prev b := by rw [← hr]; simp
          have hs : SymOk s := allS_ok HR.out HD.out.2 s hmem
          have hlen : l.length ≤ 64 := by
            have h1 := allS_len prev b
            have h2 := congrArg List.length hr
            simp only [List.length_append, List.length_cons, List.length_nil] at h2
            omega
          have hbl := bitsOf_len HI.out.2.1 HI.out.2.2.1 l (fun x hx => allS_ok HR.out HD.out.2 x (by rw [← hr]; simp [hx]))
          refine (twoX_step hc.1 HI.out.2.1 HI.out.2.2.1 hs (hall s hmem) hc.2.2.2 (by rw [List.length_append]; omega) hc.2.1 hc.2.2.1 (by omega) (by omega) (by omega) (by omega) (.inr (by omega)) (.inr (by omega)) hd2 hd3).mono ?_
          rintro e w7 ⟨rfl, ⟨h7, h8, h9, h10⟩, k7⟩
          refine ⟨rfl, ⟨h7, h8, h9, ?_⟩, k7⟩
          rw [bitsOf_snoc, ← List.append_assoc]
          exact h10
        rintro e w6 ⟨rfl, ⟨hT6, h136, hc6, hw6⟩, k6⟩
        have c6 : w6.cell? ⟨g13, 0, none⟩ = some (.int .i64 0) := h136.cell 0
        have H6 := Lib.hid (And.intro hw6 k6)
        have hE : putBE (codes B V) (codes B' V') prev b = 0 := by unfold putBE; rw [if_pos ⟨HD.out.2, HR.out⟩, ← H4.out.2.2.1]; rfl
        have HE := Lib.hid hE
        clear hE hT6 h136 hc6 hw6 k6 hsz2 hsz1 hg11 hhi hhi' hokl hsz4 hg13 hdl hd0 hd2 hd3 hbs h13l hall h5b h13
        go_wp2
        go_ret
        unfold putBL
        rw [HE.out, if_pos rfl]
        refine ⟨rfl, H6.out.1, ?_⟩
        obtain ⟨hsz4, hg13, hdl⟩ := HY.out
        obtain ⟨hsz2, hsz1, hg11, hhi, hhi', hokl⟩ := HX.out
        exact (Kept.of_below (on_trans HB.out.2.1 (on_trans H4.out.2.1 H5.out.2)) (fun i => i = d)).trans H6.out.2 (fun i hi h => by rcases h with h | h; exact h; omega)
    · have hd1 : decide (RightB b) = false := by simpa using hr
      rw [hd1]
      have hE : putBE (codes B V) (codes B' V') prev b = 2 := by unfold putBE; rw [if_neg (fun e => hr e.2)]
      have HE := Lib.hid hE
      clear hd1 hr hE
      go_wp2
      go_ret
      unfold putBL
      rw [HE.out, if_neg (by decide)]
      exact ⟨rfl, HB.out.2.2.2.2.2.2.1.on H2.out, Kept.of_below (on_trans HB.out.2.1 H2.out) _⟩
  · have hd1 : decide (In prev) = false := by simpa using hin
    have HD := Lib.hid hd1
    have hE : putBE (codes B V) (codes B' V') prev b = 2 := by unfold putBE; rw [if_neg (fun e => hin e.1)]
    unfold putBL
    rw [hE, if_neg (by decide)]
    clear hd1 hin hE
    go_enter Tryd.func26, Tryd.ntmps26
    go_wp2_with fail
    rw [← HB.out.2.2.1]
    refine (inRange_any _ prev).mono ?_
    rintro e w2 ⟨rfl, rfl⟩
    rw [HD.out]
    go_wp2
    go_ret
    exact ⟨rfl, HB.out.2.2.2.2.2.2.1, Kept.of_below HB.out.2.1 _⟩
end
end Go.Proofs.YtdnjnbfmmgkpjaaDoor

namespace Go.Proofs.YtdnjnbfmmgkpjaaDoor
open Go.RowKit

/-- a slice that reads as blocks -/
structure Bs (w : World) (A : Option Addr) (n : Nat) (bl : List (List Int)) : Prop where
  len : bl.length = n
  wide : ∀ x ∈ bl, x.length = 64
  at_ : 0 < n → ∃ b off, A = some ⟨b, off, none⟩ ∧ b < w.heap.size ∧ ∀ i x, bl[i]? = some x → ∀ j, j < 64 → w.cell? ⟨b, off + i * 64 + j, none⟩ = some (.int .i64 (x.getD j 0))
theorem Bs.on {w w' : World} {A : Option Addr} {n : Nat} {bl : List (List Int)} (h : Bs w A n bl) (k : Below w.heap.size w w') : Bs w' A n bl :=
  ⟨h.len, h.wide, fun h0 => by
    obtain ⟨b, off, e, hb, hc⟩ := h.at_ h0
    exact ⟨b, off, e, Nat.lt_of_lt_of_le hb k.size, fun i x hx j hj => (k.cell (p := ⟨b, off + i * 64 + j, none⟩) hb).trans (hc i x hx j hj)⟩⟩
/-- one of the blocks is loaded -/
theorem Bs.load {w : World} {b off n : Nat} {bl : List (List Int)} {k : Nat} {x : List Int} (h : Bs w (some ⟨b, off, none⟩) n bl) (hx : bl[k]? = some x) : (Instr.loadAt 25 (.pointer (some ⟨b, off + k * 64, none⟩))).run Tryd.prog w = .ok (blkV x) w := by
  have hk := (List.getElem?_eq_some_iff.1 hx).1
  have hl := h.wide x (List.mem_of_getElem? hx)
  obtain ⟨b', off', e, _, hc⟩ := h.at_ (by have := h.len; omega)
  cases e
  refine run_loadAt_mid w b (off + k * 64) 25 (cellsI x) _ (fun j u hu => ?_) Tryd.underlying25 rfl (by rw [arr23_size, cellsI_len, hl])
  have hj : j < 64 := by
    have := (List.getElem?_eq_some_iff.1 hu).1
    rw [cellsI_len, hl] at this
    exact this
  rw [hc k x hx j hj, ← hu, cellsI_get _ _ (by omega)]

/-- the cells of blocks -/
def blocksC (bl : List (List Int)) : List Value := bl.flatMap cellsI
theorem blocksC_app (a b : List (List Int)) : blocksC (a ++ b) = blocksC a ++ blocksC b := by simp [blocksC]
theorem blocksC_len : ∀ {bl : List (List Int)}, (∀ x ∈ bl, x.length = 64) → (blocksC bl).length = 64 * bl.length
  | [], _ => rfl
  | x :: r, h => by
    have h1 : blocksC (x :: r) = cellsI x ++ blocksC r := by simp [blocksC]
    rw [h1, List.length_append, cellsI_len, h x (by simp), blocksC_len (fun y hy => h y (by simp [hy])), List.length_cons]
    omega
theorem blocksC_at : ∀ {bl : List (List Int)}, (∀ x ∈ bl, x.length = 64) → ∀ {i : Nat} {x : List Int}, bl[i]? = some x → ∀ {j : Nat}, j < 64 → (blocksC bl)[i * 64 + j]? = some (.int .i64 (x.getD j 0))
  | [], _, i, x, hx, j, hj => by simp at hx
  | y :: r, h, 0, x, hx, j, hj => by
    have h1 : blocksC (y :: r) = cellsI y ++ blocksC r := by simp [blocksC]
    simp at hx
    subst hx
    have hy := h y (by simp)
    rw [h1, Nat.zero_mul, Nat.zero_add, List.getElem?_append_left (by rw [cellsI_len]; omega), cellsI_get _ _ (by omega)]
  | y :: r, h, i + 1, x, hx, j, hj => by
    have h1 : blocksC (y :: r) = cellsI y ++ blocksC r := by simp [blocksC]
    have hy := h y (by simp)
    rw [List.getElem?_cons_succ] at hx
    rw [h1, List.getElem?_append_right (by rw [cellsI_len]; omega), cellsI_len, hy, show (i + 1) * 64 + j - 64 = i * 64 + j by omega]
    exact blocksC_at (fun z hz => h z (by simp [hz])) hx hj
theorem bs_of_own {w : World} {base : Nat} {v : Value} {n : Nat} {bl : List (List Int)} (h : w.ownsRow base 25 64 v n (blocksC bl)) (hw : ∀ x ∈ bl, x.length = 64) : ∃ A c, v = .slice A n c ∧ Bs w A n bl ∧ ∀ b off, A = some ⟨b, off, none⟩ → base ≤ b := by
  have hl : bl.length = n := by have := h.1; rw [blocksC_len hw] at this; omega
  have hown := h
  rcases h.2 with ⟨rfl, rfl⟩ | ⟨g, cap, cur, rfl, hg, hh, hn, hm, _, _⟩
  · exact ⟨_, 0, rfl, ⟨hl, hw, fun h0 => by omega⟩, fun b off e => by cases e⟩
  · refine ⟨some ⟨g, 0, none⟩, cap, rfl, ⟨hl, hw, fun _ => ⟨g, 0, rfl, (Array.getElem?_eq_some_iff.1 hh).1, fun i x hx j hj => ?_⟩⟩, fun b off e => by cases e; exact hg⟩
    have hi := (List.getElem?_eq_some_iff.1 hx).1
    rw [Nat.zero_add, hown.cellAt (i * 64 + j) (by omega), blocksC_at hw hx hj]
theorem blk_info : (Tryd.prog.info? 25).map (fun i => (i.zero, i.size, i.bytes)) = some (some (blkV (List.replicate 64 0)), 64, 512) := by kernel_rfl
/-- an append of one block to a row of one's own: only the row's own block turns -/
theorem wpList_append_bk {w : World} {ops : Array Oper} {rest : List Oper} {o : Oper} {a : Act} {Q : Exit → Act → World → Prop} (hgd : o.guard = none) (s x : Operand)
    (ho : o.op = .call { callee := .builtin .append, args := #[s, x], argTypes := #[61, 61] })
    (base : Nat) (v : Value) (n : Nat) (bl : List (List Int)) (y : List Int) (hs : a.eval s = v) (hown : w.ownsRow base 25 64 v n (blocksC bl)) (g : Nat)
    (hx : a.eval x = .slice (some ⟨g, 0, none⟩) 1 1) (hb : Blk w g y) (hn : n ≤ 1000) (hbase : base ≤ w.heap.size)
    (h : ∀ v' w', w'.ownsRow base 25 64 v' (n + 1) (blocksC (bl ++ [y])) → Kept (fun i => v.ownBlock = some i) w w' → wpList Tryd.prog ops Q rest (a.put o.dst v') w') : wpList Tryd.prog ops Q (o :: rest) a w := by
  obtain ⟨i0, hi0, h2⟩ := Option.map_eq_some_iff.1 blk_info
  simp only [Prod.mk.injEq] at h2
  obtain ⟨hz0, hz1, hz2⟩ := h2
  refine wpList_append_own _ hgd s x 61 ho base 25 i0 _ 64 512 Tryd.underlying61 hi0 hz0 hz1 hz2 rfl (by omega) v n (blocksC bl) hs hown ⟨g, 0, none⟩ 1 1 (cellsI y) hx (by rw [cellsI_len, hb.len]) ?_ (cellsI_one y) (by unfold maxLen; omega) (by omega) hbase ?_
  · intro j u hu
    rw [plain_add, Nat.zero_add, hb.box.cell j]
    simpa using hu
  · intro v' w' h1 h2 _
    have e1 : blocksC (bl ++ [y]) = blocksC bl ++ cellsI y := by rw [blocksC_app]; simp [blocksC]
    rw [← e1] at h1
    exact h v' w' h1 ⟨h2.os, h2.tape, h2.output, h2.size, fun k hk hn => h2.block k hk (fun e => hn e.symm)⟩

/-- the number that a sequence of blocks ends with -/
def lastP (prev : Int) : List (List Int) → Int
  | [] => prev
  | b :: r => lastP (b.getD 0 0) r
/-- may blocks be put one behind the other? -/
def seqOK (Ld La : List En) (prev : Int) : List (List Int) → Prop
  | [] => True
  | b :: r => putBE Ld La prev b = 0 ∧ seqOK Ld La (b.getD 0 0) r
/-- the bits of blocks one behind the other -/
def seqBits (Ld La : List En) (prev : Int) : List (List Int) → List Int
  | [] => []
  | b :: r => bitsOf Ld La (allS prev b) ++ seqBits Ld La (b.getD 0 0) r
section
variable {Ld La : List En}
theorem lastP_snoc : ∀ (prev : Int) (r : List (List Int)) (b : List Int), lastP prev (r ++ [b]) = b.getD 0 0
  | _, [], _ => rfl
  | _, x :: r, b => lastP_snoc (x.getD 0 0) r b
theorem seqOK_snoc : ∀ (prev : Int) (r : List (List Int)) (b : List Int), seqOK Ld La prev r → putBE Ld La (lastP prev r) b = 0 → seqOK Ld La prev (r ++ [b])
  | _, [], _, _, h => ⟨h, trivial⟩
  | _, x :: r, b, h, h' => ⟨h.1, seqOK_snoc (x.getD 0 0) r b h.2 h'⟩
theorem seqBits_snoc : ∀ (prev : Int) (r : List (List Int)) (b : List Int), seqBits Ld La prev (r ++ [b]) = seqBits Ld La prev r ++ bitsOf Ld La (allS (lastP prev r) b)
  | prev, [], b => by simp [seqBits, lastP]
  | prev, x :: r, b => by
    show bitsOf Ld La (allS prev x) ++ seqBits Ld La (x.getD 0 0) (r ++ [b]) = _
    rw [seqBits_snoc (x.getD 0 0) r b, ← List.append_assoc]
    rfl
theorem seqOK_at : ∀ (prev : Int) (r : List (List Int)), seqOK Ld La prev r → ∀ (k : Nat) (b : List Int), r[k]? = some b → putBE Ld La (lastP prev (r.take k)) b = 0
  | prev, [], _, k, b, hb => by simp at hb
  | prev, x :: r, h, 0, b, hb => by simp at hb; subst hb; exact h.1
  | prev, x :: r, h, k + 1, b, hb => by
    rw [List.getElem?_cons_succ] at hb
    exact seqOK_at (x.getD 0 0) r h.2 k b hb
theorem seqBits_at (prev : Int) (r : List (List Int)) (k : Nat) (b : List Int) (hb : r[k]? = some b) : ∃ R, seqBits Ld La prev r = seqBits Ld La prev (r.take k) ++ (bitsOf Ld La (allS (lastP prev (r.take k)) b) ++ R) ∧ seqBits Ld La prev (r.take (k + 1)) = seqBits Ld La prev (r.take k) ++ bitsOf Ld La (allS (lastP prev (r.take k)) b) := by
  have h2 : r.take (k + 1) = r.take k ++ [b] := by rw [List.take_add_one, hb]; rfl
  have hsp : ∀ (p : Int) (x y : List (List Int)), ∃ R, seqBits Ld La p (x ++ y) = seqBits Ld La p x ++ R := by
    intro p x
    induction x generalizing p with
    | nil => intro y; exact ⟨seqBits Ld La p y, by simp [seqBits]⟩
    | cons z x ih =>
      intro y
      obtain ⟨R, hR⟩ := ih (z.getD 0 0) y
      refine ⟨R, ?_⟩
      show bitsOf Ld La (allS p z) ++ seqBits Ld La (z.getD 0 0) (x ++ y) = (bitsOf Ld La (allS p z) ++ seqBits Ld La (z.getD 0 0) x) ++ R
      rw [hR, List.append_assoc]
  obtain ⟨R, hR⟩ := hsp prev (r.take (k + 1)) (r.drop (k + 1))
  rw [List.take_append_drop] at hR
  refine ⟨R, ?_, by rw [h2, seqBits_snoc]⟩
  rw [hR, h2, seqBits_snoc, List.append_assoc]
theorem seqBits_len {B V B' V' : List Int} (hv : Valid B V) (hv' : Valid B' V') : ∀ (prev : Int) (r : List (List Int)), seqOK (codes B V) (codes B' V') prev r → (seqBits (codes B V) (codes B' V') prev r).length ≤ 1728 * r.length
  | _, [], _ => Nat.le_refl _
  | prev, b :: r, h => by
    have h1 := seqBits_len hv hv' (b.getD 0 0) r h.2
    have hir : In prev ∧ RightB b := by
      have h0 := h.1
      unfold putBE at h0
      split at h0
      · next h => exact h
      · cases h0
    have h2 := bitsOf_len hv hv' (allS prev b) (allS_ok hir.2 hir.1)
    have h3 := allS_len prev b
    show (bitsOf (codes B V) (codes B' V') (allS prev b) ++ seqBits (codes B V) (codes B' V') (b.getD 0 0) r).length ≤ 1728 * (r.length + 1)
    rw [List.length_append]
    omega
end
end Go.Proofs.YtdnjnbfmmgkpjaaDoor

namespace Go.Proofs.YtdnjnbfmmgkpjaaDoor
open Go.RowKit

theorem fill67 {cells : Array Value} {xs : List Value} (hc : cells.size = 64) (hx : xs.length = 64) : Instr.fill (fun i => some (i * 64, 64)) cells [(0, .agg xs.toArray)] = some xs.toArray := by
  have hs : ∀ (l : List Value) (s : Nat) (cs : Array Value), ((l.zipIdx s).foldl (fun (cs : Array Value) (p : Value × Nat) => cs.setIfInBounds (0 + p.2) p.1) cs).size = cs.size := by
    intro l
    induction l with
    | nil => intro s cs; rfl
    | cons a l ih => intro s cs; rw [List.zipIdx_cons, List.foldl_cons, ih]; simp
  simp only [Instr.fill]
  have hx2 : (Value.agg xs.toArray).cells = xs.toArray := rfl
  rw [hx2]
  simp [hx, hc]
  apply Array.ext_getElem?
  intro k
  have hf := fold_set 0 xs 0 cells (by simp [hc, hx]) k
  simp only [Nat.zero_add] at hf
  rw [hf]
  by_cases h1 : 0 ≤ k ∧ k < xs.length
  · rw [if_pos h1]
    simp
  · rw [if_neg h1, Array.getElem?_eq_none (by omega), Array.getElem?_eq_none (by simp; omega)]
theorem wpList_one_blk {ops : Array Oper} {rest : List Oper} {o : Oper} {a : Act} {w : World} {Q : Exit → Act → World → Prop} (hg : o.guard = none) (x : Operand) (ho : o.op = .buildSlice 61 1 #[(0, x)])
    (b : List Int) (hb : b.length = 64) (hx : a.eval x = blkV b)
    (h : wpList Tryd.prog ops Q rest (a.put o.dst (.slice (some ⟨w.heap.size, 0, none⟩) 1 1)) (w.alloc (.cells (cellsI b).toArray 25))) : wpList Tryd.prog ops Q (o :: rest) a w := by
  obtain ⟨i0, hi0, h2⟩ := Option.map_eq_some_iff.1 blk_info
  simp only [Prod.mk.injEq] at h2
  obtain ⟨hz0, hz1, hz2⟩ := h2
  refine wpList_buildSlice hg 61 25 1 _ ho (cellsI b).toArray i0 _ Tryd.underlying61 hi0 hz0 (by rw [hz1]; omega) (by rw [hz1]; omega) ?_ h
  have e : ((#[(0, x)] : Array (Nat × Operand)).map fun (i, y) => (i, a.eval y)).toList = [(0, .agg (cellsI b).toArray)] := by
    simp [hx, blkV]
  rw [e, hz1]
  exact fill67 (by simp) (by rw [cellsI_len, hb])

/-- how things stand when k blocks have been offered: those of done were put -/
structure T1 (w0 wr : World) (d base : Nat) (v : Value) (done : List (List Int)) (prev : Int) (Ld La : List En) (k : Nat) : Prop where
  bel : Below w0.heap.size w0 wr
  wx : Wx wr d (seqBits Ld La 0 done)
  row : wr.ownsRow base 25 64 v done.length (blocksC done)
  ok : seqOK Ld La 0 done
  prev : prev = lastP 0 done
  few : done.length ≤ k
  wide : ∀ x ∈ done, x.length = 64
  ord : w0.heap.size ≤ d ∧ d < base ∧ base ≤ wr.heap.size
section
variable {w0 wr w' : World} {d base k : Nat} {v v' : Value} {done : List (List Int)} {prev : Int} {Ld La : List En} {x : List Int}
theorem T1.on (h : T1 w0 wr d base v done prev Ld La k) (b : Below wr.heap.size wr w') : T1 w0 w' d base v done prev Ld La k :=
  ⟨on_trans h.bel b, h.wx.on b, ownsRow_block h.row fun g _ _ hb => b.block g (Array.getElem?_eq_some_iff.1 hb).1, h.ok, h.prev, h.few, h.wide, h.ord.1, h.ord.2.1, Nat.le_trans h.ord.2.2 b.size⟩
theorem T1.more (h : T1 w0 wr d base v done prev Ld La k) : T1 w0 wr d base v done prev Ld La (k + 1) :=
  ⟨h.bel, h.wx, h.row, h.ok, h.prev, by have := h.few; omega, h.wide, h.ord⟩
/-- a block has been put and is laid behind the row -/
theorem T1.next {w2 : World} (h : T1 w0 wr d base v done prev Ld La k) (hE : putBE Ld La prev x = 0) (hx : x.length = 64) (hb : Below w0.heap.size w0 w') (hk : Kept (fun i => i = d) wr w') (hw : Wx w' d (seqBits Ld La 0 done ++ bitsOf Ld La (allS prev x)))
    (b2 : Below w'.heap.size w' w2) (w3 : World) (hr : w3.ownsRow base 25 64 v' (done.length + 1) (blocksC (done ++ [x]))) (k3 : Kept (fun i => v.ownBlock = some i) w2 w3) (hr2 : w2.ownsRow base 25 64 v done.length (blocksC done)) : T1 w0 w3 d base v' (done ++ [x]) (x.getD 0 0) Ld La (k + 1) := by
  have hP := h.prev
  have own : ∀ i, v.ownBlock = some i → base ≤ i ∧ ∃ cs, w2.heap[i]? = some (.cells cs 25 (0, 0)) := fun i e => own_block3 hr2 e
  refine ⟨(on_trans hb b2).trans (k3.below (on_trans hb b2).size (fun i hi e => by have := (own i e).1; have := h.ord; omega)), ?_, ?_, seqOK_snoc 0 done x h.ok (by rw [← hP]; exact hE), (lastP_snoc 0 done x).symm, ?_, ?_, h.ord.1, h.ord.2.1, ?_⟩
  · rw [seqBits_snoc, ← hP]
    exact (hw.on b2).kept k3 (fun e => by have := (own _ e).1; have := h.ord; omega) (fun i cs e h2 => by
      obtain ⟨_, cs2, h1⟩ := own i e
      rw [h1] at h2
      simp at h2)
  · rw [List.length_append]
    exact hr
  · rw [List.length_append, List.length_singleton]
    have := h.few
    omega
  · intro y hy
    rcases List.mem_append.1 hy with hy | hy
    · exact h.wide y hy
    · rw [List.mem_singleton.1 hy]; exact hx
  · exact Nat.le_trans h.ord.2.2 (Nat.le_trans hk.size (Nat.le_trans b2.size k3.size))
end
end Go.Proofs.YtdnjnbfmmgkpjaaDoor
