/-
  A writer with pages, in memory. A writer with pages: the contracts of Put and Count. A writer with pages: the contract of all. A writer with pages: the contract of Bytes.
-/
import Derived.Test.YthfpdebpepbejaaDoorPut
import Derived.Deep.RegionHeld
import Derived.Deep.RegionHeld3
import Derived.Test.YthfpdebpepbejaaDoorAwake
namespace Go.Proofs.YthfpdebpepbejaaDoor
open Go.RowKit

/-- a writer's cells: the last page, the open bytes, how many, the part's value and count -/
def cellsX (pg : Value) (op : List Int) (n v c : Nat) : Array Value := (pg :: (cellsOf op ++ [.int .i64 (n : Int), .int .i64 (v : Int), .int .i64 (c : Int)])).toArray
section
variable {pg : Value} {op : List Int} {n v c : Nat}
theorem cellsX_size (h : op.length = 256) : (cellsX pg op n v c).size = 260 := by simp [cellsX, cellsOf_len, h]
theorem cellsX_0 : (cellsX pg op n v c)[0]? = some pg := by simp [cellsX]
theorem cellsX_n (h : op.length = 256) : (cellsX pg op n v c)[257]? = some (.int .i64 (n : Int)) := by
  simp only [cellsX, List.getElem?_toArray, List.getElem?_cons_succ]
  rw [List.getElem?_append_right (by rw [cellsOf_len, h]; omega), cellsOf_len, h]; rfl
theorem cellsX_v (h : op.length = 256) : (cellsX pg op n v c)[258]? = some (.int .i64 (v : Int)) := by
  simp only [cellsX, List.getElem?_toArray, List.getElem?_cons_succ]
  rw [List.getElem?_append_right (by rw [cellsOf_len, h]; omega), cellsOf_len, h]; rfl
theorem cellsX_c (h : op.length = 256) : (cellsX pg op n v c)[259]? = some (.int .i64 (c : Int)) := by
  simp only [cellsX, List.getElem?_toArray, List.getElem?_cons_succ]
  rw [List.getElem?_append_right (by rw [cellsOf_len, h]; omega), cellsOf_len, h]; rfl
theorem cellsX_at (h : op.length = 256) (i : Nat) (hi : i < 256) : (cellsX pg op n v c)[1 + i]? = some (.int .u8 (op.getD i 0)) := by
  simp only [cellsX, List.getElem?_toArray, Nat.add_comm 1 i, List.getElem?_cons_succ]
  rw [List.getElem?_append_left (by rw [cellsOf_len, h]; omega)]
  simp [cellsOf, List.getD_eq_getElem?_getD, List.getElem?_eq_getElem (show i < op.length by omega)]
theorem cellsX_set_0 (q : Value) : (cellsX pg op n v c).setIfInBounds 0 q = cellsX q op n v c := by simp [cellsX]
theorem cellsX_set_n (h : op.length = 256) (m : Nat) : (cellsX pg op n v c).setIfInBounds 257 (.int .i64 (m : Int)) = cellsX pg op m v c := by
  simp only [cellsX, List.setIfInBounds_toArray, List.set_cons_succ]
  rw [List.set_append_right _ _ (by rw [cellsOf_len, h]; omega), cellsOf_len, h]; rfl
theorem cellsX_set_v (h : op.length = 256) (m : Nat) : (cellsX pg op n v c).setIfInBounds 258 (.int .i64 (m : Int)) = cellsX pg op n m c := by
  simp only [cellsX, List.setIfInBounds_toArray, List.set_cons_succ]
  rw [List.set_append_right _ _ (by rw [cellsOf_len, h]; omega), cellsOf_len, h]; rfl
theorem cellsX_set_c (h : op.length = 256) (m : Nat) : (cellsX pg op n v c).setIfInBounds 259 (.int .i64 (m : Int)) = cellsX pg op n v m := by
  simp only [cellsX, List.setIfInBounds_toArray, List.set_cons_succ]
  rw [List.set_append_right _ _ (by rw [cellsOf_len, h]; omega), cellsOf_len, h]; rfl
theorem cellsX_set_at (h : op.length = 256) (i : Nat) (hi : i < 256) (z : Int) : (cellsX pg op n v c).setIfInBounds (1 + i) (.int .u8 z) = cellsX pg (op.set i z) n v c := by
  simp only [cellsX, List.setIfInBounds_toArray, Nat.add_comm 1 i, List.set_cons_succ]
  rw [List.set_append_left _ _ (by rw [cellsOf_len, h]; omega)]
  simp [cellsOf, List.map_set]
end

/-- a chain of pages, the last one first -/
def Chain (w : World) : List (List Int) → Value → Prop
  | [], pg => pg = .pointer none
  | x :: r, pg => ∃ g nx, pg = .pointer (some ⟨g, 0, none⟩) ∧ x.length = 256 ∧ Fit x ∧ Box w g 123 (nx :: cellsOf x).toArray ∧ Chain w r nx
theorem Chain.kept {S : Nat → Prop} {w w' : World} (k : Kept S w w') (hS : ∀ i cs, S i → w.heap[i]? ≠ some (.cells cs 123 (0, 0))) : ∀ (ps : List (List Int)) (pg : Value), Chain w ps pg → Chain w' ps pg
  | [], _, h => h
  | x :: r, pg, h => by
    obtain ⟨g, nx, h1, h2, h3, h4, h5⟩ := h
    exact ⟨g, nx, h1, h2, h3, k.box h4 (fun e => hS g _ e h4), Chain.kept k hS r nx h5⟩
theorem Chain.on {w w' : World} (k : Below w.heap.size w w') (ps : List (List Int)) (pg : Value) (h : Chain w ps pg) : Chain w' ps pg :=
  Chain.kept (Kept.of_below k (fun _ => False)) (fun _ _ e => e.elim) ps pg h
theorem Chain.one {w : World} {ps : List (List Int)} {pg : Value} (h : Chain w ps pg) : pg.oneCell' = true ∧ pg.cells = #[pg] ∧ ∃ a, pg = .pointer a := by
  cases ps with
  | nil => rw [show pg = .pointer none from h]; exact ⟨rfl, rfl, _, rfl⟩
  | cons x r =>
    obtain ⟨g, nx, rfl, _⟩ := h
    exact ⟨rfl, rfl, _, rfl⟩
theorem Chain.fit {w : World} : ∀ {ps : List (List Int)} {pg : Value}, Chain w ps pg → Fit ps.reverse.flatten ∧ ps.reverse.flatten.length = 256 * ps.length
  | [], _, _ => ⟨fun y hy => by simp at hy, by simp⟩
  | x :: r, _, h => by
    obtain ⟨g, nx, _, h2, h3, _, h5⟩ := h
    obtain ⟨h6, h7⟩ := Chain.fit h5
    refine ⟨?_, ?_⟩
    · rw [List.reverse_cons, List.flatten_append]
      intro y hy
      rcases List.mem_append.1 hy with h | h
      · exact h6 y h
      · exact h3 y (by simpa using h)
    · rw [List.reverse_cons, List.flatten_append, List.length_append, h7]
      simp [h2]
      omega

/-- a writer in memory: its whole bytes are P, n of them -/
def ByX (w : World) (d : Nat) (P : List Int) (n v c : Nat) : Prop :=
  ∃ pg ps op, Box w d 88 (cellsX pg op n v c) ∧ op.length = 256 ∧ Fit op ∧ Chain w ps pg ∧ ps.length = n / 256 ∧ P = ps.reverse.flatten ++ op.take (n % 256)
theorem ByX.fit {w : World} {d : Nat} {P : List Int} {n v c : Nat} (h : ByX w d P n v c) : Fit P ∧ P.length = n := by
  obtain ⟨pg, ps, op, h1, h2, h3, h4, h5, rfl⟩ := h
  obtain ⟨h6, h7⟩ := h4.fit
  refine ⟨fun y hy => ?_, by rw [List.length_append, h7, List.length_take, h5]; omega⟩
  rcases List.mem_append.1 hy with h | h
  · exact h6 y h
  · exact h3 y (List.mem_of_mem_take h)
theorem ByX.kept {S : Nat → Prop} {w w' : World} {d : Nat} {P : List Int} {n v c : Nat} (h : ByX w d P n v c) (k : Kept S w w') (hd : ¬ S d) (hS : ∀ i cs, S i → w.heap[i]? ≠ some (.cells cs 123 (0, 0))) : ByX w' d P n v c := by
  obtain ⟨pg, ps, op, h1, h2, h3, h4, h5, h6⟩ := h
  exact ⟨pg, ps, op, k.box h1 hd, h2, h3, Chain.kept k hS ps pg h4, h5, h6⟩
theorem ByX.on {w w' : World} {d : Nat} {P : List Int} {n v c : Nat} (h : ByX w d P n v c) (k : Below w.heap.size w w') : ByX w' d P n v c :=
  h.kept (Kept.of_below k (fun _ => False)) (fun e => e) (fun _ _ e => e.elim)

/-- what is laid into a row of cells, one behind the other -/
theorem fold_set (off : Nat) : ∀ (l : List Value) (s : Nat) (cs : Array Value), off + s + l.length ≤ cs.size → ∀ k, ((l.zipIdx s).foldl (fun (cs : Array Value) (p : Value × Nat) => cs.setIfInBounds (off + p.2) p.1) cs)[k]? = if off + s ≤ k ∧ k < off + s + l.length then l[k - off - s]? else cs[k]?
  | [], s, cs, _, k => by
    rw [if_neg (by simp)]
    rfl
  | a :: l, s, cs, h, k => by
    rw [List.zipIdx_cons, List.foldl_cons, fold_set off l (s + 1) _ (by simp at h ⊢; omega)]
    simp only [List.length_cons] at h ⊢
    by_cases hk : k = off + s
    · subst hk
      rw [if_neg (by omega), if_pos (by omega), Array.getElem?_setIfInBounds_self_of_lt (by omega), show off + s - off - s = 0 by omega]
      rfl
    · by_cases h1 : off + (s + 1) ≤ k ∧ k < off + (s + 1) + l.length
      · rw [if_pos h1, if_pos (by omega), show k - off - s = (k - off - (s + 1)) + 1 by omega, List.getElem?_cons_succ]
      · rw [if_neg h1, if_neg (by omega), Array.getElem?_setIfInBounds_ne (by omega)]
theorem fill123 {cells : Array Value} {pg : Value} {xs : List Value} (hc : cells.size = 257) (hp : pg.cells = #[pg]) (hx : xs.length = 256) :
    Instr.fill (fun i => (#[(0, 1), (1, 256)] : Array (Nat × Nat))[i]?) cells [(0, pg), (1, .agg xs.toArray)] = some (pg :: xs).toArray := by
  have hs : ∀ (l : List Value) (s : Nat) (cs : Array Value), ((l.zipIdx s).foldl (fun (cs : Array Value) (p : Value × Nat) => cs.setIfInBounds (1 + p.2) p.1) cs).size = cs.size := by
    intro l
    induction l with
    | nil => intro s cs; rfl
    | cons a l ih => intro s cs; rw [List.zipIdx_cons, List.foldl_cons, ih]; simp
  simp only [Instr.fill]
  have hx2 : (Value.agg xs.toArray).cells = xs.toArray := rfl
  rw [hp, hx2]
  simp [hx, hc]
  apply Array.ext_getElem?
  intro k
  rw [fold_set 1 xs 0 _ (by simp [hc, hx])]
  by_cases h1 : 1 + 0 ≤ k ∧ k < 1 + 0 + xs.length
  · rw [if_pos h1]
    obtain ⟨j, rfl⟩ : ∃ j, k = j + 1 := ⟨k - 1, by omega⟩
    simp
  · rw [if_neg h1]
    by_cases h0 : k = 0
    · subst h0
      simp [hc]
    · rw [Array.getElem?_eq_none (by simp [hc]; omega), Array.getElem?_eq_none (by simp [hx]; omega)]
noncomputable def zero123 : Array Value := (((Tryd.prog.info? 123).bind (·.zero)).getD (.pointer none)).cells
theorem zero123_size : zero123.size = 257 := by kernel_rfl
theorem build123 (w : World) {pg : Value} {xs : List Value} (hp : pg.cells = #[pg]) (hx : xs.length = 256) : (Instr.build 123 #[(0, pg), (1, .agg xs.toArray)]).run Tryd.prog w = .ok (.agg (pg :: xs).toArray) w := by
  refine run_build w 123 _ _ ?_
  have e : Tryd.prog.built 123 [(0, pg), (1, .agg xs.toArray)] = Instr.fill (fun i => (#[(0, 1), (1, 256)] : Array (Nat × Nat))[i]?) zero123 [(0, pg), (1, .agg xs.toArray)] := by kernel_rfl
  show Tryd.prog.built 123 [(0, pg), (1, .agg xs.toArray)] = _
  rw [e, fill123 zero123_size hp hx]

theorem load82 {w : World} {d : Nat} {pg : Value} {op : List Int} {n v c : Nat} (h : Box w d 88 (cellsX pg op n v c)) (ho : op.length = 256) : (Instr.loadAt 82 (.pointer (some ⟨d, 1, none⟩))).run Tryd.prog w = .ok (.agg (cellsOf op).toArray) w :=
  run_loadAt_mid w d 1 82 (cellsOf op) _ (fun j u hu => by
    have hj : j < 256 := by
      have := (List.getElem?_eq_some_iff.1 hu).1
      rw [cellsOf_len, ho] at this
      exact this
    rw [h.cell (1 + j), cellsX_at ho j hj, ← hu]
    simp [cellsOf, List.getD_eq_getElem?_getD, List.getElem?_eq_getElem (show j < op.length by omega)]) Tryd.underlying82 rfl (by rw [cellsOf_len, ho]; kernel_rfl)

theorem step_load {ops : Array Oper} {o : Oper} {a : Act} {w : World} {K : Act → World → Prop} {Q : Exit → Act → World → Prop} {E : Prop} (hgd : o.guard = none) (ty : TypeId) (x : Operand) (ho : o.op = .load ty x)
    (u : Value) (hx : a.eval x = u) (v : Value) (hl : (Instr.loadAt ty u).run Tryd.prog w = .ok v w) (d : Option Tmp) (hd : o.dst = d) (h : K (a.put d v) w) :
    if Region.wanted o (yielded ops a.tmps) = true then Oper.wp Tryd.prog o a w K Q else E := by
  have hw : Region.wanted o (yielded ops a.tmps) = true := by simp [Region.wanted, hgd]
  rw [if_pos hw]
  subst hd
  unfold Oper.wp execOp
  simp only [ho, hx, Sem.run_bind, hl, Result.andThen_ok]
  exact h
theorem step_build {ops : Array Oper} {o : Oper} {a : Act} {w : World} {K : Act → World → Prop} {Q : Exit → Act → World → Prop} {E : Prop} (hgd : o.guard = none) (t : TypeId) (parts : Array (Nat × Operand)) (ho : o.op = .build t parts)
    (v : Value) (ps : Array (Nat × Value)) (hps : (parts.map fun (i, x) => (i, a.eval x)) = ps) (hl : (Instr.build t ps).run Tryd.prog w = .ok v w) (d : Option Tmp) (hd : o.dst = d) (h : K (a.put d v) w) :
    if Region.wanted o (yielded ops a.tmps) = true then Oper.wp Tryd.prog o a w K Q else E := by
  have hw : Region.wanted o (yielded ops a.tmps) = true := by simp [Region.wanted, hgd]
  rw [if_pos hw]
  subst hd
  unfold Oper.wp execOp
  simp only [ho, hps, Sem.run_bind, hl, Result.andThen_ok]
  exact h

theorem take_to7 {ops : Array Oper} {Q : Exit → Act → World → Prop} {md : Region.Mode} {S : World → Prop} {i : Nat} {oi : Oper} {v : Value} {fuel : Nat} {listed : Array Bool} {a : Act} {w : World} (hi : ops[i]? = some oi)
    (hs : Region.noSelect ops = true) (hf : Region.free md ops listed i = true) (hr : (Region.ready md ops listed).contains i = true)
    (hQ : ∀ c a w, Q (.panic c) (a.put oi.dst v) w → Q (.panic c) a w) (hy : YieldsIf Tryd.prog ops S oi v a) (hS : S w) (d : Option Tmp) (hd : oi.dst = d)
    (h : wpAnyH Tryd.prog md ops Q S fuel (listed.setIfInBounds i true) (a.put d v) w) : wpAnyH Tryd.prog md ops Q S (fuel + 1) listed a w :=
  wpAnyH_take hi hs hf hr hQ hy hS (by rw [hd]; exact h)
theorem yieldsIf_build7 {ops : Array Oper} {S : World → Prop} {op : Oper} {a : Act} (hw : Region.wanted op (yielded ops a.tmps) = true) (t : TypeId) (parts : Array (Nat × Operand)) (ho : op.op = .build t parts)
    (v : Value) (ps : Array (Nat × Value)) (hps : (parts.map fun (i, x) => (i, a.eval x)) = ps) (h : ∀ w, (Instr.build t ps).run Tryd.prog w = .ok v w) : YieldsIf Tryd.prog ops S op v a :=
  .inl ⟨hw, fun w _ => by
    unfold execOp
    simp only [ho, hps, Sem.run_bind, h w, Result.andThen_ok, Sem.run_pure]⟩

theorem take_set {op : List Int} {m : Nat} {x : Int} (h : m < op.length) : (op.set m x).take (m + 1) = op.take m ++ [x] := by
  rw [List.take_succ_eq_append_getElem (by rw [List.length_set]; exact h), List.take_set_of_le (Nat.le_refl _), List.getElem_set_self]
/-- a page is laid aside -/
theorem paged {w w2 : World} {d n m v c : Nat} {pg : Value} {ps : List (List Int)} {op P : List Int} {x : Int} {Q : Array Value} (hb : Box w2 d 88 (cellsX pg (op.set m x) (n + 1) v c)) (hC : Chain w2 ps pg) (hk : Kept (fun i => i = d) w w2) (hQ : Q = (pg :: cellsOf (op.set m x)).toArray)
    (hf : Fit (op.set m x)) (ho : (op.set m x).length = 256) (hp : ps.length = n / 256) (hP : P = ps.reverse.flatten ++ op.take (n % 256)) (h0 : (n + 1) % 256 = 0) (hm : m = n % 256) :
    ByX ((w2.alloc (.cells Q 123)).setCell ⟨d, 0, none⟩ (.pointer (some ⟨w2.heap.size, 0, none⟩))) d (P ++ [x]) (n + 1) v c ∧ Kept (fun i => i = d) w ((w2.alloc (.cells Q 123)).setCell ⟨d, 0, none⟩ (.pointer (some ⟨w2.heap.size, 0, none⟩))) := by
  have ba := on_alloc w2 (.cells Q 123)
  have kk : Kept (fun i => i = d) (w2.alloc (.cells Q 123)) ((w2.alloc (.cells Q 123)).setCell ⟨d, 0, none⟩ (.pointer (some ⟨w2.heap.size, 0, none⟩))) := (Kept.refl (fun i => i = d) _).setCell (p := ⟨d, 0, none⟩) (fun _ => rfl) _
  have hdl := hb.lt
  have hb1 := (hb.on ba).put 0 (.pointer (some ⟨w2.heap.size, 0, none⟩))
  rw [cellsX_set_0] at hb1
  have hbd : ∀ i cs, i = d → (w2.alloc (.cells Q 123)).heap[i]? ≠ some (.cells cs 123 (0, 0)) := fun i cs e h => by
    subst e
    have hbb : (w2.alloc (.cells Q 123)).heap[i]? = some (.cells (cellsX pg (op.set m x) (n + 1) v c) 88 (0, 0)) := hb.on ba
    rw [hbb] at h
    simp at h
  have hC1 := Chain.kept kk hbd ps pg (Chain.on ba ps pg hC)
  have hpage : Box ((w2.alloc (.cells Q 123)).setCell ⟨d, 0, none⟩ (.pointer (some ⟨w2.heap.size, 0, none⟩))) w2.heap.size 123 (pg :: cellsOf (op.set m x)).toArray := by
    rw [← hQ]
    exact kk.box (Box.made _ _ _) (by omega)
  refine ⟨⟨.pointer (some ⟨w2.heap.size, 0, none⟩), (op.set m x) :: ps, op.set m x, hb1, ho, hf, ⟨w2.heap.size, pg, rfl, ho, hf, hpage, hC1⟩, by rw [List.length_cons, hp]; omega, ?_⟩, hk.trans ((Kept.of_below ba (fun i => i = d)).trans kk (fun _ _ h => h)) (fun _ _ h => h)⟩
  have hol : op.length = 256 := by rw [List.length_set] at ho; exact ho
  have h255 : m = 255 := by omega
  have ht : op.set m x = op.take m ++ [x] := by
    rw [← take_set (by omega), h255, List.take_of_length_le (by rw [List.length_set]; omega)]
  rw [h0, List.take_zero, List.append_nil, List.reverse_cons, List.flatten_append, hP, ← hm, ht]
  simp

/-- what add leaves -/
def AddedX (w : World) (d : Nat) (P : List Int) (n v c : Nat) (e : Ending) (w' : World) : Prop := e = .returned (.tuple #[]) ∧ ByX w' d P n v c ∧ Kept (fun i => i = d) w w'
set_option maxRecDepth 20000 in
set_option maxHeartbeats 1600000 in
theorem addX_any (w : World) (d : Nat) (P : List Int) (n v c : Nat) (x : Int) (h : ByX w d P n v c) (hx0 : 0 ≤ x) (hx1 : x ≤ 255) (hn : n < 5000) :
    Calls Tryd.prog 39 #[.pointer (some ⟨d, 0, none⟩), .int .u8 x] w (AddedX w d (P ++ [x]) (n + 1) v c) := by
  obtain ⟨pg, ps, op, hb, ho, hf, hC, hp, hP⟩ := h
  obtain ⟨m, hm⟩ : ∃ m, m = n % 256 := ⟨_, rfl⟩
  have hm1 : m < 256 := by omega
  have c1 : w.cell? ⟨d, 257, none⟩ = some (.int .i64 (n : Int)) := (hb.cell 257).trans (cellsX_n ho)
  have c2 := (hb.cell (1 + m)).trans (cellsX_at ho m hm1)
  have f1 := hb.free (1 + m)
  have f2 := hb.free 257
  have e1 : (n : Int) % 256 = m := by omega
  have hfs : Fit (op.set m x) := fun y hy => by
    rcases List.mem_or_eq_of_mem_set hy with h | rfl
    · exact hf y h
    · exact ⟨hx0, hx1⟩
  have hos : (op.set m x).length = 256 := by rw [List.length_set]; exact ho
  have hb2 := (hb.put (1 + m) (.int .u8 x)).put 257 (.int .i64 ((n + 1 : Nat) : Int))
  rw [cellsX_set_at ho m hm1, cellsX_set_n hos] at hb2
  have k2 : Kept (fun i => i = d) w ((w.setCell ⟨d, 1 + m, none⟩ (.int .u8 x)).setCell ⟨d, 257, none⟩ (.int .i64 ((n + 1 : Nat) : Int))) := ((Kept.refl (fun i => i = d) w).setCell (p := ⟨d, 1 + m, none⟩) (fun _ => rfl) _).setCell (p := ⟨d, 257, none⟩) (fun _ => rfl) _
  have hC2 : Chain ((w.setCell ⟨d, 1 + m, none⟩ (.int .u8 x)).setCell ⟨d, 257, none⟩ (.int .i64 ((n + 1 : Nat) : Int))) ps pg := Chain.kept k2 (fun i cs e h => by
    have e : i = d := e
    subst e
    have hbb : w.heap[i]? = some (.cells (cellsX pg op n v c) 88 (0, 0)) := hb
    rw [hbb] at h
    simp at h) ps pg hC
  have e3 : ((n + 1 : Nat) : Int) = (n : Int) + 1 := by omega
  rw [e3] at hb2 k2 hC2
  clear e3
  by_cases h0 : (n + 1) % 256 = 0
  · have e2 : ((n : Int) + 1) % 256 = 0 := by omega
    have HH := Lib.hid (And.intro hb2 (And.intro hC2 (And.intro k2 (And.intro hfs (And.intro hos (And.intro hp (And.intro hP (And.intro h0 hm))))))))
    clear hb hf hC hp hP hfs hos hb2 k2 hC2 ho h0 hm
    go_enter Tryd.func39, Tryd.ntmps39
    go_wp2_with fail
    go_region
    all_goals
      (go_wp2_with fail
       obtain ⟨w2, hw2⟩ : ∃ w2, w2 = ((w.setCell ⟨d, 1 + m, none⟩ (.int .u8 x)).setCell ⟨d, 257, none⟩ (.int .i64 ((n : Int) + 1))).drew := ⟨_, rfl⟩
       have HB2 := Lib.hid (show Box w2 d 88 (cellsX pg (op.set m x) (n + 1) v c) ∧ Chain w2 ps pg ∧ Kept (fun i => i = d) w w2 from by rw [hw2]; exact ⟨HH.out.1, Chain.on (on_drew _) _ _ HH.out.2.1, HH.out.2.2.1.drew⟩)
       rw [← hw2]
       clear hw2 c1 c2 f1 f2 e1 e2
       obtain ⟨xs, hxs⟩ : ∃ xs, xs = (cellsOf (op.set m x)).toArray := ⟨_, rfl⟩
       obtain ⟨Q, hQ⟩ : ∃ Q, Q = (pg :: cellsOf (op.set m x)).toArray := ⟨_, rfl⟩
       have L1 := Lib.hid (show (Instr.loadAt 82 (.pointer (some ⟨d, 1, none⟩))).run Tryd.prog w2.drew = .ok (.agg xs) w2.drew by rw [hxs]; exact load82 (HB2.out.1.on (on_drew _)) HH.out.2.2.2.2.1)
       have L2 := Lib.hid (show ∀ w, (Instr.build 123 #[(0, pg), (1, .agg xs)]).run Tryd.prog w = .ok (.agg Q) w from fun w => by rw [hxs, hQ]; exact build123 w HB2.out.2.1.one.2.1 (by rw [cellsOf_len]; exact HH.out.2.2.2.2.1))
       have c0 : w2.drew.cell? ⟨d, 0, none⟩ = some pg := ((HB2.out.1.on (on_drew _)).cell 0).trans cellsX_0
       have L0 := Lib.hid (show (Instr.loadAt 81 (.pointer (some ⟨d, 0, none⟩))).run Tryd.prog w2.drew = .ok pg w2.drew by go_simp)
       have D0 := Lib.hid (show (w2.alloc (.cells Q 123)).cell? ⟨d, 0, none⟩ = some pg from ((HB2.out.1.on (on_alloc _ _)).cell 0).trans cellsX_0)
       have D1 := Lib.hid ((HB2.out.1.on (on_alloc w2 (.cells Q 123))).free 0)
       have HX := Lib.hid (And.intro hxs hQ)
       clear hxs hQ c0
       have t0 : (fun _ : World => True) w2.drew := trivial
       refine wp_region_held_drew (S := fun _ => True) (by kernel_rfl) trivial fun _ => ?_
       refine take_to7 (i := 0) (v := .pointer (some ⟨d, 0, none⟩)) rfl (by kernel_rfl) (by kernel_rfl) (by kernel_rfl) (fun _ _ _ h => h) (Or.inl ⟨by rfl, fun w' hS => by go_simp⟩) trivial (some 27) rfl ?_
       try simp only [Act.put, List.setIfInBounds_toArray, List.set_cons_zero, List.set_cons_succ]
       refine take_to7 (i := 1) (v := .pointer (some ⟨d, 0, none⟩)) rfl (by kernel_rfl) (by kernel_rfl) (by kernel_rfl) (fun _ _ _ h => h) (Or.inl ⟨by rfl, fun w' hS => by go_simp⟩) trivial (some 28) rfl ?_
       try simp only [Act.put, List.setIfInBounds_toArray, List.set_cons_zero, List.set_cons_succ]
       refine take_to7 (i := 2) (v := .pointer (some ⟨d, 0, none⟩)) rfl (by kernel_rfl) (by kernel_rfl) (by kernel_rfl) (fun _ _ _ h => h) (Or.inl ⟨by rfl, fun w' hS => by go_simp⟩) trivial (some 29) rfl ?_
       try simp only [Act.put, List.setIfInBounds_toArray, List.set_cons_zero, List.set_cons_succ]
       refine take_to7 (i := 3) (v := .pointer (some ⟨d, 0, none⟩)) rfl (by kernel_rfl) (by kernel_rfl) (by kernel_rfl) (fun _ _ _ h => h) (Or.inl ⟨by rfl, fun w' hS => by go_simp⟩) trivial (some 30) rfl ?_
       try simp only [Act.put, List.setIfInBounds_toArray, List.set_cons_zero, List.set_cons_succ]
       refine take_to7 (i := 5) (v := .pointer (some ⟨d, 0, none⟩)) rfl (by kernel_rfl) (by kernel_rfl) (by kernel_rfl) (fun _ _ _ h => h) (Or.inl ⟨by rfl, fun w' hS => by go_simp⟩) trivial (some 32) rfl ?_
       try simp only [Act.put, List.setIfInBounds_toArray, List.set_cons_zero, List.set_cons_succ]
       refine take_to7 (i := 6) (v := .pointer (some ⟨d, 0, none⟩)) rfl (by kernel_rfl) (by kernel_rfl) (by kernel_rfl) (fun _ _ _ h => h) (Or.inl ⟨by rfl, fun w' hS => by go_simp⟩) trivial (some 33) rfl ?_
       try simp only [Act.put, List.setIfInBounds_toArray, List.set_cons_zero, List.set_cons_succ]
       refine take_to7 (i := 7) (v := .pointer (some ⟨d, 1, none⟩)) rfl (by kernel_rfl) (by kernel_rfl) (by kernel_rfl) (fun _ _ _ h => h) (Or.inl ⟨by rfl, fun w' hS => by go_simp⟩) trivial (some 34) rfl ?_
       try simp only [Act.put, List.setIfInBounds_toArray, List.set_cons_zero, List.set_cons_succ]
       refine wpAnyH_ready (rs := [4, 8]) (by kernel_rfl) (by simp) ?_
       refine AllReadyH.cons rfl (fun K hK => ?_) (AllReadyH.cons rfl (fun K hK => ?_) AllReadyH.nil)
       · refine step_load rfl 81 (.tmp 30) rfl (.pointer (some ⟨d, 0, none⟩)) rfl pg L0.out (some 31) rfl ?_
         refine hK.out _ _ trivial fun _ => ?_
         clear hK K
         try simp only [Act.put, List.setIfInBounds_toArray, List.set_cons_zero, List.set_cons_succ]
         refine wpAnyH_ready (rs := [8]) (by kernel_rfl) (by simp) ?_
         refine AllReadyH.cons rfl (fun K hK => ?_) AllReadyH.nil
         refine step_load rfl 82 (.tmp 34) rfl (.pointer (some ⟨d, 1, none⟩)) rfl (.agg xs) L1.out (some 35) rfl ?_
         refine hK.out _ _ trivial fun _ => ?_
         clear hK K
         try simp only [Act.put, List.setIfInBounds_toArray, List.set_cons_zero, List.set_cons_succ]
         refine take_to7 (i := 9) (v := .agg Q) rfl (by kernel_rfl) (by kernel_rfl) (by kernel_rfl) (fun _ _ _ h => h) (yieldsIf_build7 (by rfl) 123 _ rfl _ _ (by simp [Act.eval]) (fun w' => L2.out w')) trivial (some 36) rfl ?_
         try simp only [Act.put, List.setIfInBounds_toArray, List.set_cons_zero, List.set_cons_succ]
         refine wpAnyH_ready (rs := [10]) (by kernel_rfl) (by simp) ?_
         refine AllReadyH.cons rfl (fun K hK => ?_) AllReadyH.nil
         rw [if_pos (by rfl)]
         go_simp
         refine hK.out _ _ trivial fun _ => ?_
         clear hK K
         try simp only [Act.put, List.setIfInBounds_toArray, List.set_cons_zero, List.set_cons_succ]
         refine take_to7 (i := 11) (v := .pointer (some ⟨d, 0, none⟩)) rfl (by kernel_rfl) (by kernel_rfl) (by kernel_rfl) (fun _ _ _ h => h) (Or.inl ⟨by rfl, fun w' hS => by go_simp⟩) trivial (some 38) rfl ?_
         try simp only [Act.put, List.setIfInBounds_toArray, List.set_cons_zero, List.set_cons_succ]
         refine take_to7 (i := 12) (v := .pointer (some ⟨d, 0, none⟩)) rfl (by kernel_rfl) (by kernel_rfl) (by kernel_rfl) (fun _ _ _ h => h) (Or.inl ⟨by rfl, fun w' hS => by go_simp⟩) trivial (some 39) rfl ?_
         try simp only [Act.put, List.setIfInBounds_toArray, List.set_cons_zero, List.set_cons_succ]
         refine wpAnyH_ready (rs := [13]) (by kernel_rfl) (by simp) ?_
         refine AllReadyH.cons rfl (fun K hK => ?_) AllReadyH.nil
         rw [if_pos (by rfl)]
         have d0 := D0.out
         have f0 := D1.out
         go_simp
         refine hK.out _ _ trivial fun _ => ?_
         clear hK K
         try simp only [Act.put, List.setIfInBounds_toArray, List.set_cons_zero, List.set_cons_succ]
         refine wpAnyH_done (by kernel_rfl) ?_ _
         clear d0 f0
         have HQ := Lib.hid (show ByX ((w2.alloc (.cells Q 123)).setCell ⟨d, 0, none⟩ (.pointer (some ⟨w2.heap.size, 0, none⟩))) d (P ++ [x]) (n + 1) v c ∧ Kept (fun i => i = d) w ((w2.alloc (.cells Q 123)).setCell ⟨d, 0, none⟩ (.pointer (some ⟨w2.heap.size, 0, none⟩))) from paged HB2.out.1 HB2.out.2.1 HB2.out.2.2 HX.out.2 HH.out.2.2.2.1 HH.out.2.2.2.2.1 HH.out.2.2.2.2.2.1 HH.out.2.2.2.2.2.2.1 HH.out.2.2.2.2.2.2.2.1 HH.out.2.2.2.2.2.2.2.2)
         go_wp2
         go_end0
         exact ⟨rfl, HQ.out.1.on (on_drew _), HQ.out.2.drew⟩
       · refine step_load rfl 82 (.tmp 34) rfl (.pointer (some ⟨d, 1, none⟩)) rfl (.agg xs) L1.out (some 35) rfl ?_
         refine hK.out _ _ trivial fun _ => ?_
         clear hK K
         try simp only [Act.put, List.setIfInBounds_toArray, List.set_cons_zero, List.set_cons_succ]
         refine wpAnyH_ready (rs := [4]) (by kernel_rfl) (by simp) ?_
         refine AllReadyH.cons rfl (fun K hK => ?_) AllReadyH.nil
         refine step_load rfl 81 (.tmp 30) rfl (.pointer (some ⟨d, 0, none⟩)) rfl pg L0.out (some 31) rfl ?_
         refine hK.out _ _ trivial fun _ => ?_
         clear hK K
         try simp only [Act.put, List.setIfInBounds_toArray, List.set_cons_zero, List.set_cons_succ]
         refine take_to7 (i := 9) (v := .agg Q) rfl (by kernel_rfl) (by kernel_rfl) (by kernel_rfl) (fun _ _ _ h => h) (yieldsIf_build7 (by rfl) 123 _ rfl _ _ (by simp [Act.eval]) (fun w' => L2.out w')) trivial (some 36) rfl ?_
         try simp only [Act.put, List.setIfInBounds_toArray, List.set_cons_zero, List.set_cons_succ]
         refine wpAnyH_ready (rs := [10]) (by kernel_rfl) (by simp) ?_
         refine AllReadyH.cons rfl (fun K hK => ?_) AllReadyH.nil
         rw [if_pos (by rfl)]
         go_simp
         refine hK.out _ _ trivial fun _ => ?_
         clear hK K
         try simp only [Act.put, List.setIfInBounds_toArray, List.set_cons_zero, List.set_cons_succ]
         refine take_to7 (i := 11) (v := .pointer (some ⟨d, 0, none⟩)) rfl (by kernel_rfl) (by kernel_rfl) (by kernel_rfl) (fun _ _ _ h => h) (Or.inl ⟨by rfl, fun w' hS => by go_simp⟩) trivial (some 38) rfl ?_
         try simp only [Act.put, List.setIfInBounds_toArray, List.set_cons_zero, List.set_cons_succ]
         refine take_to7 (i := 12) (v := .pointer (some ⟨d, 0, none⟩)) rfl (by kernel_rfl) (by kernel_rfl) (by kernel_rfl) (fun _ _ _ h => h) (Or.inl ⟨by rfl, fun w' hS => by go_simp⟩) trivial (some 39) rfl ?_
         try simp only [Act.put, List.setIfInBounds_toArray, List.set_cons_zero, List.set_cons_succ]
         refine wpAnyH_ready (rs := [13]) (by kernel_rfl) (by simp) ?_
         refine AllReadyH.cons rfl (fun K hK => ?_) AllReadyH.nil
         rw [if_pos (by rfl)]
         have d0 := D0.out
         have f0 := D1.out
         go_simp
         refine hK.out _ _ trivial fun _ => ?_
         clear hK K
         try simp only [Act.put, List.setIfInBounds_toArray, List.set_cons_zero, List.set_cons_succ]
         refine wpAnyH_done (by kernel_rfl) ?_ _
         clear d0 f0
         have HQ := Lib.hid (show ByX ((w2.alloc (.cells Q 123)).setCell ⟨d, 0, none⟩ (.pointer (some ⟨w2.heap.size, 0, none⟩))) d (P ++ [x]) (n + 1) v c ∧ Kept (fun i => i = d) w ((w2.alloc (.cells Q 123)).setCell ⟨d, 0, none⟩ (.pointer (some ⟨w2.heap.size, 0, none⟩))) from paged HB2.out.1 HB2.out.2.1 HB2.out.2.2 HX.out.2 HH.out.2.2.2.1 HH.out.2.2.2.2.1 HH.out.2.2.2.2.2.1 HH.out.2.2.2.2.2.2.1 HH.out.2.2.2.2.2.2.2.1 HH.out.2.2.2.2.2.2.2.2)
         go_wp2
         go_end0
         exact ⟨rfl, HQ.out.1.on (on_drew _), HQ.out.2.drew⟩)
  · have e2 : ¬ ((n : Int) + 1) % 256 = 0 := by omega
    have hfin : ByX ((w.setCell ⟨d, 1 + m, none⟩ (.int .u8 x)).setCell ⟨d, 257, none⟩ (.int .i64 ((n : Int) + 1))) d (P ++ [x]) (n + 1) v c :=
      ⟨pg, ps, op.set m x, hb2, hos, hfs, hC2, by rw [hp]; omega, by rw [show (n + 1) % 256 = m + 1 by omega, take_set (by omega), hP, ← hm, List.append_assoc]⟩
    have HH := Lib.hid (And.intro hfin k2)
    clear hb hf hC hp hP hfs hos hb2 k2 hC2 ho h0 hm hfin
    go_enter Tryd.func39, Tryd.ntmps39
    go_wp2_with fail
    go_region
    all_goals
      (go_wp2
       go_end0
       exact ⟨rfl, HH.out.1.on (on_drew _), HH.out.2.drew⟩)
end Go.Proofs.YthfpdebpepbejaaDoor

namespace Go.Proofs.YthfpdebpepbejaaDoor
open Go.RowKit

/-- a writer with pages: its bits are L -/
def WrX (w : World) (d : Nat) (L : List Int) (n v c : Nat) : Prop := v < 2 ^ c ∧ ∃ P, ByX w d P n v c ∧ L = by8 P ++ dig v c
def Wx (w : World) (d : Nat) (L : List Int) : Prop := ∃ n v c, WrX w d L n v c ∧ c < 8 ∧ n ≤ 4000
theorem WrX.len {w : World} {d n v c : Nat} {L : List Int} (h : WrX w d L n v c) : L.length = 8 * n + c := by
  obtain ⟨_, P, hB, rfl⟩ := h
  rw [List.length_append, by8_len, dig_len, hB.fit.2]
theorem WrX.count {w : World} {d n v c : Nat} {L : List Int} (h : WrX w d L n v c) : countOf d w = c := by
  obtain ⟨_, P, ⟨pg, ps, op, hb, ho, _⟩, _⟩ := h
  unfold countOf
  rw [show w.cell? ⟨d, 259, none⟩ = some (.int .i64 (c : Int)) from (hb.cell 259).trans (cellsX_c ho)]
  simp
theorem byX_part {w w' : World} {d n v c v' c' : Nat} {pg : Value} {ps : List (List Int)} {op P : List Int} (hb : Box w d 88 (cellsX pg op n v c)) (ho : op.length = 256) (hf : Fit op) (hC : Chain w ps pg) (hp : ps.length = n / 256) (hP : P = ps.reverse.flatten ++ op.take (n % 256))
    (hb' : Box w' d 88 (cellsX pg op n v' c')) (k : Kept (fun i => i = d) w w') : ByX w' d P n v' c' :=
  ⟨pg, ps, op, hb', ho, hf, Chain.kept k (fun i cs e h => by
    have e : i = d := e
    subst e
    have hbb : w.heap[i]? = some (.cells (cellsX pg op n v c) 88 (0, 0)) := hb
    rw [hbb] at h
    simp at h) ps pg hC, hp, hP⟩
/-- how a writer stands while whole bytes are taken off its part -/
structure PuttingX (w : World) (d : Nat) (L : List Int) (wr : World) (n v c : Nat) : Prop where
  wri : WrX wr d L n v c
  small : c ≤ 31
  few : n ≤ 4004
  bel : Kept (fun i => i = d) w wr
theorem WrX.off {w : World} {d n v c j : Nat} {P L : List Int} (hL : L = by8 P ++ dig v c) (hj : c = 8 + j) (hb : ByX w d (P ++ [((v / 2 ^ j : Nat) : Int)]) (n + 1) (v % 2 ^ j) j) : WrX w d L (n + 1) (v % 2 ^ j) j := by
  refine ⟨Nat.mod_lt _ (pow_pos' j), _, hb, ?_⟩
  rw [hL, hj, dig_cut, by8_app, by8_one, List.append_assoc, Int.toNat_natCast]

set_option maxHeartbeats 1600000 in
theorem putX_done (w : World) (d n v c x k : Nat) (L : List Int) (h : WrX w d L n v c) (hc : c < 8) (hn : n ≤ 4000) (hk : k ≤ 24) (hx : x < 2 ^ k) :
    Calls Tryd.prog 22 #[.pointer (some ⟨d, 0, none⟩), .int .i64 (x : Int), .int .i64 (k : Int)] w fun e w' => e = .returned (.int .i64 0) ∧ (∃ n' v' c', WrX w' d (L ++ dig x k) n' v' c' ∧ c' < 8 ∧ n' ≤ 4004) ∧ Kept (fun i => i = d) w w' := by
  have hlen := h.len
  obtain ⟨hv, PB, ⟨pg, ps, op, hb, ho, hf, hC, hp0, hPB⟩, hL⟩ := h
  have c1 : w.cell? ⟨d, 258, none⟩ = some (.int .i64 (v : Int)) := (hb.cell 258).trans (cellsX_v ho)
  have f1 := hb.free 258
  obtain ⟨p, hp⟩ : ∃ p : Nat, p = 2 ^ k := ⟨_, rfl⟩
  have hp1 : p ≤ 16777216 := by rw [hp]; exact Nat.le_trans (Nat.pow_le_pow_right (by omega) hk) (by decide)
  have hp2 : (2 : Int) ^ k = (p : Int) := by rw [hp]; simp
  have hxp : x < p := by rw [hp]; exact hx
  have hxp2 : ¬ (p : Int) ≤ x := by omega
  have hv8 : v < 128 := Nat.lt_of_lt_of_le hv (Nat.le_trans (Nat.pow_le_pow_right (by omega) (show c ≤ 7 by omega)) (by decide))
  obtain ⟨m, hm⟩ : ∃ m : Nat, m = v * p := ⟨_, rfl⟩
  have hm1 : (v : Int) * p = (m : Int) := by rw [hm]; simp
  have hm2 : m ≤ 2147483648 := by rw [hm]; exact Nat.le_trans (Nat.mul_le_mul (show v ≤ 128 by omega) hp1) (by omega)
  have c2 : w.cell? ⟨d, 259, none⟩ = some (.int .i64 (c : Int)) := (hb.cell 259).trans (cellsX_c ho)
  have f2 := hb.free 259
  have hor : bits .or .i64 (m : Int) (x : Int) = ((m + x : Nat) : Int) := by
    rw [or_i64 _ _ (by omega) (by omega), hm, hp, or_join _ _ _ hx]
  obtain ⟨w1, hw1⟩ : ∃ w1, w1 = (w.setCell ⟨d, 258, none⟩ (.int .i64 ((m + x : Nat) : Int))).setCell ⟨d, 259, none⟩ (.int .i64 ((c + k : Nat) : Int)) := ⟨_, rfl⟩
  have hP : PuttingX w d (L ++ dig x k) w1 n (m + x) (c + k) := by
    refine ⟨⟨?_, PB, byX_part hb ho hf hC hp0 hPB ?_ ?_, ?_⟩, by omega, by omega, ?_⟩
    · rw [hm, hp]; exact join_lt hv hx
    · have := (hb.put 258 (.int .i64 ((m + x : Nat) : Int))).put 259 (.int .i64 ((c + k : Nat) : Int))
      rw [cellsX_set_v ho, cellsX_set_c ho] at this
      rw [hw1]
      exact this
    · rw [hw1]
      exact ((Kept.refl (fun i => i = d) w).setCell (p := ⟨d, 258, none⟩) (fun _ => rfl) _).setCell (p := ⟨d, 259, none⟩) (fun _ => rfl) _
    · rw [hL, hm, hp, dig_join v c x k hx, List.append_assoc]
    · rw [hw1]
      exact ((Kept.refl (fun i => i = d) w).setCell (p := ⟨d, 258, none⟩) (fun _ => rfl) _).setCell (p := ⟨d, 259, none⟩) (fun _ => rfl) _
  have e1 : ((m + x : Nat) : Int) = (m : Int) + x := by omega
  have e2 : ((c + k : Nat) : Int) = (c : Int) + k := by omega
  rw [e1] at hor
  have HH := Lib.hid (And.intro hP (And.intro hw1 (And.intro e1 e2)))
  have HL := Lib.hid hlen
  clear hb ho hf hv hL hp hm hlen hx hP hw1 e1 e2 hC hp0 hPB
  go_enter Tryd.func22, Tryd.ntmps22
  go_wp2_with fail
  obtain ⟨hP, hw1, e1, e2⟩ := HH.out
  rw [← e1, ← e2, ← hw1]
  clear hw1 e1 e2 HH c1 c2 f1 f2 hor
  have HP := Lib.hid hP
  clear hP
  go_loopw [48] (fun _ wr => ∃ n' v' c', PuttingX w d (L ++ dig x k) wr n' v' c') (fun _ wr => countOf d wr)
  case atStart => exact ⟨_, _, _, HP.out⟩
  case round =>
    obtain ⟨n1, v1, c1, hP⟩ := hrel
    have hl1 := hP.wri.len
    rw [List.length_append, dig_len, HL.out] at hl1
    have hs1 := hP.small
    have hw := hP.wri
    obtain ⟨hv1, P1, hB1, hL1⟩ := hw
    obtain ⟨pg1, ps1, op1, hb1, ho1, hf1, hC1, hp1, hP1⟩ := hB1
    have q1 : wr.cell? ⟨d, 259, none⟩ = some (.int .i64 (c1 : Int)) := (hb1.cell 259).trans (cellsX_c ho1)
    by_cases h8 : 8 ≤ c1
    · obtain ⟨j, hj⟩ : ∃ j, c1 = 8 + j := ⟨c1 - 8, by omega⟩
      have hv31 : v1 < 2147483648 := Nat.lt_of_lt_of_le hv1 (Nat.le_trans (Nat.pow_le_pow_right (by omega) (show c1 ≤ 31 by omega)) (by decide))
      obtain ⟨q, hq⟩ : ∃ q, q = v1 / 2 ^ j := ⟨_, rfl⟩
      have hq8 : q < 256 := by
        rw [hq, Nat.div_lt_iff_lt_mul (pow_pos' j)]
        rw [hj, Nat.pow_add] at hv1
        exact hv1
      have hn1 : n1 < 4004 := by omega
      have hcw := hP.wri.count
      have HR := Lib.hid (And.intro hP (And.intro hb1 (And.intro ho1 (And.intro hf1 (And.intro hv1 (And.intro hL1 (And.intro hj (And.intro hq (And.intro hl1 hcw)))))))))
      have HR2 := Lib.hid (And.intro hC1 (And.intro hp1 hP1))
      have HW := Lib.hid (show IntKind.u8.wrap (q : Int) = q by simp [IntKind.wrap, IntKind.bits, IntKind.signed]; omega)
      have HT := Lib.hid (take_at wr.drew d 258 88 (cellsX pg1 op1 n1 v1 c1) v1 c1 j 8 hb1 (cellsX_v ho1) (cellsX_c ho1) (by omega) (by omega) (by omega) (by omega))
      clear hP hb1 ho1 hf1 hv1 hL1 hl1 hj hq hcw hC1 hp1 hP1
      go_wp2_with fail
      go_region_held3 (fun _ => True) (exact trivial)
        (first
          | (go_at_call 40
             with_reducible refine HT.out.mono ?_
             rintro e w2 ⟨rfl, hb2, k2⟩
             rw [cellsX_set_c HR.out.2.2.1, cellsX_set_v HR.out.2.2.1] at hb2
             rw [← HR.out.2.2.2.2.2.2.2.1]
             have H2 := Lib.hid (And.intro (byX_part (HR.out.2.1.on (on_drew wr)) HR.out.2.2.1 HR.out.2.2.2.1 (Chain.on (on_drew wr) _ _ HR2.out.1) HR2.out.2.1 HR2.out.2.2 hb2 k2) k2)
             clear hb2 k2)
          | (go_at_call 39
             rw [HW.out]
             with_reducible refine (addX_any w2 d P1 n1 (v1 % 2 ^ j) j (q : Int) H2.out.1 (by omega) (by omega) (by omega)).mono ?_
             rintro e w3 ⟨rfl, hb3, k3⟩
             have H3 := Lib.hid (And.intro hb3 k3)
             clear hb3 k3))
      all_goals
        (have hP3 : PuttingX w d (L ++ dig x k) w3 (n1 + 1) (v1 % 2 ^ j) j := by
           have hb3 := H3.out.1
           rw [HR.out.2.2.2.2.2.2.2.1] at hb3
           exact ⟨WrX.off HR.out.2.2.2.2.2.1 HR.out.2.2.2.2.2.2.1 hb3, by have := HR.out.2.2.2.2.2.2.1; omega, by omega, ((HR.out.1.bel.drew).trans H2.out.2 (fun _ _ h => h)).trans H3.out.2 (fun _ _ h => h)⟩
         have HQ := Lib.hid hP3
         clear hP3
         go_wp2
         go_roundw
         case rel => exact ⟨_, _, _, _, _, _, _, _, _, _, _, _, _, _, _, ⟨_, _, _, HQ.out⟩, rfl⟩
         case measure =>
           rw [HQ.out.wri.count, HR.out.2.2.2.2.2.2.2.2.2]
           have := HR.out.2.2.2.2.2.2.1
           omega)
    · have HE := Lib.hid (And.intro hP.wri (And.intro hP.few hP.bel))
      clear hP hb1 ho1 hf1 hv1 hL1 hl1 hC1 hp1 hP1
      go_wp2
      go_ret
      exact ⟨rfl, ⟨_, _, _, HE.out.1, by omega, HE.out.2.1⟩, HE.out.2.2⟩


theorem Wx.box {w : World} {d : Nat} {L : List Int} (h : Wx w d L) : ∃ cs, Box w d 88 cs := by
  obtain ⟨_, _, _, ⟨_, _, ⟨_, _, _, hb, _⟩, _⟩, _⟩ := h
  exact ⟨_, hb⟩
theorem Wx.lt {w : World} {d : Nat} {L : List Int} (h : Wx w d L) : d < w.heap.size := by
  obtain ⟨cs, hb⟩ := h.box
  exact hb.lt
theorem Wx.kept {S : Nat → Prop} {w w' : World} {d : Nat} {L : List Int} (h : Wx w d L) (k : Kept S w w') (hd : ¬ S d) (hS : ∀ i cs, S i → w.heap[i]? ≠ some (.cells cs 123 (0, 0))) : Wx w' d L := by
  obtain ⟨n, v, c, ⟨h1, P, hB, h2⟩, h3⟩ := h
  exact ⟨n, v, c, ⟨h1, P, hB.kept k hd hS, h2⟩, h3⟩
theorem Wx.on {w w' : World} {d : Nat} {L : List Int} (h : Wx w d L) (k : Below w.heap.size w w') : Wx w' d L :=
  h.kept (Kept.of_below k (fun _ => False)) (fun e => e) (fun _ _ e => e.elim)
theorem putX_any (w : World) (d : Nat) (L : List Int) (v c : Int) (h : Wx w d L) (hl : L.length ≤ 31000) :
    Calls Tryd.prog 22 #[.pointer (some ⟨d, 0, none⟩), .int .i64 v, .int .i64 c] w fun e w' => e = .returned (.int .i64 (putE v c)) ∧ Wx w' d (putL L v c) ∧ Kept (fun i => i = d) w w' := by
  by_cases hm : mayPut v c
  · obtain ⟨n, v0, c0, h1, h2, h3⟩ := h
    obtain ⟨m0, m1, m2, m3⟩ := hm
    obtain ⟨x, rfl⟩ := Int.eq_ofNat_of_zero_le m2
    obtain ⟨k, rfl⟩ := Int.eq_ofNat_of_zero_le m0
    have hx : x < 2 ^ k := by
      rw [Int.toNat_natCast] at m3
      have e : ((2 : Int) ^ k) = ((2 ^ k : Nat) : Int) := by simp
      rw [e] at m3
      exact Int.ofNat_lt.1 m3
    refine (putX_done w d n v0 c0 x k L h1 h2 h3 (by omega) hx).mono ?_
    rintro e w' ⟨rfl, ⟨n', v', c', g1, g2, g3⟩, g4⟩
    have hm : mayPut (x : Int) (k : Int) := ⟨m0, m1, m2, m3⟩
    refine ⟨by rw [putE, if_pos hm], ?_, g4⟩
    rw [putL, if_pos hm, Int.toNat_natCast, Int.toNat_natCast]
    have := g1.len
    rw [List.length_append, dig_len] at this
    exact ⟨n', v', c', g1, g2, by omega⟩
  · refine (put_refused w d v c hm).mono ?_
    rintro e w' ⟨rfl, rfl⟩
    exact ⟨by rw [putE, if_neg hm], by rw [putL, if_neg hm]; exact h, Kept.refl _ _⟩
theorem newWriterX (w : World) : Calls Tryd.prog 21 #[] w fun e w' => ∃ d, e = .returned (.pointer (some ⟨d, 0, none⟩)) ∧ w.heap.size ≤ d ∧ Wx w' d [] ∧ Below w.heap.size w w' := by
  refine (newWriter_any w).mono ?_
  rintro e w' ⟨rfl, hb, bel⟩
  refine ⟨_, rfl, Nat.le_refl _, ⟨0, 0, 0, ⟨by omega, [], ⟨.pointer none, [], List.replicate 256 0, hb, List.length_replicate, fun z hz => ?_, rfl, rfl, rfl⟩, rfl⟩, by omega, by omega⟩, bel⟩
  rw [List.eq_of_mem_replicate hz]
  omega
end Go.Proofs.YthfpdebpepbejaaDoor

namespace Go.Proofs.YthfpdebpepbejaaDoor
open Go.RowKit

/-- how all stands: the pages of r are still to be copied -/
structure AllAt (w wr : World) (g d : Nat) (P : List Int) (r : List (List Int)) (pg : Value) : Prop where
  ch : Chain wr r pg
  pre : r.reverse.flatten = P.take (256 * r.length)
  few : 256 * r.length ≤ P.length
  out_ : Box wr g 5 (cellsOf (List.replicate (256 * r.length) 0 ++ P.drop (256 * r.length))).toArray
  bel : Below g w wr
theorem AllAt.step {w wr w' : World} {g d : Nat} {P x : List Int} {r : List (List Int)} {nx : Value} {gp : Nat} (h : AllAt w wr g d P (x :: r) (.pointer (some ⟨gp, 0, none⟩))) (hx : x.length = 256) (hch : Chain wr r nx) (hg : g = w.heap.size)
    (hb : Box w' g 5 (cellsOf (splice (List.replicate (256 * (x :: r).length) 0 ++ P.drop (256 * (x :: r).length)) (256 * r.length) x)).toArray) (k : Kept (fun i => i = g) wr w') : AllAt w w' g d P r nx := by
  have hf := h.few
  have hp := h.pre
  simp only [List.length_cons] at hf hp hb
  have hrl : r.reverse.flatten.length = 256 * r.length := hch.fit.2
  rw [List.reverse_cons, List.flatten_append] at hp
  have hp1 : r.reverse.flatten = P.take (256 * r.length) := by
    have h1 := congrArg (List.take (256 * r.length)) hp
    rw [List.take_left' hrl, List.take_take, Nat.min_eq_left (by omega)] at h1
    exact h1
  have hp2 : P.drop (256 * r.length) = x ++ P.drop (256 * (r.length + 1)) := by
    have h1 := congrArg (List.drop (256 * r.length)) hp
    rw [List.drop_left' hrl, List.drop_take] at h1
    have h2 : [x].flatten = x := by simp
    rw [h2, show 256 * (r.length + 1) - 256 * r.length = 256 by omega] at h1
    conv => lhs; rw [← List.take_append_drop 256 (P.drop (256 * r.length))]
    rw [← h1, List.drop_drop, show 256 * r.length + 256 = 256 * (r.length + 1) by omega]
  have hs : splice (List.replicate (256 * (r.length + 1)) 0 ++ P.drop (256 * (r.length + 1))) (256 * r.length) x = List.replicate (256 * r.length) 0 ++ P.drop (256 * r.length) := by
    unfold splice
    rw [hp2, hx, List.take_append_of_le_length (by rw [List.length_replicate]; omega), List.take_replicate, Nat.min_eq_left (by omega), show 256 * r.length + 256 = 256 * (r.length + 1) by omega, List.drop_left' (by rw [List.length_replicate])]
    try rw [List.append_assoc]
  rw [hs] at hb
  refine ⟨Chain.kept k (fun i cs e h2 => ?_) r nx hch, hp1, by omega, hb, h.bel.trans (k.below (by rw [hg]; exact Nat.le_trans (Nat.le_refl _) (by have := h.bel.size; omega)) (fun i hi e => by omega))⟩
  have e : i = g := e
  subst e
  have hbb := h.out_
  unfold Box at hbb
  rw [hbb] at h2
  simp at h2

set_option maxRecDepth 10000 in
set_option maxHeartbeats 1600000 in
theorem allX_any (w : World) (d : Nat) (P : List Int) (n v c : Nat) (h : ByX w d P n v c) (hn : n ≤ 4100) :
    Calls Tryd.prog 47 #[.pointer (some ⟨d, 0, none⟩)] w fun e w' => e = .returned (.slice (some ⟨w.heap.size, 0, none⟩) n n) ∧ Box w' w.heap.size 5 (cellsOf P).toArray ∧ Below w.heap.size w w' := by
  have hPl := h.fit.2
  obtain ⟨pg, ps, op, hb, ho, hf, hC, hp, hP⟩ := h
  obtain ⟨m, hm⟩ : ∃ m, m = n % 256 := ⟨_, rfl⟩
  obtain ⟨a, ha⟩ : ∃ a, a = 256 * ps.length := ⟨_, rfl⟩
  have hna : n = a + m := by omega
  have hm1 : m < 256 := by omega
  have c1 : w.cell? ⟨d, 257, none⟩ = some (.int .i64 (n : Int)) := (hb.cell 257).trans (cellsX_n ho)
  have ld := hb.lt
  have hmk := run_make_row' (P := Tryd.prog) 54 5 (.int .u8 0) 1 Tryd.underlying54 byte_info rfl .i64 .i64 n (by omega) (by omega)
  obtain ⟨M, hM⟩ : ∃ M, M = madeCells #[.int .u8 0] n := ⟨_, rfl⟩
  rw [← hM] at hmk
  obtain ⟨g, hg⟩ : ∃ g, g = w.heap.size := ⟨_, rfl⟩
  obtain ⟨w1, hw1⟩ : ∃ w1, w1 = w.alloc (.cells M 5) := ⟨_, rfl⟩
  have hM2 : M = (cellsOf (List.replicate n 0)).toArray := by
    apply Array.toList_inj.1
    rw [hM, toList_madeCells_one]
    simp [cellsOf]
  have hbm : Box w1 g 5 (cellsOf (List.replicate n 0)).toArray := by rw [hw1, hg, ← hM2]; exact Box.made _ _ _
  have bel1 : Below w.heap.size w w1 := by rw [hw1]; exact on_alloc _ _
  have hb1 := hb.on bel1
  have hmw := hmk w
  rw [← hw1, ← hg] at hmw
  have d1 : w1.cell? ⟨d, 257, none⟩ = some (.int .i64 (n : Int)) := (hb1.cell 257).trans (cellsX_n ho)
  have hsrc : ∀ j u, (cellsOf (op.take m))[j]? = some u → w1.cell? ((⟨d, 1, none⟩ : Addr).add j) = some u := fun j u hu => by
    have hj : j < m := by
      have := (List.getElem?_eq_some_iff.1 hu).1
      rw [cellsOf_len, List.length_take] at this
      omega
    rw [plain_add]
    refine (hb1.cell (1 + j)).trans ((cellsX_at ho j (by omega)).trans ?_)
    rw [← hu]
    simp only [cellsOf, List.getElem?_map]
    rw [List.getElem?_take_of_lt hj, List.getElem?_eq_getElem (by omega), List.getD_eq_getElem?_getD, List.getElem?_eq_getElem (by omega)]
    rfl
  have htl : (op.take m).length = m := by rw [List.length_take]; omega
  have HH := Lib.hid (And.intro hb (And.intro ho (And.intro hbm (And.intro bel1 (And.intro hg (And.intro hsrc htl))))))
  have HP := Lib.hid (And.intro hC (And.intro hp (And.intro hP (And.intro hPl (And.intro hna (And.intro ha hm))))))
  have e1 : (n : Int) % 256 = m := by omega
  have e2 : (n : Int) - m = a := by omega
  have e3 : (a : Int) ≤ n := by omega
  have e4 : a ≤ n := by omega
  have e5 : n - a = m := by omega
  clear hb1 hsrc htl hb ho hmk hM hM2 hw1 hbm bel1 ld hC hp hP hPl hna ha hf
  rw [← hg]
  clear hg hm
  go_enter Tryd.func47, Tryd.ntmps47
  go_wp2_with fail
  go_quiet (fail)
  go_wp2_with fail
  generalize hw2 : World.drewN w1 nq = w2
  have HF : Hid (Box w2.drew g 5 (cellsOf (List.replicate n 0)).toArray ∧ (∀ j v, (cellsOf (op.take m))[j]? = some v → (w2.drew).cell? ((⟨d, 1, none⟩ : Addr).add j) = some v) ∧ Below w.heap.size w w2.drew ∧ (op.take m).length = Nat.min 256 (n - a) ∧ a + (op.take m).length ≤ (List.replicate n (0 : Int)).length) := by
    subst hw2
    exact Lib.hid ⟨HH.out.2.2.1, HH.out.2.2.2.2.2.1, on_trans (on_trans HH.out.2.2.2.1 (below_drewN_refl _ _)) (on_drew _), by rw [HH.out.2.2.2.2.2.2, e5]; exact (Nat.min_eq_right (by omega)).symm, by rw [HH.out.2.2.2.2.2.2, List.length_replicate]; omega⟩
  clear hw2 d1 c1 hmw e1 e2
  by_cases heq : n = a
  · refine wp_region_held_drew (S := fun _ => True) (by kernel_rfl) trivial fun _ => ?_
    refine take_to7 (i := 0) (v := .slice (some ⟨g, 0, none⟩) n n) rfl (by kernel_rfl) (by kernel_rfl) (by kernel_rfl) (fun _ _ _ h => h) (Or.inl ⟨by rfl, fun w' hS => by go_simp⟩) trivial (some 21) rfl ?_
    try simp only [Act.put, List.setIfInBounds_toArray, List.set_cons_zero, List.set_cons_succ]
    refine take_to7 (i := 1) (v := .int .i64 (a : Int)) rfl (by kernel_rfl) (by kernel_rfl) (by kernel_rfl) (fun _ _ _ h => h) (Or.inl ⟨by rfl, fun w' hS => by go_simp⟩) trivial (some 22) rfl ?_
    try simp only [Act.put, List.setIfInBounds_toArray, List.set_cons_zero, List.set_cons_succ]
    refine take_to7 (i := 2) (v := .slice (some ⟨g, 0, none⟩) (n - a) (n - a)) rfl (by kernel_rfl) (by kernel_rfl) (by kernel_rfl) (fun _ _ _ h => h) (Or.inl ⟨by rfl, fun w' hS => by go_simp⟩) trivial (some 23) rfl ?_
    try simp only [Act.put, List.setIfInBounds_toArray, List.set_cons_zero, List.set_cons_succ]
    refine take_to7 (i := 3) (v := .pointer (some ⟨d, 0, none⟩)) rfl (by kernel_rfl) (by kernel_rfl) (by kernel_rfl) (fun _ _ _ h => h) (Or.inl ⟨by rfl, fun w' hS => by go_simp⟩) trivial (some 24) rfl ?_
    try simp only [Act.put, List.setIfInBounds_toArray, List.set_cons_zero, List.set_cons_succ]
    refine take_to7 (i := 4) (v := .pointer (some ⟨d, 0, none⟩)) rfl (by kernel_rfl) (by kernel_rfl) (by kernel_rfl) (fun _ _ _ h => h) (Or.inl ⟨by rfl, fun w' hS => by go_simp⟩) trivial (some 25) rfl ?_
    try simp only [Act.put, List.setIfInBounds_toArray, List.set_cons_zero, List.set_cons_succ]
    refine take_to7 (i := 5) (v := .pointer (some ⟨d, 1, none⟩)) rfl (by kernel_rfl) (by kernel_rfl) (by kernel_rfl) (fun _ _ _ h => h) (Or.inl ⟨by rfl, fun w' hS => by go_simp⟩) trivial (some 26) rfl ?_
    try simp only [Act.put, List.setIfInBounds_toArray, List.set_cons_zero, List.set_cons_succ]
    refine take_to7 (i := 6) (v := .slice (some ⟨d, 1, none⟩) 256 256) rfl (by kernel_rfl) (by kernel_rfl) (by kernel_rfl) (fun _ _ _ h => h) (Or.inl ⟨by rfl, fun w' hS => by go_simp⟩) trivial (some 27) rfl ?_
    try simp only [Act.put, List.setIfInBounds_toArray, List.set_cons_zero, List.set_cons_succ]
    refine wpAnyH_ready (rs := [7]) (by kernel_rfl) (by simp) ?_
    refine AllReadyH.cons rfl (fun K hK => ?_) AllReadyH.nil
    refine step_copy_only rfl (.tmp 23) (.tmp 27) rfl g 0 (n - a) (n - a) 256 256 ⟨d, 1, none⟩ rfl rfl (List.replicate n 0) (op.take m) HF.out.1 HF.out.2.2.2.1 HF.out.2.1 (by have := HF.out.2.2.2.2; omega) ?_
    intro w6 hb6 k6
    have H6 := Lib.hid (And.intro hb6 k6)
    clear hb6 k6
    refine hK.out _ _ trivial fun _ => ?_
    clear hK K
    simp only [Act.put]
    refine wpAnyH_done (by kernel_rfl) ?_ _
    have hA : AllAt w w6 g d P ps pg := by
      obtain ⟨hC, hp, hP, hPl, hna, ha, hm⟩ := HP.out
      have hlen := hC.fit.2
      have bw : Below w.heap.size w w6 := HF.out.2.2.1.trans (H6.out.2.below HF.out.2.2.1.size (fun i hi e => by have := HH.out.2.2.2.2.1; omega))
      have hb6 := H6.out.1
      have hPa : P.take (256 * ps.length) = ps.reverse.flatten := by rw [hP, List.take_left' hlen]
      have hPd : P.drop (256 * ps.length) = op.take m := by rw [hP, List.drop_left' hlen, ← hm]
      have hm0 : m = 0 := by omega
      have hsp : splice (List.replicate n 0) 0 (op.take m) = List.replicate (256 * ps.length) 0 ++ P.drop (256 * ps.length) := by
        unfold splice
        rw [hPd, hm0, List.take_zero, List.take_zero, List.append_nil, List.length_nil, Nat.add_zero, List.drop_zero, ← ha, heq]
        rfl
      rw [hsp] at hb6
      exact ⟨Chain.on bw ps pg hC, hPa.symm, by omega, hb6, by rw [HH.out.2.2.2.2.1]; exact bw⟩
    have hd6 : Box w6 d 88 (cellsX pg op n v c) := by
      have := HH.out.1.lt
      exact H6.out.2.box (HH.out.1.on HF.out.2.2.1) (fun e => by have := HH.out.2.2.2.2.1; omega)
    have c0 : w6.cell? ⟨d, 0, none⟩ = some pg := (hd6.cell 0).trans cellsX_0
    have HA := Lib.hid hA
    have hpl : 256 * ps.length = a := by have := HP.out.2.2.2.2.2.1; omega
    have HD := Lib.hid hpl
    clear hA hd6 H6 HF hpl heq
    go_wp2_with fail
    go_loopw [4, 5] (fun x p wr => ∃ r, x = .int .i64 ((256 * r.length : Nat) : Int) ∧ AllAt w wr g d P r p) (fun x _ _ => (intOf x).toNat)
    case atStart => exact ⟨ps, by rw [HD.out], HA.out⟩
    case round =>
      obtain ⟨r, rfl, hR⟩ := hrel
      have hPn := HP.out.2.2.2.1
      cases r with
      | nil =>
        obtain rfl : u5 = .pointer none := hR.ch
        have HR := Lib.hid hR
        clear hR
        go_wp2
        go_ret
        have h1 := HR.out.out_
        rw [List.length_nil, Nat.mul_zero, List.replicate_zero, List.nil_append, List.drop_zero] at h1
        exact ⟨rfl, h1, HR.out.bel⟩
      | cons x r =>
        have hch := hR.ch
        obtain ⟨gp, nx, rfl, hx, hfx, hbx, hch⟩ := hch
        obtain ⟨A1, hA1⟩ : ∃ A1, A1 = 256 * (x :: r).length := ⟨_, rfl⟩
        obtain ⟨A0, hA0⟩ : ∃ A0, A0 = 256 * r.length := ⟨_, rfl⟩
        have h10 : A1 = A0 + 256 := by rw [hA1, hA0, List.length_cons]; omega
        have hfew := hR.few
        rw [← hA1] at hfew ⊢
        have i1 : (A1 : Int) - 256 = (A0 : Int) := by omega
        have i2 : (A0 : Int) ≤ n := by omega
        have i3 : ¬ n = A0 := by omega
        have i4 : A0 ≤ n := by omega
        have i5 : (A1 : Int) ≤ 5000 := by omega
        have hfree : ∀ j v, (cellsOf x)[j]? = some v → (wr.drew).cell? ((⟨gp, 1, none⟩ : Addr).add j) = some v := fun j v hv => by
          rw [plain_add, Nat.add_comm 1 j]
          have := hbx.cell (j + 1)
          rw [List.getElem?_toArray, List.getElem?_cons_succ, hv] at this
          exact this
        have hout := hR.out_
        have HR := Lib.hid (And.intro hR (And.intro hx (And.intro hbx (And.intro hch (And.intro hfree (And.intro hA1 (And.intro hA0 (And.intro h10 hfew))))))))
        have HO := Lib.hid (show Box wr.drew g 5 (cellsOf (List.replicate A1 0 ++ P.drop A1)).toArray by rw [hA1]; exact hout.on (on_drew wr))
        clear hR hx hfx hbx hch hfree hA1 hA0 h10 hfew hout hPn
        go_wp2_with fail
        refine wp_region_held_drew (S := fun _ => True) (by kernel_rfl) trivial fun _ => ?_
        refine take_to7 (i := 0) (v := .slice (some ⟨g, 0, none⟩) n n) rfl (by kernel_rfl) (by kernel_rfl) (by kernel_rfl) (fun _ _ _ h => h) (Or.inl ⟨by rfl, fun w' hS => by go_simp⟩) trivial (some 41) rfl ?_
        try simp only [Act.put, List.setIfInBounds_toArray, List.set_cons_zero, List.set_cons_succ]
        refine take_to7 (i := 1) (v := .int .i64 (A0 : Int)) rfl (by kernel_rfl) (by kernel_rfl) (by kernel_rfl) (fun _ _ _ h => h) (Or.inl ⟨by rfl, fun w' hS => by go_simp⟩) trivial (some 42) rfl ?_
        try simp only [Act.put, List.setIfInBounds_toArray, List.set_cons_zero, List.set_cons_succ]
        refine take_to7 (i := 2) (v := .slice (some ⟨g, A0, none⟩) (n - A0) (n - A0)) rfl (by kernel_rfl) (by kernel_rfl) (by kernel_rfl) (fun _ _ _ h => h) (Or.inl ⟨by rfl, fun w' hS => by go_simp⟩) trivial (some 43) rfl ?_
        try simp only [Act.put, List.setIfInBounds_toArray, List.set_cons_zero, List.set_cons_succ]
        refine take_to7 (i := 3) (v := .pointer (some ⟨gp, 0, none⟩)) rfl (by kernel_rfl) (by kernel_rfl) (by kernel_rfl) (fun _ _ _ h => h) (Or.inl ⟨by rfl, fun w' hS => by go_simp⟩) trivial (some 44) rfl ?_
        try simp only [Act.put, List.setIfInBounds_toArray, List.set_cons_zero, List.set_cons_succ]
        refine take_to7 (i := 4) (v := .pointer (some ⟨gp, 0, none⟩)) rfl (by kernel_rfl) (by kernel_rfl) (by kernel_rfl) (fun _ _ _ h => h) (Or.inl ⟨by rfl, fun w' hS => by go_simp⟩) trivial (some 45) rfl ?_
        try simp only [Act.put, List.setIfInBounds_toArray, List.set_cons_zero, List.set_cons_succ]
        refine take_to7 (i := 5) (v := .pointer (some ⟨gp, 1, none⟩)) rfl (by kernel_rfl) (by kernel_rfl) (by kernel_rfl) (fun _ _ _ h => h) (Or.inl ⟨by rfl, fun w' hS => by go_simp⟩) trivial (some 46) rfl ?_
        try simp only [Act.put, List.setIfInBounds_toArray, List.set_cons_zero, List.set_cons_succ]
        refine take_to7 (i := 6) (v := .slice (some ⟨gp, 1, none⟩) 256 256) rfl (by kernel_rfl) (by kernel_rfl) (by kernel_rfl) (fun _ _ _ h => h) (Or.inl ⟨by rfl, fun w' hS => by go_simp⟩) trivial (some 47) rfl ?_
        try simp only [Act.put, List.setIfInBounds_toArray, List.set_cons_zero, List.set_cons_succ]
        refine wpAnyH_ready (rs := [7]) (by kernel_rfl) (by simp) ?_
        refine AllReadyH.cons rfl (fun K hK => ?_) AllReadyH.nil
        refine step_copy_only rfl (.tmp 43) (.tmp 47) rfl g A0 (n - A0) (n - A0) 256 256 ⟨gp, 1, none⟩ rfl rfl (List.replicate A1 0 ++ P.drop A1) x HO.out (by rw [HR.out.2.1]; exact (Nat.min_eq_left (by have := HR.out.2.2.2.2.2.2.2.2; have := HR.out.2.2.2.2.2.2.2.1; have := HP.out.2.2.2.1; omega)).symm) HR.out.2.2.2.2.1 (by rw [List.length_append, List.length_replicate, List.length_drop, HR.out.2.1]; have := HR.out.2.2.2.2.2.2.2.2; have := HR.out.2.2.2.2.2.2.2.1; omega) ?_
        intro w7 hb7 k7
        have hk7 : Kept (fun i => i = g) wr w7 := (Kept.of_below (on_drew wr) (fun i => i = g)).trans k7 (fun _ _ h => h)
        have hA7 : AllAt w w7 g d P r nx := HR.out.1.step HR.out.2.1 HR.out.2.2.2.1 HH.out.2.2.2.2.1 (by rw [← HR.out.2.2.2.2.2.1, ← HR.out.2.2.2.2.2.2.1]; exact hb7) hk7
        have hgp : gp ≠ g := HR.out.2.2.1.apart HR.out.1.out_ (by decide)
        have c7 : w7.cell? ⟨gp, 0, none⟩ = some nx := (hk7.box HR.out.2.2.1 hgp).cell 0
        have H7 := Lib.hid hA7
        clear hb7 k7 hk7 hA7 hgp
        refine hK.out _ _ trivial fun _ => ?_
        clear hK K
        simp only [Act.put]
        refine wpAnyH_done (by kernel_rfl) ?_ _
        go_wp2_with fail
        go_roundw
        case rel =>
          exact ⟨r, by rw [← HR.out.2.2.2.2.2.2.1], H7.out⟩
        case measure =>
          have := HR.out.2.2.2.2.2.2.2.1
          simp [intOf]
          omega
  · refine wp_region_held_drew (S := fun _ => True) (by kernel_rfl) trivial fun _ => ?_
    refine take_to7 (i := 0) (v := .slice (some ⟨g, 0, none⟩) n n) rfl (by kernel_rfl) (by kernel_rfl) (by kernel_rfl) (fun _ _ _ h => h) (Or.inl ⟨by rfl, fun w' hS => by go_simp⟩) trivial (some 21) rfl ?_
    try simp only [Act.put, List.setIfInBounds_toArray, List.set_cons_zero, List.set_cons_succ]
    refine take_to7 (i := 1) (v := .int .i64 (a : Int)) rfl (by kernel_rfl) (by kernel_rfl) (by kernel_rfl) (fun _ _ _ h => h) (Or.inl ⟨by rfl, fun w' hS => by go_simp⟩) trivial (some 22) rfl ?_
    try simp only [Act.put, List.setIfInBounds_toArray, List.set_cons_zero, List.set_cons_succ]
    refine take_to7 (i := 2) (v := .slice (some ⟨g, a, none⟩) (n - a) (n - a)) rfl (by kernel_rfl) (by kernel_rfl) (by kernel_rfl) (fun _ _ _ h => h) (Or.inl ⟨by rfl, fun w' hS => by go_simp⟩) trivial (some 23) rfl ?_
    try simp only [Act.put, List.setIfInBounds_toArray, List.set_cons_zero, List.set_cons_succ]
    refine take_to7 (i := 3) (v := .pointer (some ⟨d, 0, none⟩)) rfl (by kernel_rfl) (by kernel_rfl) (by kernel_rfl) (fun _ _ _ h => h) (Or.inl ⟨by rfl, fun w' hS => by go_simp⟩) trivial (some 24) rfl ?_
    try simp only [Act.put, List.setIfInBounds_toArray, List.set_cons_zero, List.set_cons_succ]
    refine take_to7 (i := 4) (v := .pointer (some ⟨d, 0, none⟩)) rfl (by kernel_rfl) (by kernel_rfl) (by kernel_rfl) (fun _ _ _ h => h) (Or.inl ⟨by rfl, fun w' hS => by go_simp⟩) trivial (some 25) rfl ?_
    try simp only [Act.put, List.setIfInBounds_toArray, List.set_cons_zero, List.set_cons_succ]
    refine take_to7 (i := 5) (v := .pointer (some ⟨d, 1, none⟩)) rfl (by kernel_rfl) (by kernel_rfl) (by kernel_rfl) (fun _ _ _ h => h) (Or.inl ⟨by rfl, fun w' hS => by go_simp⟩) trivial (some 26) rfl ?_
    try simp only [Act.put, List.setIfInBounds_toArray, List.set_cons_zero, List.set_cons_succ]
    refine take_to7 (i := 6) (v := .slice (some ⟨d, 1, none⟩) 256 256) rfl (by kernel_rfl) (by kernel_rfl) (by kernel_rfl) (fun _ _ _ h => h) (Or.inl ⟨by rfl, fun w' hS => by go_simp⟩) trivial (some 27) rfl ?_
    try simp only [Act.put, List.setIfInBounds_toArray, List.set_cons_zero, List.set_cons_succ]
    refine wpAnyH_ready (rs := [7]) (by kernel_rfl) (by simp) ?_
    refine AllReadyH.cons rfl (fun K hK => ?_) AllReadyH.nil
    refine step_copy_only rfl (.tmp 23) (.tmp 27) rfl g a (n - a) (n - a) 256 256 ⟨d, 1, none⟩ rfl rfl (List.replicate n 0) (op.take m) HF.out.1 HF.out.2.2.2.1 HF.out.2.1 HF.out.2.2.2.2 ?_
    intro w6 hb6 k6
    have H6 := Lib.hid (And.intro hb6 k6)
    clear hb6 k6
    refine hK.out _ _ trivial fun _ => ?_
    clear hK K
    simp only [Act.put]
    refine wpAnyH_done (by kernel_rfl) ?_ _
    have hA : AllAt w w6 g d P ps pg := by
      obtain ⟨hC, hp, hP, hPl, hna, ha, hm⟩ := HP.out
      have hlen := hC.fit.2
      have bw : Below w.heap.size w w6 := HF.out.2.2.1.trans (H6.out.2.below HF.out.2.2.1.size (fun i hi e => by have := HH.out.2.2.2.2.1; omega))
      have hb6 := H6.out.1
      have hPa : P.take (256 * ps.length) = ps.reverse.flatten := by rw [hP, List.take_left' hlen]
      have hPd : P.drop (256 * ps.length) = op.take m := by rw [hP, List.drop_left' hlen, ← hm]
      have hsp : splice (List.replicate n 0) a (op.take m) = List.replicate (256 * ps.length) 0 ++ P.drop (256 * ps.length) := by
        unfold splice
        rw [hPd, List.take_replicate, Nat.min_eq_left (by omega), ← ha, List.drop_of_length_le (by rw [List.length_replicate, HH.out.2.2.2.2.2.2]; omega), List.append_nil]
      rw [hsp] at hb6
      exact ⟨Chain.on bw ps pg hC, hPa.symm, by omega, hb6, by rw [HH.out.2.2.2.2.1]; exact bw⟩
    have hd6 : Box w6 d 88 (cellsX pg op n v c) := by
      have := HH.out.1.lt
      exact H6.out.2.box (HH.out.1.on HF.out.2.2.1) (fun e => by have := HH.out.2.2.2.2.1; omega)
    have c0 : w6.cell? ⟨d, 0, none⟩ = some pg := (hd6.cell 0).trans cellsX_0
    have HA := Lib.hid hA
    have hpl : 256 * ps.length = a := by have := HP.out.2.2.2.2.2.1; omega
    have HD := Lib.hid hpl
    clear hA hd6 H6 HF hpl heq
    go_wp2_with fail
    go_loopw [4, 5] (fun x p wr => ∃ r, x = .int .i64 ((256 * r.length : Nat) : Int) ∧ AllAt w wr g d P r p) (fun x _ _ => (intOf x).toNat)
    case atStart => exact ⟨ps, by rw [HD.out], HA.out⟩
    case round =>
      obtain ⟨r, rfl, hR⟩ := hrel
      have hPn := HP.out.2.2.2.1
      cases r with
      | nil =>
        obtain rfl : u5 = .pointer none := hR.ch
        have HR := Lib.hid hR
        clear hR
        go_wp2
        go_ret
        have h1 := HR.out.out_
        rw [List.length_nil, Nat.mul_zero, List.replicate_zero, List.nil_append, List.drop_zero] at h1
        exact ⟨rfl, h1, HR.out.bel⟩
      | cons x r =>
        have hch := hR.ch
        obtain ⟨gp, nx, rfl, hx, hfx, hbx, hch⟩ := hch
        obtain ⟨A1, hA1⟩ : ∃ A1, A1 = 256 * (x :: r).length := ⟨_, rfl⟩
        obtain ⟨A0, hA0⟩ : ∃ A0, A0 = 256 * r.length := ⟨_, rfl⟩
        have h10 : A1 = A0 + 256 := by rw [hA1, hA0, List.length_cons]; omega
        have hfew := hR.few
        rw [← hA1] at hfew ⊢
        have i1 : (A1 : Int) - 256 = (A0 : Int) := by omega
        have i2 : (A0 : Int) ≤ n := by omega
        have i3 : ¬ n = A0 := by omega
        have i4 : A0 ≤ n := by omega
        have i5 : (A1 : Int) ≤ 5000 := by omega
        have hfree : ∀ j v, (cellsOf x)[j]? = some v → (wr.drew).cell? ((⟨gp, 1, none⟩ : Addr).add j) = some v := fun j v hv => by
          rw [plain_add, Nat.add_comm 1 j]
          have := hbx.cell (j + 1)
          rw [List.getElem?_toArray, List.getElem?_cons_succ, hv] at this
          exact this
        have hout := hR.out_
        have HR := Lib.hid (And.intro hR (And.intro hx (And.intro hbx (And.intro hch (And.intro hfree (And.intro hA1 (And.intro hA0 (And.intro h10 hfew))))))))
        have HO := Lib.hid (show Box wr.drew g 5 (cellsOf (List.replicate A1 0 ++ P.drop A1)).toArray by rw [hA1]; exact hout.on (on_drew wr))
        clear hR hx hfx hbx hch hfree hA1 hA0 h10 hfew hout hPn
        go_wp2_with fail
        refine wp_region_held_drew (S := fun _ => True) (by kernel_rfl) trivial fun _ => ?_
        refine take_to7 (i := 0) (v := .slice (some ⟨g, 0, none⟩) n n) rfl (by kernel_rfl) (by kernel_rfl) (by kernel_rfl) (fun _ _ _ h => h) (Or.inl ⟨by rfl, fun w' hS => by go_simp⟩) trivial (some 41) rfl ?_
        try simp only [Act.put, List.setIfInBounds_toArray, List.set_cons_zero, List.set_cons_succ]
        refine take_to7 (i := 1) (v := .int .i64 (A0 : Int)) rfl (by kernel_rfl) (by kernel_rfl) (by kernel_rfl) (fun _ _ _ h => h) (Or.inl ⟨by rfl, fun w' hS => by go_simp⟩) trivial (some 42) rfl ?_
        try simp only [Act.put, List.setIfInBounds_toArray, List.set_cons_zero, List.set_cons_succ]
        refine take_to7 (i := 2) (v := .slice (some ⟨g, A0, none⟩) (n - A0) (n - A0)) rfl (by kernel_rfl) (by kernel_rfl) (by kernel_rfl) (fun _ _ _ h => h) (Or.inl ⟨by rfl, fun w' hS => by go_simp⟩) trivial (some 43) rfl ?_
        try simp only [Act.put, List.setIfInBounds_toArray, List.set_cons_zero, List.set_cons_succ]
        refine take_to7 (i := 3) (v := .pointer (some ⟨gp, 0, none⟩)) rfl (by kernel_rfl) (by kernel_rfl) (by kernel_rfl) (fun _ _ _ h => h) (Or.inl ⟨by rfl, fun w' hS => by go_simp⟩) trivial (some 44) rfl ?_
        try simp only [Act.put, List.setIfInBounds_toArray, List.set_cons_zero, List.set_cons_succ]
        refine take_to7 (i := 4) (v := .pointer (some ⟨gp, 0, none⟩)) rfl (by kernel_rfl) (by kernel_rfl) (by kernel_rfl) (fun _ _ _ h => h) (Or.inl ⟨by rfl, fun w' hS => by go_simp⟩) trivial (some 45) rfl ?_
        try simp only [Act.put, List.setIfInBounds_toArray, List.set_cons_zero, List.set_cons_succ]
        refine take_to7 (i := 5) (v := .pointer (some ⟨gp, 1, none⟩)) rfl (by kernel_rfl) (by kernel_rfl) (by kernel_rfl) (fun _ _ _ h => h) (Or.inl ⟨by rfl, fun w' hS => by go_simp⟩) trivial (some 46) rfl ?_
        try simp only [Act.put, List.setIfInBounds_toArray, List.set_cons_zero, List.set_cons_succ]
        refine take_to7 (i := 6) (v := .slice (some ⟨gp, 1, none⟩) 256 256) rfl (by kernel_rfl) (by kernel_rfl) (by kernel_rfl) (fun _ _ _ h => h) (Or.inl ⟨by rfl, fun w' hS => by go_simp⟩) trivial (some 47) rfl ?_
        try simp only [Act.put, List.setIfInBounds_toArray, List.set_cons_zero, List.set_cons_succ]
        refine wpAnyH_ready (rs := [7]) (by kernel_rfl) (by simp) ?_
        refine AllReadyH.cons rfl (fun K hK => ?_) AllReadyH.nil
        refine step_copy_only rfl (.tmp 43) (.tmp 47) rfl g A0 (n - A0) (n - A0) 256 256 ⟨gp, 1, none⟩ rfl rfl (List.replicate A1 0 ++ P.drop A1) x HO.out (by rw [HR.out.2.1]; exact (Nat.min_eq_left (by have := HR.out.2.2.2.2.2.2.2.2; have := HR.out.2.2.2.2.2.2.2.1; have := HP.out.2.2.2.1; omega)).symm) HR.out.2.2.2.2.1 (by rw [List.length_append, List.length_replicate, List.length_drop, HR.out.2.1]; have := HR.out.2.2.2.2.2.2.2.2; have := HR.out.2.2.2.2.2.2.2.1; omega) ?_
        intro w7 hb7 k7
        have hk7 : Kept (fun i => i = g) wr w7 := (Kept.of_below (on_drew wr) (fun i => i = g)).trans k7 (fun _ _ h => h)
        have hA7 : AllAt w w7 g d P r nx := HR.out.1.step HR.out.2.1 HR.out.2.2.2.1 HH.out.2.2.2.2.1 (by rw [← HR.out.2.2.2.2.2.1, ← HR.out.2.2.2.2.2.2.1]; exact hb7) hk7
        have hgp : gp ≠ g := HR.out.2.2.1.apart HR.out.1.out_ (by decide)
        have c7 : w7.cell? ⟨gp, 0, none⟩ = some nx := (hk7.box HR.out.2.2.1 hgp).cell 0
        have H7 := Lib.hid hA7
        clear hb7 k7 hk7 hA7 hgp
        refine hK.out _ _ trivial fun _ => ?_
        clear hK K
        simp only [Act.put]
        refine wpAnyH_done (by kernel_rfl) ?_ _
        go_wp2_with fail
        go_roundw
        case rel =>
          exact ⟨r, by rw [← HR.out.2.2.2.2.2.2.1], H7.out⟩
        case measure =>
          have := HR.out.2.2.2.2.2.2.2.1
          simp [intOf]
          omega
end Go.Proofs.YthfpdebpepbejaaDoor

namespace Go.Proofs.YthfpdebpepbejaaDoor
open Go.RowKit

theorem ByX.cellc {w : World} {d : Nat} {P : List Int} {n v c : Nat} (h : ByX w d P n v c) : w.cell? ⟨d, 259, none⟩ = some (.int .i64 (c : Int)) := by
  obtain ⟨pg, ps, op, hb, ho, _⟩ := h
  exact (hb.cell 259).trans (cellsX_c ho)
set_option maxHeartbeats 400000 in
theorem filledX_any (w : World) (d : Nat) (P : List Int) (n v c : Nat) (hB : ByX w d P n v c) (hc : c ≤ 8) (hv : v < 2 ^ c) :
    Calls Tryd.prog 48 #[.pointer (some ⟨d, 258, none⟩)] w fun e w' => e = .returned (.int .u8 (fill v c : Nat)) ∧ w = w' := by
  obtain ⟨pg, ps, op, hb, ho, hC⟩ := hB
  have c1 : w.cell? ⟨d, 258, none⟩ = some (.int .i64 (v : Int)) := (hb.cell 258).trans (cellsX_v ho)
  have c2 : w.cell? ⟨d, 259, none⟩ = some (.int .i64 (c : Int)) := (hb.cell 259).trans (cellsX_c ho)
  have hf := fill_lt hc hv
  obtain ⟨k, hk⟩ : ∃ k, k = 8 - c := ⟨_, rfl⟩
  have e1 : (8 : Int) - c = k := by omega
  have hp : v + 1 ≤ 256 := Nat.le_trans hv (Nat.pow_le_pow_right (by omega) hc)
  obtain ⟨f, hf0⟩ : ∃ f, f = fill v c := ⟨_, rfl⟩
  have e2 : ((v : Int) + 1) * 2 ^ k = ((f + 1 : Nat) : Int) := by
    have h3 : 0 < (v + 1) * 2 ^ (8 - c) := Nat.mul_pos (by omega) (pow_pos' _)
    have : f + 1 = (v + 1) * 2 ^ k := by rw [hf0, hk]; unfold fill; omega
    rw [this]; simp
  rw [← hf0] at hf ⊢
  have hk8 : k ≤ 8 := by omega
  have hv1 : v ≤ 255 := by omega
  clear hb hC ho hf0 hk hv hp
  go_enter Tryd.func48, Tryd.ntmps48
  go_wp2
  go_ret
  exact ⟨rfl, rfl⟩

set_option maxHeartbeats 800000 in
theorem bytesX_any (w : World) (d : Nat) (L : List Int) (h : Wx w d L) (hl : L.length ≤ 31000) : Calls Tryd.prog 26 #[.pointer (some ⟨d, 0, none⟩)] w (Tells w L) := by
  obtain ⟨n, v, c, hW, hc, hn⟩ := h
  have hlen := hW.len
  obtain ⟨hv, P, hB, hL⟩ := hW
  have htl : P.length = n := hB.fit.2
  have hn2 : n ≤ 3900 := by omega
  have HH := Lib.hid (And.intro hB (And.intro hB.fit.1 (And.intro hv (And.intro hL htl))))
  clear hv hL htl hB hlen hl
  by_cases h0 : c = 0
  · subst h0
    go_enter Tryd.func26, Tryd.ntmps26
    go_wp2_with fail
    refine (allX_any w d P n v 0 HH.out.1 (by omega)).mono ?_
    rintro e w1 ⟨rfl, hb1, b1⟩
    have hsl := sl_of_box (K := fun _ => True) hb1 HH.out.2.1 HH.out.2.2.2.2 (by unfold maxLen; omega) trivial
    have H1 := Lib.hid (And.intro hsl b1)
    have c1 : w1.cell? ⟨d, 259, none⟩ = some (.int .i64 (0 : Nat)) := (HH.out.1.on b1).cellc
    clear hb1 b1 hsl
    go_wp2_with fail
    refine (stuffed_any w1 _ _ n n (P) H1.out.1 (by omega)).mono ?_
    rintro e w2 ⟨A, c2, rfl, hs2, b2⟩
    have H2 := Lib.hid (And.intro hs2 b2)
    clear hs2 b2
    go_wp2
    go_ret
    exact ⟨A, _, c2, _, rfl, ⟨P, v, 0, HH.out.2.1, by omega, HH.out.2.2.1, HH.out.2.2.2.1, by simp [filledUp]⟩, H2.out.1, on_trans H1.out.2 H2.out.2⟩
  · go_enter Tryd.func26, Tryd.ntmps26
    go_wp2_with fail
    refine (allX_any w d P n v c HH.out.1 (by omega)).mono ?_
    rintro e w1 ⟨rfl, hb1, b1⟩
    have hown := own_of_box hb1 HH.out.2.2.2.2 (Nat.le_refl _) (by unfold maxLen; omega)
    have H1 := Lib.hid (And.intro hown b1)
    have c1 : w1.cell? ⟨d, 259, none⟩ = some (.int .i64 (c : Int)) := (HH.out.1.on b1).cellc
    have hc0 : (0 : Int) < c := by omega
    clear hb1 b1 hown
    go_wp2_with fail
    refine (filledX_any w1 d P n v c (HH.out.1.on H1.out.2) (by omega) HH.out.2.2.1).mono ?_
    rintro e w1' ⟨rfl, rfl⟩
    have hfl := fill_lt (show c ≤ 8 by omega) HH.out.2.2.1
    obtain ⟨z, hz⟩ : ∃ z, z = fill v c := ⟨_, rfl⟩
    rw [← hz] at hfl ⊢
    have HZ := Lib.hid hz
    clear hz
    go_wp2_with (first
      | (at_builtin; refine wpList_append_sl rfl (.tmp 16) (.tmp 21) rfl w.heap.size (.slice (some ⟨w.heap.size, 0, none⟩) n n) n (P) rfl (H1.out.1.alloc _) _ (some ⟨w1.heap.size, 0, none⟩) 1 1 [(z : Int)] rfl (sl_byte w1 z (by omega) (by omega)) (by omega) (by have := H1.out.2.size; simp; omega) ?_; intro v3 w3 hown3 b3; have hb3 := (H1.out.2.trans ((on_alloc w1 _).mono H1.out.2.size)).trans b3; obtain ⟨A3, c3, rfl, hs3⟩ := sl_of_own hown3 (HH.out.2.1.app (fun y hy => by simp at hy; omega)); have H3 := Lib.hid (And.intro hs3 hb3); clear hown3 b3 hb3 hs3)
      | fail)
    refine (stuffed_any w3 _ _ _ _ _ H3.out.1 (by omega)).mono ?_
    rintro e w4 ⟨A4, c4, rfl, hs4, b4⟩
    have H4 := Lib.hid (And.intro hs4 b4)
    clear hs4 b4
    go_wp2
    go_ret
    refine ⟨A4, _, c4, _, rfl, ⟨P, v, c, HH.out.2.1, hc, HH.out.2.2.1, HH.out.2.2.2.1, ?_⟩, H4.out.1, on_trans H3.out.2 H4.out.2⟩
    rw [filledUp, if_neg h0, HZ.out]
end Go.Proofs.YthfpdebpepbejaaDoor
