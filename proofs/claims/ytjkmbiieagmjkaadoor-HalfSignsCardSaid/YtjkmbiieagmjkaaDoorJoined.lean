/-
  The contract of joined: the sums of the products, across only, of a row of two blocks.
-/
import Derived.Test.YtjkmbiieagmjkaaDoorPartT
import Derived.BigRegion
namespace Go.Proofs.YtjkmbiieagmjkaaDoor
open Go.RowKit

/-- a row of eight numbers -/
def tab8 (f : Nat → Int) : List Int := (List.range 8).map f
theorem tab8_len (f : Nat → Int) : (tab8 f).length = 8 := by simp [tab8]
theorem tab8_at (f : Nat → Int) {k : Nat} (hk : k < 8) : (tab8 f).getD k 0 = f k := by
  unfold tab8
  rw [List.getD_eq_getElem?_getD, List.getElem?_map, List.getElem?_range hk]
  rfl
theorem list8_eq {x y : List Int} (hx : x.length = 8) (hy : y.length = 8) (h : ∀ k, k < 8 → x.getD k 0 = y.getD k 0) : x = y := by
  apply List.ext_getElem (by omega)
  intro i h1 h2
  have := h i (by omega)
  rw [List.getD_eq_getElem?_getD, List.getD_eq_getElem?_getD, List.getElem?_eq_getElem h1, List.getElem?_eq_getElem h2] at this
  exact this
theorem tab8_set (g : Nat → Int) {k : Nat} (hk : k < 8) (z : Int) : (tab8 g).set k z = tab8 fun n => if n = k then z else g n := by
  refine list8_eq (by rw [List.length_set, tab8_len]) (tab8_len _) fun j hj => ?_
  rw [tab8_at _ hj, List.getD_eq_getElem?_getD, List.getElem?_set]
  by_cases e : k = j
  · subst e; simp [tab8_len, hk]
  · rw [if_neg e, if_neg (fun h => e h.symm), ← List.getD_eq_getElem?_getD, tab8_at _ hj]
theorem tab8_congr {g h : Nat → Int} (e : ∀ n, n < 8 → g n = h n) : tab8 g = tab8 h := list8_eq (tab8_len _) (tab8_len _) fun k hk => by rw [tab8_at _ hk, tab8_at _ hk, e k hk]
/-- the first k terms of the sum across for column v -/
def joT (a b : List Int) (row v k : Nat) : Int := su (fun k => hv 0 v k * a.getD (8 * row + k) 0 + hv 1 v k * b.getD (8 * row + k) 0) k
/-- what joined tells -/
def joL (a b : List Int) (row : Nat) : List Int := tab8 fun v => joT a b row v 4
/-- what it has when it has come to column v, term k -/
def joP (a b : List Int) (row v k : Nat) : List Int := tab8 fun n => if n < v then joT a b row n 4 else if n = v then joT a b row n k else 0
def zeros8 : List Int := List.replicate 8 0
section
variable {a b : List Int} {row v k : Nat}
theorem joL_len : (joL a b row).length = 8 := tab8_len _
theorem joP_zero : joP a b row 0 0 = zeros8 := list8_eq (tab8_len _) rfl fun n hn => by
  unfold joP zeros8
  rw [tab8_at _ hn, if_neg (by omega), List.getD_eq_getElem?_getD, List.getElem?_replicate_of_lt hn]
  split <;> rfl
theorem joP_all : joP a b row 8 0 = joL a b row := tab8_congr fun n hn => by rw [if_pos hn]
theorem joP_col : joP a b row v 4 = joP a b row (v + 1) 0 := tab8_congr fun n hn => by
  by_cases h : n < v
  · rw [if_pos h, if_pos (by omega)]
  · rw [if_neg h]
    by_cases e : n = v
    · rw [if_pos e, if_pos (by omega)]
    · rw [if_neg e, if_neg (by omega)]
      split <;> rfl
theorem joP_at (hv : v < 8) : (joP a b row v k).getD v 0 = joT a b row v k := by
  unfold joP
  rw [tab8_at _ hv, if_neg (by omega), if_pos rfl]
theorem joP_more (hv' : v < 8) : (joP a b row v k).set v (joT a b row v k + (hv 0 v k * a.getD (8 * row + k) 0 + hv 1 v k * b.getD (8 * row + k) 0)) = joP a b row v (k + 1) := by
  unfold joP
  rw [tab8_set _ hv']
  refine tab8_congr fun n hn => ?_
  by_cases e : n = v
  · subst e
    rw [if_pos rfl, if_neg (by omega), if_pos rfl]
    rfl
  · rw [if_neg e, if_neg e, if_neg e]
end
theorem prodH {c z : Int} (c0 : -2896 ≤ c) (c1 : c ≤ 2896) (z0 : -1048576 ≤ z) (z1 : z ≤ 1048576) : -3036676096 ≤ c * z ∧ c * z ≤ 3036676096 := by
  have a := mul_abs (c := c) z0 z1
  have h : (c.natAbs : Int) * 1048576 ≤ 2896 * 1048576 := Int.mul_le_mul_of_nonneg_right (by omega) (by omega)
  omega
theorem joT_small {a b : List Int} (wa : Wi a (-1048576) 1048576) (wb : Wi b (-1048576) 1048576) {row v : Nat} (hr : row < 4) (hv' : v < 8) : ∀ {k : Nat}, k ≤ 4 → -(6073352192 * (k : Int)) ≤ joT a b row v k ∧ joT a b row v k ≤ 6073352192 * (k : Int)
  | 0, _ => by unfold joT; rw [su_zero]; omega
  | k + 1, hk => by
    have ih := joT_small wa wb hr hv' (k := k) (by omega)
    have h1 := wa (8 * row + k) (by omega)
    have h2 := wb (8 * row + k) (by omega)
    have a0 := hv_small 0 (by omega) v hv' k (by omega)
    have a1 := hv_small 1 (by omega) v hv' k (by omega)
    have t0 := prodH a0.1 a0.2 h1.1 h1.2
    have t1 := prodH a1.1 a1.2 h2.1 h2.2
    unfold joT at ih ⊢
    rw [su_succ]
    omega

/-- a row as a value -/
def rowV (o : List Int) : Value := .agg (cellsI o).toArray
/-- a row in memory -/
structure Row (w : World) (g : Nat) (o : List Int) : Prop where
  box : Box w g 46 (cellsI o).toArray
  len : o.length = 8
theorem arr46_size : (Tryd.prog.info? 46).map (·.size) = some 8 := by kernel_rfl
section
variable {w w' : World} {g : Nat} {b : List Int}
theorem Row.cell (h : Row w g b) {k : Nat} (hk : k < 8) : w.cell? ⟨g, k, none⟩ = some (.int .i64 (b.getD k 0)) := by
  rw [h.box.cell k, List.getElem?_toArray, cellsI_get _ _ (by rw [h.len]; exact hk)]
theorem Row.on (h : Row w g b) (k : Below w.heap.size w w') : Row w' g b := ⟨h.box.on k, h.len⟩
theorem Row.kept {S : Nat → Prop} (h : Row w g b) (k : Kept S w w') (hS : ¬ S g) : Row w' g b := ⟨k.box h.box hS, h.len⟩
theorem Row.range (h : Row w g b) : w.rangeAt g 0 (cellsI b) := by
  intro j u hu
  rw [Nat.zero_add, h.box.cell j]
  simpa using hu
theorem Row.load (h : Row w g b) : (Instr.loadAt 46 (.pointer (some ⟨g, 0, none⟩))).run Tryd.prog w = .ok (rowV b) w :=
  run_loadAt_mid w g 0 46 (cellsI b) _ h.range Tryd.underlying46 rfl (by rw [arr46_size, cellsI_len, h.len])
theorem Row.put (h : Row w g b) (k : Nat) (z : Int) : Row (w.setCell ⟨g, k, none⟩ (.int .i64 z)) g (b.set k z) := by
  refine ⟨?_, by rw [List.length_set, h.len]⟩
  have := h.box.put k (.int .i64 z)
  rwa [put_cellsI] at this
theorem Row.free (h : Row w g b) (k : Nat) : w.frozen? ⟨g, k, none⟩ = false := h.box.free k
theorem Row.made (w : World) (b : List Int) (hb : b.length = 8) : Row (w.alloc (.cells (cellsI b).toArray 46)) w.heap.size b := ⟨Box.made _ _ _, hb⟩
theorem loadVar_row {w : World} {g : Nat} {b : List Int} (h : Row w g b) : (loadVar 46 ⟨g, 0, none⟩).run Tryd.prog w = .ok (rowV b) w :=
  run_loadVar_row w g 46 46 _ (0, 0) _ h.box Tryd.underlying46 rfl (by rw [arr46_size]; simp [cellsI_len, h.len])
end
theorem zero46 (w : World) : (zeroValue 46).run Tryd.prog w = .ok (rowV zeros8) w := by kernel_rfl
/-- a row is stored whole, as an operation of a region -/
theorem wp_store_row8 {P : Oper} {a : Act} {w : World} {K : Act → World → Prop} {Q : Exit → Act → World → Prop} (x y : Operand) (ho : P.op = .store 46 x y) (hd : P.dst = none)
    (g : Nat) (b : List Int) (hx : a.eval x = .pointer (some ⟨g, 0, none⟩)) (hy : a.eval y = rowV b) (old : Array Value) (hg : Box w g 46 old) (hold : old.size = 8) (hb : b.length = 8)
    (h : ∀ w', Row w' g b → Kept (fun i => i = g) w w' → K a w') : Oper.wp Tryd.prog P a w K Q := by
  refine wp_store_row 46 x y ho g (cellsI b).toArray hx hy 46 old hg (by rw [arr46_size]; simp [cellsI_len, hb]) (by rw [hold]; simp [cellsI_len, hb]) (all_oneCell_toArray (cellsI_one b)) ?_
  rw [hd]
  exact h _ ⟨setRow_heap w g old _ 46 _ hg, hb⟩ ⟨rfl, rfl, rfl, by simp, fun k _ hk => setRow_other w g k _ hk⟩
theorem wpList_store_row8 {ops : Array Oper} {rest : List Oper} {o : Oper} {a : Act} {w : World} {Q : Exit → Act → World → Prop} (hgd : o.guard = none) (x y : Operand) (ho : o.op = .store 46 x y) (hd : o.dst = none)
    (g : Nat) (b : List Int) (hx : a.eval x = .pointer (some ⟨g, 0, none⟩)) (hy : a.eval y = rowV b) (old : Array Value) (hg : Box w g 46 old) (hold : old.size = 8) (hb : b.length = 8)
    (h : ∀ w', Row w' g b → Kept (fun i => i = g) w w' → wpList Tryd.prog ops Q rest a w') : wpList Tryd.prog ops Q (o :: rest) a w :=
  wpList_plain hgd fun _ hK => wp_store_row8 x y ho hd g b hx hy old hg hold hb fun w' h1 h2 => hK _ _ (h w' h1 h2)
theorem results_c {fn : Func} {p : Tmp} {ty : TypeId} (h : fn.results = #[.cell p ty]) (tmps : Array Value) (w : World) (g : Nat) (x : Value)
    (hp : tmps.getD p undef = .pointer (some ⟨g, 0, none⟩)) (hl : (loadVar ty ⟨g, 0, none⟩).run Tryd.prog w = .ok x w) : (results fn tmps).run Tryd.prog w = .ok x w := by
  have hp' : tmps[p]?.getD undef = .pointer (some ⟨g, 0, none⟩) := by simpa using hp
  simp [results, h, hp', asAddr, hl]
/-- two blocks that are boxed, and a row that is worked on -/
structure Jnd (w wr : World) (a b o : List Int) : Prop where
  b1 : Blk wr w.heap.size a
  b2 : Blk wr (w.heap.size + 1) b
  out : Row wr (w.heap.size + 1 + 1) o
  tab : Tab wr
  bel : Below w.heap.size w wr
section
variable {w wr w' : World} {a b o : List Int}
theorem Jnd.on (h : Jnd w wr a b o) (k : Below wr.heap.size wr w') : Jnd w w' a b o := ⟨h.b1.on k, h.b2.on k, h.out.on k, h.tab.on k, on_trans h.bel k⟩
theorem Jnd.put (h : Jnd w wr a b o) (hT : Tab w) (k : Nat) (z : Int) : Jnd w (wr.setCell ⟨w.heap.size + 1 + 1, k, none⟩ (.int .i64 z)) a b (o.set k z) := by
  have hb : Below w.heap.size w (wr.setCell ⟨w.heap.size + 1 + 1, k, none⟩ (.int .i64 z)) := ((Kept.of_below h.bel (fun i => i = w.heap.size + 1 + 1)).setCell (p := ⟨w.heap.size + 1 + 1, k, none⟩) (fun _ => rfl) _).below (Nat.le_refl _) (fun i hi e => by omega)
  exact ⟨⟨h.b1.box.beside (by show w.heap.size ≠ w.heap.size + 1 + 1; omega) _, h.b1.len⟩, ⟨h.b2.box.beside (by show w.heap.size + 1 ≠ w.heap.size + 1 + 1; omega) _, h.b2.len⟩, h.out.put k z, hT.on hb, hb⟩
theorem Jnd.done (h : Jnd w wr a b o) {c : List Int} (hc : Row w' (w.heap.size + 1 + 1) c) (k : Kept (fun i => i = w.heap.size + 1 + 1) wr w') : Below w.heap.size w w' ∧ Row w' (w.heap.size + 1 + 1) c :=
  ⟨h.bel.trans (k.below h.bel.size (fun i hi e => by omega)), hc⟩
end
theorem jnd_boxed (w : World) (a b : List Int) (hT : Tab w) (ha : a.length = 64) (hb : b.length = 64) : ∃ cs cu Z w3, blkV a = .agg cs ∧ blkV b = .agg cu ∧ (∀ w, (zeroValue 46).run Tryd.prog w = .ok (.agg Z) w) ∧ ((w.alloc (.cells cs 23)).alloc (.cells cu 23)).alloc (.cells Z 46) = w3 ∧ Jnd w w3 a b zeros8 := by
  obtain ⟨cs, cu, w2, h1, h2, h⟩ := two_boxed w a b ha hb
  have hA : Row (w2.alloc (.cells (cellsI zeros8).toArray 46)) (w.heap.size + 1 + 1) zeros8 := by have := h.size; rw [show w.heap.size + 1 + 1 = w2.heap.size by omega]; exact Row.made _ _ rfl
  refine ⟨cs, cu, (cellsI zeros8).toArray, _, h1, h2, fun w => zero46 w, rfl, ?_⟩
  rw [h.e]
  have bel := on_trans h.bel (on_alloc w2 (.cells (cellsI zeros8).toArray 46))
  exact ⟨h.b1.on (on_alloc _ _), h.b2.on (on_alloc _ _), hA, hT.on bel, bel⟩
/-- what joined answers -/
def Joined (w : World) (R : List Int) (e : Ending) (w' : World) : Prop := e = .returned (rowV R) ∧ Below w.heap.size w w'

set_option maxRecDepth 10000 in
set_option maxHeartbeats 3200000 in
theorem joined_any (w : World) (a b : List Int) (row : Nat) (hT : Tab w) (ha : a.length = 64) (hb : b.length = 64) (wa : Wi a (-1048576) 1048576) (wb : Wi b (-1048576) 1048576) (hr : row < 4) : Calls Tryd.prog 26 #[blkV a, blkV b, .int .i64 row] w (Joined w (joL a b row)) := by
  obtain ⟨cs, cu, Z, w3, hav, hbv, hz', hw3, hJ⟩ := jnd_boxed w a b hT ha hb
  have H := Lib.hid (And.intro hJ (And.intro wa (And.intro wb hT)))
  rw [hav, hbv]
  have HW := Lib.hid hw3
  clear ha hb wa wb hav hbv hw3 hJ hT
  go_enter Tryd.func26, Tryd.ntmps26
  go_wp2_with fail
  rw [HW.out]
  go_loopw [10] (fun i wr => ∃ v' : Nat, v' ≤ 8 ∧ i = .int .i64 v' ∧ Jnd w wr a b (joP a b row v' 0)) (fun i _ => 8 - (intOf i).toNat)
  case atStart => exact ⟨0, by omega, rfl, by rw [joP_zero]; exact H.out.1⟩
  case round =>
    obtain ⟨v, hv8, rfl, hR⟩ := hrel
    have HR := Lib.hid hR
    clear hR
    by_cases hlt : v < 8
    · go_wp2_with fail
      go_loopw [13] (fun k wr => ∃ k' : Nat, k' ≤ 4 ∧ k = .int .i64 k' ∧ Jnd w wr a b (joP a b row v k')) (fun k _ => 4 - (intOf k).toNat)
      case atStart => exact ⟨0, by omega, rfl, HR.out⟩
      case round =>
        obtain ⟨k, hk, rfl, hR⟩ := hrel
        have HR := Lib.hid hR
        clear hR
        by_cases hk4 : k < 4
        · have c1 := HR.out.out.cell hlt
          have c2 := HR.out.b1.cell (k := 8 * row + k) (by omega)
          have c3 := HR.out.b2.cell (k := 8 * row + k) (by omega)
          have c4 := HR.out.tab.cell (p := 0) (u := v) (i := k) (by omega) hlt hk4
          have c5 := HR.out.tab.cell (p := 1) (u := v) (i := k) (by omega) hlt hk4
          rw [Nat.zero_mul, Nat.zero_add] at c4
          rw [Nat.one_mul] at c5
          have hfr := HR.out.out.free v
          rw [joP_at hlt] at c1
          have a0 := joT_small H.out.2.1 H.out.2.2.1 hr hlt (k := k) (by omega)
          have a1 := hv_small 0 (by omega) v hlt k hk4
          have a2 := hv_small 1 (by omega) v hlt k hk4
          have a3 := H.out.2.1 (8 * row + k) (by omega)
          have a4 := H.out.2.2.1 (8 * row + k) (by omega)
          have t1 := prodH a1.1 a1.2 a3.1 a3.2
          have t2 := prodH a2.1 a2.2 a4.1 a4.2
          have hm := joP_more (a := a) (b := b) (row := row) (k := k) hlt
          obtain ⟨s, hs⟩ : ∃ s, s = joT a b row v k := ⟨_, rfl⟩
          obtain ⟨x, hx⟩ : ∃ x, x = hv 0 v k := ⟨_, rfl⟩
          obtain ⟨y, hy⟩ : ∃ y, y = hv 1 v k := ⟨_, rfl⟩
          obtain ⟨m, hm'⟩ : ∃ m, m = a.getD (8 * row + k) 0 := ⟨_, rfl⟩
          obtain ⟨n, hn⟩ : ∃ n, n = b.getD (8 * row + k) 0 := ⟨_, rfl⟩
          rw [← hs] at c1 a0 hm
          rw [← hx] at c4 t1 hm
          rw [← hy] at c5 t2 hm
          rw [← hm'] at c2 t1 hm
          rw [← hn] at c3 t2 hm
          obtain ⟨p, hp⟩ : ∃ p, p = x * m := ⟨_, rfl⟩
          obtain ⟨q, hq⟩ : ∃ q, q = y * n := ⟨_, rfl⟩
          rw [← hp] at t1 hm
          rw [← hq] at t2 hm
          have hxm := hp.symm
          have hyn := hq.symm
          obtain ⟨s0, s1⟩ : -24293408768 ≤ s ∧ s ≤ 24293408768 := by omega
          obtain ⟨p0, p1⟩ := t1
          obtain ⟨q0, q1⟩ := t2
          have HM := Lib.hid hm
          clear hs hx hy hm' hn hp hq hm a0 a1 a2 a3 a4
          go_wp2_with fail
          go_region
          go_wp2_with fail
          go_roundw
          case rel =>
            refine ⟨k + 1, by omega, by go_num, ?_⟩
            rw [← HM.out]
            exact (HR.out.on (below_drewN_refl _ _)).put H.out.2.2.2 _ _
          case measure => simp [intOf]; omega
        · obtain rfl : k = 4 := by omega
          have hR := HR.out
          rw [joP_col] at hR
          have HR := Lib.hid hR
          clear hR
          go_wp2_with fail
          go_roundw
          case rel => exact ⟨v + 1, by omega, by go_num, HR.out⟩
          case measure => simp [intOf]; omega
    · obtain rfl : v = 8 := by omega
      have hR := HR.out
      rw [joP_all] at hR
      have HR := Lib.hid hR
      clear hR
      go_wp2_with (first
        | (with_reducible refine wpList_load_to (op := ⟨some 48, _, _, _, _, _⟩) rfl 46 (.tmp 6) rfl (.pointer (some ⟨w.heap.size + 1 + 1, 0, none⟩)) rfl (rowV (joL a b row)) HR.out.out.load ?_)
        | ((with_reducible refine wpList_store_row8 (o := ⟨none, _, _, _, _, _⟩) rfl (.tmp 6) (.tmp 48) rfl rfl (w.heap.size + 1 + 1) (joL a b row) rfl rfl _ HR.out.out.box rfl joL_len ?_)
           intro w9 b9 k9
           have H9 := Lib.hid (HR.out.done b9 k9)
           clear b9 k9)
        | fail)
      refine bodyPost_ret (v := rowV (joL a b row)) (results_c (fn := Tryd.f26) Tryd.results26 _ _ (w.heap.size + 1 + 1) _ rfl (loadVar_row H9.out.2)) rfl ?_
      exact ⟨rfl, H9.out.1⟩
end Go.Proofs.YtjkmbiieagmjkaaDoor
