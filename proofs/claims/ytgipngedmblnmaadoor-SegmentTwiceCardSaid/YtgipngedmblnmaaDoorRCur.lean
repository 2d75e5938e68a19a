/-
  The contract of Try, whatever way the function that reads ends. How things stand while a stream is read; the contracts of the cursor's calls and of require, told by it. The contracts of quant's Right and of bytes.Equal.
-/
import Derived.Test.YtgipngedmblnmaaDoorCTry
import Derived.Test.YtgipngedmblnmaaDoorCPut
import Derived.Test.YtgipngedmblnmaaDoorKvMem
import Derived.Test.YtgipngedmblnmaaDoorSegRead
namespace Go.Proofs.YtgipngedmblnmaaDoor
open Go.RowKit

/-- a reader has ended: it gave up for a reason that R allows, or it answers nothing, and T holds -/
def Ended (S : Nat → Prop) (s : Nat) (R : Int → Prop) (T : World → Prop) (w : World) (e : Ending) (w' : World) : Prop :=
  Kept S w w' ∧ ((e = .returned (.tuple #[]) ∧ T w') ∨ (∃ k, R k ∧ e = .panicked (gaveUp s k)))
/-- Try has ended -/
def Tried (S : Nat → Prop) (g : Nat) (R : Int → Prop) (T : World → Prop) (w : World) (e : Ending) (w' : World) : Prop :=
  Kept S w w' ∧ ((e = .returned (.int .i64 0) ∧ ∃ w1, T w1 ∧ Kept (fun i => i = g ∨ i = g + 1) w1 w') ∨ (∃ k, R k ∧ e = .returned (.int .i64 k)))

set_option maxHeartbeats 800000 in
theorem try_any (w : World) (A : Option Addr) (n c : Nat) (big : Bool) (G : FuncId) (caps : Array Value) (hcf : ∀ (args : Array Value) (w : World), (callFunc G args).run Tryd.prog w = .ok (.enter G args) w)
    (S : Nat → Prop) (hS : ∀ i, S i → i < w.heap.size) (R : Int → Prop) (T : World → Prop)
    (hG : Calls Tryd.prog G (#[.pointer (some ⟨w.heap.size + 1 + 1 + 1, 0, none⟩)] ++ caps) (opened w A n c big) (Ended (fun i => S i ∨ i = w.heap.size + 1 + 1 + 1) (w.heap.size + 1) R T (opened w A n c big))) :
    Calls Tryd.prog 37 #[.slice A n c, .bool big, .func (.func G) #[] caps] w (Tried S w.heap.size R T w) := by
  have hmf : ∀ (fn : Fn) (first cap : Array Value) (w : World), (Instr.makeFunc fn first cap).run Tryd.prog w = .ok (.func fn first cap) w := fun _ _ _ _ => rfl
  have hnf : ∀ (w : World), (binOp .eql 76 (.func (.func G) #[] caps) .nilFunc).run Tryd.prog w = .ok (.bool false) w := fun _ => by kernel_rfl
  have HG := Lib.hid hG
  have HS := Lib.hid hS
  clear hG hS
  go_enter_defers Tryd.func37, Tryd.ntmps37
  go_wp2_with fail
  refine HG.out.mono ?_
  rintro e w1 ⟨hk, ⟨rfl, hT⟩ | ⟨k, hR, rfl⟩⟩
  · have st := stands_of_kept HS.out hk
    have c0 : w1.cell? ⟨w.heap.size, 0, none⟩ = some (.int .i64 0) := st.res.cell 0
    have f0 := st.res.free 0
    have HK := Lib.hid (And.intro hk hT)
    clear hk hT
    go_wp2
    obtain ⟨x0, x1, x2, hs⟩ := st.src
    refine leaves_cons (f := 54) (args := #[.pointer (some ⟨w.heap.size + 1 + 1, 0, none⟩), .pointer (some ⟨w.heap.size, 0, none⟩)]) (by simp) (by simp [go_sem]) ?_
    refine (catch_idle _ (w.heap.size + 1 + 1) w.heap.size (w.heap.size + 1) x0 x1 x2 ?_ ?_).mono ?_
    · exact st.var.beside (p := ⟨w.heap.size, 0, none⟩) (by simp; omega) _
    · exact hs.beside (p := ⟨w.heap.size, 0, none⟩) (by simp) _
    rintro e u' w'' ⟨rfl, rfl, rfl⟩
    have cr : (YtgipngedmblnmaaDoor.shut (w1.setCell ⟨w.heap.size, 0, none⟩ (.int .i64 0)) (w.heap.size + 1)).cell? ⟨w.heap.size, 0, none⟩ = some (.int .i64 0) :=
      ((st.res.put 0 (.int .i64 0)).shut (by simp)).cell 0
    refine ⟨.int .i64 0, ?_, ?_⟩
    · simp [results, Tryd.results37, go_sem, cr]
    have k1 : Kept (fun i => i = w.heap.size ∨ i = w.heap.size + 1) w1 (YtgipngedmblnmaaDoor.shut (w1.setCell ⟨w.heap.size, 0, none⟩ (.int .i64 0)) (w.heap.size + 1)) :=
      shut_kept ((Kept.refl _ w1).setCell (p := ⟨w.heap.size, 0, none⟩) (fun _ => .inl rfl) _) (fun _ => .inr rfl)
    refine ⟨?_, .inl ⟨rfl, w1, HK.out.2, k1⟩⟩
    refine ((opened_kept w A n c big S).trans HK.out.1 ?_).trans k1 ?_
    · rintro i hi (h | h)
      · exact h
      · omega
    · rintro i hi (h | h) <;> omega
  · have st := stands_of_kept HS.out hk
    obtain ⟨x0, x1, x2, hs⟩ := st.src
    refine leaves_cons (f := 54) (args := #[.pointer (some ⟨w.heap.size + 1 + 1, 0, none⟩), .pointer (some ⟨w.heap.size, 0, none⟩)]) (by simp) (by simp [go_sem]) ?_
    refine (catch_up w1 (w.heap.size + 1 + 1) w.heap.size (w.heap.size + 1) x0 x1 x2 (.int .i64 0) k [] st.var hs st.res).mono ?_
    rintro e u' w'' ⟨rfl, rfl, rfl⟩
    have cr : (((YtgipngedmblnmaaDoor.shut w1 (w.heap.size + 1)).alloc (.cells #[.pointer (some ⟨w.heap.size + 1, 0, none⟩), .int .i64 k] 95)).setCell ⟨w.heap.size, 0, none⟩ (.int .i64 k)).cell? ⟨w.heap.size, 0, none⟩ = some (.int .i64 k) :=
      (((st.res.shut (by simp)).alloc _).put 0 (.int .i64 k)).cell 0
    refine ⟨.int .i64 k, ?_, ?_⟩
    · simp [results, Tryd.results37, go_sem, cr]
    have k1 : Kept (fun i => i = w.heap.size ∨ i = w.heap.size + 1) w1 (((YtgipngedmblnmaaDoor.shut w1 (w.heap.size + 1)).alloc (.cells #[.pointer (some ⟨w.heap.size + 1, 0, none⟩), .int .i64 k] 95)).setCell ⟨w.heap.size, 0, none⟩ (.int .i64 k)) :=
      ((shut_kept (Kept.refl _ w1) (fun _ => .inr rfl)).alloc _).setCell (p := ⟨w.heap.size, 0, none⟩) (fun _ => .inl rfl) _
    refine ⟨?_, .inr ⟨k, hR, rfl⟩⟩
    refine ((opened_kept w A n c big S).trans hk ?_).trans k1 ?_
    · rintro i hi (h | h)
      · exact h
      · omega
    · rintro i hi (h | h) <;> omega
end Go.Proofs.YtgipngedmblnmaaDoor

namespace Go.Proofs.YtgipngedmblnmaaDoor
open Go.RowKit

/-- what is known, its slices in memory of their own from lo on -/
structure KnO (lo : Nat) (w : World) (K : Kv) (X : Nat → Value) : Prop where
  wt : Wt K.tb
  one : ∀ j, (X j).oneCell' = true
  sl : ∀ j, j < 4 → ∃ A n c, X j = .slice A n c ∧ Il w A n c (K.tb.V j) ∧ ∀ b off, A = some ⟨b, off, none⟩ → lo ≤ b ∧ ∃ cs, Box w b 3 cs
section
variable {lo : Nat} {w w' : World} {K : Kv} {X : Nat → Value}
theorem KnO.kept (h : KnO lo w K X) {S : Nat → Prop} (k : Kept S w w') (hS : ∀ i, S i → ∀ cs, ¬ Box w i 3 cs) : KnO lo w' K X :=
  ⟨h.wt, h.one, fun j hj => by
    obtain ⟨A, n, c, e, hi, hb⟩ := h.sl j hj
    refine ⟨A, n, c, e, hi.kept k (fun b off ea hs => ?_), fun b off ea => ?_⟩
    · obtain ⟨_, cs, hx⟩ := hb b off ea
      exact hS b hs cs hx
    · obtain ⟨h1, cs, hx⟩ := hb b off ea
      exact ⟨h1, cs, k.box hx (fun hs => hS b hs cs hx)⟩⟩
theorem KnO.on (h : KnO lo w K X) (k : Below w.heap.size w w') : KnO lo w' K X := h.kept (Kept.of_below k (fun _ => False)) (fun _ e => absurd e (fun e => e))
theorem KnO.setF (h : KnO lo w K X) (i : Nat) (b : Bool) : KnO lo w (K.setF i b) X := ⟨h.wt, h.one, h.sl⟩
theorem KnO.setN (h : KnO lo w K X) (i : Nat) (z : Int) : KnO lo w (K.setN i z) X := ⟨h.wt, h.one, h.sl⟩
theorem KnO.setT (h : KnO lo w K X) (i : Nat) {s : List Int} (hs : s.length = 64) : KnO lo w (K.setT i s) X := ⟨h.wt.setT i hs, h.one, h.sl⟩
theorem KnO.setS (h : KnO lo w K X) (j : Nat) {B V : List Int} (hB : B.length = 16) {A : Option Addr} {n c : Nat} (hV : Il w A n c V) (hb : ∀ b off, A = some ⟨b, off, none⟩ → lo ≤ b ∧ ∃ cs, Box w b 3 cs) : KnO lo w (K.setS j B V) (updX X j (.slice A n c)) :=
  ⟨h.wt.setS j hB, fun k => by unfold updX; split; rfl; exact h.one k, fun k hk => by
    unfold updX Kv.setS Tb.setS
    dsimp only
    split
    · exact ⟨A, n, c, rfl, hV, hb⟩
    · exact h.sl k hk⟩
end

/-- how things stand in a reader that was entered in w0: a cursor (block g, source s) over the bytes l at place p; what is known lies in block gk -/
structure Rd (lo : Nat) (w0 wr : World) (g s gk : Nat) (A : Option Addr) (n c : Nat) (l : List Int) (p : Nat) (K : Kv) (X : Nat → Value) : Prop where
  own : Box wr g 98 #[.pointer (some ⟨s, 0, none⟩), .int .i64 p]
  src : Box wr s 93 #[.slice A n c, .bool true, .bool true]
  kv : Box wr gk 46 (kvC K X).toArray
  kn : KnO lo wr K X
  sl : Sl wr (fun b => b < w0.heap.size ∧ b ≠ g ∧ b ≠ gk) A n c l
  tab : Tab wr
  kep : Kept (fun i => i = g ∨ i = gk) w0 wr
  le : p ≤ n
  few : n ≤ 100000
  lts : g < w0.heap.size ∧ s < w0.heap.size ∧ gk < w0.heap.size
  pos : 0 < g ∧ 0 < gk ∧ 0 < s
  low : lo ≤ w0.heap.size
section
variable {lo : Nat} {w0 wr w' : World} {g s gk : Nat} {A : Option Addr} {n c : Nat} {l : List Int} {p p' : Nat} {K K' : Kv} {X X' : Nat → Value}
theorem Rd.cur (h : Rd lo w0 wr g s gk A n c l p K X) : Cur wr g s A n c true p := ⟨h.own, h.src⟩
theorem Rd.len (h : Rd lo w0 wr g s gk A n c l p K X) : l.length = n := h.sl.len
theorem Rd.fresh (h : Rd lo w0 wr g s gk A n c l p K X) : Rd lo wr wr g s gk A n c l p K X :=
  ⟨h.own, h.src, h.kv, h.kn, h.sl.mono (fun _ hb hk => ⟨hb, hk.2⟩), h.tab, Kept.refl _ _, h.le, h.few, ⟨Nat.lt_of_lt_of_le h.lts.1 h.kep.size, Nat.lt_of_lt_of_le h.lts.2.1 h.kep.size, Nat.lt_of_lt_of_le h.lts.2.2 h.kep.size⟩, h.pos, Nat.le_trans h.low h.kep.size⟩
theorem Rd.trans (h : Rd lo w0 wr g s gk A n c l p K X) (k : Rd lo wr w' g s gk A n c l p' K' X') : Rd lo w0 w' g s gk A n c l p' K' X' :=
  ⟨k.own, k.src, k.kv, k.kn, h.sl.kept k.kep (fun b hb e => by rcases e with rfl | rfl; exact hb.2.1 rfl; exact hb.2.2 rfl), k.tab, h.kep.trans k.kep (fun _ _ e => e), k.le, k.few, h.lts, h.pos, h.low⟩
theorem Rd.ne (h : Rd lo w0 wr g s gk A n c l p K X) : g ≠ s ∧ g ≠ gk ∧ s ≠ gk := ⟨h.own.apart h.src (by decide), h.own.apart h.kv (by decide), h.src.apart h.kv (by decide)⟩
theorem Rd.lts' (h : Rd lo w0 wr g s gk A n c l p K X) : g < wr.heap.size ∧ s < wr.heap.size ∧ gk < wr.heap.size := h.fresh.lts
/-- only new memory has come -/
theorem Rd.on (h : Rd lo w0 wr g s gk A n c l p K X) (k : Below wr.heap.size wr w') : Rd lo w0 w' g s gk A n c l p K X :=
  ⟨h.own.on k, h.src.on k, h.kv.on k, h.kn.on k, h.sl.kept (Kept.of_below k (fun _ => False)) (fun _ _ e => e), h.tab.on k, h.kep.trans (Kept.of_below k (fun _ => False)) (fun _ _ e => absurd e (fun e => e)), h.le, h.few, h.lts, h.pos, h.low⟩
/-- a block of the reader's own has turned -/
theorem Rd.mine (h : Rd lo w0 wr g s gk A n c l p K X) {x : Nat} (k : Kept (fun i => i = x) wr w') (hx : w0.heap.size ≤ x) (ht : ∀ cs, ¬ Box wr x 3 cs) : Rd lo w0 w' g s gk A n c l p K X := by
  have h1 := h.lts
  exact ⟨k.box h.own (by omega), k.box h.src (by omega), k.box h.kv (by omega), h.kn.kept k (fun i e cs hb => by subst e; exact ht cs hb), h.sl.kept k (fun b hb e => by omega), h.tab.kept k (by omega),
    h.kep.trans k (fun i hi e => by omega), h.le, h.few, h.lts, h.pos, h.low⟩
/-- the cursor has moved -/
theorem Rd.moved (h : Rd lo w0 wr g s gk A n c l p K X) (k : Kept (fun i => i = g) wr w') (ho : Box w' g 98 #[.pointer (some ⟨s, 0, none⟩), .int .i64 p']) (hp : p' ≤ n) : Rd lo w0 w' g s gk A n c l p' K X := by
  have h1 := h.ne
  have h2 := h.pos
  exact ⟨ho, k.box h.src (by omega), k.box h.kv (by omega), h.kn.kept k (fun i e cs hb => by subst e; exact h.own.apart hb (by decide) rfl), h.sl.kept k (fun b hb e => hb.2.1 e), h.tab.kept k (by omega),
    h.kep.trans k (fun i hi e => .inl e), hp, h.few, h.lts, h.pos, h.low⟩
/-- what is known has turned -/
theorem Rd.known (h : Rd lo w0 wr g s gk A n c l p K X) (k : Kept (fun i => i = gk) wr w') (hb : Box w' gk 46 (kvC K' X').toArray) (hk : KnO lo wr K' X') : Rd lo w0 w' g s gk A n c l p K' X' := by
  have h1 := h.ne
  have h2 := h.pos
  exact ⟨k.box h.own (by omega), k.box h.src (by omega), hb, hk.kept k (fun i e cs hx => by subst e; exact h.kv.apart hx (by decide) rfl), h.sl.kept k (fun b hb e => hb.2.2 e), h.tab.kept k (by omega),
    h.kep.trans k (fun i hi e => .inr e), h.le, h.few, h.lts, h.pos, h.low⟩
theorem Rd.caps (h : Rd lo w0 wr g s gk A n c l p K X) : n ≤ c ∧ c ≤ 9223372036854775807 := ⟨h.sl.cap, by have := h.sl.max; unfold maxLen at this; omega⟩
end
theorem Kept.nothing {w w' : World} (h : Below w.heap.size w w') : Kept (fun _ => False) w w' := Kept.of_below h _

theorem getD_take_one (l : List Int) (p : Nat) (hp : p < l.length) : val true ((l.drop p).take 1) = l.getD p 0 := by
  rw [List.drop_eq_getElem_cons hp, List.take_succ_cons, List.take_zero, List.getD_eq_getElem?_getD, List.getElem?_eq_getElem hp]
  simp [val, be, beOn]
theorem getD_take_two (l : List Int) (p : Nat) (hp : p + 1 < l.length) : val true ((l.drop p).take 2) = 256 * l.getD p 0 + l.getD (p + 1) 0 := by
  rw [List.drop_eq_getElem_cons (show p < l.length by omega), List.take_succ_cons, List.drop_eq_getElem_cons hp, List.take_succ_cons, List.take_zero, List.getD_eq_getElem?_getD, List.getElem?_eq_getElem (show p < l.length by omega), List.getD_eq_getElem?_getD, List.getElem?_eq_getElem hp]
  simp [val, be, beOn]
  omega

section
variable (lo : Nat) (w0 w : World) (g s gk : Nat) (A : Option Addr) (n c : Nat) (l : List Int) (p : Nat) (K : Kv) (X : Nat → Value)
/-- a number was read -/
def Num (v : Int) (m : Nat) (e : Ending) (w' : World) : Prop := e = .returned (.int .i64 v) ∧ Rd lo w w' g s gk A n c l (p + m) K X ∧ Kept (fun i => i = g) w w'
theorem num_any (m : Nat) (v : Int) (h : Rd lo w w g s gk A n c l p K X) (hm : m = 1 ∨ m = 2) (hp : p + m ≤ n) (hv : val true ((l.drop p).take m) = v) : Calls Tryd.prog 40 #[.pointer (some ⟨g, 0, none⟩), .int .i64 m] w (Num lo w g s gk A n c l p K X v m) := by
  have hb := (val_bounds true _ ((h.sl.bts.fit.drop p).take m)).2
  rw [hv, List.length_take, List.length_drop, h.len] at hb
  have hv2 : v ≤ 9223372036854775807 := by
    rw [show min m (n - p) = m by omega] at hb
    rcases hm with rfl | rfl <;> omega
  refine (number_ok w g s A n c true p m l _ v h.cur (decide_eq_true (by omega)) hp h.caps.1 h.caps.2 h.len h.sl.bts hv hv2).mono ?_
  rintro e w' ⟨rfl, k, rfl⟩
  have k1 : Kept (fun i => i = g) w ((w.drewN k).setCell ⟨g, 1, none⟩ (.int .i64 ((p + m : Nat) : Int))) := ((Kept.refl (fun i => i = g) w).drewN k).setCell (p := ⟨g, 1, none⟩) (fun _ => rfl) _
  exact ⟨rfl, h.moved k1 (((Cur.drewN h.cur k).moved (p + m)).own) hp, k1⟩
theorem num1 (h : Rd lo w w g s gk A n c l p K X) (hp : p < n) : Calls Tryd.prog 40 #[.pointer (some ⟨g, 0, none⟩), .int .i64 1] w (Num lo w g s gk A n c l p K X (l.getD p 0) 1) :=
  num_any lo w g s gk A n c l p K X 1 _ h (.inl rfl) hp (getD_take_one l p (by rw [h.len]; exact hp))
theorem num2 (h : Rd lo w w g s gk A n c l p K X) (hp : p + 1 < n) : Calls Tryd.prog 40 #[.pointer (some ⟨g, 0, none⟩), .int .i64 2] w (Num lo w g s gk A n c l p K X (256 * l.getD p 0 + l.getD (p + 1) 0) 2) :=
  num_any lo w g s gk A n c l p K X 2 _ h (.inr rfl) hp (getD_take_two l p (by rw [h.len]; exact hp))
/-- a reader has given up, and nothing has turned -/
def Gave (k : Int) (e : Ending) (w' : World) : Prop := e = .panicked (gaveUp s k) ∧ Kept (fun _ => False) w w'
theorem num1_up (h : Rd lo w w g s gk A n c l p K X) (hp : n ≤ p) : Calls Tryd.prog 40 #[.pointer (some ⟨g, 0, none⟩), .int .i64 1] w (Gave w s 3) := by
  refine (number_short w g s A n c true p 1 h.cur (by decide) h.le (by have := h.few; omega) (by omega)).mono ?_
  rintro e w' ⟨rfl, k, rfl⟩
  exact ⟨rfl, (Kept.refl _ w).drewN k⟩
theorem num2_up (h : Rd lo w w g s gk A n c l p K X) (hp : n ≤ p + 1) : Calls Tryd.prog 40 #[.pointer (some ⟨g, 0, none⟩), .int .i64 2] w (Gave w s 3) := by
  refine (number_short w g s A n c true p 2 h.cur (by decide) h.le (by have := h.few; omega) (by omega)).mono ?_
  rintro e w' ⟨rfl, k, rfl⟩
  exact ⟨rfl, (Kept.refl _ w).drewN k⟩
/-- how many bytes are left -/
theorem left_any (h : Rd lo w w g s gk A n c l p K X) : Calls Tryd.prog 70 #[.pointer (some ⟨g, 0, none⟩)] w fun e w' => e = .returned (.int .i64 ((n - p : Nat) : Int)) ∧ Below w.heap.size w w' := by
  refine (left_is w g s A n c true p h.cur h.le (by have := h.few; omega)).mono ?_
  rintro e w' ⟨rfl, k, rfl⟩
  exact ⟨rfl, below_drewN_refl w k⟩
theorem end_up (h : Rd lo w w g s gk A n c l p K X) (hp : p < n) : Calls Tryd.prog 59 #[.pointer (some ⟨g, 0, none⟩)] w (Gave w s 5) := by
  refine (end_more w g s A n c true p h.cur hp (by have := h.few; omega)).mono ?_
  rintro e w' ⟨rfl, k, rfl⟩
  exact ⟨rfl, (Kept.refl _ w).drewN k⟩
theorem end_is (h : Rd lo w w g s gk A n c l p K X) (hp : p = n) : Calls Tryd.prog 59 #[.pointer (some ⟨g, 0, none⟩)] w fun e w' => e = .returned (.tuple #[]) ∧ Below w.heap.size w w' := by
  subst hp
  refine (end_ok w g s A p c true h.cur (by have := h.few; omega)).mono ?_
  rintro e w' ⟨rfl, k, rfl⟩
  exact ⟨rfl, below_drewN_refl w k⟩
theorem at_any (h : Rd lo w w g s gk A n c l p K X) : Calls Tryd.prog 63 #[.pointer (some ⟨g, 0, none⟩)] w fun e w' => e = .returned (.int .i64 (p : Int)) ∧ w = w' := at_is w g s A n c true p h.cur
theorem skip_any (h : Rd lo w w g s gk A n c l p K X) (m : Nat) (hp : p + m ≤ n) : Calls Tryd.prog 82 #[.pointer (some ⟨g, 0, none⟩), .int .i64 m] w fun e w' => e = .returned (.tuple #[]) ∧ Rd lo w w' g s gk A n c l (p + m) K X ∧ Kept (fun i => i = g) w w' := by
  rcases Nat.eq_zero_or_pos m with rfl | h0
  · refine (skip_none w g s A n c true p ((0 : Nat) : Int) h.cur (by omega)).mono ?_
    rintro e w' ⟨rfl, rfl⟩
    exact ⟨rfl, h, Kept.refl _ _⟩
  · refine (skip_ok w g s A n c true p m h.cur h0 hp h.caps.1 h.caps.2).mono ?_
    rintro e w' ⟨rfl, k, rfl⟩
    have k1 : Kept (fun i => i = g) w ((w.drewN k).setCell ⟨g, 1, none⟩ (.int .i64 ((p + m : Nat) : Int))) := ((Kept.refl (fun i => i = g) w).drewN k).setCell (p := ⟨g, 1, none⟩) (fun _ => rfl) _
    exact ⟨rfl, h.moved k1 (((Cur.drewN h.cur k).moved (p + m)).own) hp, k1⟩
/-- bytes were read, into memory of their own -/
theorem bytes_any (h : Rd lo w w g s gk A n c l p K X) (m : Nat) (hp : p + m ≤ n) : Calls Tryd.prog 71 #[.pointer (some ⟨g, 0, none⟩), .int .i64 m] w fun e w' => ∃ A' c', e = .returned (.slice A' m c') ∧ Sl w' (fun b => w.heap.size ≤ b) A' m c' ((l.drop p).take m) ∧ Rd lo w w' g s gk A n c l (p + m) K X ∧ Kept (fun i => i = g) w w' := by
  rcases Nat.eq_zero_or_pos m with rfl | h0
  · refine (bytes_none w g s A n c true p ((0 : Nat) : Int) h.cur (by omega)).mono ?_
    rintro e w' ⟨rfl, rfl⟩
    exact ⟨none, 0, rfl, ⟨⟨fun z hz => by simp at hz, fun h => absurd h (by simp)⟩, by simp, Nat.le_refl _, Nat.zero_le _, fun _ => rfl⟩, h, Kept.refl _ _⟩
  · refine (bytes_ok w g s A n c true p _ m l h.cur h.sl h0 hp (by have := h.few; omega)).mono ?_
    rintro e w' ⟨b, rfl, hb, hx, hk, hc⟩
    exact ⟨_, _, rfl, sl_of_box hx ((h.sl.bts.fit.drop p).take m) (by rw [List.length_take, List.length_drop, h.len]; omega) (by have := h.few; simp only [maxLen]; omega) hb, h.moved hk hc.own hp, hk⟩
theorem bytes_up (h : Rd lo w w g s gk A n c l p K X) (m : Int) (hp : ((n - p : Nat) : Int) < m) : Calls Tryd.prog 71 #[.pointer (some ⟨g, 0, none⟩), .int .i64 m] w (Gave w s 3) := by
  refine (bytes_short w g s A n c true p m h.cur h.le (by have := h.few; omega) (by omega) hp).mono ?_
  rintro e w' ⟨rfl, k, rfl⟩
  exact ⟨rfl, (Kept.refl _ w).drewN k⟩
end
section
variable (w : World) (g s : Nat) (A : Option Addr) (n c p : Nat)
set_option maxHeartbeats 400000 in
theorem require_yes (k : Int) : Calls Tryd.prog 39 #[.pointer (some ⟨g, 0, none⟩), .bool true, .int .i64 k] w fun e w' => e = .returned (.tuple #[]) ∧ w = w' := by
  go_enter Tryd.func39, Tryd.ntmps39
  go_wp2_with fail
  go_end0
  exact ⟨rfl, rfl⟩
set_option maxHeartbeats 400000 in
theorem require_no (k : Int) (hk : (k != 0) = true) (h : Cur w g s A n c true p) : Calls Tryd.prog 39 #[.pointer (some ⟨g, 0, none⟩), .bool false, .int .i64 k] w (Gave w s k) := by
  have HF := Lib.hid (fail_up w g s A n c true p k h hk)
  clear h
  go_enter Tryd.func39, Tryd.ntmps39
  go_wp2_with (go_at_call 55; refine HF.out.mono ?_; rintro r w' ⟨rfl, rfl⟩)
  exact ⟨rfl, rfl, Kept.refl _ _⟩
end
end Go.Proofs.YtgipngedmblnmaaDoor

namespace Go.Proofs.YtgipngedmblnmaaDoor
open Go.RowKit

/-- each number lies between two -/
def Wi (b : List Int) (lo hi : Int) : Prop := ∀ j, j < 64 → lo ≤ b.getD j 0 ∧ b.getD j 0 ≤ hi
instance (b : List Int) (lo hi : Int) : Decidable (Wi b lo hi) := by unfold Wi; infer_instance
/-- the first k do -/
def Wk (b : List Int) (lo hi : Int) (k : Nat) : Prop := ∀ j, j < k → lo ≤ b.getD j 0 ∧ b.getD j 0 ≤ hi
theorem Wk.more {b : List Int} {lo hi : Int} {k : Nat} (h : Wk b lo hi k) (h0 : lo ≤ b.getD k 0) (h1 : b.getD k 0 ≤ hi) : Wk b lo hi (k + 1) := fun j hj => by
  by_cases e : j = k
  · rw [e]; exact ⟨h0, h1⟩
  · exact h j (by omega)
theorem not_wi {b : List Int} {lo hi : Int} {k : Nat} (hk : k < 64) (h : b.getD k 0 < lo ∨ hi < b.getD k 0) : decide (Wi b lo hi) = false := decide_eq_false_iff_not.2 fun hr => by have := hr k hk; omega
/-- what a call answers that asks whether they do -/
def Withd (w : World) (b : List Int) (lo hi : Int) (e : Ending) (w' : World) : Prop := e = .returned (.bool (decide (Wi b lo hi))) ∧ Below w.heap.size w w'

set_option maxRecDepth 10000 in
set_option maxHeartbeats 800000 in
theorem within_any (w : World) (b : List Int) (lo hi : Int) (hb : b.length = 64) : Calls Tryd.prog 44 #[blkV b, .int .i64 lo, .int .i64 hi] w (Withd w b lo hi) := by
  obtain ⟨w1, hw1⟩ : ∃ w1, w1 = w.alloc (.cells (cellsI b).toArray 23) := ⟨_, rfl⟩
  have hB : Blk w1 w.heap.size b := by rw [hw1]; exact ⟨Box.made _ _ _, hb⟩
  have bel : Below w.heap.size w w1 := by rw [hw1]; exact on_alloc _ _
  have H := Lib.hid (And.intro hB (And.intro bel hw1))
  have HL := Lib.hid hB.load
  have HB := Lib.hid hb
  clear hB bel hw1 hb
  obtain ⟨v, hv⟩ : ∃ v, v = blkV b := ⟨_, rfl⟩
  rw [← hv] at HL ⊢
  obtain ⟨cs, hcs⟩ : ∃ cs, cs = (cellsI b).toArray := ⟨_, rfl⟩
  have hvc : v = .agg cs := by rw [hv, hcs]; rfl
  rw [hvc]
  have HV := Lib.hid (And.intro hv (And.intro hcs hvc))
  clear hv hcs hvc
  have HL2 := Lib.hid (show (Instr.loadAt 23 (.pointer (some ⟨w.heap.size, 0, none⟩))).run Tryd.prog (w.alloc (.cells cs 23)) = .ok v (w.alloc (.cells cs 23)) by rw [HV.out.2.1, ← H.out.2.2]; exact HL.out)
  go_enter Tryd.func44, Tryd.ntmps44
  go_wp2_with (first
    | (with_reducible refine wpList_load_to (op := ⟨some 9, _, _, _, _, _⟩) rfl 23 (.tmp 3) rfl (.pointer (some ⟨w.heap.size, 0, none⟩)) rfl v HL2.out ?_)
    | fail)

  rw [HV.out.2.1, ← H.out.2.2]

  go_loopw [10] (fun i wr => ∃ k : Nat, k ≤ 64 ∧ i = .int .i64 k ∧ Wk b lo hi k ∧ w1 = wr) (fun i _ => 64 - (intOf i).toNat)
  case atStart => exact ⟨0, by omega, rfl, fun j hj => absurd hj (by omega), rfl⟩
  case round =>
    obtain ⟨k, hk, rfl, hR, rfl⟩ := hrel
    have HR := Lib.hid hR
    clear hR
    by_cases hlt : k < 64
    · have hidx := fun w => index23 w HB.out hlt
      rw [← HV.out.1] at hidx
      have hlt' := not_wi (b := b) (lo := lo) (hi := hi) hlt
      obtain ⟨z, hz⟩ : ∃ z, z = b.getD k 0 := ⟨_, rfl⟩
      rw [← hz] at hidx hlt'
      have HZ := Lib.hid (And.intro hz hlt')
      clear hz hlt'
      by_cases h0 : z < lo
      · go_wp2_with fail
        go_ret
        exact ⟨by rw [HZ.out.2 (.inl h0)]; rfl, H.out.2.1⟩
      · by_cases h1 : hi < z
        · go_wp2_with fail
          go_ret
          exact ⟨by rw [HZ.out.2 (.inr h1)]; rfl, H.out.2.1⟩
        · go_wp2_with fail
          go_roundw
          case rel => exact ⟨k + 1, by omega, by go_num, HR.out.more (by rw [← HZ.out.1]; omega) (by rw [← HZ.out.1]; omega), trivial⟩
          case measure => simp [intOf]; omega
    · obtain rfl : k = 64 := by omega
      go_wp2
      go_ret
      exact ⟨by rw [decide_eq_true (show Wi b lo hi from HR.out)]; rfl, H.out.2.1⟩

set_option maxRecDepth 10000 in
set_option maxHeartbeats 800000 in
theorem qright_any (w : World) (b : List Int) (hb : b.length = 64) : Calls Tryd.prog 21 #[blkV b] w (Withd w b 1 255) := by
  obtain ⟨w1, hw1⟩ : ∃ w1, w1 = w.alloc (.cells (cellsI b).toArray 23) := ⟨_, rfl⟩
  have hB : Blk w1 w.heap.size b := by rw [hw1]; exact ⟨Box.made _ _ _, hb⟩
  have bel : Below w.heap.size w w1 := by rw [hw1]; exact on_alloc _ _
  have HL := Lib.hid hB.load
  have HC := Lib.hid (within_any w1 b 1 255 hb)
  obtain ⟨v, hv⟩ : ∃ v, v = blkV b := ⟨_, rfl⟩
  rw [← hv] at HL HC ⊢
  obtain ⟨cs, hcs⟩ : ∃ cs, cs = (cellsI b).toArray := ⟨_, rfl⟩
  rw [← hcs] at hw1
  have hvc : v = .agg cs := by rw [hv, hcs]; rfl
  rw [hvc]
  rw [hvc, hw1] at HC
  rw [hw1] at HL bel
  have HB := Lib.hid (And.intro bel hvc)
  clear hv hcs hB hw1 bel hvc hb
  go_enter Tryd.func21, Tryd.ntmps21
  go_wp2_with (first
    | (with_reducible refine wpList_load_to (op := ⟨some 3, _, _, _, _, _⟩) rfl 23 (.tmp 1) rfl (.pointer (some ⟨w.heap.size, 0, none⟩)) rfl v HL.out ?_)
    | fail)
  rw [HB.out.2]
  refine HC.out.mono ?_
  rintro e w2 ⟨rfl, b2⟩
  have H2 := Lib.hid (on_trans HB.out.1 b2)
  clear b2
  go_wp2
  go_ret
  exact ⟨rfl, H2.out⟩


theorem wi_ok (b : List Int) : Wi b 1 255 = StepOk b := rfl
set_option maxHeartbeats 400000 in
/-- two texts are compared -/
theorem equal_any (w : World) (K K2 : Nat → Prop) (A A2 : Option Addr) (n c n2 c2 : Nat) (l l2 : List Int) (h : Sl w K A n c l) (h2 : Sl w K2 A2 n2 c2 l2) : Calls Tryd.prog 73 #[.slice A n c, .slice A2 n2 c2] w fun e w' => e = .returned (.bool (decide (l = l2))) ∧ w = w' := by
  have s1 := sl_str h
  have HD := str_dec h.bts.fit h2.bts.fit
  have s2 := sl_str h2
  clear h h2
  go_enter Tryd.func73, Tryd.ntmps73
  go_wp2_with fail
  go_ret
  exact ⟨rfl, rfl⟩
end Go.Proofs.YtgipngedmblnmaaDoor
