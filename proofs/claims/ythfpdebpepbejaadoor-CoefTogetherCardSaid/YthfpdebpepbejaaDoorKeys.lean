/-
  The contract of Right. A map from codes to values, in memory.
-/
import Derived.Test.YthfpdebpepbejaaDoorSpec
import Derived.Maps.OwnOps
import Derived.Maps.Views
import Derived.Maps.OwnSet
import Derived.DeepKeys4
namespace Go.Proofs.YthfpdebpepbejaaDoor
open Go.RowKit

/-- a load that is wanted, at a region's list -/
theorem wpList_load_when {ops : Array Oper} {rest : List Oper} {op : Oper} {a : Act} {w : World} {Q : Exit → Act → World → Prop} (hw : Region.wanted op (yielded ops a.tmps) = true) (ty : TypeId) (x : Operand) (ho : op.op = .load ty x)
    (u : Value) (hx : a.eval x = u) (v : Value) (hl : (Instr.loadAt ty u).run Tryd.prog w = .ok v w)
    (hK : wpList Tryd.prog ops Q rest (a.put op.dst v) w) : wpList Tryd.prog ops Q (op :: rest) a w :=
  wpList_step fun _ hQ => by
    rw [if_pos hw]
    unfold Oper.wp execOp
    simp only [ho, hx, Sem.run_bind, hl, Result.andThen_ok]
    exact hQ _ _ hK

theorem valid_of {B V : List Int} (h : Diff V) (h' : FitOk B V.length) : Valid B V :=
  ⟨h'.nn, h'.sum, h'.pos, nodup_few 256 V h.2 (fun v hv => by have := h.1 v hv; omega), h.1, h.2, h'.fits⟩
theorem Valid.diff {B V : List Int} (h : Valid B V) : Diff V := ⟨h.rng, h.dif⟩
theorem Valid.fit {B V : List Int} (h : Valid B V) : FitOk B V.length := ⟨h.nn, h.sum, h.pos, h.fits⟩
/-- what Right answers -/
def Righted (w : World) (B V : List Int) (e : Ending) (w' : World) : Prop := ∃ b, e = .returned (.bool b) ∧ (b = true ↔ Valid B V) ∧ Below w.heap.size w w'

set_option maxRecDepth 20000 in
set_option maxHeartbeats 1600000 in
theorem right_any (w : World) (B V : List Int) (A : Option Addr) (n c : Nat) (hB : B.length = 16) (h : Ia w A n c V) (hn : n ≤ 300) :
    Calls Tryd.prog 55 #[specV B (.slice A n c)] w (Righted w B V) := by
  obtain ⟨C, hC⟩ : ∃ C, C = specC B (.slice A n c) := ⟨_, rfl⟩
  unfold specV
  rw [← hC]
  obtain ⟨w1, hw1⟩ : ∃ w1, w1 = w.alloc (.cells C 42) := ⟨_, rfl⟩
  have hb : Box w1 w.heap.size 42 C := by rw [hw1]; exact Box.made _ _ _
  have bel : Below w.heap.size w w1 := by rw [hw1]; exact on_alloc _ _
  have c1 : w1.cell? ⟨w.heap.size, 16, none⟩ = some (.slice A n c) := by rw [hb.cell 16, hC]; exact specC_last hB
  have hi := h.on bel
  have hl := h.len
  rw [hw1] at c1
  have HH := Lib.hid (And.intro hb (And.intro bel (And.intro hi (And.intro hw1 (And.intro hC (And.intro hl hB))))))
  clear hb bel hi hw1 hC hl hB h
  go_enter Tryd.func55, Tryd.ntmps55
  go_wp2_with fail
  rw [← HH.out.2.2.2.1]
  rw [← HH.out.2.2.2.1] at c1
  refine (differ_any w1 A n c V HH.out.2.2.1 hn).mono ?_
  rintro e w2 ⟨d, rfl, hd, b2⟩
  have h2 : Box w2 w.heap.size 42 (specC B (.slice A n c)) := by rw [← HH.out.2.2.2.2.1]; exact HH.out.1.on b2
  have c2 : w2.cell? ⟨w.heap.size, 16, none⟩ = some (.slice A n c) := by rw [h2.cell 16]; exact specC_last HH.out.2.2.2.2.2.2
  have H2 := Lib.hid (And.intro h2 (And.intro hd (on_trans HH.out.2.1 b2)))
  clear h2 hd b2 c1
  cases d with
  | false =>
    go_wp2
    go_ret
    refine ⟨false, rfl, ⟨(fun e => by cases e), fun hv => ?_⟩, H2.out.2.2⟩
    exact absurd (H2.out.2.1.2 hv.diff) (by simp)
  | true =>
    go_wp2_with (first
      | (refine wpList_load_when (op := ⟨some 8, _, _, _, _, _⟩) (by rfl) 40 (.tmp 7) rfl (.pointer (some ⟨w.heap.size, 0, none⟩)) rfl (.agg (cellsI B).toArray) (load_bits H2.out.1 HH.out.2.2.2.2.2.2) ?_)
      | fail)
    refine (fit_any w2 B n HH.out.2.2.2.2.2.2 hn).mono ?_
    rintro e w3 ⟨f, rfl, hf, b3⟩
    have H3 := Lib.hid (And.intro hf (on_trans H2.out.2.2 b3))
    clear hf b3
    go_wp2
    go_ret
    have hl := HH.out.2.2.2.2.2.1
    refine ⟨f, rfl, ⟨fun e => valid_of (H2.out.2.1.1 trivial) (by rw [hl]; exact H3.out.1.1 e), fun hv => H3.out.1.2 (by rw [← hl]; exact hv.fit)⟩, H3.out.2⟩
end Go.Proofs.YthfpdebpepbejaaDoor

namespace Go.Proofs.YthfpdebpepbejaaDoor
open Go.RowKit Go.Maps

theorem laidOut : laidOutB Tryd.prog = true := by kernel_rfl
theorem row63 : (116 : TypeId) < Tryd.prog.types.size := of_decide_eq_true (by kernel_rfl)
theorem wide63 : (match Tryd.prog.underlying 116 with | some (.array _ _) | some (.struct _) => true | _ => false) = true := by rw [Tryd.underlying116]
set_option maxRecDepth 20000 in
theorem law63 : Keyed Tryd.prog 116 := Keyed.of_law (deep_law_laid laidOut (m := 2) (by omega) row63 (by kernel_rfl) wide63)
theorem cells63 : Tryd.prog.cellsOf 116 = 2 := by kernel_rfl
theorem cells3i : Tryd.prog.cellsOf 3 = 1 := by kernel_rfl
/-- a code as a key's value -/
def codeV (b s : Nat) : Value := .agg #[.int .i64 (b : Int), .int .i64 (s : Int)]
theorem wf_small {i : Nat} (h : i < 4611686018427387904) : (Lit.int .i64 (i : Int)).wf = true := by
  simp [Lit.wf, IntKind.min, IntKind.max, IntKind.signed, IntKind.bits]
  omega
theorem types_size : ∃ k, Tryd.prog.types.size = k + 1 := ⟨Tryd.prog.types.size - 1, by have : (116 : Nat) < Tryd.prog.types.size := row63; omega⟩
theorem keyOf_code {b s : Nat} (hb : b < 4611686018427387904) (hs : s < 4611686018427387904) : ∃ l, keyOf Tryd.prog 116 (codeV b s) = some l := by
  have hk : Tryd.prog.keyType 116 = true := by kernel_rfl
  have hw1 := wf_small hb
  have hw2 := wf_small hs
  obtain ⟨k, hk2⟩ := types_size
  have h3 : ∀ n : Nat, n < 4611686018427387904 → Tryd.prog.keyLits Tryd.prog.types.size 3 [.int .i64 (n : Int)] = some [.int .i64 (n : Int)] := by
    intro n hn
    rw [hk2]
    unfold Program.keyLits
    rw [Tryd.underlying3]
    simp [wf_small hn]
  have hf : (codeV b s).formed Tryd.prog 116 = true := by simp [codeV, Value.formed, Tryd.underlying116, cells63]
  have hl : ∃ ls, Tryd.prog.keyLits (Tryd.prog.types.size + 1) 116 [.int .i64 (b : Int), .int .i64 (s : Int)] = some ls := by
    refine ⟨[.int .i64 (b : Int), .int .i64 (s : Int)], ?_⟩
    unfold Program.keyLits
    rw [Tryd.underlying116]
    have e1 := h3 b hb
    have e2 := h3 s hs
    clear h3 hk2
    generalize Tryd.prog.types.size = N at e1 e2 ⊢
    simp [cells63, cells3i, e1, e2]
  obtain ⟨ls, hl⟩ := hl
  refine ⟨.string (keyBytes ls), ?_⟩
  unfold keyOf
  rw [Tryd.underlying116]
  simp only [hk, hf, Bool.and_self, if_true]
  show Option.map _ (Tryd.prog.keyLits (Tryd.prog.types.size + 1) 116 [.int .i64 (b : Int), .int .i64 (s : Int)]) = _
  rw [hl]
  rfl
theorem codeV_inj {b s b' s' : Nat} (h : codeV b s = codeV b' s') : (b, s) = (b', s') := by
  simp [codeV] at h
  simp
  omega

/-- an element of the map as itself -/
def RV (v : Value) : Option (DataW Value × List MemPlace) := some (.held v, [])
/-- block m is a map that tells the values of the codes in L -/
def Mq (w : World) (m : Nat) (L : List En) : Prop :=
  ∃ (D : DataW Value) (k : Nat), w.ownsMap Tryd.prog 116 RV m k D ∧ k ≤ L.length ∧ ∀ b s : Nat, b < 4611686018427387904 → s < 4611686018427387904 → ∀ l, keyOf Tryd.prog 116 (codeV b s) = some l →
    has D l = (get L (b, s)).isSome ∧ D.atKey l (.held (.int .i64 0)) = .held (.int .i64 (((get L (b, s)).map (·.1)).getD 0))

theorem Mq.lt {w : World} {m : Nat} {L : List En} (h : Mq w m L) : m < w.heap.size := by
  obtain ⟨D, k, h, _⟩ := h
  exact h.lt
theorem Mq.made (w : World) : Mq (w.alloc (.map #[] 0)) w.heap.size [] :=
  ⟨_, 0, World.ownsMap_made w Tryd.prog 116 RV, Nat.le_refl _, fun _ _ _ _ _ _ => ⟨rfl, rfl⟩⟩
theorem Mq.block {w w' : World} {m : Nat} {L : List En} (h : Mq w m L) (k : w'.heap[m]? = w.heap[m]?) : Mq w' m L := by
  obtain ⟨D, n, ⟨es, clock, hb, F, hs, hD⟩, hv⟩ := h
  exact ⟨D, n, ⟨es, clock, k.trans hb, F, hs, hD⟩, hv⟩
theorem Mq.is {w : World} {m : Nat} {L : List En} (h : Mq w m L) : ∃ es c, w.heap[m]? = some (.map es c) := by
  obtain ⟨D, n, ⟨es, clock, hb, F, hs, hD⟩, hv⟩ := h
  exact ⟨es, clock, hb⟩
theorem zero3 (w : World) : (zeroValue 3).run Tryd.prog w = .ok (.int .i64 0) w := by kernel_rfl
theorem Mq.look {w : World} {m : Nat} {L : List En} (h : Mq w m L) {b s : Nat} (hb : b < 4611686018427387904) (hs : s < 4611686018427387904) :
    (Instr.lookup 114 (.map (some m)) (codeV b s) true).run Tryd.prog w = .ok (.tuple #[.int .i64 (((get L (b, s)).map (·.1)).getD 0), .bool (get L (b, s)).isSome]) w := by
  obtain ⟨D, k, h, _, hv⟩ := h
  obtain ⟨l, hl⟩ := keyOf_code hb hs
  obtain ⟨x, ps, hrun, hx⟩ := h.look_ok law63 Tryd.underlying114 (zero3 w) (zd := .held (.int .i64 0)) (zp := []) rfl hl
  obtain ⟨h1, h2⟩ := hv b s hb hs l hl
  rw [h2] at hx
  simp [RV] at hx
  rw [hrun, hx.1, h1]
theorem Mq.store {w : World} {m : Nat} {L : List En} (h : Mq w m L) {b s : Nat} (hb : b < 4611686018427387904) (hs : s < 4611686018427387904) (v : Int) (hL : L.length ≤ 1000) (hn : ∀ y ∈ L, y.2 ≠ (b, s)) :
    ∃ w', (Instr.mapUpdate 114 (.map (some m)) (codeV b s) (.int .i64 v)).run Tryd.prog w = .ok () w' ∧ Mq w' m (L ++ [(v, b, s)]) ∧ w.grownBy w' (some m) := by
  obtain ⟨D, k, h, hk, hv⟩ := h
  obtain ⟨l, hl⟩ := keyOf_code hb hs
  obtain ⟨w', hrun, ho, hg⟩ := h.update law63 Tryd.underlying114 (by unfold maxLen; omega) hl (val := .int .i64 v) (d := .held (.int .i64 v)) (ps := []) rfl
  refine ⟨w', hrun, ⟨_, k + 1, ho, by rw [List.length_append]; show k + 1 ≤ L.length + 1; omega, fun b' s' hb' hs' l' hl' => ?_⟩, hg⟩
  rw [get_more (e := (v, b, s)) hn]
  by_cases e : ((b', s') : Nat × Nat) = (b, s)
  · simp at e
    obtain ⟨rfl, rfl⟩ := e
    rw [hl] at hl'
    cases hl'
    rw [if_pos rfl]
    exact ⟨has_put_same h.isMap (law63.key hl) _, atKey_put_same h.isMap (law63.key hl) _ _⟩
  · rw [if_neg e]
    have hne : l' ≠ l := fun e' => e (codeV_inj (law63.inj hl' (e' ▸ hl)))
    obtain ⟨h1, h2⟩ := hv b' s' hb' hs' l' hl'
    exact ⟨by rw [has_put_other hne]; exact h1, by rw [atKey_put_other hne]; exact h2⟩
end Go.Proofs.YthfpdebpepbejaaDoor
