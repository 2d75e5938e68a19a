/-
  A map from codes to values, in memory.
-/
import Derived.Test.YthfpdebpepbejaaDoorRight
import Derived.Maps.OwnOps
import Derived.Maps.Views
import Derived.Maps.OwnSet
import Derived.DeepKeys4
namespace Go.Proofs.YthfpdebpepbejaaDoor
open Go.RowKit Go.Maps

theorem laidOut : laidOutB Tryd.prog = true := by kernel_rfl
theorem row63 : (116 : TypeId) < Tryd.prog.types.size := of_decide_eq_true (by kernel_rfl)
theorem wide63 : (match Tryd.prog.underlying 116 with | some (.array _ _) | some (.struct _) => true | _ => false) = true := by rw [Tryd.underlying116]
set_option maxRecDepth 20000 in
theorem law63 : Keyed Tryd.prog 116 := Keyed.of_law (deep_law_laid laidOut (m := 2) (by omega) row63 (by kernel_rfl) wide63)
theorem cells63 : Tryd.prog.cellsOf 116 = 2 := by kernel_rfl
theorem cells3i : Tryd.prog.cellsOf 3 = 1 := by kernel_rfl
/-- a code as a key's value -/
def codeV (b s : Nat) : Value := .agg #[.int .i64 (b : Int), .int .i64 (s : Int)]
theorem wf_small {i : Nat} (h : i < 4611686018427387904) : (Lit.int .i64 (i : Int)).wf = true := by
  simp [Lit.wf, IntKind.min, IntKind.max, IntKind.signed, IntKind.bits]
  omega
theorem types_size : ∃ k, Tryd.prog.types.size = k + 1 := ⟨Tryd.prog.types.size - 1, by have : (116 : Nat) < Tryd.prog.types.size := row63; omega⟩
theorem keyOf_code {b s : Nat} (hb : b < 4611686018427387904) (hs : s < 4611686018427387904) : ∃ l, keyOf Tryd.prog 116 (codeV b s) = some l := by
  have hk : Tryd.prog.keyType 116 = true := by kernel_rfl
  have hw1 := wf_small hb
  have hw2 := wf_small hs
  obtain ⟨k, hk2⟩ := types_size
  have h3 : ∀ n : Nat, n < 4611686018427387904 → Tryd.prog.keyLits Tryd.prog.types.size 3 [.int .i64 (n : Int)] = some [.int .i64 (n : Int)] := by
    intro n hn
    rw [hk2]
    unfold Program.keyLits
    rw [Tryd.underlying3]
    simp [wf_small hn]
  have hf : (codeV b s).formed Tryd.prog 116 = true := by simp [codeV, Value.formed, Tryd.underlying116, cells63]
  have hl : ∃ ls, Tryd.prog.keyLits (Tryd.prog.types.size + 1) 116 [.int .i64 (b : Int), .int .i64 (s : Int)] = some ls := by
    refine ⟨[.int .i64 (b : Int), .int .i64 (s : Int)], ?_⟩
    unfold Program.keyLits
    rw [Tryd.underlying116]
    have e1 := h3 b hb
    have e2 := h3 s hs
    clear h3 hk2
    generalize Tryd.prog.types.size = N at e1 e2 ⊢
    simp [cells63, cells3i, e1, e2]
  obtain ⟨ls, hl⟩ := hl
  refine ⟨.string (keyBytes ls), ?_⟩
  unfold keyOf
  rw [Tryd.underlying116]
  simp only [hk, hf, Bool.and_self, if_true]
  show Option.map _ (Tryd.prog.keyLits (Tryd.prog.types.size + 1) 116 [.int .i64 (b : Int), .int .i64 (s : Int)]) = _
  rw [hl]
  rfl
theorem codeV_inj {b s b' s' : Nat} (h : codeV b s = codeV b' s') : (b, s) = (b', s') := by
  simp [codeV] at h
  simp
  omega

/-- an element of the map as itself -/
def RV (v : Value) : Option (DataW Value × List MemPlace) := some (.held v, [])
/-- block m is a map that tells the values of the codes in L -/
def Mq (w : World) (m : Nat) (L : List En) : Prop :=
  ∃ (D : DataW Value) (k : Nat), w.ownsMap Tryd.prog 116 RV m k D ∧ k ≤ L.length ∧ ∀ b s : Nat, b < 4611686018427387904 → s < 4611686018427387904 → ∀ l, keyOf Tryd.prog 116 (codeV b s) = some l →
    has D l = (get L (b, s)).isSome ∧ D.atKey l (.held (.int .i64 0)) = .held (.int .i64 (((get L (b, s)).map (·.1)).getD 0))

theorem Mq.lt {w : World} {m : Nat} {L : List En} (h : Mq w m L) : m < w.heap.size := by
  obtain ⟨D, k, h, _⟩ := h
  exact h.lt
theorem Mq.made (w : World) : Mq (w.alloc (.map #[] 0)) w.heap.size [] :=
  ⟨_, 0, World.ownsMap_made w Tryd.prog 116 RV, Nat.le_refl _, fun _ _ _ _ _ _ => ⟨rfl, rfl⟩⟩
theorem Mq.block {w w' : World} {m : Nat} {L : List En} (h : Mq w m L) (k : w'.heap[m]? = w.heap[m]?) : Mq w' m L := by
  obtain ⟨D, n, ⟨es, clock, hb, F, hs, hD⟩, hv⟩ := h
  exact ⟨D, n, ⟨es, clock, k.trans hb, F, hs, hD⟩, hv⟩
theorem Mq.is {w : World} {m : Nat} {L : List En} (h : Mq w m L) : ∃ es c, w.heap[m]? = some (.map es c) := by
  obtain ⟨D, n, ⟨es, clock, hb, F, hs, hD⟩, hv⟩ := h
  exact ⟨es, clock, hb⟩
theorem zero3 (w : World) : (zeroValue 3).run Tryd.prog w = .ok (.int .i64 0) w := by kernel_rfl
theorem Mq.look {w : World} {m : Nat} {L : List En} (h : Mq w m L) {b s : Nat} (hb : b < 4611686018427387904) (hs : s < 4611686018427387904) :
    (Instr.lookup 114 (.map (some m)) (codeV b s) true).run Tryd.prog w = .ok (.tuple #[.int .i64 (((get L (b, s)).map (·.1)).getD 0), .bool (get L (b, s)).isSome]) w := by
  obtain ⟨D, k, h, _, hv⟩ := h
  obtain ⟨l, hl⟩ := keyOf_code hb hs
  obtain ⟨x, ps, hrun, hx⟩ := h.look_ok law63 Tryd.underlying114 (zero3 w) (zd := .held (.int .i64 0)) (zp := []) rfl hl
  obtain ⟨h1, h2⟩ := hv b s hb hs l hl
  rw [h2] at hx
  simp [RV] at hx
  rw [hrun, hx.1, h1]
theorem Mq.store {w : World} {m : Nat} {L : List En} (h : Mq w m L) {b s : Nat} (hb : b < 4611686018427387904) (hs : s < 4611686018427387904) (v : Int) (hL : L.length ≤ 1000) (hn : ∀ y ∈ L, y.2 ≠ (b, s)) :
    ∃ w', (Instr.mapUpdate 114 (.map (some m)) (codeV b s) (.int .i64 v)).run Tryd.prog w = .ok () w' ∧ Mq w' m (L ++ [(v, b, s)]) ∧ w.grownBy w' (some m) := by
  obtain ⟨D, k, h, hk, hv⟩ := h
  obtain ⟨l, hl⟩ := keyOf_code hb hs
  obtain ⟨w', hrun, ho, hg⟩ := h.update law63 Tryd.underlying114 (by unfold maxLen; omega) hl (val := .int .i64 v) (d := .held (.int .i64 v)) (ps := []) rfl
  refine ⟨w', hrun, ⟨_, k + 1, ho, by rw [List.length_append]; show k + 1 ≤ L.length + 1; omega, fun b' s' hb' hs' l' hl' => ?_⟩, hg⟩
  rw [get_more (e := (v, b, s)) hn]
  by_cases e : ((b', s') : Nat × Nat) = (b, s)
  · simp at e
    obtain ⟨rfl, rfl⟩ := e
    rw [hl] at hl'
    cases hl'
    rw [if_pos rfl]
    exact ⟨has_put_same h.isMap (law63.key hl) _, atKey_put_same h.isMap (law63.key hl) _ _⟩
  · rw [if_neg e]
    have hne : l' ≠ l := fun e' => e (codeV_inj (law63.inj hl' (e' ▸ hl)))
    obtain ⟨h1, h2⟩ := hv b' s' hb' hs' l' hl'
    exact ⟨by rw [has_put_other hne]; exact h1, by rw [atKey_put_other hne]; exact h2⟩
end Go.Proofs.YthfpdebpepbejaaDoor
