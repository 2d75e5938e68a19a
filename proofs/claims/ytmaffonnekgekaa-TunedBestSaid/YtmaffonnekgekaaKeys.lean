/-
  A map from codes to values, in memory.
-/
import Derived.Test.YtmaffonnekgekaaRight
import Derived.Maps.OwnOps
import Derived.Maps.Views
import Derived.Maps.OwnSet
import Derived.DeepKeys4
namespace Go.Proofs.Ytmaffonnekgekaa
open Go.RowKit Go.Maps

theorem laidOut : laidOutB Try.prog = true := by kernel_rfl
theorem row63 : (62 : TypeId) < Try.prog.types.size := of_decide_eq_true (by kernel_rfl)
theorem wide63 : (match Try.prog.underlying 62 with | some (.array _ _) | some (.struct _) => true | _ => false) = true := by rw [Try.underlying62]
theorem law63 : Keyed Try.prog 62 := Keyed.of_law (deep_law_laid laidOut (m := 2) (by omega) row63 (by kernel_rfl) wide63)
theorem cells63 : Try.prog.cellsOf 62 = 2 := by kernel_rfl
theorem cells3i : Try.prog.cellsOf 3 = 1 := by kernel_rfl
/-- a code as a key's value -/
def codeV (b s : Nat) : Value := .agg #[.int .i64 (b : Int), .int .i64 (s : Int)]
theorem wf_small {i : Nat} (h : i < 4611686018427387904) : (Lit.int .i64 (i : Int)).wf = true := by
  simp [Lit.wf, IntKind.min, IntKind.max, IntKind.signed, IntKind.bits]
  omega
theorem types_size : ∃ k, Try.prog.types.size = k + 1 := ⟨Try.prog.types.size - 1, by have : (62 : Nat) < Try.prog.types.size := row63; omega⟩
theorem keyOf_code {b s : Nat} (hb : b < 4611686018427387904) (hs : s < 4611686018427387904) : ∃ l, keyOf Try.prog 62 (codeV b s) = some l := by
  have hk : Try.prog.keyType 62 = true := by kernel_rfl
  have hw1 := wf_small hb
  have hw2 := wf_small hs
  obtain ⟨k, hk2⟩ := types_size
  have h3 : ∀ n : Nat, n < 4611686018427387904 → Try.prog.keyLits Try.prog.types.size 3 [.int .i64 (n : Int)] = some [.int .i64 (n : Int)] := by
    intro n hn
    rw [hk2]
    unfold Program.keyLits
    rw [Try.underlying3]
    simp [wf_small hn]
  have hf : (codeV b s).formed Try.prog 62 = true := by simp [codeV, Value.formed, Try.underlying62, cells63]
  have hl : ∃ ls, Try.prog.keyLits (Try.prog.types.size + 1) 62 [.int .i64 (b : Int), .int .i64 (s : Int)] = some ls := by
    refine ⟨[.int .i64 (b : Int), .int .i64 (s : Int)], ?_⟩
    unfold Program.keyLits
    rw [Try.underlying62]
    have e1 := h3 b hb
    have e2 := h3 s hs
    clear h3 hk2
    generalize Try.prog.types.size = N at e1 e2 ⊢
    simp [cells63, cells3i, e1, e2]
  obtain ⟨ls, hl⟩ := hl
  refine ⟨.string (keyBytes ls), ?_⟩
  unfold keyOf
  rw [Try.underlying62]
  simp only [hk, hf, Bool.and_self, if_true]
  show Option.map _ (Try.prog.keyLits (Try.prog.types.size + 1) 62 [.int .i64 (b : Int), .int .i64 (s : Int)]) = _
  rw [hl]
  rfl
theorem codeV_inj {b s b' s' : Nat} (h : codeV b s = codeV b' s') : (b, s) = (b', s') := by
  simp [codeV] at h
  simp
  omega

/-- an element of the map as itself -/
def RV (v : Value) : Option (DataW Value × List MemPlace) := some (.held v, [])
/-- block m is a map that tells the values of the codes in L -/
def Mq (w : World) (m : Nat) (L : List En) : Prop :=
  ∃ (D : DataW Value) (k : Nat), w.ownsMap Try.prog 62 RV m k D ∧ k ≤ L.length ∧ ∀ b s : Nat, b < 4611686018427387904 → s < 4611686018427387904 → ∀ l, keyOf Try.prog 62 (codeV b s) = some l →
    has D l = (get L (b, s)).isSome ∧ D.atKey l (.held (.int .i64 0)) = .held (.int .i64 (((get L (b, s)).map (·.1)).getD 0))

theorem Mq.lt {w : World} {m : Nat} {L : List En} (h : Mq w m L) : m < w.heap.size := by
  obtain ⟨D, k, h, _⟩ := h
  exact h.lt
theorem Mq.made (w : World) : Mq (w.alloc (.map #[] 0)) w.heap.size [] :=
  ⟨_, 0, World.ownsMap_made w Try.prog 62 RV, Nat.le_refl _, fun _ _ _ _ _ _ => ⟨rfl, rfl⟩⟩
theorem Mq.block {w w' : World} {m : Nat} {L : List En} (h : Mq w m L) (k : w'.heap[m]? = w.heap[m]?) : Mq w' m L := by
  obtain ⟨D, n, ⟨es, clock, hb, F, hs, hD⟩, hv⟩ := h
  exact ⟨D, n, ⟨es, clock, k.trans hb, F, hs, hD⟩, hv⟩
theorem Mq.is {w : World} {m : Nat} {L : List En} (h : Mq w m L) : ∃ es c, w.heap[m]? = some (.map es c) := by
  obtain ⟨D, n, ⟨es, clock, hb, F, hs, hD⟩, hv⟩ := h
  exact ⟨es, clock, hb⟩
theorem zero3 (w : World) : (zeroValue 3).run Try.prog w = .ok (.int .i64 0) w := by kernel_rfl
theorem Mq.look {w : World} {m : Nat} {L : List En} (h : Mq w m L) {b s : Nat} (hb : b < 4611686018427387904) (hs : s < 4611686018427387904) :
    (Instr.lookup 60 (.map (some m)) (codeV b s) true).run Try.prog w = .ok (.tuple #[.int .i64 (((get L (b, s)).map (·.1)).getD 0), .bool (get L (b, s)).isSome]) w := by
  obtain ⟨D, k, h, _, hv⟩ := h
  obtain ⟨l, hl⟩ := keyOf_code hb hs
  obtain ⟨x, ps, hrun, hx⟩ := h.look_ok law63 Try.underlying60 (zero3 w) (zd := .held (.int .i64 0)) (zp := []) rfl hl
  obtain ⟨h1, h2⟩ := hv b s hb hs l hl
  rw [h2] at hx
  simp [RV] at hx
  rw [hrun, hx.1, h1]
theorem Mq.store {w : World} {m : Nat} {L : List En} (h : Mq w m L) {b s : Nat} (hb : b < 4611686018427387904) (hs : s < 4611686018427387904) (v : Int) (hL : L.length ≤ 1000) (hn : ∀ y ∈ L, y.2 ≠ (b, s)) :
    ∃ w', (Instr.mapUpdate 60 (.map (some m)) (codeV b s) (.int .i64 v)).run Try.prog w = .ok () w' ∧ Mq w' m (L ++ [(v, b, s)]) ∧ w.grownBy w' (some m) := by
  obtain ⟨D, k, h, hk, hv⟩ := h
  obtain ⟨l, hl⟩ := keyOf_code hb hs
  obtain ⟨w', hrun, ho, hg⟩ := h.update law63 Try.underlying60 (by unfold maxLen; omega) hl (val := .int .i64 v) (d := .held (.int .i64 v)) (ps := []) rfl
  refine ⟨w', hrun, ⟨_, k + 1, ho, by rw [List.length_append]; show k + 1 ≤ L.length + 1; omega, fun b' s' hb' hs' l' hl' => ?_⟩, hg⟩
  rw [get_more (e := (v, b, s)) hn]
  by_cases e : ((b', s') : Nat × Nat) = (b, s)
  · simp at e
    obtain ⟨rfl, rfl⟩ := e
    rw [hl] at hl'
    cases hl'
    rw [if_pos rfl]
    exact ⟨has_put_same h.isMap (law63.key hl) _, atKey_put_same h.isMap (law63.key hl) _ _⟩
  · rw [if_neg e]
    have hne : l' ≠ l := fun e' => e (codeV_inj (law63.inj hl' (e' ▸ hl)))
    obtain ⟨h1, h2⟩ := hv b' s' hb' hs' l' hl'
    exact ⟨by rw [has_put_other hne]; exact h1, by rw [atKey_put_other hne]; exact h2⟩
end Go.Proofs.Ytmaffonnekgekaa
