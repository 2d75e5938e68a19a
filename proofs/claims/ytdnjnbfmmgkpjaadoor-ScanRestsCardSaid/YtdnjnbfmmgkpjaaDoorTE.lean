/-
  Tables that are being filled: what Tune writes.
-/
import Derived.Test.YtdnjnbfmmgkpjaaDoorTC
import Derived.Test.YtdnjnbfmmgkpjaaDoorTD
import Derived.Test.YtdnjnbfmmgkpjaaDoorPSU
namespace Go.Proofs.YtdnjnbfmmgkpjaaDoor
open Go.RowKit

def upf {α : Type} (f : Nat → α) (j : Nat) (x : α) : Nat → α := fun i => if i = j then x else f i
theorem upf_same {α : Type} (f : Nat → α) (j : Nat) (x : α) : upf f j x j = x := by unfold upf; rw [if_pos rfl]
theorem upf_ne {α : Type} (f : Nat → α) {j i : Nat} (x : α) (h : i ≠ j) : upf f j x i = f i := by unfold upf; rw [if_neg h]
/-- tables in a block of memory that may be written -/
structure TbB (w : World) (g : Nat) (T : Tbs) (X : Nat → Value) : Prop where
  rng : TbR w g T X
  box : ∃ cs, Box w g 33 cs ∧ cs.size = 196
section
variable {w w' : World} {g : Nat} {T : Tbs} {X : Nat → Value}
theorem TbB.kept {S : Nat → Prop} (h : TbB w g T X) (k : Kept S w w') (hS : ¬ S g) : TbB w' g T X := by
  obtain ⟨cs, hb, hs⟩ := h.box
  exact ⟨fun j v hv => (k.cell (p := ⟨g, 0 + j, none⟩) hb.lt hS).trans (h.rng j v hv), cs, k.box hb hS, hs⟩
theorem TbB.on (h : TbB w g T X) (k : Below w.heap.size w w') : TbB w' g T X := h.kept (Kept.of_below k (fun _ => False)) (fun h => h)
theorem TbB.there (h : TbB w g T X) {o n : Nat} (ho : o + n ≤ 196) : w.there g o n := fun j hj => by
  obtain ⟨cs, hb, hs⟩ := h.box
  refine ⟨?_, hb.free _⟩
  rw [hb.cell, Array.getElem?_eq_getElem (by omega)]
  rfl
theorem TbB.spec (h : TbB w g T X) {j : Nat} (hj : j < 4) {B V : List Int} (hB : B.length = 16) (v : Value) : TbB (w.setCells g (128 + 17 * j) (specC B v).toList) g ⟨T.t, upf T.B j B, upf T.V j V⟩ (upf X j v) := by
  have hlen : (specC B v).toList.length = 17 := by simp [specC, cellsI_len, hB]
  have hth : w.there g (128 + 17 * j) (specC B v).toList.length := by rw [hlen]; exact h.there (by omega)
  obtain ⟨cs, hb, hs⟩ := h.box
  obtain ⟨cs', hb', hs'⟩ := Box.setCells (specC B v).toList (128 + 17 * j) hb
  refine ⟨fun k u hu => ?_, cs', hb', by rw [hs', hs]⟩
  have hk := (List.getElem?_eq_some_iff.1 hu).1
  rw [tbC_len] at hk
  rw [tbC_get _ _ hk] at hu
  cases hu
  rw [Nat.zero_add]
  by_cases h1 : 128 + 17 * j ≤ k ∧ k < 128 + 17 * j + 17
  · obtain ⟨r, rfl⟩ : ∃ r, k = 128 + 17 * j + r := ⟨k - (128 + 17 * j), by omega⟩
    have hr := World.rangeAt_setCells_same w g (128 + 17 * j) (specC B v).toList hth r (tbAt ⟨T.t, upf T.B j B, upf T.V j V⟩ (upf X j v) (128 + 17 * j + r)) (by
      by_cases h16 : r < 16
      · rw [tbAt_b h16]
        show (cellsI B ++ [v])[r]? = some (.int .i64 ((upf T.B j B j).getD r 0))
        rw [List.getElem?_append_left (by rw [cellsI_len, hB]; exact h16), cellsI_get _ _ (by rw [hB]; exact h16), upf_same]
      · obtain rfl : r = 16 := by omega
        rw [tbAt_x, upf_same]
        show (cellsI B ++ [v])[16]? = _
        rw [List.getElem?_append_right (by rw [cellsI_len, hB]; omega), cellsI_len, hB]
        rfl)
    exact hr
  · have hr : (w.setCells g (128 + 17 * j) (specC B v).toList).rangeAt g k [tbAt T X k] := World.rangeAt_setCells_apart (fun i u hu => by
      match i, hu with
      | 0, hu =>
        cases hu
        rw [Nat.add_zero]
        exact h.rng.cell hk) g (128 + 17 * j) (specC B v).toList (.inr (by rw [hlen]; show k + 1 ≤ _ ∨ _; omega))
    have hr2 := hr 0 (tbAt T X k) rfl
    rw [Nat.add_zero] at hr2
    rw [hr2]
    unfold tbAt
    by_cases hk0 : k < 128
    · rw [if_pos hk0, if_pos hk0]
    · rw [if_neg hk0, if_neg hk0]
      dsimp only
      rw [upf_ne _ _ (by omega), upf_ne _ _ (by omega)]
theorem wpList_store_specAt {V : List Int} {ops : Array Oper} {rest : List Oper} {o : Oper} {a : Act} {w : World} {Q : Exit → Act → World → Prop} (hgd : o.guard = none) (x y : Operand) (ho : o.op = .store 30 x y) (hd : o.dst = none)
    (g off j : Nat) (B : List Int) (v : Value) (C : Array Value) (hC : C = specC B v) (hx : a.eval x = .pointer (some ⟨g, off, none⟩)) (hy : a.eval y = .agg C) (hoff : off = 128 + 17 * j) (hj : j < 4) (hB : B.length = 16) (hv : v.oneCell' = true) (hg : TbB w g T X)
    (h : ∀ w', TbB w' g ⟨T.t, upf T.B j B, upf T.V j V⟩ (upf X j v) → Kept (fun i => i = g) w w' → wpList Tryd.prog ops Q rest a w') : wpList Tryd.prog ops Q (o :: rest) a w := by
  subst hoff hC
  refine wpList_store_mid hgd 30 x y ho g (128 + 17 * j) (specC B v) hx hy (by rw [specC_size hB]; exact hg.there (by omega)) (by rw [spec_size, specC_size hB]) (specC_one hv) ?_
  rw [hd]
  exact h _ (hg.spec hj hB v) (kept_setCells g _ _ w)
end
/-- no tables, and their slices -/
def tb0 : Tbs := ⟨fun _ => List.replicate 64 0, fun _ => List.replicate 16 0, fun _ => []⟩
def nilX : Nat → Value := fun _ => .slice none 0 0
theorem zero33 (w : World) : (zeroValue 33).run Tryd.prog w = .ok (tbV tb0 nilX) w := by kernel_rfl
theorem build33_none (w : World) : (Instr.build 33 #[]).run Tryd.prog w = .ok (tbV tb0 nilX) w := run_build w 33 _ _ (by kernel_rfl)
theorem tables_size : (Tryd.prog.info? 33).map (·.size) = some 196 := by kernel_rfl
theorem fill33 {cells : Array Value} {xs : List Value} (hc : cells.size = 196) (hx : xs.length = 128) :
    Instr.fill (fun i => (#[(0, 128), (128, 34), (162, 34)] : Array (Nat × Nat))[i]?) cells [(0, .agg xs.toArray)] = some (xs ++ cells.toList.drop 128).toArray := by
  have hs : ∀ (l : List Value) (s : Nat) (cs : Array Value), ((l.zipIdx s).foldl (fun (cs : Array Value) (p : Value × Nat) => cs.setIfInBounds (0 + p.2) p.1) cs).size = cs.size := by
    intro l
    induction l with
    | nil => intro s cs; rfl
    | cons a l ih => intro s cs; rw [List.zipIdx_cons, List.foldl_cons, ih]; simp
  simp only [Instr.fill]
  have hx2 : (Value.agg xs.toArray).cells = xs.toArray := rfl
  rw [hx2]
  simp [hx, hc]
  apply Array.ext_getElem?
  intro k
  have hf := fold_set 0 xs 0 cells (by simp [hc, hx]) k
  simp only [Nat.zero_add] at hf
  have e2 : (xs ++ cells.toList.drop 128).toArray[k]? = (xs ++ cells.toList.drop 128)[k]? := by simp
  rw [hf, e2]
  by_cases h1 : 0 ≤ k ∧ k < xs.length
  · rw [if_pos h1, List.getElem?_append_left h1.2]
    simp
  · rw [if_neg h1, List.getElem?_append_right (by omega), List.getElem?_drop, show 128 + (k - xs.length) = k by omega, Array.getElem?_toList]
noncomputable def zeroT33 : Array Value := (((Tryd.prog.info? 33).bind (·.zero)).getD (.pointer none)).cells
theorem zeroT33_eq : zeroT33 = (tbC tb0 nilX).toArray := by kernel_rfl
theorem build33 (w : World) (s : Nat → List Int) (hs : ∀ i, i < 2 → (s i).length = 64) : (Instr.build 33 #[(0, .agg (twoC s).toArray)]).run Tryd.prog w = .ok (tbV ⟨s, tb0.B, tb0.V⟩ nilX) w := by
  refine run_build w 33 _ _ ?_
  have e : Tryd.prog.built 33 [(0, .agg (twoC s).toArray)] = Instr.fill (fun i => (#[(0, 128), (128, 34), (162, 34)] : Array (Nat × Nat))[i]?) zeroT33 [(0, .agg (twoC s).toArray)] := by kernel_rfl
  have hl : (twoC s).length = 128 := by simp [twoC, cellsI_len, hs 0 (by omega), hs 1 (by omega)]
  show Tryd.prog.built 33 [(0, .agg (twoC s).toArray)] = _
  rw [e, fill33 (by rw [zeroT33_eq, List.size_toArray, tbC_len]) hl, zeroT33_eq]
  refine congrArg some (congrArg List.toArray ?_)
  apply List.ext_getElem?
  intro k
  by_cases hk : k < 196
  · rw [tbC_get _ _ hk]
    by_cases h1 : k < 128
    · rw [List.getElem?_append_left (by omega)]
      unfold twoC
      by_cases h64 : k < 64
      · rw [List.getElem?_append_left (by rw [cellsI_len, hs 0 (by omega)]; exact h64), cellsI_get _ _ (by rw [hs 0 (by omega)]; exact h64)]
        have := tbAt_t (T := ⟨s, tb0.B, tb0.V⟩) (X := nilX) (i := 0) (k := k) (by omega) h64
        rw [Nat.mul_zero, Nat.zero_add] at this
        rw [this]
      · rw [List.getElem?_append_right (by rw [cellsI_len, hs 0 (by omega)]; omega), cellsI_len, hs 0 (by omega), cellsI_get _ _ (by rw [hs 1 (by omega)]; omega)]
        have := tbAt_t (T := ⟨s, tb0.B, tb0.V⟩) (X := nilX) (i := 1) (k := k - 64) (by omega) (by omega)
        rw [show 64 * 1 + (k - 64) = k by omega] at this
        rw [this]
    · rw [List.getElem?_append_right (by omega), hl, List.getElem?_drop, show 128 + (k - 128) = k by omega, show (tbC tb0 nilX).toArray.toList = tbC tb0 nilX from rfl, tbC_get _ _ hk]
      unfold tbAt
      rw [if_neg h1, if_neg h1]
  · rw [List.getElem?_eq_none (by rw [List.length_append, hl, List.length_drop]; show _ ≤ _; rw [show (tbC tb0 nilX).toArray.toList = tbC tb0 nilX from rfl, tbC_len]; omega), List.getElem?_eq_none (by rw [tbC_len]; omega)]
/-- a row of the tables that suits counts -/
def RowU (w : World) (T : Tbs) (X : Nat → Value) (C : List Int) (j : Nat) : Prop := ∃ A n c, X j = .slice A n c ∧ Il w A n c (T.V j) ∧ Suits C (T.B j) (T.V j) ∧ (T.V j).length ≤ 256
theorem RowU.kept {S : Nat → Prop} {w w' : World} {T : Tbs} {X : Nat → Value} {C : List Int} {j g : Nat} {cs : Array Value} (h : RowU w T X C j) (k : Kept S w w') (hb : Box w g 33 cs) (hS : ∀ i, S i → i = g) : RowU w' T X C j := by
  obtain ⟨A, n, c, h1, h2, h3, h4⟩ := h
  refine ⟨A, n, c, h1, h2.kept k (fun b off e h => ?_), h3, h4⟩
  obtain ⟨cs', fr, hh⟩ := h2.typ b off e
  rw [hS b h, show w.heap[g]? = some (.cells _ 33 (0, 0)) from hb] at hh
  cases hh
theorem RowU.on {w w' : World} {T : Tbs} {X : Nat → Value} {C : List Int} {j : Nat} (h : RowU w T X C j) (k : Below w.heap.size w w') : RowU w' T X C j := by
  obtain ⟨A, n, c, h1, h2, h3, h4⟩ := h
  exact ⟨A, n, c, h1, h2.on k, h3, h4⟩
theorem RowU.other {w : World} {T : Tbs} {X : Nat → Value} {C : List Int} {j i : Nat} {B V : List Int} {v : Value} (h : RowU w T X C j) (hne : j ≠ i) : RowU w ⟨T.t, upf T.B i B, upf T.V i V⟩ (upf X i v) C j := by
  obtain ⟨A, n, c, h1, h2, h3, h4⟩ := h
  refine ⟨A, n, c, ?_, ?_, ?_, ?_⟩
  · rw [upf_ne _ _ hne]; exact h1
  · show Il w A n c (upf T.V i V j)
    rw [upf_ne _ _ hne]; exact h2
  · show Suits C (upf T.B i B j) (upf T.V i V j)
    rw [upf_ne _ _ hne, upf_ne _ _ hne]; exact h3
  · show (upf T.V i V j).length ≤ 256
    rw [upf_ne _ _ hne]; exact h4
theorem RowU.this {w : World} {T : Tbs} {X : Nat → Value} {C : List Int} {i : Nat} {B V : List Int} {A : Option Addr} {n c : Nat} (hi : Il w A n c V) (hs : Suits C B V) (hl : n ≤ 256) : RowU w ⟨T.t, upf T.B i B, upf T.V i V⟩ (upf X i (.slice A n c)) C i := by
  refine ⟨A, n, c, upf_same _ _ _, ?_, ?_, ?_⟩
  · show Il w A n c (upf T.V i V i)
    rw [upf_same]; exact hi
  · show Suits C (upf T.B i B i) (upf T.V i V i)
    rw [upf_same, upf_same]; exact hs
  · show (upf T.V i V i).length ≤ 256
    rw [upf_same, hi.len]; exact hl
end Go.Proofs.YtdnjnbfmmgkpjaaDoor
