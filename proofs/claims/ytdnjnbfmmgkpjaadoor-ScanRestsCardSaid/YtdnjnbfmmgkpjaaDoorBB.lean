/-
  Tune as the law uses it; two tables in an array.
-/
import Derived.Test.YtdnjnbfmmgkpjaaDoorBA
import Derived.Test.YtdnjnbfmmgkpjaaDoorQS
namespace Go.Proofs.YtdnjnbfmmgkpjaaDoor
open Go.RowKit

/-- the tables that Tune tells, and its error -/
def TuneR (w : World) (W H K R : Int) (tl : List (List (List Int))) (C : Array Value) (E : Int) : Prop := (¬ RightT W H K R tl → E = 1) ∧ (RightT W H K R tl → E = 0 ∧ ∃ (T : Tbs) (X : Nat → Value), C = (tbC T X).toArray ∧ Wt T ∧ (∀ j, ∃ A n c, X j = .slice A n c) ∧ (∀ j, j < 4 → ∃ A n c, X j = .slice A n c ∧ Il w A n c (T.V j) ∧ (T.V j).length ≤ 256) ∧ OkT K T ∧ putE14 W H K R T tl = 0)
theorem TuneR.kept {S : Nat → Prop} {w w' : World} {W H K R : Int} {tl : List (List (List Int))} {C : Array Value} {E : Int} {g : Nat} {cs : Array Value} (h : TuneR w W H K R tl C E) (k : Kept S w w') (hb : Box w g 33 cs) (hS : ∀ i, S i → i = g) : TuneR w' W H K R tl C E := by
  refine ⟨h.1, fun hR => ?_⟩
  obtain ⟨e, T, X, h1, h2, h3, h4, h5⟩ := h.2 hR
  refine ⟨e, T, X, h1, h2, h3, fun j hj => ?_, h5⟩
  obtain ⟨A, n, c, a1, a2, a3⟩ := h4 j hj
  refine ⟨A, n, c, a1, a2.kept k (fun b off e h => ?_), a3⟩
  obtain ⟨cs', fr, hh⟩ := a2.typ b off e
  rw [hS b h, show w.heap[g]? = some (.cells _ 33 (0, 0)) from hb] at hh
  cases hh
theorem TuneR.on {w w' : World} {W H K R : Int} {tl : List (List (List Int))} {C : Array Value} {E : Int} (h : TuneR w W H K R tl C E) (k : Below w.heap.size w w') : TuneR w' W H K R tl C E := by
  refine ⟨h.1, fun hR => ?_⟩
  obtain ⟨e, T, X, h1, h2, h3, h4, h5⟩ := h.2 hR
  refine ⟨e, T, X, h1, h2, h3, fun j hj => ?_, h5⟩
  obtain ⟨A, n, c, a1, a2, a3⟩ := h4 j hj
  exact ⟨A, n, c, a1, a2.on k, a3⟩
theorem TuneR.know {w : World} {W H K R : Int} {tl : List (List (List Int))} {C : Array Value} {E : Int} (h : TuneR w W H K R tl C E) (hR : RightT W H K R tl) : ∃ (T : Tbs) (X : Nat → Value), C = (tbC T X).toArray ∧ TbK w T X ∧ OkT K T ∧ putE14 W H K R T tl = 0 := by
  obtain ⟨e, T, X, h1, h2, h3, h4, h5⟩ := h.2 hR
  refine ⟨T, X, h1, ⟨fun j hj => ?_, h2, fun j => ?_, fun j hj => ?_⟩, h5⟩
  · obtain ⟨A, n, c, a1, a2, _⟩ := h4 j hj
    exact ⟨A, n, c, a1, a2.ia⟩
  · obtain ⟨A, n, c, e⟩ := h3 j
    rw [e]
    rfl
  · obtain ⟨A, n, c, _, _, a3⟩ := h4 j hj
    omega
theorem tune_one (w : World) (W H K R : Int) (tl : List (List (List Int))) (A : Option Addr) (n c : Nat) (L : List (Option Addr × Nat × Nat)) (bl ol cl : Nat) (s : Nat → List Int) (V : Array Value) (hV : V = (twoC s).toArray) (hT : Tab w) (ht : Ti w A n L tl) (hs : RightS W H K R → W ≤ 40 ∧ H ≤ 40) (hbl : bl < w.heap.size) (hc : w.cell? ⟨bl, ol, none⟩ = some (.slice A n c)) (hst : ∀ i, i < 2 → (s i).length = 64) :
    Calls Tryd.prog 14 #[scanV W H K R, .slice (some ⟨bl, ol, none⟩) 1 cl, .agg V] w fun e w' => Below w.heap.size w w' ∧ ∃ C E, e = .returned (.tuple #[.agg C, .int .i64 E]) ∧ C.size = 196 ∧ C.all (·.oneCell') = true ∧ TuneR w' W H K R tl C E := by
  subst hV
  refine (tune_any w W H K R tl A n c L bl ol cl s hT ht hs hbl hc hst).mono ?_
  rintro e w' h
  refine ⟨h.bel, ?_⟩
  by_cases hR : RightT W H K R tl
  · obtain ⟨T, X, e1, e2, e3, e4, e5⟩ := h.got hR
    have hsm := hs hR.1
    have htp := tuned_put (T := T) hR hsm.1 hsm.2 (fun j hj => (e5 j hj).choose_spec.choose_spec.choose_spec.2.2.1)
    refine ⟨(tbC T X).toArray, 0, e1, by rw [List.size_toArray, tbC_len], all_oneCell_toArray (tb_one (fun j => by
      obtain ⟨_, _, _, e⟩ := e4 j
      rw [e]
      rfl)), fun h => absurd hR h, fun _ => ⟨rfl, T, X, rfl, ⟨fun i hi => by rw [e2]; exact hst i hi, e3⟩, e4, fun j hj => ?_, htp⟩⟩
    obtain ⟨A', n', c', a1, a2, _, a4⟩ := e5 j hj
    exact ⟨A', n', c', a1, a2, a4⟩
  · exact ⟨(tbC tb0 nilX).toArray, 1, h.bad hR, by rw [List.size_toArray, tbC_len], all_oneCell_toArray (tb_one (fun j => rfl)), fun _ => rfl, fun h => absurd h hR⟩
noncomputable def zero51 : Array Value := (((Tryd.prog.info? 51).bind (·.zero)).getD (.pointer none)).cells
theorem zero51_size : zero51.size = 392 := by kernel_rfl
theorem fold_size (off : Nat) : ∀ (l : List Value) (s : Nat) (cs : Array Value), ((l.zipIdx s).foldl (fun (cs : Array Value) (p : Value × Nat) => cs.setIfInBounds (off + p.2) p.1) cs).size = cs.size
  | [], _, _ => rfl
  | a :: l, s, cs => by rw [List.zipIdx_cons, List.foldl_cons, fold_size off l]; simp
theorem fill51 {cells : Array Value} {a b : List Value} (hc : cells.size = 392) (ha : a.length = 196) (hb : b.length = 196) :
    Instr.fill (fun i => (#[(0, 196), (196, 196)] : Array (Nat × Nat))[i]?) cells [(0, .agg a.toArray), (1, .agg b.toArray)] = some (a ++ b).toArray := by
  have e1 : (Value.agg a.toArray).cells = a.toArray := rfl
  have e2 : (Value.agg b.toArray).cells = b.toArray := rfl
  have hs0 := fold_size 0 a 0 cells
  simp only [Nat.zero_add] at hs0
  simp only [Instr.fill, e1, e2]
  simp [ha, hb, hc, hs0]
  apply Array.ext_getElem?
  intro k
  have hf := fold_set 196 b 0 (a.zipIdx.foldl (fun (cs : Array Value) (p : Value × Nat) => cs.setIfInBounds p.2 p.1) cells) (by rw [hs0, hc, hb]; omega) k
  have hg := fold_set 0 a 0 cells (by simp [hc, ha]) k
  simp only [Nat.zero_add, Nat.add_zero] at hf hg
  have e3 : (a ++ b).toArray[k]? = (a ++ b)[k]? := by simp
  rw [hf, hg, e3]
  by_cases h1 : k < 196
  · rw [if_neg (by omega), if_pos ⟨by omega, by omega⟩, List.getElem?_append_left (by omega)]
    simp
  · by_cases h2 : k < 392
    · rw [if_pos ⟨by omega, by omega⟩, List.getElem?_append_right (by omega), ha]
      simp
    · rw [if_neg (by omega), if_neg (by omega), Array.getElem?_eq_none (by omega), List.getElem?_eq_none (by rw [List.length_append]; omega)]
theorem build51 (w : World) {a b : List Value} (ha : a.length = 196) (hb : b.length = 196) : (Instr.build 51 #[(0, .agg a.toArray), (1, .agg b.toArray)]).run Tryd.prog w = .ok (.agg (a ++ b).toArray) w := by
  refine run_build w 51 _ _ ?_
  have e : Tryd.prog.built 51 [(0, .agg a.toArray), (1, .agg b.toArray)] = Instr.fill (fun i => (#[(0, 196), (196, 196)] : Array (Nat × Nat))[i]?) zero51 [(0, .agg a.toArray), (1, .agg b.toArray)] := by kernel_rfl
  show Tryd.prog.built 51 [(0, .agg a.toArray), (1, .agg b.toArray)] = _
  rw [e, fill51 zero51_size ha hb]
theorem index51_0 (w : World) (cs : Array Value) : (Instr.index 51 (.agg cs) (.int .i64 0)).run Tryd.prog w = .ok (.agg (cs.extract 0 196)) w := by kernel_rfl
theorem index51_1 (w : World) (cs : Array Value) : (Instr.index 51 (.agg cs) (.int .i64 1)).run Tryd.prog w = .ok (.agg (cs.extract 196 392)) w := by kernel_rfl
theorem ext51_0 {a b : Array Value} (ha : a.size = 196) : (a.toList ++ b.toList).toArray.extract 0 196 = a := by
  apply Array.toList_inj.1
  rw [Array.toList_extract, List.extract_eq_take_drop]
  show ((a.toList ++ b.toList).drop 0).take (196 - 0) = a.toList
  rw [List.drop_zero, List.take_left' (by rw [Array.length_toList]; exact ha)]
theorem ext51_1 {a b : Array Value} (ha : a.size = 196) (hb : b.size = 196) : (a.toList ++ b.toList).toArray.extract 196 392 = b := by
  apply Array.toList_inj.1
  rw [Array.toList_extract, List.extract_eq_take_drop]
  show ((a.toList ++ b.toList).drop 196).take (392 - 196) = b.toList
  rw [List.drop_left' (by rw [Array.length_toList]; exact ha), List.take_of_length_le (by rw [Array.length_toList]; omega)]
theorem index51 (w : World) {a b : Array Value} (ha : a.size = 196) (hb : b.size = 196) {k : Nat} (hk : k < 2) : (Instr.index 51 (.agg (a.toList ++ b.toList).toArray) (.int .i64 (k : Int))).run Tryd.prog w = .ok (.agg (if k = 0 then a else b)) w := by
  rcases (show k = 0 ∨ k = 1 by omega) with rfl | rfl
  · have e := index51_0 w (a.toList ++ b.toList).toArray
    rw [ext51_0 ha] at e
    exact e
  · have e := index51_1 w (a.toList ++ b.toList).toArray
    rw [ext51_1 ha hb] at e
    exact e
end Go.Proofs.YtdnjnbfmmgkpjaaDoor
