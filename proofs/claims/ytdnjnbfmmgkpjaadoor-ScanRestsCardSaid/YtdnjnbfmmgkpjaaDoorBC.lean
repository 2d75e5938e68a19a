/-
  Tune as the law on restarts uses it.
-/
import Derived.Test.YtdnjnbfmmgkpjaaDoorBB
import Derived.Test.YtdnjnbfmmgkpjaaDoorRC
namespace Go.Proofs.YtdnjnbfmmgkpjaaDoor
open Go.RowKit

/-- the tables that Tune tells, whatever the tile, and its error -/
def TuneS (w : World) (W H K R : Int) (tl : List (List (List Int))) (C : Array Value) (E : Int) : Prop := ∃ (T : Tbs) (X : Nat → Value), C = (tbC T X).toArray ∧ Wt T ∧ (∀ j, ∃ A n c, X j = .slice A n c) ∧ (∀ j, j < 4 → ∃ A n c, X j = .slice A n c ∧ Il w A n c (T.V j) ∧ (T.V j).length ≤ 256) ∧ (¬ RightT W H K R tl → E = 1) ∧ (RightT W H K R tl → E = 0 ∧ OkT K T ∧ putE14 W H K R T tl = 0)
theorem TuneS.kept {S : Nat → Prop} {w w' : World} {W H K R : Int} {tl : List (List (List Int))} {C : Array Value} {E : Int} {g : Nat} {cs : Array Value} (h : TuneS w W H K R tl C E) (k : Kept S w w') (hb : Box w g 33 cs) (hS : ∀ i, S i → i = g) : TuneS w' W H K R tl C E := by
  obtain ⟨T, X, h1, h2, h3, h4, h5⟩ := h
  refine ⟨T, X, h1, h2, h3, fun j hj => ?_, h5⟩
  obtain ⟨A, n, c, a1, a2, a3⟩ := h4 j hj
  refine ⟨A, n, c, a1, a2.kept k (fun b off e h => ?_), a3⟩
  obtain ⟨cs', fr, hh⟩ := a2.typ b off e
  rw [hS b h, show w.heap[g]? = some (.cells _ 33 (0, 0)) from hb] at hh
  cases hh
theorem TuneS.on {w w' : World} {W H K R : Int} {tl : List (List (List Int))} {C : Array Value} {E : Int} (h : TuneS w W H K R tl C E) (k : Below w.heap.size w w') : TuneS w' W H K R tl C E := by
  obtain ⟨T, X, h1, h2, h3, h4, h5⟩ := h
  refine ⟨T, X, h1, h2, h3, fun j hj => ?_, h5⟩
  obtain ⟨A, n, c, a1, a2, a3⟩ := h4 j hj
  exact ⟨A, n, c, a1, a2.on k, a3⟩
theorem TuneS.know {w : World} {W H K R : Int} {tl : List (List (List Int))} {C : Array Value} {E : Int} (h : TuneS w W H K R tl C E) : ∃ (T : Tbs) (X : Nat → Value), C = (tbC T X).toArray ∧ TbK w T X ∧ (¬ RightT W H K R tl → E = 1) ∧ (RightT W H K R tl → E = 0 ∧ OkT K T ∧ putE14 W H K R T tl = 0) := by
  obtain ⟨T, X, h1, h2, h3, h4, h5⟩ := h
  refine ⟨T, X, h1, ⟨fun j hj => ?_, h2, fun j => ?_, fun j hj => ?_⟩, h5⟩
  · obtain ⟨A, n, c, a1, a2, _⟩ := h4 j hj
    exact ⟨A, n, c, a1, a2.ia⟩
  · obtain ⟨A, n, c, e⟩ := h3 j
    rw [e]
    rfl
  · obtain ⟨A, n, c, _, _, a3⟩ := h4 j hj
    omega
theorem tune_two (w : World) (W H K R : Int) (tl : List (List (List Int))) (A : Option Addr) (n c : Nat) (L : List (Option Addr × Nat × Nat)) (bl ol cl : Nat) (s : Nat → List Int) (V : Array Value) (hV : V = (twoC s).toArray) (hT : Tab w) (ht : Ti w A n L tl) (hs : RightS W H K R → W ≤ 40 ∧ H ≤ 40) (hbl : bl < w.heap.size) (hc : w.cell? ⟨bl, ol, none⟩ = some (.slice A n c)) (hst : ∀ i, i < 2 → (s i).length = 64) :
    Calls Tryd.prog 14 #[scanV W H K R, .slice (some ⟨bl, ol, none⟩) 1 cl, .agg V] w fun e w' => Below w.heap.size w w' ∧ ∃ C E, e = .returned (.tuple #[.agg C, .int .i64 E]) ∧ C.size = 196 ∧ C.all (·.oneCell') = true ∧ TuneS w' W H K R tl C E := by
  subst hV
  refine (tune_any w W H K R tl A n c L bl ol cl s hT ht hs hbl hc hst).mono ?_
  rintro e w' h
  refine ⟨h.bel, ?_⟩
  by_cases hR : RightT W H K R tl
  · obtain ⟨T, X, e1, e2, e3, e4, e5⟩ := h.got hR
    have hsm := hs hR.1
    have htp := tuned_put (T := T) hR hsm.1 hsm.2 (fun j hj => (e5 j hj).choose_spec.choose_spec.choose_spec.2.2.1)
    refine ⟨(tbC T X).toArray, 0, e1, by rw [List.size_toArray, tbC_len], all_oneCell_toArray (tb_one (fun j => by
      obtain ⟨_, _, _, e⟩ := e4 j
      rw [e]
      rfl)), T, X, rfl, ⟨fun i hi => by rw [e2]; exact hst i hi, e3⟩, e4, fun j hj => ?_, fun h => absurd hR h, fun _ => ⟨rfl, htp⟩⟩
    obtain ⟨A', n', c', a1, a2, _, a4⟩ := e5 j hj
    exact ⟨A', n', c', a1, a2, a4⟩
  · exact ⟨(tbC tb0 nilX).toArray, 1, h.bad hR, by rw [List.size_toArray, tbC_len], all_oneCell_toArray (tb_one (fun j => rfl)), tb0, nilX, rfl, ⟨fun i _ => by simp [tb0], fun j _ => by simp [tb0]⟩, fun j => ⟨_, _, _, rfl⟩, fun j _ => ⟨none, 0, 0, rfl, Il.none w', by simp [tb0]⟩, fun _ => rfl, fun h => absurd h hR⟩
theorem putR_bad {W H K R : Int} {T : Tbs} {tl : List (List (List Int))} (h : ¬ RightT W H K R tl) : (putR W H K R T tl).2 = 1 := by
  unfold putR
  rw [if_neg h]
/-- a build that is wanted, at a region's list -/
theorem wpList_build_when {ops : Array Oper} {rest : List Oper} {op : Oper} {a : Act} {w : World} {Q : Exit → Act → World → Prop} (hw : Region.wanted op (yielded ops a.tmps) = true) (t : TypeId) (parts : Array (Nat × Operand)) (ho : op.op = .build t parts)
    (v : Value) (ps : Array (Nat × Value)) (hps : (parts.map fun (i, x) => (i, a.eval x)) = ps) (h : (Instr.build t ps).run Tryd.prog w = .ok v w)
    (hK : wpList Tryd.prog ops Q rest (a.put op.dst v) w) : wpList Tryd.prog ops Q (op :: rest) a w :=
  wpList_step fun _ hQ => by
    rw [if_pos hw]
    unfold Oper.wp execOp
    simp only [ho, hps, Sem.run_bind, h, Result.andThen_ok]
    exact hQ _ _ hK
/-- no steps -/
theorem build26 (w : World) : (Instr.build 26 #[]).run Tryd.prog w = .ok (.agg (twoC fun _ => List.replicate 64 0).toArray) w := run_build w 26 _ _ (by kernel_rfl)
end Go.Proofs.YtdnjnbfmmgkpjaaDoor
