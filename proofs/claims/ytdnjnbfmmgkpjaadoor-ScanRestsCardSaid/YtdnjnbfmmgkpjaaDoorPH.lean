/-
  What Put tells, at once: an answer that the header, the tables' codes and the tile alone decide.
-/
import Derived.Test.YtdnjnbfmmgkpjaaDoorPG
import Derived.Test.YtdnjnbfmmgkpjaaDoorSX
import Derived.Test.YtdnjnbfmmgkpjaaDoorSZ
namespace Go.Proofs.YtdnjnbfmmgkpjaaDoor
open Go.RowKit

open Classical in
noncomputable def putR (W H K R : Int) (T : Tbs) (tl : List (List (List Int))) : List Int × Int :=
  if RightT W H K R tl then (if OkT K T then (if putE14 W H K R T tl = 0 then (putOut W H K R T tl, 0) else ([], putE14 W H K R T tl)) else ([], 4)) else ([], 1)
theorem sl_nil (w : World) (Kp : Nat → Prop) : Sl w Kp none 0 0 [] := ⟨⟨(fun z hz => by cases hz), fun h0 => absurd h0 (by simp)⟩, rfl, Nat.le_refl _, Nat.zero_le _, fun _ => rfl⟩
theorem scanPut_one (w : World) (W H K R : Int) (T : Tbs) (X : Nat → Value) (A : Option Addr) (n c : Nat) (L : List (Option Addr × Nat × Nat)) (tl : List (List (List Int)))
    (hT : Tab w) (hX : Xs w T X) (hW : Wt T) (h3 : ∀ j, j < 4 → (T.V j).length ≤ 300) (ht : Ti w A n L tl) (hs : RightS W H K R → W ≤ 40 ∧ H ≤ 40) :
    Calls Tryd.prog 11 #[scanV W H K R, tbV T X, tileV A n c] w fun e w' => Below w.heap.size w w' ∧ ∃ A' m c', e = .returned (.tuple #[.slice A' m c', .int .i64 (putR W H K R T tl).2]) ∧ Sl w' (fun b => w.heap.size ≤ b) A' m c' (putR W H K R T tl).1 := by
  refine (scanPut_any w W H K R T X A n c L tl hT hX hW h3 ht hs).mono ?_
  rintro e w' h
  refine ⟨h.bel, ?_⟩
  unfold putR
  by_cases h1 : RightT W H K R tl
  · rw [if_pos h1]
    by_cases h2 : OkT K T
    · rw [if_pos h2]
      by_cases h4 : putE14 W H K R T tl = 0
      · rw [if_pos h4]
        exact h.got h1 h2 h4
      · rw [if_neg h4]
        exact ⟨none, 0, 0, h.err h1 h2 h4, sl_nil _ _⟩
    · rw [if_neg h2]
      exact ⟨none, 0, 0, h.form h1 h2, sl_nil _ _⟩
  · rw [if_neg h1]
    exact ⟨none, 0, 0, h.bad h1, sl_nil _ _⟩
theorem putR_steps (W H K R : Int) (T : Tbs) (s : Nat → List Int) (tl : List (List (List Int))) : putR W H K R ⟨s, T.B, T.V⟩ tl = putR W H K R T tl := rfl
/-- two blocks of steps as a value -/
def twoC (s : Nat → List Int) : List Value := cellsI (s 0) ++ cellsI (s 1)
theorem kept_setCells (g : Nat) : ∀ (vs : List Value) (o : Nat) (w : World), Kept (fun i => i = g) w (w.setCells g o vs)
  | [], _, w => Kept.refl _ w
  | v :: r, o, w => ((Kept.refl (fun i => i = g) w).setCell (p := ⟨g, o, none⟩) (fun _ => rfl) v).trans (kept_setCells g r (o + 1) _) (fun _ _ h => h)
theorem Box.setCells {g : Nat} {t : TypeId} : ∀ (vs : List Value) (o : Nat) {w : World} {cs : Array Value}, Box w g t cs → ∃ cs', Box (w.setCells g o vs) g t cs' ∧ cs'.size = cs.size
  | [], _, _, cs, h => ⟨cs, h, rfl⟩
  | v :: r, o, w, cs, h => by
    obtain ⟨cs', h1, h2⟩ := Box.setCells r (o + 1) (h.put o v)
    exact ⟨cs', h1, by rw [h2]; simp⟩
theorem two_size : (Tryd.prog.info? 26).map (·.size) = some 128 := by kernel_rfl
/-- the steps of tables are stored -/
theorem wpList_store_steps {ops : Array Oper} {rest : List Oper} {op : Oper} {a : Act} {w : World} {Q : Exit → Act → World → Prop} (hgd : op.guard = none) (x y : Operand) (ho : op.op = .store 26 x y) (hd : op.dst = none)
    (g : Nat) (T : Tbs) (X : Nat → Value) (s : Nat → List Int) (V : Array Value) (hV : V = (twoC s).toArray) (hx : a.eval x = .pointer (some ⟨g, 0, none⟩)) (hy : a.eval y = .agg V) (hl : ∀ i, i < 2 → (s i).length = 64) (hg : Box w g 33 (tbC T X).toArray)
    (h : ∀ w', TbR w' g ⟨s, T.B, T.V⟩ X → Kept (fun i => i = g) w w' → wpList Tryd.prog ops Q rest a w') : wpList Tryd.prog ops Q (op :: rest) a w := by
  have hsz : (twoC s).length = 128 := by simp [twoC, cellsI_len, hl 0 (by omega), hl 1 (by omega)]
  have hVs : V.size = 128 := by rw [hV, List.size_toArray, hsz]
  have hth : w.there g 0 V.size := fun j hj => by
    refine ⟨?_, hg.free _⟩
    rw [hg.cell, Array.getElem?_eq_getElem (by rw [List.size_toArray, tbC_len]; omega)]
    rfl
  refine wpList_store_mid hgd 26 x y ho g 0 V hx hy hth (by rw [two_size, hVs]) ?_ ?_
  · rw [hV]
    refine all_oneCell_toArray (fun v hv => ?_)
    unfold twoC at hv
    rcases List.mem_append.1 hv with h | h
    · exact cellsI_one _ v h
    · exact cellsI_one _ v h
  · rw [hd]
    refine h _ (fun k u hu => ?_) (kept_setCells g _ 0 w)
    have hk := (List.getElem?_eq_some_iff.1 hu).1
    rw [tbC_len] at hk
    rw [tbC_get _ _ hk] at hu
    cases hu
    rw [Nat.zero_add]
    have hVl : V.toList = twoC s := by rw [hV]
    by_cases h1 : k < 128
    · have hr := World.rangeAt_setCells_same w g 0 V.toList (by simpa using hth) k (tbAt ⟨s, T.B, T.V⟩ X k) (by
        rw [hVl]
        unfold twoC
        by_cases h64 : k < 64
        · rw [List.getElem?_append_left (by rw [cellsI_len, hl 0 (by omega)]; exact h64), cellsI_get _ _ (by rw [hl 0 (by omega)]; exact h64)]
          have := tbAt_t (T := ⟨s, T.B, T.V⟩) (X := X) (i := 0) (k := k) (by omega) h64
          rw [Nat.mul_zero, Nat.zero_add] at this
          rw [this]
        · rw [List.getElem?_append_right (by rw [cellsI_len, hl 0 (by omega)]; omega), cellsI_len, hl 0 (by omega), cellsI_get _ _ (by rw [hl 1 (by omega)]; omega)]
          have := tbAt_t (T := ⟨s, T.B, T.V⟩) (X := X) (i := 1) (k := k - 64) (by omega) (by omega)
          rw [show 64 * 1 + (k - 64) = k by omega] at this
          rw [this])
      rwa [Nat.zero_add] at hr
    · have hr : (w.setCells g 0 V.toList).rangeAt g k [tbAt T X k] := World.rangeAt_setCells_apart (fun j v hv => by
        match j, hv with
        | 0, hv =>
          cases hv
          rw [Nat.add_zero, hg.cell, List.getElem?_toArray, tbC_get _ _ hk]) g 0 V.toList (.inr (.inr (by rw [hVl, hsz]; omega)))
      have := hr 0 (tbAt T X k) rfl
      rw [Nat.add_zero] at this
      rw [this]
      unfold tbAt
      rw [if_neg h1, if_neg h1]
end Go.Proofs.YtdnjnbfmmgkpjaaDoor
