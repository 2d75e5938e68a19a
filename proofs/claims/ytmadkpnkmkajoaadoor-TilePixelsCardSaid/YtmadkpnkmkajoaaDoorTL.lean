/-
  TileWords: the walk.
-/
import Derived.Test.YtmadkpnkmkajoaaDoorTK
namespace Go.Proofs.YtmadkpnkmkajoaaDoor
open Go.RowKit
set_option maxRecDepth 20000

theorem blk_equal_d (w : World) {B : List Int} (hB : B.length = 64) (d : Nat) : (Op.equalIn (d + 2) 29 (blkV B) (blkV B)).run Tryd.prog w = .ok true w := by
  obtain ⟨i, hi⟩ : ∃ i, Tryd.prog.info? 3 = some i := by
    obtain ⟨i, h, _⟩ := Option.map_eq_some_iff.1 int_size
    exact ⟨i, h⟩
  have h1 : Tryd.prog.cellsOf 3 = 1 := by kernel_rfl
  unfold blkV
  rw [run_equalIn_array (P := Tryd.prog) w (d + 1) _ _ Tryd.underlying29 hi, h1]
  exact items51 w hB d (List.range 64) (fun i hi => List.mem_range.1 hi)
/-- two pairs of blocks of the same numbers are equal -/
theorem part30 (w : World) (f : List Int) (i : Nat) : (part 29 (cellsI f).toArray (i * 64)).run Tryd.prog w = .ok (blkV ((f.drop (64 * i)).take 64)) w := by
  have h1 : (isAgg 29).run Tryd.prog w = .ok true w := by kernel_rfl
  have h2 : (sizeOf 29).run Tryd.prog w = .ok 64 w := by kernel_rfl
  unfold part
  simp only [Sem.run_bind, h1, h2, Result.andThen_ok, if_true]
  rw [List.extract_toArray]
  unfold blkV cellsI
  rw [List.map_take, List.map_drop, List.extract_eq_take_drop, show i * 64 + 64 - i * 64 = 64 by omega, Nat.mul_comm]
  rfl
theorem items30 (w : World) {f : List Int} (n : Nat) (he : ∀ i, i < 2 → (Op.equalIn n 29 (blkV ((f.drop (64 * i)).take 64)) (blkV ((f.drop (64 * i)).take 64))).run Tryd.prog w = .ok true w) : ∀ is : List Nat, (∀ i ∈ is, i < 2) → (Op.eqItems n 29 64 (cellsI f).toArray (cellsI f).toArray is).run Tryd.prog w = .ok true w
  | [], _ => by simp [Op.eqItems]
  | i :: is, h => by
    have hp := part30 w f i
    have he1 := he i (h i (by simp))
    have ih := items30 w n he is (fun j hj => h j (by simp [hj]))
    obtain ⟨b, hb⟩ : ∃ b, b = blkV ((f.drop (64 * i)).take 64) := ⟨_, rfl⟩
    obtain ⟨cs, hcs⟩ : ∃ cs, cs = (cellsI f).toArray := ⟨_, rfl⟩
    rw [← hb] at hp he1
    rw [← hcs] at hp ih ⊢
    simp only [Op.eqItems, Sem.run_bind, hp, he1, Result.andThen_ok]
    simp
    exact ih
theorem two_equal (w : World) {f : List Int} (hf : f.length = 128) : (Op.equalIn 10000 30 (blkV f) (blkV f)).run Tryd.prog w = .ok true w := by
  obtain ⟨i, hi⟩ : ∃ i, Tryd.prog.info? 29 = some i := by
    obtain ⟨i, h, _⟩ := Option.map_eq_some_iff.1 arr26_size
    exact ⟨i, h⟩
  have h1 : Tryd.prog.cellsOf 29 = 64 := by kernel_rfl
  rw [show (10000 : Nat) = 9999 + 1 from rfl]
  unfold blkV
  rw [run_equalIn_array (P := Tryd.prog) w 9999 _ _ Tryd.underlying30 hi, h1]
  exact items30 w 9999 (fun i hi => blk_equal_d w (by simp [hf]; omega) 9997) (List.range 2) (fun i hi => List.mem_range.1 hi)
theorem yieldsIf_eql30 {ops : Array Oper} {S : World → Prop} {op : Oper} {a : Act} (hw : Region.wanted op (yielded ops a.tmps) = true) (x y : Operand) (ho : op.op = .binOp .eql 30 x y 30)
    (f : List Int) (hf : f.length = 128) (hx : a.eval x = blkV f) (hy : a.eval y = blkV f) : YieldsIf Tryd.prog ops S op (.bool true) a :=
  .inl ⟨hw, fun w _ => by
    have hg : Tryd.prog.eqGuardType Tryd.prog.depth 30 = false := by kernel_rfl
    unfold execOp
    unfold blkV at hx hy
    have he := two_equal w hf
    unfold blkV at he
    simp only [ho, hx, hy, Sem.run_bind, run_eqGuard_agg w .eql 30 x y _ _ hg, run_eql_struct, he, Result.andThen_ok]
    rfl⟩
/-- the tile of noughts of any geometry -/
def noneT (W H T K Q : Int) : List (List (List Int)) := if RightG W H T K Q then zeroG T T K else []
def NoneY (w : World) (W H T K Q : Int) (e : Ending) (w' : World) : Prop := ∃ A n c L, e = .returned (tileV A n c) ∧ Ti w' A n L (noneT W H T K Q) ∧ n = (noneT W H T K Q).length ∧ Below w.heap.size w w'
theorem ti_empty (w : World) : Ti w none 0 [] [] := ⟨⟨rfl, fun h => absurd h (by omega)⟩, rfl, fun p x t hx ht => by simp at hx⟩
theorem none_max {T K : Int} {W H Q : Int} (hG : RightG W H T K Q) (p : Nat) : nB T T K p ≤ maxLen := by
  have hR : RightS T T K 0 := by
    obtain ⟨_, _, h3, h4, _⟩ := hG
    unfold RightS
    omega
  exact Nat.le_trans (nB_le hR p) (by unfold maxLen; omega)
theorem none_any (w : World) (W H T K Q : Int) (B : Bool) : Calls Tryd.prog 15 #[geoV W H T K Q B] w (NoneY w W H T K Q) := by
  by_cases hG : RightG W H T K Q
  · refine (none_good w W H T K Q B hG).mono ?_
    rintro e w' ⟨A, c, bd, rfl, hM, k⟩
    unfold NoneY
    rw [show noneT W H T K Q = zeroG T T K from if_pos hG]
    exact ⟨A, nP K, c, _, rfl, hM.ti (fun p _ => none_max hG p), (zeroG_len T T K).1.symm, k⟩
  · refine (none_bad w W H T K Q B hG).mono ?_
    rintro e w' ⟨rfl, k⟩
    unfold NoneY
    rw [show noneT W H T K Q = [] from if_neg hG]
    exact ⟨none, 0, 0, [], rfl, ti_empty _, rfl, k⟩
theorem refNone_any (w : World) (W H T K Q : Int) (B : Bool) : Calls Tryd.prog 16 #[geoV W H T K Q B] w (NoneY w W H T K Q) := by
  by_cases hG : RightG W H T K Q
  · refine (refNone_good w W H T K Q B hG).mono ?_
    rintro e w' ⟨A, c, bd, rfl, hM, k⟩
    unfold NoneY
    rw [show noneT W H T K Q = zeroG T T K from if_pos hG]
    exact ⟨A, nP K, c, _, rfl, hM.ti (fun p _ => none_max hG p), (zeroG_len T T K).1.symm, k⟩
  · refine (refNone_bad w W H T K Q B hG).mono ?_
    rintro e w' ⟨rfl, k⟩
    unfold NoneY
    rw [show noneT W H T K Q = [] from if_neg hG]
    exact ⟨none, 0, 0, [], rfl, ti_empty _, rfl, k⟩
theorem noneT_len (W H T K Q : Int) : (noneT W H T K Q).length ≤ 4 ∧ ∀ t ∈ noneT W H T K Q, t.length ≤ 100 := by
  unfold noneT
  split
  · next hG =>
    have h1 := nP_le K
    have h2 := zeroG_len T T K
    refine ⟨by omega, fun t ht => ?_⟩
    obtain ⟨p, hp, rfl⟩ := List.mem_map.1 ht
    have hp' := List.mem_range.1 hp
    obtain ⟨h3, h4⟩ : (T = 16 ∨ T = 32) ∧ (0 ≤ K ∧ K ≤ 3) := ⟨hG.2.2.1, hG.2.2.2.1⟩
    rw [List.length_replicate]
    rcases h3 with rfl | rfl
    · have h5 := part_wide (T := 16) (.inl rfl) h4.1 h4.2 hp'
      have a := side_small (T := 16) (.inl rfl) (aH K p)
      have a2 : sideN 16 (aH K p) ≤ 16 := by unfold sideN; split <;> omega
      have b2 : sideN 16 (dH K p) ≤ 16 := by unfold sideN; split <;> omega
      rw [show ((16 : Nat) : Int) = 16 from rfl] at h5
      rw [h5.1, h5.2]
      have : nb (sideN 16 (aH K p)) * nb (sideN 16 (dH K p)) ≤ 4 * 4 := Nat.mul_le_mul (by unfold nb; omega) (by unfold nb; omega)
      omega
    · have h5 := part_wide (T := 32) (.inr rfl) h4.1 h4.2 hp'
      have a2 : sideN 32 (aH K p) ≤ 32 := by unfold sideN; split <;> omega
      have b2 : sideN 32 (dH K p) ≤ 32 := by unfold sideN; split <;> omega
      rw [show ((32 : Nat) : Int) = 32 from rfl] at h5
      rw [h5.1, h5.2]
      have : nb (sideN 32 (aH K p)) * nb (sideN 32 (dH K p)) ≤ 4 * 4 := Nat.mul_le_mul (by unfold nb; omega) (by unfold nb; omega)
      omega
  · exact ⟨by simp, fun t ht => by simp at ht⟩

end Go.Proofs.YtmadkpnkmkajoaaDoor
