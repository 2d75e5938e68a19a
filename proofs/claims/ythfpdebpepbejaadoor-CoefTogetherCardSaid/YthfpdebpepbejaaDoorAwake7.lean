/-
  The contract of the laws' own awake.
-/
import Derived.Test.YthfpdebpepbejaaDoorTally
import Derived.Test.YthfpdebpepbejaaDoorOrder
namespace Go.Proofs.YthfpdebpepbejaaDoor
open Go.RowKit

theorem zeros_at (k : Nat) : (List.replicate 64 (0 : Int)).getD k 0 = 0 := by
  rw [List.getD_eq_getElem?_getD]
  by_cases h : k < 64
  · rw [List.getElem?_replicate_of_lt h]; rfl
  · rw [List.getElem?_eq_none (by simp; omega)]; rfl
theorem zeros_right : RightB (List.replicate 64 0) := fun j _ => by rw [zeros_at]; decide
theorem symsF_zeros : ∀ (n i run : Nat), 0 < n + run → symsF (List.replicate 64 0) n i run = [(1, 0, 0)]
  | 0, i, run, h => by rw [symsF_nil, if_pos (by omega)]
  | n + 1, i, run, h => by
    rw [symsF_zero (zeros_at _)]
    exact symsF_zeros n (i + 1) (run + 1) (by omega)
theorem allS_zeros : allS 0 (List.replicate 64 0) = [(0, 0, 0), (1, 0, 0)] := by
  unfold allS
  rw [symsF_zeros _ _ _ (by omega), zeros_at, Int.sub_self, sz_zero]
theorem zeros256_at (k : Nat) : (List.replicate 256 (0 : Int)).getD k 0 = 0 := by
  rw [List.getD_eq_getElem?_getD]
  by_cases h : k < 256
  · rw [List.getElem?_replicate_of_lt h]; rfl
  · rw [List.getElem?_eq_none (by rw [List.length_replicate]; omega)]; rfl
theorem cnt_zero (t : Nat) (ht : t = 0 ∨ t = 1) : (cntL (List.replicate 256 0) t (allS 0 (List.replicate 64 0))).getD 0 0 = 1 := by
  rw [cntL_at _ _ _ (by omega), allS_zeros, zeros256_at]
  rcases ht with rfl | rfl
  · show wrap64 (0 + ((1 : Nat) : Int)) = 1
    unfold wrap64
    omega
  · show wrap64 (0 + ((1 : Nat) : Int)) = 1
    unfold wrap64
    omega

theorem sz_m5 : sz (-5) = 3 := by
  show szN 5 = 3
  rw [szN_pos (by decide), szN_pos (by decide), szN_pos (by decide)]
  show szN 0 + 1 + 1 + 1 = 3
  rw [szN_zero]
theorem index_two (w : World) : (Instr.index 22 (blkV zz) (.int .i64 2)).run Tryd.prog w = .ok (.int .i64 8) w := index22 w zz_len (k := 2) (by omega)
/-- what awake answers -/
def Woke (w : World) (e : Ending) (w' : World) : Prop := e = .returned (.bool true) ∧ Below w.heap.size w w'

set_option maxRecDepth 20000 in
set_option maxHeartbeats 1600000 in
theorem awake7_any (w : World) (hT : Tab w) : Calls Tryd.prog 16 #[] w (Woke w) := by
  have hmk := run_make_row' (P := Tryd.prog) 24 3 (.int .i64 0) 8 Tryd.underlying24 int_info rfl .i64 .i64 256 (by omega) (by omega)
  obtain ⟨Z, hZ⟩ : ∃ Z, Z = List.replicate 256 (0 : Int) := ⟨_, rfl⟩
  obtain ⟨M, hM⟩ : ∃ M, M = madeCells #[.int .i64 0] 256 := ⟨_, rfl⟩
  rw [← hM] at hmk
  have hM2 : M = (cellsI Z).toArray := by
    apply Array.toList_inj.1
    rw [hM, toList_madeCells_one, hZ]
    simp only [cellsI, List.map_replicate]
  have hmk : ∀ w, (Instr.makeSlice 24 (.int .i64 256) (.int .i64 256)).run Tryd.prog w = .ok (.slice (some ⟨w.heap.size, 0, none⟩) 256 256) (w.alloc (.cells M 3)) := fun w => hmk w
  have hZl : Z.length = 256 := by rw [hZ, List.length_replicate]
  have hZi : ∀ i, isInt (Z.getD i 0) := fun i => by rw [hZ, zeros256_at]; unfold isInt; omega
  have hI := (il_of_box (w := w.alloc (.cells (cellsI Z).toArray 3)) (Box.made w 3 (cellsI Z).toArray) hZl (by decide)).ia
  obtain ⟨b, hb⟩ : ∃ b, b = List.replicate 64 (0 : Int) := ⟨_, rfl⟩
  have hbl : b.length = 64 := by rw [hb, List.length_replicate]
  have hbr : RightB b := by rw [hb]; exact zeros_right
  rw [← hM2] at hI
  have hc : (cntL Z 0 (allS 0 b)).getD 0 0 = 1 ∧ (cntL Z 1 (allS 0 b)).getD 0 0 = 1 := by
    rw [hZ, hb]
    exact ⟨cnt_zero 0 (.inl rfl), cnt_zero 1 (.inr rfl)⟩
  have HC := Lib.hid hc
  have HBB := Lib.hid hb
  have hbd : ∀ w, (Instr.build 23 #[]).run Tryd.prog w = .ok (blkV b) w := fun w => by rw [hb]; exact build0 w
  have hbel := on_alloc w (.cells M 3)
  have HT := Lib.hid (hT.on hbel)
  have HF := Lib.hid (tally_done (w.alloc (.cells M 3)) (some ⟨w.heap.size, 0, none⟩) (some ⟨w.heap.size, 0, none⟩) 256 256 256 256 0 b Z Z HT.out rfl rfl hbl (by decide) hbr hI hI hZi hZi)
  have HB := Lib.hid (And.intro hbel hT)
  clear hM hZ hM2 hZl hZi hI hb hbl hbr hc hbel hT
  go_enter Tryd.func16, Tryd.ntmps16
  go_wp2_with fail
  show Calls Tryd.prog 17 #[.slice (some ⟨w.heap.size, 0, none⟩) 256 256, .slice (some ⟨w.heap.size, 0, none⟩) 256 256, .int .i64 0, blkV (List.replicate 64 0)] _ _
  rw [← HBB.out]
  refine HF.out.mono ?_
  rintro e w2 ⟨p, q, rfl, hp, hq, hpq, hlp, hlq, b2⟩
  have c0 := (hp.cell 0).trans (show (cellsI (cntL Z 0 (allS 0 b))).toArray[0]? = some (.int .i64 1) by rw [List.getElem?_toArray, cellsI_get _ _ (by rw [cntL_len]; omega), HC.out.1])
  have c1 := (hq.cell 0).trans (show (cellsI (cntL Z 1 (allS 0 b))).toArray[0]? = some (.int .i64 1) by rw [List.getElem?_toArray, cellsI_get _ _ (by rw [cntL_len]; omega), HC.out.2])
  have H2 := Lib.hid (And.intro (HB.out.2.on (on_trans HB.out.1 b2)) (on_trans HB.out.1 b2))
  clear hp hq hpq hlp hlq b2 hmk hbd
  go_wp2_with fail
  refine (size_any w2 (-5) (by unfold isInt; omega)).mono ?_
  rintro e w3 ⟨rfl, rfl⟩
  rw [sz_m5]
  have hidx := index_two
  obtain ⟨Y, hY⟩ : ∃ Y, Y = blkV zz := ⟨_, rfl⟩
  rw [← hY] at hidx
  have HO := Lib.hid (order_any w2 H2.out.1)
  have HY := Lib.hid hY
  clear hY
  go_wp2_with fail
  refine HO.out.mono ?_
  rintro e w3 ⟨rfl, b3⟩
  rw [← HY.out]
  have H3 := Lib.hid b3
  clear b3
  go_wp2_with fail
  go_ret
  exact ⟨rfl, on_trans H2.out.2 H3.out⟩
end Go.Proofs.YthfpdebpepbejaaDoor
