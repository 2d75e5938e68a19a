/-
  The contract of the laws' own awake.
-/
import Derived.Test.YtjkmbiieagmjkaaDoorRefMerge
namespace Go.Proofs.YtjkmbiieagmjkaaDoor
open Go.RowKit

/-- a number, and noughts -/
def oneL (n : Int) : List Int := n :: List.replicate 63 0
theorem oneL_len (n : Int) : (oneL n).length = 64 := rfl
theorem oneL_at (n : Int) (j : Nat) : (oneL n).getD j 0 = if j = 0 then n else 0 := by
  unfold oneL
  cases j with
  | zero => rfl
  | succ j =>
    rw [if_neg (by omega), List.getD_cons_succ, List.getD_eq_getElem?_getD]
    by_cases h : j < 63
    · rw [List.getElem?_replicate_of_lt h]; rfl
    · rw [List.getElem?_eq_none (by simp; omega)]; rfl
/-- four blocks alike -/
def four4 (b : List Int) : List Int := b ++ (b ++ (b ++ b))
theorem four4_len {b : List Int} (h : b.length = 64) : (four4 b).length = 256 := by simp [four4, h]
theorem four4_at {b : List Int} (h : b.length = 64) {m j : Nat} (hm : m < 4) (hj : j < 64) : fo (four4 b) m j = b.getD j 0 := by
  unfold fo four4
  rw [List.getD_eq_getElem?_getD, List.getD_eq_getElem?_getD]
  congr 1
  have hc : m = 0 ∨ m = 1 ∨ m = 2 ∨ m = 3 := by omega
  rcases hc with rfl | rfl | rfl | rfl
  · rw [List.getElem?_append_left (by omega), show 64 * 0 + j = j by omega]
  · rw [List.getElem?_append_right (by omega), List.getElem?_append_left (by omega), show 64 * 1 + j - b.length = j by omega]
  · rw [List.getElem?_append_right (by omega), List.getElem?_append_right (by omega), List.getElem?_append_left (by omega), show 64 * 2 + j - b.length - b.length = j by omega]
  · rw [List.getElem?_append_right (by omega), List.getElem?_append_right (by omega), List.getElem?_append_right (by omega), show 64 * 3 + j - b.length - b.length - b.length = j by omega]
theorem build_one (w : World) (n : Int) : (Instr.build 23 #[(0, .int .i64 n)]).run Tryd.prog w = .ok (blkV (oneL n)) w := run_build w 23 _ _ (by kernel_rfl)
theorem build_four (w : World) (n : Int) : (Instr.build 24 #[(0, blkV (oneL n)), (1, blkV (oneL n)), (2, blkV (oneL n)), (3, blkV (oneL n))]).run Tryd.prog w = .ok (fourV (four4 (oneL n))) w := run_build w 24 _ _ (by kernel_rfl)
theorem merge_800 : mrgF (four4 (oneL 800)) = (oneL 800, 0) := by
  have h : mrgL (four4 (oneL 800)) = oneL 800 := list_eq (mrgL_len _) (oneL_len _) (by decide +kernel)
  rw [mrgF_in (by decide +kernel), h]
theorem part_110 : partF 1 1 0 = -2624 := by decide +kernel

set_option maxRecDepth 10000 in
set_option maxHeartbeats 3200000 in
theorem awake_any (w : World) (hT : Tab w) : Calls Tryd.prog 13 #[] w (Woke w) := by
  obtain ⟨Z, hZ⟩ : ∃ Z, Z = (cellsI zeros64).toArray := ⟨_, rfl⟩
  have hz' : ∀ w, (zeroValue 23).run Tryd.prog w = .ok (.agg Z) w := fun w => by rw [hZ]; exact zero23 w
  have hZs : Z.size = 64 := by rw [hZ]; rfl
  have hb1 := fun w => build_one w 800
  have hb4 := fun w => build_four w 800
  have hM := fun w hT => merge_any w (four4 (oneL 800)) hT (four4_len (oneL_len 800))
  rw [merge_800] at hM
  obtain ⟨E, hE⟩ : ∃ E, E = oneL 800 := ⟨_, rfl⟩
  have hEl : E.length = 64 := by rw [hE]; rfl
  rw [← hE] at hb1 hb4 hM
  obtain ⟨G, hG⟩ : ∃ G, G = four4 E := ⟨_, rfl⟩
  rw [← hG] at hb4 hM
  have H := Lib.hid (And.intro (Know.nil hT) (And.intro hT (And.intro hZs (And.intro hEl (And.intro hb1 (And.intro hb4 hM))))))
  clear hT hZ hZs hb1 hb4 hM hE hEl hG
  go_enter Tryd.func13, Tryd.ntmps13
  go_wp2_with (first
    | (with_reducible refine wpList_build_to (op := ⟨some 4, _, _, _, _, _⟩) rfl 23 #[(0, .const (.int .i64 800))] rfl (blkV E) #[(0, .int .i64 800)] (by simp [Act.eval]) (H.out.2.2.2.2.1 _) ?_)
    | ((with_reducible refine wpList_store_blk (o := ⟨none, _, _, _, _, _⟩) rfl (.tmp 1) (.tmp 4) rfl rfl w.heap.size E rfl rfl Z (Box.made _ _ _) H.out.2.2.1 H.out.2.2.2.1 ?_)
       intro w3 b3 k3
       have H3 := Lib.hid (H.out.1.laid b3 k3)
       clear b3 k3)
    | (with_reducible refine wpList_load_to (op := ⟨some 6, _, _, _, _, _⟩) rfl 23 (.tmp 1) rfl (.pointer (some ⟨w.heap.size, 0, none⟩)) rfl (blkV E) H3.out.b0.load ?_)
    | (with_reducible refine wpList_load_to (op := ⟨some 7, _, _, _, _, _⟩) rfl 23 (.tmp 1) rfl (.pointer (some ⟨w.heap.size, 0, none⟩)) rfl (blkV E) H3.out.b0.load ?_)
    | (with_reducible refine wpList_load_to (op := ⟨some 8, _, _, _, _, _⟩) rfl 23 (.tmp 1) rfl (.pointer (some ⟨w.heap.size, 0, none⟩)) rfl (blkV E) H3.out.b0.load ?_)
    | (with_reducible refine wpList_load_to (op := ⟨some 9, _, _, _, _, _⟩) rfl 23 (.tmp 1) rfl (.pointer (some ⟨w.heap.size, 0, none⟩)) rfl (blkV E) H3.out.b0.load ?_)
    | (with_reducible refine wpList_build_to (op := ⟨some 10, _, _, _, _, _⟩) rfl 24 #[(0, .tmp 6), (1, .tmp 7), (2, .tmp 8), (3, .tmp 9)] rfl (fourV G) #[(0, blkV E), (1, blkV E), (2, blkV E), (3, blkV E)] (by simp [Act.eval, Act.put]) (H.out.2.2.2.2.2.1 _) ?_)
    | fail)
  refine (H.out.2.2.2.2.2.2 w3 H3.out.tab).mono ?_
  rintro r w4 ⟨rfl, b4⟩
  have H4 := Lib.hid (H3.out.on b4)
  clear b4
  dsimp only
  go_wp2_with (first
    | ((with_reducible refine wpList_store_blk (o := ⟨none, _, _, _, _, _⟩) rfl (.tmp 2) (.tmp 12) rfl rfl w4.heap.size E rfl rfl Z (Box.made _ _ _) H.out.2.2.1 H.out.2.2.2.1 ?_)
       intro w5 b5 k5
       have H5 := Lib.hid (H4.out.laid b5 k5)
       clear b5 k5)
    | (with_reducible refine wpList_load_to (op := ⟨some 14, _, _, _, _, _⟩) rfl 23 (.tmp 2) rfl (.pointer (some ⟨w4.heap.size, 0, none⟩)) rfl (blkV E) H5.out.b0.load ?_)
    | (with_reducible refine wpList_load_to (op := ⟨some 15, _, _, _, _, _⟩) rfl 23 (.tmp 1) rfl (.pointer (some ⟨w.heap.size, 0, none⟩)) rfl (blkV E) H5.out.b1.load ?_)
    | (with_reducible refine wpList_eql23_when (op := ⟨some 16, _, _, _, _, _⟩) rfl (.tmp 14) (.tmp 15) rfl E H.out.2.2.2.1 rfl rfl ?_)
    | fail)
  have HV := part_any w5 1 1 0 H5.out.tab (by unfold isInt; omega) (by unfold isInt; omega) (by unfold isInt; omega)
  unfold Parted at HV
  rw [part_110] at HV
  refine HV.mono ?_
  rintro r w6 ⟨rfl, rfl⟩
  clear HV
  go_wp2
  go_ret
  exact ⟨rfl, H5.out.bel⟩
end Go.Proofs.YtjkmbiieagmjkaaDoor
