/-
  The contract of grow: the lengths ahead of limiting.
-/
import Derived.Test.YtmaffonnekgekaaStand
import Derived.Deep.LoopGhost
namespace Go.Proofs.Ytmaffonnekgekaa
open Go.RowKit

/-- lengths in an array -/
structure LensOf (C L : List Int) (fin : Nat → Nat) : Prop where
  len : L.length = 257
  at_ : ∀ v, v < 257 → L.getD v 0 = (fin v : Int)
  fin : LengthsOf (cnF C) (usF C) fin
/-- what grow answers -/
def GrewT (w : World) (C : List Int) (e : Ending) (w' : World) : Prop := ∃ fin L, e = .returned (.agg (cellsI L).toArray) ∧ LensOf C L fin ∧ Below w.heap.size w w'
/-- how grow stands -/
structure Growing (w wr : World) (r g : Nat) (Z S T L : List Int) : Prop where
  tree : TreeAt wr g S T L
  res : Box wr r 47 (cellsI Z).toArray
  bel : Below w.heap.size w wr
  ord : w.heap.size ≤ r ∧ r < g
  zl : Z.length = 257
theorem Growing.kept {w wr w' : World} {r g : Nat} {Z S T L S2 T2 L2 : List Int} (h : Growing w wr r g Z S T L) (ht : TreeAt w' g S2 T2 L2) (k : Kept (fun i => i = g) wr w') : Growing w w' r g Z S2 T2 L2 := by
  have := h.ord
  exact ⟨ht, k.box h.res (by omega), h.bel.trans (k.below h.bel.size (fun i hi e => by omega)), h.ord, h.zl⟩
theorem splice_cells (Z C : List Int) (R : List Int) (h : C.length ≤ Z.length) : splice (cellsI (Z ++ R)) 0 (cellsI C) = cellsI ((C ++ Z.drop C.length) ++ R) := by
  unfold splice
  rw [List.take_zero, List.nil_append, Nat.zero_add, cellsI_len]
  simp only [cellsI, List.map_append, List.map_drop]
  rw [List.drop_append_of_le_length (by simpa using h), List.append_assoc]
theorem growing_copied {w w1 w3 : World} {r g : Nat} {Z C : List Int} (h : Growing w w1 r g Z Z Z Z) (hc : C.length ≤ 256) (hb : w3.heap[g]? = some (.cells (splice (cellsI (Z ++ (Z ++ Z))) 0 (cellsI C)).toArray 75 (0, 0))) (k : Below g w1 w3) : Growing w w3 r g Z (C ++ Z.drop C.length) Z Z := by
  have ho := h.ord
  have hz := h.zl
  rw [splice_cells Z C (Z ++ Z) (by omega)] at hb
  refine ⟨⟨hb, by rw [List.length_append, List.length_drop]; omega, hz, hz⟩, h.res.bel k (by omega), h.bel.trans (k.mono (by omega)), ho, hz⟩
theorem arrC_size {l : List Int} (h : l.length = 257) : (cellsI l).toArray.size = 257 := by rw [List.size_toArray, cellsI_len, h]
theorem arrC_one (l : List Int) : (cellsI l).toArray.all (·.oneCell') = true := all_oneCell_toArray (cellsI_one l)
/-- an array is stored whole -/
theorem wpList_store_arr {ops : Array Oper} {rest : List Oper} {o : Oper} {a : Act} {w : World} {Q : Exit → Act → World → Prop} (hgd : o.guard = none) (x y : Operand) (ho : o.op = .store 47 x y) (hd : o.dst = none)
    (g : Nat) (l : List Int) (u : Value) (hu : u = .agg (cellsI l).toArray) (hx : a.eval x = .pointer (some ⟨g, 0, none⟩)) (hy : a.eval y = u) (old : Array Value) (hg : Box w g 47 old) (hold : old.size = 257) (hl : l.length = 257)
    (h : ∀ w', Box w' g 47 (cellsI l).toArray → Kept (fun i => i = g) w w' → wpList Try.prog ops Q rest a w') : wpList Try.prog ops Q (o :: rest) a w :=
  wpList_plain hgd fun _ hK => by
    refine wp_store_row 47 x y ho g (cellsI l).toArray hx (hy.trans hu) 47 old hg (by rw [arr257_size, arrC_size hl]) (by rw [hold, arrC_size hl]) (arrC_one l) ?_
    rw [hd]
    exact hK _ _ (h _ (setRow_heap w g old _ 47 _ hg) ⟨rfl, rfl, rfl, by simp, fun k _ hk => setRow_other w g k _ hk⟩)
theorem zeros_at (k j : Nat) : (List.replicate k (0 : Int)).getD j 0 = 0 := by
  simp [List.getD_eq_getElem?_getD, List.getElem?_replicate]
  split <;> rfl
set_option maxRecDepth 10000
/-- the sums at the start -/
def sumsAt (C Z : List Int) : List Int := (C ++ Z.drop C.length).set 256 1
theorem sumsAt_at {C Z : List Int} (hZ : Z = List.replicate 257 0) (hC : C.length ≤ 256) : (sumsAt C Z).length = 257 ∧ (sumsAt C Z).getD 256 0 = 1 ∧ ∀ j, j ≠ 256 → (sumsAt C Z).getD j 0 = C.getD j 0 := by
  subst hZ
  have hl : (C ++ (List.replicate 257 (0 : Int)).drop C.length).length = 257 := by rw [List.length_append, List.length_drop, List.length_replicate]; omega
  refine ⟨by unfold sumsAt; rw [List.length_set, hl], by unfold sumsAt; rw [getD_set_same _ (by rw [hl]; omega)], fun j hj => ?_⟩
  unfold sumsAt
  rw [getD_set_ne _ (fun e => hj e.symm)]
  rcases Nat.lt_or_ge j C.length with h | h
  · exact getD_left h
  · obtain ⟨i, rfl⟩ : ∃ i, j = C.length + i := ⟨j - C.length, by omega⟩
    rw [getD_right rfl, getD_out (l := C) (by omega), List.drop_replicate]
    exact zeros_at _ _

set_option maxRecDepth 20000 in
set_option maxHeartbeats 1600000 in
theorem grow_any (w : World) (C : List Int) (A : Option Addr) (n c : Nat) (h : Ia w A n c C) (hg : Good C) : Calls Try.prog 21 #[.slice A n c] w (GrewT w C) := by
  have hz1 := zero47
  have hz2 := zero75
  obtain ⟨Z, hZ⟩ : ∃ Z : List Int, Z = List.replicate 257 0 := ⟨_, rfl⟩
  rw [← hZ] at hz1 hz2
  obtain ⟨Z1, hZ1⟩ : ∃ Z1, Z1 = (cellsI Z).toArray := ⟨_, rfl⟩
  obtain ⟨Z2, hZ2⟩ : ∃ Z2, Z2 = (cellsI (Z ++ (Z ++ Z))).toArray := ⟨_, rfl⟩
  rw [← hZ1] at hz1
  rw [← hZ2] at hz2
  obtain ⟨w1, hw1⟩ : ∃ w1, w1 = (w.alloc (.cells Z1 47)).alloc (.cells Z2 75) := ⟨_, rfl⟩
  have hZl : Z.length = 257 := by rw [hZ]; simp
  have hG1 : Growing w w1 w.heap.size (w.heap.size + 1) Z Z Z Z := by
    refine ⟨⟨?_, hZl, hZl, hZl⟩, ?_, by rw [hw1]; exact on_trans (on_alloc _ _) (on_alloc _ _), ⟨Nat.le_refl _, by omega⟩, hZl⟩
    · rw [hw1, ← hZ2]; have := Box.made (w.alloc (.cells Z1 47)) 75 Z2; simpa using this
    · rw [hw1, ← hZ1]; exact (Box.made w 47 Z1).alloc _
  have hs1 : w1.heap.size = w.heap.size + 1 + 1 := by rw [hw1]; simp
  have hi := h.on (show Below w.heap.size w w1 from hG1.bel)
  obtain ⟨g, hgg⟩ : ∃ g, g = w.heap.size + 1 := ⟨_, rfl⟩
  have HF := Lib.hid (And.intro hG1 (And.intro hw1 (And.intro hi (And.intro hs1 (And.intro hg (And.intro hZ hgg))))))
  have hlen := h.len
  have hn256 : n ≤ 256 := by have := hg.few; omega
  clear hG1 hw1 hi hs1 hg hZ hZ1 hZ2 h hgg hZl
  go_enter Try.func21, Try.ntmps21
  go_wp2_with (first
    | ((refine wpList_copy_splice (o := ⟨some 8, _, _, _, _, _⟩) rfl (.tmp 6) (.tmp 7) 22 22 rfl 3 Try.underlying22 int_size (some ⟨w.heap.size + 1, 0, none⟩) A 257 257 n c rfl rfl (w.heap.size + 1) 0 (cellsI (Z ++ (Z ++ Z))) 75 ?hg (cellsI C) ?hn ?hpos ?hfit (cellsI_one _) (w.heap.size + 1) ?w0 ?hb ?hgg ?_)
       case hb => exact Below.refl _ _
       case hg => rw [← HF.out.2.1]; exact HF.out.1.tree.box
       case hn => rw [cellsI_len, hlen]; exact (Nat.min_eq_left (by omega)).symm
       case hpos => rw [← HF.out.2.1]; exact fun h0 => ⟨rfl, ia_copy HF.out.2.2.1 h0⟩
       case hfit => have := HF.out.1.zl; rw [cellsI_len, cellsI_len, List.length_append]; omega
       case hgg => exact Nat.le_refl _
       intro w3 hb3 hbel
       have hT3 := growing_copied HF.out.1 (by rw [hlen]; exact hn256) hb3.out (by rw [HF.out.2.1]; exact hbel)
       have c256 := hT3.tree.cellS (show 256 < 257 by omega)
       have f256 := hT3.tree.box.free 256
       have g3 := hT3.tree.box.lt
       have H3 := Lib.hid hT3
       clear hb3 hbel hT3)
    | fail)
  clear c256 f256 g3
  have hn := HF.out.2.2.2.2.2.1
  obtain ⟨s1, s2, s3⟩ := sumsAt_at (C := C) (Z := Z) HF.out.2.2.2.2.2.1 (by omega)
  obtain ⟨w4, hw4⟩ : ∃ w4, w4 = w3.setCell ⟨w.heap.size + 1, 256, none⟩ (.int .i64 1) := ⟨_, rfl⟩
  have h4 : Growing w w4 w.heap.size (w.heap.size + 1) Z (sumsAt C Z) Z Z := by
    rw [hw4]
    exact H3.out.kept (H3.out.tree.putS (by omega) 1) ((Kept.refl (fun i => i = w.heap.size + 1) w3).setCell (p := ⟨w.heap.size + 1, 256, none⟩) (fun _ => rfl) _)
  rw [← hw4]
  have H4 := Lib.hid (And.intro h4 (And.intro s1 (And.intro s2 s3)))
  clear h4 hw4 s1 s2 s3 H3 hn
  obtain ⟨r, hr⟩ : ∃ r, r = w.heap.size := ⟨_, rfl⟩
  obtain ⟨g, hg⟩ : ∃ g, g = w.heap.size + 1 := ⟨_, rfl⟩
  rw [← hg]
  rw [← hg] at H4
  obtain ⟨w5, hw5⟩ : ∃ w5, w5 = w4 := ⟨_, rfl⟩
  rw [← hw5]
  rw [← hw5] at H4
  have HG := Lib.hid hg
  clear hw5 hg hr
  go_loopw [11] (fun i wr => ∃ (k : Nat) (T : List Int), k ≤ 257 ∧ i = .int .i64 k ∧ Growing w wr w.heap.size g Z (sumsAt C Z) T Z ∧ ∀ j, j < k → T.getD j 0 = (j : Int)) (fun i _ => 257 - (intOf i).toNat)
  case atStart => exact ⟨0, Z, Nat.zero_le _, rfl, H4.out.1, fun j hj => absurd hj (by omega)⟩
  case round =>
    obtain ⟨k, T, hk, rfl, hT, hJ⟩ := hrel
    by_cases hlt : k < 257
    · have c1 := hT.tree.cellT hlt
      have f1 := hT.tree.box.free (257 + k)
      have HR := Lib.hid (And.intro hT hJ)
      clear hT hJ
      go_wp2
      go_roundw
      case rel =>
        refine ⟨k + 1, T.set k (k : Int), by omega, by go_num, HR.out.1.kept (HR.out.1.tree.putT hlt _) ((Kept.refl (fun i => i = g) wr).setCell (p := ⟨g, 257 + k, none⟩) (fun _ => rfl) _), fun j hj => ?_⟩
        have hl := HR.out.1.tree.lt
        by_cases e : k = j
        · subst e
          exact getD_set_same _ (by omega)
        · rw [getD_set_ne _ e]
          exact HR.out.2 j (by omega)
      case measure => simp [intOf]; omega
    · have ek : k = 257 := by omega
      subst ek
      have hst := stand_start (C := C) (S := sumsAt C Z) (T := T) (L := Z) HF.out.2.2.2.2.1 H4.out.2.2.1 H4.out.2.2.2 hJ (fun v _ => by rw [HF.out.2.2.2.2.2.1]; exact zeros_at _ _)
      have HR := Lib.hid (And.intro hT hst)
      clear hT hJ hst
      go_wp2_with fail
      go_loopg [19] ((usF C ++ [256]).map fun v => [v]).length (fun q u wr => ∃ (ts : List (List Nat)) (S T L : List Int) (out : Nat → Nat), Growing w wr w.heap.size g Z S T L ∧ Stand C ts S T L out ∧ q = ts.length)
      case atStart => exact ⟨_, _, _, _, _, HR.out.1, HR.out.2, rfl⟩
      case round =>
        obtain ⟨ts, S, T1, L, out, hT, hS, hq⟩ := hrel
        have HQ := Lib.hid (And.intro hT (And.intro hS hq))
        have hb := fun j => (hS.bound HF.out.2.2.2.2.1 j)
        have hm := hS.small hT.tree.ll
        have HJ := Lib.hid (joinT_any wr g S T1 L hT.tree (fun j => by have := hb j; omega) hm)
        clear hT hS hq hb hm
        go_wp2_with fail
        refine HJ.out.mono ?_
        rintro e w6 ⟨f, f2, s, s2, hf, hf2, k1, k2, k6, ⟨h0, rfl, S', ht⟩ | ⟨h0, rfl, T2, L2, ht, hj⟩⟩
        · have HE := Lib.hid (And.intro (HQ.out.1.kept ht k6) (And.intro (HQ.out.2.1.ends HQ.out.1.tree.ls k1 k2 h0) HQ.out.2.1.tops.lens))
          clear k1 k2 k6 ht h0
          obtain ⟨CL, hCL⟩ : ∃ CL, CL = (cellsI L).toArray := ⟨_, rfl⟩
          have HC := Lib.hid hCL
          clear hCL
          go_wp2_with (first
            | (with_reducible refine wpList_load_to (op := ⟨some 21, _, _, _, _, _⟩) rfl 47 (.tmp 20) rfl (.pointer (some ⟨g, 514, none⟩)) rfl (.agg CL) (by rw [HC.out]; exact load257 HE.out.1.tree.rangeL HE.out.1.tree.ll) ?_)
            | ((with_reducible refine wpList_store_arr (o := ⟨none, _, _, _, _, _⟩) rfl (.tmp 2) (.tmp 21) rfl rfl w.heap.size L (.agg CL) (by rw [HC.out]) rfl rfl _ HE.out.1.res (arrC_size HE.out.1.zl) HE.out.1.tree.ll ?_)
               intro w7 b7 k7
               have H7 := Lib.hid (And.intro b7 k7)
               clear b7 k7)
            | fail)
          refine bodyPost_ret (v := .agg (cellsI L).toArray) (results_cell_row (fn := Try.f21) Try.results21 _ _ w.heap.size 47 _ (0, 0) _ rfl H7.out.1 Try.underlying47 rfl (by rw [arr257_size, arrC_size HE.out.1.tree.ll])) rfl ?_
          exact ⟨out, L, rfl, ⟨HE.out.1.tree.ll, HE.out.2.2, HE.out.2.1⟩, HE.out.1.bel.trans (H7.out.2.below HE.out.1.bel.size (fun i hi e => by omega))⟩
        · obtain ⟨ts2, out2, hS2, hl2⟩ := HQ.out.2.1.joins HQ.out.1.tree.ls k1 k2 h0 hj
          have HE := Lib.hid (And.intro (HQ.out.1.kept ht k6) (And.intro hS2 hl2))
          clear k1 k2 k6 ht h0 hj hS2 hl2
          go_wp2
          go_roundg ts2.length
          case rel => exact ⟨ts2, _, _, _, out2, HE.out.1, HE.out.2.1, rfl⟩
          case measure => rw [HQ.out.2.2]; exact HE.out.2.2
end Go.Proofs.Ytmaffonnekgekaa
