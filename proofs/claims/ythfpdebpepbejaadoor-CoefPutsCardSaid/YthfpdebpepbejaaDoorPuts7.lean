/-
  CoefPuts: the walk.
-/
import Derived.Test.YthfpdebpepbejaaDoorRefPutB
import Derived.Test.YthfpdebpepbejaaDoorTables
import Derived.Test.YthfpdebpepbejaaDoorRefScan
import Derived.Test.YthfpdebpepbejaaDoorAwake7
import Derived.Deep.RegionHeld
namespace Go.Proofs.YthfpdebpepbejaaDoor
open Go.RowKit

/-- what the walk stands on: two tables, two lists, the block, the table of the order, at wr -/
structure Stood (w wr : World) (g : Nat) (b : List Int) (B V B' V' : List Int) (t t' : Nat) (A A' : Option Addr) (n n' : Nat) (lo : Nat) : Prop where
  blk : Blk wr g b
  tab : Tab wr
  bel : Below w.heap.size w wr
  tbs : Tbs wr lo B V B' V' t t' A A' n n'
section
variable {w wr w' : World} {g : Nat} {b B V B' V' : List Int} {t t' : Nat} {A A' : Option Addr} {n n' lo : Nat}
theorem Stood.on (h : Stood w wr g b B V B' V' t t' A A' n n' lo) (k : Below wr.heap.size wr w') : Stood w w' g b B V B' V' t t' A A' n n' lo := ⟨h.blk.on k, h.tab.on k, on_trans h.bel k, h.tbs.on k⟩
end
theorem put_one : putE 1 1 = 0 ∧ putL [] 1 1 = [1] := by decide

theorem putBL_len {B V B' V' bs b : List Int} {prev : Int} (hv : Valid B V) (hv' : Valid B' V') (h : bs.length ≤ 170) : (putBL (codes B V) (codes B' V') bs prev b).length ≤ 1900 := by
  unfold putBL
  split
  · next h0 =>
    have hir : In prev ∧ RightB b := by
      unfold putBE at h0
      split at h0
      · next h => exact h
      · cases h0
    have h1 := bitsOf_len hv hv' (allS prev b) (allS_ok hir.2 hir.1)
    have h2 := allS_len prev b
    rw [List.length_append]
    omega
  · omega

section
variable (w : World) (B V : List Int) (A : Option Addr) (n c : Nat) (B' V' : List Int) (A' : Option Addr) (n' c' : Nat) (prev : Int) (b : List Int)
set_option maxRecDepth 20000 in
set_option maxHeartbeats 3200000 in
theorem puts7_calls (hT : Tab w) (hB : B.length = 16) (h : Ia w A n c V) (hB' : B'.length = 16) (h' : Ia w A' n' c' V') (hb : b.length = 64) :
    Calls Tryd.prog 5 #[specV B (.slice A n c), specV B' (.slice A' n' c'), .int .i64 prev, blkV b] w (Law w) := by
  obtain ⟨C, hC⟩ : ∃ C, C = specC B (.slice A n c) := ⟨_, rfl⟩
  have eV : specV B (.slice A n c) = .agg C := by rw [hC]; rfl
  obtain ⟨C', hC'⟩ : ∃ C', C' = specC B' (.slice A' n' c') := ⟨_, rfl⟩
  have eV' : specV B' (.slice A' n' c') = .agg C' := by rw [hC']; rfl
  obtain ⟨cs, hcs⟩ : ∃ cs, cs = (cellsI b).toArray := ⟨_, rfl⟩
  have hvc : blkV b = .agg cs := by rw [hcs]; rfl
  rw [eV, eV', hvc]
  obtain ⟨w1, hw1⟩ : ∃ w1, w1 = w.alloc (.cells C 42) := ⟨_, rfl⟩
  have hb1 := boxed_made (w1 := w1) (g := w.heap.size) hB h (by rw [hw1, hC]) rfl
  have hgg : w1.heap.size = w.heap.size + 1 := by rw [hw1]; simp
  obtain ⟨w2, hw2⟩ : ∃ w2, w2 = w1.alloc (.cells C' 42) := ⟨_, rfl⟩
  have hb2 := boxed_made (w := w1) (w1 := w2) (g := w1.heap.size) hB' (h'.on hb1.bel) (by rw [hw2, hC']) rfl
  have hgg2 : w2.heap.size = w.heap.size + 2 := by rw [hw2, hw1]; simp
  rw [hgg] at hb2
  obtain ⟨w3, hw3⟩ : ∃ w3, w3 = w2.alloc (.cells cs 23) := ⟨_, rfl⟩
  have b3 : Below w2.heap.size w2 w3 := by rw [hw3]; exact on_alloc _ _
  have hblk : Blk w3 (w.heap.size + 2) b := ⟨by rw [hw3, ← hcs, ← hgg2]; exact Box.made _ _ _, hb⟩
  have HB := Lib.hid (And.intro ((hb1.on hb2.bel).on b3) (And.intro ((show Boxed w w2 (w.heap.size + 1) B' V' A' n' c' from ⟨hb2.box, hb2.vals, on_trans hb1.bel hb2.bel, hB'⟩).on b3) (And.intro (hT.on (on_trans (on_trans hb1.bel hb2.bel) b3)) hblk)))
  have E2 := Lib.hid (show ((w.alloc (.cells C 42)).alloc (.cells C' 42)).alloc (.cells cs 23) = w3 by rw [hw3, hw2, hw1])
  have HV := Lib.hid (And.intro hvc hT.zero)
  have HL1 := Lib.hid (load_spec HB.out.1.box HB.out.1.len)
  have HL2 := Lib.hid (load_spec HB.out.2.1.box HB.out.2.1.len)
  clear hb1 hb2 hw1 hw2 hC hC' eV eV' hgg hgg2 hT hB h hB' h' hb hcs hvc hw3 b3 hblk
  go_enter Tryd.func5, Tryd.ntmps5
  go_wp2_with (first
    | (with_reducible refine wpList_load_to (op := ⟨some 20, _, _, _, _, _⟩) rfl 42 (.tmp 4) rfl (.pointer (some ⟨w.heap.size, 0, none⟩)) rfl (specV B (.slice A n c)) (by rw [E2.out]; exact HL1.out) ?_)
    | (with_reducible refine wpList_load_to (op := ⟨some 21, _, _, _, _, _⟩) rfl 42 (.tmp 5) rfl (.pointer (some ⟨w.heap.size + 1, 0, none⟩)) rfl (specV B' (.slice A' n' c')) (by rw [E2.out]; exact HL2.out) ?_)
    | fail)
  rw [E2.out]
  refine (tables_any w3 B V A n c B' V' A' n' c' HB.out.1.len HB.out.1.vals HB.out.2.1.len HB.out.2.1.vals).mono ?_
  rintro e w4 ⟨b4, ⟨xa, xb, xc, xd, rfl⟩ | ⟨_, _, t, t', Ac, nc, cc, Ac', nc', cc', rfl, hTb⟩⟩
  · have H4 := Lib.hid (And.intro (HB.out.2.2.1.on b4) (on_trans HB.out.1.bel b4))
    clear b4
    go_wp2_with fail
    refine (awake7_any w4 H4.out.1).mono ?_
    rintro e w9 ⟨rfl, b9⟩
    have F9 := Lib.hid (on_trans H4.out.2 b9)
    clear b9
    go_wp2
    go_ret
    exact ⟨rfl, F9.out⟩
  have H4 := Lib.hid (Stood.mk (HB.out.2.2.2.on b4) (HB.out.2.2.1.on b4) (on_trans HB.out.1.bel b4) hTb)
  clear b4 hTb
  go_wp2_with fail
  refine (newWriter_wr w4).mono ?_
  rintro e w5 ⟨d, rfl, hd, hw5, b5⟩
  have H5 := Lib.hid (And.intro hd (And.intro hw5 b5))
  clear hd hw5 b5
  go_wp2_with fail
  refine (put_any w5 d [] 1 1 H5.out.2.1 (by simp)).mono ?_
  rw [put_one.1, put_one.2]
  rintro e w6 ⟨rfl, hw6, k6⟩
  have h6 : Below w4.heap.size w4 w6 := H5.out.2.2.trans (k6.below H5.out.2.2.size (fun i hi e => by have := H5.out.1; omega))
  have H6 := Lib.hid (And.intro (H4.out.on h6) (And.intro hw6 (And.intro H5.out.1 h6)))
  clear hw6 k6 h6
  go_wp2_with (first
    | (with_reducible refine wpList_load_to (op := ⟨some 38, _, _, _, _, _⟩) rfl 23 (.tmp 7) rfl (.pointer (some ⟨w.heap.size + 2, 0, none⟩)) rfl (blkV b) H6.out.1.blk.load ?_)
    | fail)
  obtain ⟨lo, hi, t1a, t1b, t1c⟩ := H4.out.tbs.t1
  obtain ⟨lo', hi', t2a, t2b, t2c⟩ := H4.out.tbs.t2
  have hsz46 := H6.out.2.2.2.size
  have hdl := H5.out.1
  have hz4 := H4.out.tab.zero
  have HC := Lib.hid (putB_any w6 d lo hi t lo' hi' t' B V B' V' [1] prev b H6.out.1.tab H6.out.1.blk.len (t1c.on H6.out.2.2.2) H4.out.tbs.val.1 (t2c.on H6.out.2.2.2) H4.out.tbs.val.2 H6.out.2.1 (by simp) (.inr (by omega)) (.inr (by omega)) (by omega) (by omega) (by omega))
  unfold PutB at HC
  obtain ⟨E, hE⟩ : ∃ E, E = putBE (codes B V) (codes B' V') prev b := ⟨_, rfl⟩
  obtain ⟨L, hL⟩ : ∃ L, L = putBL (codes B V) (codes B' V') [1] prev b := ⟨_, rfl⟩
  have hLl : L.length ≤ 1900 := by rw [hL]; exact putBL_len H4.out.tbs.val.1 H4.out.tbs.val.2 (by simp)
  have HR := Lib.hid (fun w' g (hI : Il w' (some ⟨g, 0, none⟩) 1 1 [1]) (hT : Tbs w' w3.heap.size B V B' V' t t' Ac Ac' nc nc') => refPutB_any w' Ac nc cc Ac' nc' cc' B V B' V' (some ⟨g, 0, none⟩) 1 1 [1] prev b H6.out.1.blk.len hT.c1 hT.few.1 hT.val.1 hT.c2 hT.few.2 hT.val.2 hI (by omega))
  unfold RefPutB at HR
  rw [← hE, ← hL] at HC HR
  have HLL := Lib.hid hLl
  clear hE hL hLl t1a t1b t1c t2a t2b t2c hsz46 hdl hz4
  refine HC.out.mono ?_
  rintro e w7 ⟨rfl, hw7, k7⟩
  have h7 : Below w4.heap.size w4 w7 := H6.out.2.2.2.trans (k7.below H6.out.2.2.2.size (fun i hi e => by have := H5.out.1; omega))
  obtain ⟨w8, hw8⟩ : ∃ w8, w8 = w7.alloc (.cells #[.int .i64 1] 3) := ⟨_, rfl⟩
  have b8 : Below w7.heap.size w7 w8 := by rw [hw8]; exact on_alloc _ _
  have H8 := Lib.hid (And.intro ((H4.out.on h7).on b8) (And.intro (hw7.on b8) (And.intro (show Il w8 (some ⟨w7.heap.size, 0, none⟩) 1 1 [1] by rw [hw8]; exact il_one w7 1) hw8)))
  clear hw7 k7 h7 hw8 b8
  go_wp2_with (first
    | (with_reducible refine wpList_load_to (op := ⟨some 45, _, _, _, _, _⟩) rfl 23 (.tmp 7) rfl (.pointer (some ⟨w.heap.size + 2, 0, none⟩)) rfl (blkV b) (by rw [← H8.out.2.2.2]; exact H8.out.1.blk.load) ?_)
    | fail)
  rw [← H8.out.2.2.2]
  refine (HR.out w8 w7.heap.size H8.out.2.2.1 H8.out.1.tbs).mono ?_
  rintro e w9 ⟨A9, m9, c9, rfl, hI9, _, b9⟩
  have hm9 : L.length = m9 := hI9.len
  subst hm9
  have H9 := Lib.hid (And.intro (H8.out.1.on b9) (And.intro (H8.out.2.1.on b9) hI9))
  clear hI9 b9
  go_wp2_with fail
  have H9d := Lib.hid (And.intro (H9.out.1.on (on_drew w9)) (And.intro (H9.out.2.1.on (on_drew w9)) (H9.out.2.2.on (on_drew w9))))
  go_region_held (fun _ => True) (exact trivial)
    (first
      | (go_at_call 25
         with_reducible refine (count_wr w9.drew d L H9d.out.2.1).mono ?_
         rintro e w10 ⟨rfl, b10⟩
         have H10 := Lib.hid (And.intro (H9d.out.1.on b10) (And.intro (H9d.out.2.1.on b10) (H9d.out.2.2.on b10)))
         clear b10)
      | (go_at_call 26
         with_reducible refine (bytes_any w10 d L H10.out.2.1).mono ?_
         rintro e w11 ⟨A11, m11, c11, l11, rfl, hs11, hsl11, b11⟩
         have cv1 := sl_str hsl11
         have H11 := Lib.hid (And.intro (H10.out.1.on b11) (And.intro (H10.out.2.1.on b11) (And.intro (H10.out.2.2.on b11) (And.intro hs11 hsl11))))
         clear b11 hs11 hsl11)
      | (go_at_call 27
         with_reducible refine (refBytes_scan w11 A9 L.length c9 L H11.out.2.2.1 H11.out.2.1.parts (by have := HLL.out; omega)).mono ?_
         rintro e w12 ⟨A12, m12, c12, l12, rfl, hs12, hsl12, b12⟩
         have e12 := H11.out.2.2.2.1.same hs12
         rw [← e12] at hsl12
         have cv2 := sl_str hsl12
         have cv3 := sl_str (H11.out.2.2.2.2.on b12)
         have H12 := Lib.hid (H11.out.1.on b12)
         clear b12 hs12 hsl12 e12)
      | (go_at_call 16
         with_reducible refine (awake7_any w12 H12.out.tab).mono ?_
         rintro e w13 ⟨rfl, b13⟩
         have H13 := Lib.hid (H12.out.on b13)
         clear b13))
  all_goals
    (go_wp2
     go_ret
     exact ⟨rfl, H13.out.bel⟩)
end
end Go.Proofs.YthfpdebpepbejaaDoor
