/-
  CoefBack: the walk.
-/
import Derived.Test.YthfpdebpepbejaaDoorRefPutB
import Derived.Test.YthfpdebpepbejaaDoorTables
import Derived.Test.YthfpdebpepbejaaDoorAwake7
import Derived.Test.YthfpdebpepbejaaDoorBackMath7
import Derived.Test.YthfpdebpepbejaaDoorHBack
import Derived.ChangeKeysEq
import Derived.Laws.StructEq
namespace Go.Proofs.YthfpdebpepbejaaDoor
open Go.RowKit


/-- two blocks of the same numbers are equal -/
theorem items23 (w : World) {B : List Int} (hB : B.length = 64) (d : Nat) : ∀ is : List Nat, (∀ i ∈ is, i < 64) → (Op.eqItems (d + 1) 3 1 (cellsI B).toArray (cellsI B).toArray is).run Tryd.prog w = .ok true w
  | [], _ => by simp [Op.eqItems]
  | i :: is, h => by
    have hp : (part 3 (cellsI B).toArray (i * 1)).run Tryd.prog w = .ok (.int .i64 (B.getD i 0)) w := run_part_plain w (by kernel_rfl) (by rw [Nat.mul_one]; simpa using cellsI_get B i (by have := h i (by simp); omega))
    have he := run_equalIn_int w d 3 .i64 .i64 (B.getD i 0) (B.getD i 0) Tryd.underlying3
    have ih := items23 w hB d is (fun j hj => h j (by simp [hj]))
    simp only [Op.eqItems, Sem.run_bind, hp, he, Result.andThen_ok, beq_self_eq_true]
    simp
    exact ih
theorem blk_equal (w : World) {B : List Int} (hB : B.length = 64) : (Op.equalIn 10000 23 (blkV B) (blkV B)).run Tryd.prog w = .ok true w := by
  obtain ⟨i, hi⟩ : ∃ i, Tryd.prog.info? 3 = some i := by
    obtain ⟨i, h, _⟩ := Option.map_eq_some_iff.1 int_size
    exact ⟨i, h⟩
  have h1 : Tryd.prog.cellsOf 3 = 1 := by kernel_rfl
  rw [show (10000 : Nat) = 9999 + 1 from rfl]
  unfold blkV
  rw [run_equalIn_array (P := Tryd.prog) w 9999 _ _ Tryd.underlying23 hi, h1]
  exact items23 w hB 9998 (List.range 64) (fun i hi => List.mem_range.1 hi)
theorem wpList_eql23_when {ops : Array Oper} {rest : List Oper} {op : Oper} {a : Act} {w : World} {Q : Exit → Act → World → Prop} (hw : Region.wanted op (yielded ops a.tmps) = true) (x y : Operand) (ho : op.op = .binOp .eql 23 x y 23)
    (B : List Int) (hB : B.length = 64) (hx : a.eval x = blkV B) (hy : a.eval y = blkV B)
    (hK : wpList Tryd.prog ops Q rest (a.put op.dst (.bool true)) w) : wpList Tryd.prog ops Q (op :: rest) a w :=
  wpList_step fun _ hQ => by
    have hg : Tryd.prog.eqGuardType Tryd.prog.depth 23 = false := by kernel_rfl
    rw [if_pos hw]
    unfold Oper.wp execOp
    unfold blkV at hx hy
    have he := blk_equal w hB
    unfold blkV at he
    simp only [ho, hx, hy, Sem.run_bind, run_eqGuard_agg w .eql 23 x y _ _ hg, run_eql_struct, he, Result.andThen_ok]
    exact hQ _ _ hK

/-- what the walk stands on: two tables, two lists, the block, the table of the order, at wr -/
structure Stood (w wr : World) (g : Nat) (b : List Int) (B V B' V' : List Int) (t t' : Nat) (A A' : Option Addr) (n n' : Nat) (lo : Nat) : Prop where
  blk : Blk wr g b
  tab : Tab wr
  bel : Below w.heap.size w wr
  tbs : Tbs wr lo B V B' V' t t' A A' n n'
section
variable {w wr w' : World} {g : Nat} {b B V B' V' : List Int} {t t' : Nat} {A A' : Option Addr} {n n' lo : Nat}
theorem Stood.on (h : Stood w wr g b B V B' V' t t' A A' n n' lo) (k : Below wr.heap.size wr w') : Stood w w' g b B V B' V' t t' A A' n n' lo := ⟨h.blk.on k, h.tab.on k, on_trans h.bel k, h.tbs.on k⟩
end
theorem putBL_len {B V B' V' bs b : List Int} {prev : Int} (hv : Valid B V) (hv' : Valid B' V') (h : bs.length ≤ 170) : (putBL (codes B V) (codes B' V') bs prev b).length ≤ 1900 := by
  unfold putBL
  split
  · next h0 =>
    have hir : In prev ∧ RightB b := by
      unfold putBE at h0
      split at h0
      · next h => exact h
      · cases h0
    have h1 := bitsOf_len hv hv' (allS prev b) (allS_ok hir.2 hir.1)
    have h2 := allS_len prev b
    rw [List.length_append]
    omega
  · omega

section
variable (w : World) (B V : List Int) (A : Option Addr) (n c : Nat) (B' V' : List Int) (A' : Option Addr) (n' c' : Nat) (prev : Int) (b : List Int)
set_option maxRecDepth 20000 in
set_option maxHeartbeats 3200000 in
theorem back7_calls (hT : Tab w) (hB : B.length = 16) (h : Ia w A n c V) (hB' : B'.length = 16) (h' : Ia w A' n' c' V') (hb : b.length = 64) :
    Calls Tryd.prog 7 #[specV B (.slice A n c), specV B' (.slice A' n' c'), .int .i64 prev, blkV b] w (Law w) := by
  obtain ⟨C, hC⟩ : ∃ C, C = specC B (.slice A n c) := ⟨_, rfl⟩
  have eV : specV B (.slice A n c) = .agg C := by rw [hC]; rfl
  obtain ⟨C', hC'⟩ : ∃ C', C' = specC B' (.slice A' n' c') := ⟨_, rfl⟩
  have eV' : specV B' (.slice A' n' c') = .agg C' := by rw [hC']; rfl
  obtain ⟨cs, hcs⟩ : ∃ cs, cs = (cellsI b).toArray := ⟨_, rfl⟩
  have hvc : blkV b = .agg cs := by rw [hcs]; rfl
  rw [eV, eV', hvc]
  obtain ⟨w1, hw1⟩ : ∃ w1, w1 = w.alloc (.cells C 42) := ⟨_, rfl⟩
  have hb1 := boxed_made (w1 := w1) (g := w.heap.size) hB h (by rw [hw1, hC]) rfl
  have hgg : w1.heap.size = w.heap.size + 1 := by rw [hw1]; simp
  obtain ⟨w2, hw2⟩ : ∃ w2, w2 = w1.alloc (.cells C' 42) := ⟨_, rfl⟩
  have hb2 := boxed_made (w := w1) (w1 := w2) (g := w1.heap.size) hB' (h'.on hb1.bel) (by rw [hw2, hC']) rfl
  have hgg2 : w2.heap.size = w.heap.size + 2 := by rw [hw2, hw1]; simp
  rw [hgg] at hb2
  obtain ⟨w3, hw3⟩ : ∃ w3, w3 = w2.alloc (.cells cs 23) := ⟨_, rfl⟩
  have b3 : Below w2.heap.size w2 w3 := by rw [hw3]; exact on_alloc _ _
  have hblk : Blk w3 (w.heap.size + 2) b := ⟨by rw [hw3, ← hcs, ← hgg2]; exact Box.made _ _ _, hb⟩
  have HB := Lib.hid (And.intro ((hb1.on hb2.bel).on b3) (And.intro ((show Boxed w w2 (w.heap.size + 1) B' V' A' n' c' from ⟨hb2.box, hb2.vals, on_trans hb1.bel hb2.bel, hB'⟩).on b3) (And.intro (hT.on (on_trans (on_trans hb1.bel hb2.bel) b3)) hblk)))
  have E2 := Lib.hid (show ((w.alloc (.cells C 42)).alloc (.cells C' 42)).alloc (.cells cs 23) = w3 by rw [hw3, hw2, hw1])
  have HV := Lib.hid (And.intro hvc hT.zero)
  have HL1 := Lib.hid (load_spec HB.out.1.box HB.out.1.len)
  have HL2 := Lib.hid (load_spec HB.out.2.1.box HB.out.2.1.len)
  clear hb1 hb2 hw1 hw2 hC hC' eV eV' hgg hgg2 hT hB h hB' h' hb hcs hvc hw3 b3 hblk
  go_enter Tryd.func7, Tryd.ntmps7
  go_wp2_with (first
    | (with_reducible refine wpList_load_to (op := ⟨some 21, _, _, _, _, _⟩) rfl 42 (.tmp 4) rfl (.pointer (some ⟨w.heap.size, 0, none⟩)) rfl (specV B (.slice A n c)) (by rw [E2.out]; exact HL1.out) ?_)
    | (with_reducible refine wpList_load_to (op := ⟨some 22, _, _, _, _, _⟩) rfl 42 (.tmp 5) rfl (.pointer (some ⟨w.heap.size + 1, 0, none⟩)) rfl (specV B' (.slice A' n' c')) (by rw [E2.out]; exact HL2.out) ?_)
    | fail)
  rw [E2.out]
  refine (tables_any w3 B V A n c B' V' A' n' c' HB.out.1.len HB.out.1.vals HB.out.2.1.len HB.out.2.1.vals).mono ?_
  rintro e w4 ⟨b4, ⟨xa, xb, xc, xd, rfl⟩ | ⟨_, _, t, t', Ac, nc, cc, Ac', nc', cc', rfl, hTb⟩⟩
  · have H4 := Lib.hid (And.intro (HB.out.2.2.1.on b4) (on_trans HB.out.1.bel b4))
    clear b4
    go_wp2_with fail
    refine (awake7_any w4 H4.out.1).mono ?_
    rintro e w9 ⟨rfl, b9⟩
    have F9 := Lib.hid (on_trans H4.out.2 b9)
    clear b9
    go_wp2
    go_ret
    exact ⟨rfl, F9.out⟩
  have H4 := Lib.hid (Stood.mk (HB.out.2.2.2.on b4) (HB.out.2.2.1.on b4) (on_trans HB.out.1.bel b4) hTb)
  clear b4 hTb
  go_wp2_with fail
  refine (newWriter_wr w4).mono ?_
  rintro e w5 ⟨d, rfl, hd, hw5, b5⟩
  have H5 := Lib.hid (And.intro hd (And.intro hw5 b5))
  clear hd hw5 b5
  go_wp2_with (first
    | (with_reducible refine wpList_load_to (op := ⟨some 37, _, _, _, _, _⟩) rfl 23 (.tmp 7) rfl (.pointer (some ⟨w.heap.size + 2, 0, none⟩)) rfl (blkV b) (H4.out.on H5.out.2.2).blk.load ?_)
    | fail)
  obtain ⟨lo, hi, t1a, t1b, t1c⟩ := H4.out.tbs.t1
  obtain ⟨lo', hi', t2a, t2b, t2c⟩ := H4.out.tbs.t2
  have hdl := H5.out.1
  have hz4 := H4.out.tab.zero
  have hsz45 := H5.out.2.2.size
  have HC := Lib.hid (putB_any w5 d lo hi t lo' hi' t' B V B' V' [] prev b (H4.out.tab.on H5.out.2.2) H4.out.blk.len (t1c.on H5.out.2.2) H4.out.tbs.val.1 (t2c.on H5.out.2.2) H4.out.tbs.val.2 H5.out.2.1 (by simp) (.inr (by omega)) (.inr (by omega)) (by omega) (by omega) (by omega))
  unfold PutB at HC
  have HGT := Lib.hid (fun wr r gr l s (bw : Below w4.heap.size w4 wr) (hrd : Rd wr r gr l s) (hr : w4.heap.size ≤ r) => getB_any wr lo hi t lo' hi' t' r gr B V B' V' l s prev (H4.out.tab.on bw) (t1c.on bw) H4.out.tbs.val.1 (t2c.on bw) H4.out.tbs.val.2 hrd (.inr (by omega)) (.inr (by omega)) (by have := bw.size; omega) (by have := bw.size; omega) (by omega))
  obtain ⟨E, hE⟩ : ∃ E, E = putBE (codes B V) (codes B' V') prev b := ⟨_, rfl⟩
  obtain ⟨L, hL⟩ : ∃ L, L = putBL (codes B V) (codes B' V') [] prev b := ⟨_, rfl⟩
  have hLl : L.length ≤ 1900 := by rw [hL]; exact putBL_len H4.out.tbs.val.1 H4.out.tbs.val.2 (by simp)
  have HR := Lib.hid (fun w' (hT : Tbs w' w3.heap.size B V B' V' t t' Ac Ac' nc nc') => refPutB_any w' Ac nc cc Ac' nc' cc' B V B' V' none 0 0 [] prev b H4.out.blk.len hT.c1 hT.few.1 hT.val.1 hT.c2 hT.few.2 hT.val.2 (Il.none w') (by omega))
  unfold RefPutB at HR
  rw [← hE, ← hL] at HC HR
  have HLL := Lib.hid (And.intro hLl (And.intro hE hL))
  clear hE hL hLl t1a t1b t1c t2a t2b t2c hdl hz4 hsz45
  refine HC.out.mono ?_
  rintro e w7 ⟨rfl, hw7, k7⟩
  have h7 : Below w4.heap.size w4 w7 := H5.out.2.2.trans (k7.below H5.out.2.2.size (fun i hi e => by have := H5.out.1; omega))
  have H7 := Lib.hid (And.intro (H4.out.on h7) (And.intro hw7 h7))
  clear hw7 k7 h7
  go_wp2_with (first
    | (with_reducible refine wpList_load_to (op := ⟨some 43, _, _, _, _, _⟩) rfl 23 (.tmp 7) rfl (.pointer (some ⟨w.heap.size + 2, 0, none⟩)) rfl (blkV b) H7.out.1.blk.load ?_)
    | fail)
  refine (HR.out w7 H7.out.1.tbs).mono ?_
  rintro e w9 ⟨A9, m9, c9, rfl, hI9, _, b9⟩
  have H9 := Lib.hid (And.intro (H7.out.1.on b9) (And.intro (H7.out.2.1.on b9) (on_trans H7.out.2.2 b9)))
  clear hI9 b9
  by_cases h0 : E = 0
  · subst h0
    go_wp2_with fail
    refine (bytes_any w9 d L H9.out.2.1).mono ?_
    rintro e w11 ⟨A11, m11, c11, l11, rfl, hs11, hsl11, b11⟩
    obtain ⟨FF, hFf, hFl, jj, hjj, hFb, hFn⟩ := hs11.full
    have hm11 : m11 ≤ 5000 := by
      have h1 := hsl11.len
      have h2 := stuff_len FF
      have h3 := HLL.out.1
      rw [hFl] at h1
      omega
    have hback := block_back (F := FF) (p := 0) H4.out.tbs.val.1 H4.out.tbs.val.2 hFf H4.out.blk.len HLL.out.2.1.symm (by
      have hLe : L = bitsOf (codes B V) (codes B' V') (allS prev b) := by
        rw [HLL.out.2.2]
        unfold putBL
        rw [if_pos HLL.out.2.1.symm, List.nil_append]
      rw [← hLe]
      exact ⟨by omega, List.replicate jj 1, by rw [List.drop_zero, hFb]⟩)
    rw [stAt_zero, ← hFl] at hback
    have H11 := Lib.hid (And.intro (H9.out.1.on b11) (And.intro hsl11 (And.intro (on_trans H9.out.2.2 b11) (And.intro hback hm11))))
    clear hs11 hsl11 b11 hFf hFl hFb hFn hback hm11
    go_wp2_with fail
    refine (newReader_any w11 _ A11 m11 c11 l11 H11.out.2.1 H11.out.2.2.2.2).mono ?_
    rintro e w12 ⟨r, gr, rfl, hr, hgr, hrd, b12⟩
    have H12 := Lib.hid (And.intro (H11.out.1.on b12) (And.intro hrd (And.intro (on_trans H11.out.2.2.1 b12) (show w4.heap.size ≤ r by have := H11.out.2.2.1.size; omega))))
    clear hr hgr hrd b12
    go_wp2_with fail
    refine (HGT.out w12 r gr l11 st0 H12.out.2.2.1 H12.out.2.1 H12.out.2.2.2).mono ?_
    have hst : st0 = ⟨0, 0, 0⟩ := rfl
    rw [hst, H11.out.2.2.2.1]
    rintro e w13 ⟨rfl, hra, k13⟩
    have h13 : Below w4.heap.size w4 w13 := H12.out.2.2.1.trans (k13.below H12.out.2.2.1.size (fun i hi e => by have := H12.out.2.2.2; omega))
    have H13 := Lib.hid (H4.out.on h13)
    clear hra k13 h13 hst
    dsimp only
    obtain ⟨Z, hZ⟩ : ∃ Z, Z = (cellsI zeros64).toArray := ⟨_, rfl⟩
    have hz23 : ∀ w, (zeroValue 23).run Tryd.prog w = .ok (.agg Z) w := fun w => by rw [hZ]; exact zero23 w
    have hZs : Z.size = 64 := by rw [hZ]; rfl
    have HZ := Lib.hid hZs
    clear hZ hZs
    go_wp2_with (first
      | ((with_reducible refine wpList_store_blk (o := ⟨none, _, _, _, _, _⟩) arr23_size rfl (.tmp 18) (.tmp 68) rfl rfl w13.heap.size b rfl rfl Z ?hg HZ.out H13.out.blk.len ?_)
         case hg => exact Box.made _ _ _
         intro w14 b14 k14
         have HBK := Lib.hid (And.intro (Blk.mk b14 H13.out.blk.len) (H13.out.on ((on_alloc w13 (.cells Z 23)).trans (k14.below (by simp) (fun i hi e => by omega)))))
         clear b14 k14)
      | ((with_reducible refine wpList_load_when (op := ⟨some 77, _, _, _, _, _⟩) ?hw 23 (.tmp 18) rfl (.pointer (some ⟨w13.heap.size, 0, none⟩)) rfl (blkV b) HBK.out.1.load ?_)
         case hw => rfl)
      | ((with_reducible refine wpList_load_when (op := ⟨some 78, _, _, _, _, _⟩) ?hw 23 (.tmp 7) rfl (.pointer (some ⟨w.heap.size + 2, 0, none⟩)) rfl (blkV b) HBK.out.2.blk.load ?_)
         case hw => rfl)
      | ((with_reducible refine wpList_eql23_when (op := ⟨some 79, _, _, _, _, _⟩) ?hw (.tmp 77) (.tmp 78) rfl b HBK.out.1.len rfl rfl ?_)
         case hw => rfl)
      | fail)
    refine (awake7_any w14 HBK.out.2.tab).mono ?_
    rintro e w15 ⟨rfl, b15⟩
    have H15 := Lib.hid (HBK.out.2.on b15)
    clear b15
    go_wp2
    go_ret
    exact ⟨rfl, H15.out.bel⟩
  · have hE0 : ¬ putBE (codes B V) (codes B' V') prev b = 0 := by rw [← HLL.out.2.1]; exact h0
    have hLe : L = [] := by
      rw [HLL.out.2.2]
      unfold putBL
      rw [if_neg hE0]
    have e0 : (E == 0) = false := by simpa using h0
    have e1 : (E != 0) = true := by simpa using h0
    have HLe := Lib.hid (show L.length = 0 by rw [hLe]; rfl)
    clear hE0 hLe
    go_wp2_with fail
    refine (count_wr w9 d L H9.out.2.1).mono ?_
    rw [HLe.out]
    rintro e w10 ⟨rfl, b10⟩
    have H10 := Lib.hid (H9.out.1.on b10)
    clear b10
    go_wp2_with fail
    refine (awake7_any w10 H10.out.tab).mono ?_
    rintro e w15 ⟨rfl, b15⟩
    have H15 := Lib.hid (H10.out.on b15)
    clear b15
    go_wp2
    go_ret
    exact ⟨rfl, H15.out.bel⟩
end
end Go.Proofs.YthfpdebpepbejaaDoor
