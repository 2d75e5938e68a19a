/-
  CoefTogether: the walk.
-/
import Derived.Test.YthfpdebpepbejaaDoorOneBlk
import Derived.Test.YthfpdebpepbejaaDoorTables
import Derived.Test.YthfpdebpepbejaaDoorAwake7
import Derived.ChangeKeysEq
import Derived.Laws.StructEq
namespace Go.Proofs.YthfpdebpepbejaaDoor
open Go.RowKit

theorem Scan.full {L l : List Int} (h : Scan L l) : ∃ F : List Int, Fit F ∧ l = stuff F ∧ ∃ j, j < 8 ∧ by8 F = L ++ List.replicate j 1 ∧ 8 * F.length = L.length + j := by
  obtain ⟨B, v, c, h1, h2, h3, h4, h5⟩ := h
  have e := by8_filledUp B (v := v) h2
  rw [← h4] at e
  have hl := congrArg List.length e
  rw [by8_len, List.length_append, List.length_replicate] at hl
  exact ⟨filledUp B v c, fit_filledUp h1 h2 h3, h5, (8 - c) % 8, by omega, e, hl⟩

/-- two blocks of the same numbers are equal -/
theorem items23 (w : World) {B : List Int} (hB : B.length = 64) (d : Nat) : ∀ is : List Nat, (∀ i ∈ is, i < 64) → (Op.eqItems (d + 1) 3 1 (cellsI B).toArray (cellsI B).toArray is).run Tryd.prog w = .ok true w
  | [], _ => by simp [Op.eqItems]
  | i :: is, h => by
    have hp : (part 3 (cellsI B).toArray (i * 1)).run Tryd.prog w = .ok (.int .i64 (B.getD i 0)) w := run_part_plain w (by kernel_rfl) (by rw [Nat.mul_one]; simpa using cellsI_get B i (by have := h i (by simp); omega))
    have he := run_equalIn_int w d 3 .i64 .i64 (B.getD i 0) (B.getD i 0) Tryd.underlying3
    have ih := items23 w hB d is (fun j hj => h j (by simp [hj]))
    simp only [Op.eqItems, Sem.run_bind, hp, he, Result.andThen_ok, beq_self_eq_true]
    simp
    exact ih
theorem blk_equal (w : World) {B : List Int} (hB : B.length = 64) : (Op.equalIn 10000 23 (blkV B) (blkV B)).run Tryd.prog w = .ok true w := by
  obtain ⟨i, hi⟩ : ∃ i, Tryd.prog.info? 3 = some i := by
    obtain ⟨i, h, _⟩ := Option.map_eq_some_iff.1 int_size
    exact ⟨i, h⟩
  have h1 : Tryd.prog.cellsOf 3 = 1 := by kernel_rfl
  rw [show (10000 : Nat) = 9999 + 1 from rfl]
  unfold blkV
  rw [run_equalIn_array (P := Tryd.prog) w 9999 _ _ Tryd.underlying23 hi, h1]
  exact items23 w hB 9998 (List.range 64) (fun i hi => List.mem_range.1 hi)
/-- the reading: k of the blocks that were put have been got -/
structure T2 (wB wq : World) (r g : Nat) (F : List Int) (Ld La : List En) (done : List (List Int)) (prev : Int) (k : Nat) : Prop where
  bel : Below wB.heap.size wB wq
  rd : Rd wq r g (stuff F) (stAt F (seqBits Ld La 0 (done.take k)).length)
  prev : prev = lastP 0 (done.take k)
theorem T2.on {wB wq w' : World} {r g k : Nat} {F : List Int} {Ld La : List En} {done : List (List Int)} {prev : Int} (h : T2 wB wq r g F Ld La done prev k) (b : Below wq.heap.size wq w') : T2 wB w' r g F Ld La done prev k :=
  ⟨on_trans h.bel b, h.rd.on b, h.prev⟩
theorem seq_lies {F : List Int} {Ld La : List En} {done : List (List Int)} {j k : Nat} {x : List Int} (hF : by8 F = seqBits Ld La 0 done ++ List.replicate j 1) (hl : 8 * F.length = (seqBits Ld La 0 done).length + j) (hx : done[k]? = some x) :
    Lies F (seqBits Ld La 0 (done.take k)).length (bitsOf Ld La (allS (lastP 0 (done.take k)) x)) ∧ (seqBits Ld La 0 (done.take (k + 1))).length = (seqBits Ld La 0 (done.take k)).length + (bitsOf Ld La (allS (lastP 0 (done.take k)) x)).length := by
  obtain ⟨R, h1, h2⟩ := seqBits_at (Ld := Ld) (La := La) 0 done k x hx
  have h3 : Lies F 0 (seqBits Ld La 0 done) := ⟨by omega, List.replicate j 1, by rw [List.drop_zero, hF]⟩
  rw [h1] at h3
  have h4 := h3.split.2
  rw [Nat.zero_add] at h4
  exact ⟨h4.split.1, by rw [h2, List.length_append]⟩
theorem wpList_neq23_when {ops : Array Oper} {rest : List Oper} {op : Oper} {a : Act} {w : World} {Q : Exit → Act → World → Prop} (hw : Region.wanted op (yielded ops a.tmps) = true) (x y : Operand) (ho : op.op = .binOp .neq 23 x y 23)
    (B : List Int) (hB : B.length = 64) (hx : a.eval x = blkV B) (hy : a.eval y = blkV B)
    (hK : wpList Tryd.prog ops Q rest (a.put op.dst (.bool false)) w) : wpList Tryd.prog ops Q (op :: rest) a w :=
  wpList_step fun _ hQ => by
    have hg : Tryd.prog.eqGuardType Tryd.prog.depth 23 = false := by kernel_rfl
    rw [if_pos hw]
    unfold Oper.wp execOp
    unfold blkV at hx hy
    have he := blk_equal w hB
    unfold blkV at he
    simp only [ho, hx, hy, Sem.run_bind, run_eqGuard_agg w .neq 23 x y _ _ hg, run_neq_struct, he, Result.andThen_ok]
    exact hQ _ _ hK

section
variable (w : World) (B V : List Int) (A : Option Addr) (n c : Nat) (B' V' : List Int) (A' : Option Addr) (n' c' : Nat) (A2 : Option Addr) (n2 c2 : Nat) (bl : List (List Int))
set_option maxRecDepth 20000 in
set_option maxHeartbeats 6400000 in
theorem together_calls (hT : Tab w) (hB : B.length = 16) (h : Ia w A n c V) (hB' : B'.length = 16) (h' : Ia w A' n' c' V') (hs : Bs w A2 n2 bl) :
    Calls Tryd.prog 8 #[specV B (.slice A n c), specV B' (.slice A' n' c'), .slice A2 n2 c2] w (Law w) := by
  obtain ⟨C, hC⟩ : ∃ C, C = specC B (.slice A n c) := ⟨_, rfl⟩
  have eV : specV B (.slice A n c) = .agg C := by rw [hC]; rfl
  obtain ⟨C', hC'⟩ : ∃ C', C' = specC B' (.slice A' n' c') := ⟨_, rfl⟩
  have eV' : specV B' (.slice A' n' c') = .agg C' := by rw [hC']; rfl
  rw [eV, eV']
  obtain ⟨w1, hw1⟩ : ∃ w1, w1 = w.alloc (.cells C 42) := ⟨_, rfl⟩
  have hb1 := boxed_made (w1 := w1) (g := w.heap.size) hB h (by rw [hw1, hC]) rfl
  have hgg : w1.heap.size = w.heap.size + 1 := by rw [hw1]; simp
  obtain ⟨w2, hw2⟩ : ∃ w2, w2 = w1.alloc (.cells C' 42) := ⟨_, rfl⟩
  have hb2 := boxed_made (w := w1) (w1 := w2) (g := w1.heap.size) hB' (h'.on hb1.bel) (by rw [hw2, hC']) rfl
  rw [hgg] at hb2
  have HB := Lib.hid (And.intro (hb1.on hb2.bel) (And.intro (show Boxed w w2 (w.heap.size + 1) B' V' A' n' c' from ⟨hb2.box, hb2.vals, on_trans hb1.bel hb2.bel, hB'⟩) (And.intro (hT.on (on_trans hb1.bel hb2.bel)) (hs.on (on_trans hb1.bel hb2.bel)))))
  have E2 := Lib.hid (show (w.alloc (.cells C 42)).alloc (.cells C' 42) = w2 by rw [hw2, hw1])
  have HL1 := Lib.hid (load_spec HB.out.1.box HB.out.1.len)
  have HL2 := Lib.hid (load_spec HB.out.2.1.box HB.out.2.1.len)
  clear hb1 hb2 hw1 hw2 hC hC' eV eV' hgg hT hB h hB' h' hs
  go_enter Tryd.func8, Tryd.ntmps8
  go_wp2_with (first
    | (with_reducible refine wpList_load_to (op := ⟨some 25, _, _, _, _, _⟩) rfl 42 (.tmp 3) rfl (.pointer (some ⟨w.heap.size, 0, none⟩)) rfl (specV B (.slice A n c)) (by rw [E2.out]; exact HL1.out) ?_)
    | (with_reducible refine wpList_load_to (op := ⟨some 26, _, _, _, _, _⟩) rfl 42 (.tmp 4) rfl (.pointer (some ⟨w.heap.size + 1, 0, none⟩)) rfl (specV B' (.slice A' n' c')) (by rw [E2.out]; exact HL2.out) ?_)
    | fail)
  rw [E2.out]
  refine (tables_any w2 B V A n c B' V' A' n' c' HB.out.1.len HB.out.1.vals HB.out.2.1.len HB.out.2.1.vals).mono ?_
  rintro e w3 ⟨b3, ⟨xa, xb, xc, xd, rfl⟩ | ⟨_, _, t, t', Ac, nc, cc, Ac', nc', cc', rfl, hTb⟩⟩
  · have H3 := Lib.hid (And.intro (HB.out.2.2.1.on b3) (on_trans HB.out.1.bel b3))
    clear b3
    go_wp2_with fail
    refine (awake7_any w3 H3.out.1).mono ?_
    rintro e w9 ⟨rfl, b9⟩
    have F9 := Lib.hid (on_trans H3.out.2 b9)
    clear b9
    go_wp2
    go_ret
    exact ⟨rfl, F9.out⟩
  have H3 := Lib.hid (And.intro (HB.out.2.2.1.on b3) (And.intro (on_trans HB.out.1.bel b3) (And.intro hTb (HB.out.2.2.2.on b3))))
  clear b3 hTb
  by_cases hn : 8 < n2
  · have hni : (8 : Int) < (n2 : Int) := by omega
    go_wp2_with fail
    refine (awake7_any w3 H3.out.1).mono ?_
    rintro e w9 ⟨rfl, b9⟩
    have F9 := Lib.hid (on_trans H3.out.2.1 b9)
    clear b9
    go_wp2
    go_ret
    exact ⟨rfl, F9.out⟩
  have hni : ¬ (8 : Int) < (n2 : Int) := by omega
  go_wp2_with fail
  refine (newWriterX w3).mono ?_
  rintro e w5 ⟨d, rfl, hd, hw5, b5⟩
  obtain ⟨lo, hi, t1a, t1b, t1c⟩ := H3.out.2.2.1.t1
  obtain ⟨lo', hi', t2a, t2b, t2c⟩ := H3.out.2.2.1.t2
  have HTT := Lib.hid (And.intro t1b (And.intro t1c (And.intro t2b t2c)))
  have hbase : d < w5.heap.size := hw5.lt
  have H5 := Lib.hid (T1.mk (k := 0) (Ld := codes B V) (La := codes B' V') (v := .slice none 0 0) (done := []) (prev := 0) (base := w5.heap.size) b5 hw5 ⟨rfl, .inl ⟨rfl, rfl⟩⟩ trivial rfl (Nat.le_refl _) (fun x hx => by cases hx) ⟨hd, hbase, Nat.le_refl _⟩)
  obtain ⟨base, hbs⟩ : ∃ base, base = w5.heap.size := ⟨_, rfl⟩
  rw [← hbs] at H5
  clear hd hw5 b5 t1a t1b t1c t2a t2b t2c hbase hbs
  obtain ⟨Z, hZ⟩ : ∃ Z, Z = (cellsI zeros64).toArray := ⟨_, rfl⟩
  have hz23 : ∀ w, (zeroValue 23).run Tryd.prog w = .ok (.agg Z) w := fun w => by rw [hZ]; exact zero23 w
  have hZs : Z.size = 64 := by rw [hZ]; rfl
  have HZ := Lib.hid hZs
  clear hZ hZs
  go_wp2_with fail
  go_loopw [13, 14, 44] (fun pv dn i wr => ∃ k prev done, k ≤ n2 ∧ pv = .int .i64 prev ∧ i = .int .i64 ((k : Nat) : Int) ∧ T1 w3 wr d base dn done prev (codes B V) (codes B' V') k) (fun _ _ i _ => n2 - (intOf i).toNat)
  case atStart => exact ⟨0, 0, [], Nat.zero_le _, rfl, rfl, H5.out⟩
  case round =>
    obtain ⟨k, prev, done, hk, rfl, rfl, hR⟩ := hrel
    obtain ⟨Ad, cd, rfl, _, _⟩ := bs_of_own hR.row hR.wide
    have HR := Lib.hid hR
    clear hR
    by_cases hlt : k < n2
    · have hbs := H3.out.2.2.2.on HR.out.bel
      have hkl : k < bl.length := by rw [hbs.len]; exact hlt
      obtain ⟨x, hx⟩ : ∃ x, x = bl[k]'hkl := ⟨_, rfl⟩
      have hget : bl[k]? = some x := by rw [List.getElem?_eq_getElem hkl, hx]
      obtain ⟨bb, off, rfl, _, _⟩ := hbs.at_ (by omega)
      have HX := Lib.hid (And.intro (hbs.load hget) (hbs.wide x (List.mem_of_getElem? hget)))
      clear hx hget hkl hbs
      obtain ⟨g16, hg16⟩ : ∃ g16, g16 = wr.heap.size := ⟨_, rfl⟩
      have HG := Lib.hid hg16
      clear hg16
      go_wp2_with (first
        | (with_reducible refine wpList_load_to (op := ⟨some 47, _, _, _, _, _⟩) rfl 23 (.tmp 46) rfl (.pointer (some ⟨bb, off + k * 64, none⟩)) rfl (blkV x) HX.out.1 ?_)
        | ((with_reducible refine wpList_store_blk (o := ⟨none, _, _, _, _, _⟩) arr23_size rfl (.tmp 16) (.tmp 47) rfl rfl wr.heap.size x rfl rfl Z ?hg HZ.out HX.out.2 ?_)
           case hg => exact Box.made _ _ _
           intro w6 b6 k6
           have HBK := Lib.hid (And.intro (Blk.mk b6 HX.out.2) ((on_alloc wr (.cells Z 23)).trans (k6.below (by simp) (fun i hi e => by omega))))
           clear b6 k6)
        | (with_reducible refine wpList_load_to (op := ⟨some 52, _, _, _, _, _⟩) rfl 23 (.tmp 16) rfl (.pointer (some ⟨wr.heap.size, 0, none⟩)) rfl (blkV x) HBK.out.1.load ?_)
        | fail)
      obtain ⟨E, hE⟩ : ∃ E, E = putBE (codes B V) (codes B' V') prev x := ⟨_, rfl⟩
      have hT6 := H3.out.2.2.1.on (on_trans HR.out.bel HBK.out.2)
      have HRF := Lib.hid (refPutB_any w6 Ac nc cc Ac' nc' cc' B V B' V' none 0 0 [] prev x HX.out.2 hT6.c1 hT6.few.1 hT6.val.1 hT6.c2 hT6.few.2 hT6.val.2 (Il.none w6) (by omega))
      unfold RefPutB at HRF
      rw [← hE] at HRF
      have HE := Lib.hid hE
      clear hE hT6
      refine HRF.out.mono ?_
      rintro e w7 ⟨A9, m9, c9, rfl, hI9, _, b9⟩
      have H7 := Lib.hid (And.intro (HBK.out.1.on b9) (on_trans HBK.out.2 b9))
      clear hI9 b9 HRF
      by_cases h0 : E = 0
      · subst h0
        obtain ⟨bits, hbits⟩ : ∃ bits, bits = seqBits (codes B V) (codes B' V') 0 done := ⟨_, rfl⟩
        have hbl : bits.length ≤ 29000 := by
          have h1 := seqBits_len H3.out.2.2.1.val.1 H3.out.2.2.1.val.2 0 done HR.out.ok
          have h2 := HR.out.few
          rw [hbits]
          omega
        obtain ⟨hd3, hdb, hbw⟩ := HR.out.ord
        have h37 := on_trans HR.out.bel H7.out.2
        have hz3 := H3.out.1.zero
        have hsz37 := h37.size
        obtain ⟨t1b, t1c, t2b, t2c⟩ := HTT.out
        have HPB := Lib.hid (putBX_any w7 d lo hi t lo' hi' t' B V B' V' bits prev x (H3.out.1.on h37) HX.out.2 (t1c.on h37) H3.out.2.2.1.val.1 (t2c.on h37) H3.out.2.2.1.val.2 (by rw [hbits]; exact HR.out.wx.on H7.out.2) hbl (.inr (by omega)) (.inr (by omega)) (by omega) (by omega) (by omega))
        unfold PutBX at HPB
        rw [← HE.out] at HPB
        have HBI := Lib.hid hbits
        clear hbits hbl hd3 hdb hbw h37 hz3 hsz37 t1b t1c t2b t2c
        go_wp2_with (first
          | (with_reducible refine wpList_load_to (op := ⟨some 62, _, _, _, _, _⟩) rfl 23 (.tmp 16) rfl (.pointer (some ⟨wr.heap.size, 0, none⟩)) rfl (blkV x) H7.out.1.load ?_)
          | fail)
        refine HPB.out.mono ?_
        rintro e w8 ⟨rfl, hw8, k8⟩
        have hdw : d < wr.heap.size := HR.out.wx.lt
        have hblk8 : Blk w8 wr.heap.size x := H7.out.1.kept k8 (by omega)
        have hk8 : Kept (fun i => i = d) wr w8 := (Kept.of_below H7.out.2 (fun i => i = d)).trans k8 (fun _ _ h => h)
        have hb8 : Below w3.heap.size w3 w8 := HR.out.bel.trans (hk8.below HR.out.bel.size (fun i hi e => by have := HR.out.ord; omega))
        have hrow8 : w8.ownsRow base 23 64 (.slice Ad done.length cd) done.length (blocksC done) := ownsRow_block HR.out.row fun g cs hg hb => hk8.block g (Array.getElem?_eq_some_iff.1 hb).1 (fun e => by have := (own_block3 HR.out.row hg).1; have := HR.out.ord; omega)
        have hw82 : Wx w8 d (seqBits (codes B V) (codes B' V') 0 done ++ bitsOf (codes B V) (codes B' V') (allS prev x)) := by
          rw [← HBI.out]
          unfold putBL at hw8
          rw [if_pos HE.out.symm] at hw8
          exact hw8
        have hbase8 : base ≤ w8.heap.size := Nat.le_trans HR.out.ord.2.2 hk8.size
        have H8 := Lib.hid (And.intro hblk8 (And.intro hk8 (And.intro hb8 (And.intro hrow8 (And.intro hw82 hbase8)))))
        have hdl : done.length ≤ 8 := by have := HR.out.few; omega
        clear hw8 k8 hdw hblk8 hk8 hb8 hrow8 hw82 hbase8
        go_wp2_with (first
          | (with_reducible refine wpList_load_to (op := ⟨some 66, _, _, _, _, _⟩) rfl 23 (.tmp 16) rfl (.pointer (some ⟨wr.heap.size, 0, none⟩)) rfl (blkV x) H8.out.1.load ?_)
          | (with_reducible refine wpList_one_blk (o := ⟨some 67, _, _, _, _, _⟩) rfl (.tmp 66) rfl x HX.out.2 rfl ?_)
          | (at_builtin; refine wpList_append_bk (o := ⟨some 68, _, _, _, _, _⟩) rfl (.tmp 65) (.tmp 67) rfl base (.slice Ad done.length cd) done.length done x rfl (ownsRow_block H8.out.2.2.2.1 fun g _ _ hb => (on_alloc w8 (.cells (cellsI x).toArray 23)).block g (Array.getElem?_eq_some_iff.1 hb).1) w8.heap.size rfl ⟨Box.made _ _ _, HX.out.2⟩ (by omega) (Nat.le_trans H8.out.2.2.2.2.2 (on_alloc w8 _).size) ?_
             intro v9 w9 hr9 k9
             have HA9 := Lib.hid (And.intro hr9 k9)
             have c9x : w9.cell? ⟨wr.heap.size, 0, none⟩ = some (.int .i64 (x.getD 0 0)) := by
               have hb9 : Blk w9 wr.heap.size x := (H8.out.1.on (on_alloc w8 (.cells (cellsI x).toArray 23))).kept k9 (fun e => by
                 obtain ⟨_, cs, hh⟩ := own_block3 HR.out.row e
                 have := (Array.getElem?_eq_some_iff.1 hh).1
                 omega)
               exact hb9.cell (by omega)
             clear hr9 k9)
          | fail)
        have HN := Lib.hid (HR.out.next (x := x) HE.out.symm HX.out.2 H8.out.2.2.1 H8.out.2.1 H8.out.2.2.2.2.1 (on_alloc w8 (.cells (cellsI x).toArray 23)) w9 HA9.out.1 HA9.out.2 (ownsRow_block H8.out.2.2.2.1 fun g _ _ hb => (on_alloc w8 (.cells (cellsI x).toArray 23)).block g (Array.getElem?_eq_some_iff.1 hb).1))
        go_roundw
        case rel => exact ⟨k + 1, _, _, by omega, rfl, by go_num, HN.out⟩
        case measure => simp [intOf]; omega
      · have e0 : (E == 0) = false := by simpa using h0
        have e1 : (E != 0) = true := by simpa using h0
        have HN := Lib.hid ((HR.out.on H7.out.2).more)
        go_wp2_with fail
        go_roundw
        case rel => exact ⟨k + 1, _, _, by omega, rfl, by go_num, HN.out⟩
        case measure => simp [intOf]; omega
    · obtain ⟨bits, hbits⟩ : ∃ bits, bits = seqBits (codes B V) (codes B' V') 0 done := ⟨_, rfl⟩
      have hbl : bits.length ≤ 13824 := by
        have h1 := seqBits_len H3.out.2.2.1.val.1 H3.out.2.2.1.val.2 0 done HR.out.ok
        have h2 := HR.out.few
        rw [hbits]
        omega
      have HX := Lib.hid (And.intro (show Wx wr d bits by rw [hbits]; exact HR.out.wx) (And.intro hbl hbits))
      clear hbits hbl
      go_wp2_with fail
      refine (bytesX_any wr d bits HX.out.1 (by have := HX.out.2.1; omega)).mono ?_
      rintro e wB ⟨A11, m11, c11, l11, rfl, hs11, hsl11, b11⟩
      obtain ⟨FF, hFf, rfl, jj, hjj, hFb, hFn⟩ := hs11.full
      have hm11 : m11 ≤ 5000 := by
        have h1 := hsl11.len
        have h2 := stuff_len FF
        have h3 := HX.out.2.1
        omega
      rw [HX.out.2.2] at hFb hFn
      obtain ⟨Ad2, cd2, hv2, hbs2, _⟩ := bs_of_own (ownsRow_block HR.out.row fun g _ _ hb => b11.block g (Array.getElem?_eq_some_iff.1 hb).1) HR.out.wide
      cases hv2
      have HB2 := Lib.hid (And.intro hsl11 (And.intro (on_trans HR.out.bel b11) (And.intro hbs2 (And.intro hFf (And.intro hFb (And.intro hFn hm11))))))
      have hdl : done.length ≤ 8 := by have := HR.out.few; omega
      clear hs11 hsl11 b11 hFf hFb hFn hm11 hjj hbs2
      go_wp2_with fail
      refine (newReader_any wB _ A11 m11 c11 (stuff FF) HB2.out.1 HB2.out.2.2.2.2.2.2).mono ?_
      rintro e wq ⟨r, gr, rfl, hr, hgr, hrd, bq⟩
      have hst : stAt FF (seqBits (codes B V) (codes B' V') 0 (done.take 0)).length = st0 := by
        rw [List.take_zero]
        exact stAt_zero FF
      have HQ := Lib.hid (And.intro (show T2 wB wq r gr FF (codes B V) (codes B' V') done 0 0 from ⟨bq, by rw [hst]; exact hrd, by rw [List.take_zero]; rfl⟩) hr)
      clear hr hgr hrd bq hst
      go_wp2_with fail
      go_loopw [13, 77] (fun pv i wq => ∃ k prev, k ≤ done.length ∧ pv = .int .i64 prev ∧ i = .int .i64 ((k : Nat) : Int) ∧ T2 wB wq r gr FF (codes B V) (codes B' V') done prev k) (fun _ i _ => done.length - (intOf i).toNat)
      case atStart => exact ⟨0, 0, Nat.zero_le _, rfl, rfl, HQ.out.1⟩
      case round =>
        obtain ⟨q, prv, hq, rfl, rfl, hR2⟩ := hrel
        have HR2 := Lib.hid hR2
        clear hR2
        by_cases hlt2 : q < done.length
        · have hbs := HB2.out.2.2.1.on HR2.out.bel
          obtain ⟨x, hx⟩ : ∃ x, x = done[q]'hlt2 := ⟨_, rfl⟩
          have hget : done[q]? = some x := by rw [List.getElem?_eq_getElem hlt2, hx]
          obtain ⟨bd, offd, rfl, _, _⟩ := hbs.at_ (by omega)
          obtain ⟨hli, hnx⟩ := seq_lies HB2.out.2.2.2.2.1 HB2.out.2.2.2.2.2.1 hget
          have hE := seqOK_at 0 done HR.out.ok q x hget
          have hxl := hbs.wide x (List.mem_of_getElem? hget)
          rw [← HR2.out.prev] at hli hnx hE
          have hback := block_back H3.out.2.2.1.val.1 H3.out.2.2.1.val.2 HB2.out.2.2.2.1 hxl hE hli
          rw [← hnx] at hback
          have hlp : lastP 0 (done.take (q + 1)) = x.getD 0 0 := by
            have : done.take (q + 1) = done.take q ++ [x] := by rw [List.take_add_one, hget]; rfl
            rw [this, lastP_snoc]
          obtain ⟨t1b, t1c, t2b, t2c⟩ := HTT.out
          have hGT := fun w' (b : Below wr.heap.size wr w') => getB_any w' lo hi t lo' hi' t' r gr B V B' V' (stuff FF) (stAt FF (seqBits (codes B V) (codes B' V') 0 (done.take q)).length) prv ((H3.out.1.on (on_trans HB2.out.2.1 HR2.out.bel)).on b) ((t1c.on (on_trans HB2.out.2.1 HR2.out.bel)).on b) H3.out.2.2.1.val.1 ((t2c.on (on_trans HB2.out.2.1 HR2.out.bel)).on b) H3.out.2.2.1.val.2 (HR2.out.rd.on b)
            (.inr (by have := HQ.out.2; have := HB2.out.2.1.size; omega)) (.inr (by have := HQ.out.2; have := HB2.out.2.1.size; omega)) (by have := b.size; have := (on_trans HB2.out.2.1 HR2.out.bel).size; omega) (by have := b.size; have := (on_trans HB2.out.2.1 HR2.out.bel).size; omega) (by have := HQ.out.2; have := H3.out.1.zero; have := HB2.out.2.1.size; omega)
          rw [hback] at hGT
          have HGT := Lib.hid hGT
          have HY := Lib.hid (And.intro (hbs.load hget) (And.intro hxl hlp))
          clear hx hget hbs hli hnx hE hxl hback hlp t1b t1c t2b t2c hGT
          go_wp2_with (first
            | (with_reducible refine wpList_load_to (op := ⟨some 80, _, _, _, _, _⟩) rfl 23 (.tmp 79) rfl (.pointer (some ⟨bd, offd + q * 64, none⟩)) rfl (blkV x) HY.out.1 ?_)
            | ((with_reducible refine wpList_store_blk (o := ⟨none, _, _, _, _, _⟩) arr23_size rfl (.tmp 21) (.tmp 80) rfl rfl wr.heap.size x rfl rfl Z ?hg HZ.out HY.out.2.1 ?_)
               case hg => exact Box.made _ _ _
               intro w6 b6 k6
               have HBK := Lib.hid (And.intro (Blk.mk b6 HY.out.2.1) ((on_alloc wr (.cells Z 23)).trans (k6.below (by simp) (fun i hi e => by omega))))
               clear b6 k6)
            | fail)
          refine (HGT.out w6 HBK.out.2).mono ?_
          rintro e w13 ⟨rfl, hra, k13⟩
          dsimp only at hra ⊢
          have hrq : r < wr.heap.size := HR2.out.rd.box.lt
          have h13 : Below wB.heap.size wB w13 := (on_trans HR2.out.bel HBK.out.2).trans (k13.below (on_trans HR2.out.bel HBK.out.2).size (fun i hi e => by have := HQ.out.2; omega))
          have H13 := Lib.hid (And.intro (HBK.out.1.kept k13 (by omega)) (T2.mk (prev := x.getD 0 0) (k := q + 1) (Ld := codes B V) (La := codes B' V') (done := done) h13 hra HY.out.2.2.symm))
          clear hra k13 hrq h13
          go_wp2_with (first
            | ((with_reducible refine wpList_store_blk (o := ⟨none, _, _, _, _, _⟩) arr23_size rfl (.tmp 22) (.tmp 87) rfl rfl w13.heap.size x rfl rfl Z ?hg HZ.out HY.out.2.1 ?_)
               case hg => exact Box.made _ _ _
               intro w14 b14 k14
               have b134 : Below w13.heap.size w13 w14 := (on_alloc w13 (.cells Z 23)).trans (k14.below (by simp) (fun i hi e => by omega))
               have HC := Lib.hid (And.intro (Blk.mk b14 HY.out.2.1) (And.intro (H13.out.1.on b134) (H13.out.2.on b134)))
               have c14 := HC.out.2.1.cell (k := 0) (by omega)
               clear b14 k14 b134)
            | ((with_reducible refine wpList_load_when (op := ⟨some 92, _, _, _, _, _⟩) ?hw 23 (.tmp 22) rfl (.pointer (some ⟨w13.heap.size, 0, none⟩)) rfl (blkV x) HC.out.1.load ?_)
               case hw => rfl)
            | ((with_reducible refine wpList_load_when (op := ⟨some 93, _, _, _, _, _⟩) ?hw 23 (.tmp 21) rfl (.pointer (some ⟨wr.heap.size, 0, none⟩)) rfl (blkV x) HC.out.2.1.load ?_)
               case hw => rfl)
            | ((with_reducible refine wpList_neq23_when (op := ⟨some 94, _, _, _, _, _⟩) ?hw (.tmp 92) (.tmp 93) rfl x HY.out.2.1 rfl rfl ?_)
               case hw => rfl)
            | fail)
          go_roundw
          case rel => exact ⟨q + 1, _, by omega, rfl, by go_num, HC.out.2.2⟩
          case measure => simp [intOf]; omega
        · go_wp2_with fail
          refine (awake7_any wr ((H3.out.1.on HB2.out.2.1).on HR2.out.bel)).mono ?_
          rintro e w9 ⟨rfl, b9⟩
          have F9 := Lib.hid (on_trans (on_trans H3.out.2.1 (on_trans HB2.out.2.1 HR2.out.bel)) b9)
          clear b9
          go_wp2
          go_ret
          exact ⟨rfl, F9.out⟩
end
end Go.Proofs.YthfpdebpepbejaaDoor
