/-
  CoefGets: the walk.
-/
import Derived.Test.YthfpdebpepbejaaDoorRefBlk
import Derived.Test.YthfpdebpepbejaaDoorAwake7
import Derived.ChangeKeysEq
import Derived.Laws.StructEq
namespace Go.Proofs.YthfpdebpepbejaaDoor
open Go.RowKit

theorem Sl.on7 {w w' : World} {K : Nat → Prop} {A : Option Addr} {n c : Nat} {l : List Int} (h : Sl w K A n c l) (b : Below w.heap.size w w') : Sl w' (fun _ => True) A n c l := h.on b
/-- two blocks of the same numbers are equal -/
theorem items23 (w : World) {B : List Int} (hB : B.length = 64) (d : Nat) : ∀ is : List Nat, (∀ i ∈ is, i < 64) → (Op.eqItems (d + 1) 3 1 (cellsI B).toArray (cellsI B).toArray is).run Tryd.prog w = .ok true w
  | [], _ => by simp [Op.eqItems]
  | i :: is, h => by
    have hp : (part 3 (cellsI B).toArray (i * 1)).run Tryd.prog w = .ok (.int .i64 (B.getD i 0)) w := run_part_plain w (by kernel_rfl) (by rw [Nat.mul_one]; simpa using cellsI_get B i (by have := h i (by simp); omega))
    have he := run_equalIn_int w d 3 .i64 .i64 (B.getD i 0) (B.getD i 0) Tryd.underlying3
    have ih := items23 w hB d is (fun j hj => h j (by simp [hj]))
    simp only [Op.eqItems, Sem.run_bind, hp, he, Result.andThen_ok, beq_self_eq_true]
    simp
    exact ih
theorem blk_equal (w : World) {B : List Int} (hB : B.length = 64) : (Op.equalIn 10000 23 (blkV B) (blkV B)).run Tryd.prog w = .ok true w := by
  obtain ⟨i, hi⟩ : ∃ i, Tryd.prog.info? 3 = some i := by
    obtain ⟨i, h, _⟩ := Option.map_eq_some_iff.1 int_size
    exact ⟨i, h⟩
  have h1 : Tryd.prog.cellsOf 3 = 1 := by kernel_rfl
  rw [show (10000 : Nat) = 9999 + 1 from rfl]
  unfold blkV
  rw [run_equalIn_array (P := Tryd.prog) w 9999 _ _ Tryd.underlying23 hi, h1]
  exact items23 w hB 9998 (List.range 64) (fun i hi => List.mem_range.1 hi)
/-- two equal blocks are not unlike: the operation may be taken first -/
theorem yieldsIf_neq23 {ops : Array Oper} {S : World → Prop} {op : Oper} {a : Act} (hw : Region.wanted op (yielded ops a.tmps) = true) (x y : Operand) (ho : op.op = .binOp .neq 23 x y 23)
    (B : List Int) (hB : B.length = 64) (hx : a.eval x = blkV B) (hy : a.eval y = blkV B) : YieldsIf Tryd.prog ops S op (.bool false) a :=
  .inl ⟨hw, fun w _ => by
    have hg : Tryd.prog.eqGuardType Tryd.prog.depth 23 = false := by kernel_rfl
    unfold execOp
    unfold blkV at hx hy
    have he := blk_equal w hB
    unfold blkV at he
    simp only [ho, hx, hy, Sem.run_bind, run_eqGuard_agg w .neq 23 x y _ _ hg, run_neq_struct, he, Result.andThen_ok]
    rfl⟩

theorem othersG_len (L : List En) (l : List Int) : ∀ (f i : Nat) (s : St) (b : List Int), (othersG L l f i s b).2.1.length = b.length
  | 0, _, _, _ => rfl
  | f + 1, i, s, b => by
    unfold othersG
    repeat' split
    all_goals first
      | rfl
      | (rw [othersG_len L l f]; try exact List.length_set)
theorem blockF_len (Ld La : List En) (l : List Int) (s : St) (prev : Int) : (blockF Ld La l s prev).2.1.length = 64 := by
  unfold blockF
  repeat' split
  all_goals first
    | rfl
    | (rw [othersG_len]; simp)
/-- the program's reader and the reference's -/
structure Rq (w wr : World) (r g g7 : Nat) (A : Option Addr) (n c : Nat) (l : List Int) (s : St) (Al : Option Addr) (cl : Nat) (C : Array Value) : Prop where
  rd : Rd wr r g l s
  q : Box wr g7 61 C
  rc : RdC A n c s Al cl C
  row : Il wr Al s.c cl (dig s.v s.c)
  new : w.heap.size ≤ r ∧ w.heap.size ≤ g7
  bel : Below w.heap.size w wr
section
variable {w wr w' : World} {r g g7 : Nat} {A : Option Addr} {n c : Nat} {l : List Int} {s : St} {Al : Option Addr} {cl : Nat} {C : Array Value}
theorem Rq.on (h : Rq w wr r g g7 A n c l s Al cl C) (b : Below wr.heap.size wr w') : Rq w w' r g g7 A n c l s Al cl C := ⟨h.rd.on b, h.q.on b, h.rc, h.row.on b, h.new, on_trans h.bel b⟩
/-- the program's reader has moved -/
theorem Rq.mid (h : Rq w wr r g g7 A n c l s Al cl C) (k : Kept (fun i => i = r) wr w') : Box w' g7 61 C ∧ Il w' Al s.c cl (dig s.v s.c) ∧ Below w.heap.size w w' := by
  have hrq : r ≠ g7 := h.rd.box.apart h.q (by decide)
  refine ⟨k.box h.q (fun e => hrq e.symm), h.row.kept k (fun b off e hbr => ?_), h.bel.trans (k.below h.bel.size (fun i hi e => by have := h.new.1; omega))⟩
  obtain ⟨cs, fr, hh⟩ := h.row.typ b off e
  rw [hbr] at hh
  have h7 : wr.heap[r]? = some (.cells (cellsR s g l.length) 104 (0, 0)) := h.rd.box
  rw [hh] at h7
  cases h7
theorem g8step {wa wb : World} {s1 : St} {b1 : List Int} {Z : Array Value} (ha : Rd wa r g l s1) (hq : Box wa g7 61 C) (hI : Il wa Al s.c cl (dig s.v s.c)) (hb : Below w.heap.size w wa) (bb : Box wb wa.heap.size 23 (cellsI b1).toArray) (kb : Kept (fun i => i = wa.heap.size) (wa.alloc (.cells Z 23)) wb) (hl : b1.length = 64) :
    Blk wb wa.heap.size b1 ∧ Box wb g7 61 C ∧ Rd wb r g l s1 ∧ Il wb Al s.c cl (dig s.v s.c) ∧ Below w.heap.size w wb ∧ Below wa.heap.size wa wb := by
  have bab : Below wa.heap.size wa wb := (on_alloc wa (.cells Z 23)).trans (kb.below (by simp) (fun i hi e => by omega))
  exact ⟨⟨bb, hl⟩, hq.on bab, ha.on bab, hI.on bab, on_trans hb bab, bab⟩
theorem Box.made2 (w : World) (o : Obj) (t : TypeId) (Z : Array Value) : Box ((w.alloc o).alloc (.cells Z t)) (w.heap.size + 1) t Z := by
  have := Box.made (w.alloc o) t Z
  rw [show (w.alloc o).heap.size = w.heap.size + 1 by simp] at this
  exact this
theorem g18step {wd we : World} {N Z C1 : Array Value} (be : Box we wd.heap.size 61 C1) (ke : Kept (fun i => i = wd.heap.size) ((wd.alloc (.cells N 61)).alloc (.cells Z 23)) we) :
    Box we wd.heap.size 61 C1 ∧ Box we (wd.heap.size + 1) 23 Z ∧ Below wd.heap.size wd we :=
  ⟨be, ke.box (Box.made2 _ _ _ _) (by omega), (on_trans (on_alloc _ _) (on_alloc _ _)).trans (ke.below (by simp; omega) (fun i hi e => by omega))⟩
theorem g19step {wd we wf : World} {b1 : List Int} {Z C1 : Array Value} (h : Box we wd.heap.size 61 C1 ∧ Box we (wd.heap.size + 1) 23 Z ∧ Below wd.heap.size wd we) (bf : Box wf (wd.heap.size + 1) 23 (cellsI b1).toArray) (kf : Kept (fun i => i = wd.heap.size + 1) we wf) (hl : b1.length = 64) :
    Box wf wd.heap.size 61 C1 ∧ Blk wf (wd.heap.size + 1) b1 ∧ Below wd.heap.size wd wf :=
  ⟨kf.box h.1 (by omega), ⟨bf, hl⟩, h.2.2.trans (kf.below h.2.2.size (fun i hi e => by omega))⟩
/-- a round's end: both readers have moved, and both blocks lie there -/
theorem Rq.done {wf wg : World} {s1 : St} {b1 : List Int} {C1 Ck : Array Value} {Al2 : Option Addr} {cl2 xg yg : Nat} (hq : Box wf g7 61 Ck) (bg : Box wg g7 61 C1) (kg : Kept (fun i => i = g7) wf wg) (rc : RdC A n c s1 Al2 cl2 C1) (hI : Il wf Al2 s1.c cl2 (dig s1.v s1.c)) (hr : Rd wf r g l s1) (hn : w.heap.size ≤ r ∧ w.heap.size ≤ g7) (hb : Below w.heap.size w wf)
    (hx : Blk wf xg b1) (hy : Blk wf yg b1) : Rq w wg r g g7 A n c l s1 Al2 cl2 C1 ∧ Blk wg xg b1 ∧ Blk wg yg b1 := by
  have h1 : r ≠ g7 := hr.box.apart hq (by decide)
  have h2 : g ≠ g7 := hr.own.apart hq (by decide)
  have h3 : xg ≠ g7 := hx.box.apart hq (by decide)
  have h4 : yg ≠ g7 := hy.box.apart hq (by decide)
  exact ⟨⟨hr.kept kg h1 h2, bg, rc, il_far61 hI hq kg, hn, hb.trans (kg.below hb.size (fun i hi e => by omega))⟩, hx.kept kg h3, hy.kept kg h4⟩
theorem Rq.at_ (h : Rq w wr r g g7 A n c l s Al cl C) : wr.cell? ⟨g7, 1, none⟩ = some (.int .i64 (s.at_ : Int)) := by
  have e := h.rc.val
  have hC : C = #[.slice A n c, .int .i64 (s.at_ : Int), .slice Al s.c cl] := by unfold refV at e; exact (Value.agg.inj e).symm
  have := h.q.cell 1
  rw [hC] at this
  exact this
end

section
variable (w : World) (B V : List Int) (A : Option Addr) (n c : Nat) (B' V' : List Int) (A' : Option Addr) (n' c' : Nat) (prev : Int) (K : Nat → Prop) (A3 : Option Addr) (n3 c3 : Nat) (l : List Int)
set_option maxRecDepth 20000 in
set_option maxHeartbeats 3200000 in
theorem gets7_calls (hT : Tab w) (hB : B.length = 16) (h : Ia w A n c V) (hB' : B'.length = 16) (h' : Ia w A' n' c' V') (hs : Sl w K A3 n3 c3 l) :
    Calls Tryd.prog 6 #[specV B (.slice A n c), specV B' (.slice A' n' c'), .int .i64 prev, .slice A3 n3 c3] w (Law w) := by
  obtain ⟨C, hC⟩ : ∃ C, C = specC B (.slice A n c) := ⟨_, rfl⟩
  have eV : specV B (.slice A n c) = .agg C := by rw [hC]; rfl
  obtain ⟨C', hC'⟩ : ∃ C', C' = specC B' (.slice A' n' c') := ⟨_, rfl⟩
  have eV' : specV B' (.slice A' n' c') = .agg C' := by rw [hC']; rfl
  rw [eV, eV']
  obtain ⟨w1, hw1⟩ : ∃ w1, w1 = w.alloc (.cells C 42) := ⟨_, rfl⟩
  have hb1 := boxed_made (w1 := w1) (g := w.heap.size) hB h (by rw [hw1, hC]) rfl
  have hgg : w1.heap.size = w.heap.size + 1 := by rw [hw1]; simp
  obtain ⟨w2, hw2⟩ : ∃ w2, w2 = w1.alloc (.cells C' 42) := ⟨_, rfl⟩
  have hb2 := boxed_made (w := w1) (w1 := w2) (g := w1.heap.size) hB' (h'.on hb1.bel) (by rw [hw2, hC']) rfl
  rw [hgg] at hb2
  have HB := Lib.hid (And.intro (hb1.on hb2.bel) (And.intro (show Boxed w w2 (w.heap.size + 1) B' V' A' n' c' from ⟨hb2.box, hb2.vals, on_trans hb1.bel hb2.bel, hB'⟩) (And.intro (hT.on (on_trans hb1.bel hb2.bel)) (hs.on7 (on_trans hb1.bel hb2.bel)))))
  have E2 := Lib.hid (show (w.alloc (.cells C 42)).alloc (.cells C' 42) = w2 by rw [hw2, hw1])
  have HL1 := Lib.hid (load_spec HB.out.1.box HB.out.1.len)
  have HL2 := Lib.hid (load_spec HB.out.2.1.box HB.out.2.1.len)
  clear hb1 hb2 hw1 hw2 hC hC' eV eV' hgg hT hB h hB' h' hs
  go_enter Tryd.func6, Tryd.ntmps6
  go_wp2_with (first
    | (with_reducible refine wpList_load_to (op := ⟨some 22, _, _, _, _, _⟩) rfl 42 (.tmp 4) rfl (.pointer (some ⟨w.heap.size, 0, none⟩)) rfl (specV B (.slice A n c)) (by rw [E2.out]; exact HL1.out) ?_)
    | (with_reducible refine wpList_load_to (op := ⟨some 23, _, _, _, _, _⟩) rfl 42 (.tmp 5) rfl (.pointer (some ⟨w.heap.size + 1, 0, none⟩)) rfl (specV B' (.slice A' n' c')) (by rw [E2.out]; exact HL2.out) ?_)
    | fail)
  rw [E2.out]
  refine (tables_any w2 B V A n c B' V' A' n' c' HB.out.1.len HB.out.1.vals HB.out.2.1.len HB.out.2.1.vals).mono ?_
  rintro e w3 ⟨b3, ⟨xa, xb, xc, xd, rfl⟩ | ⟨_, _, t, t', Ac, nc, cc, Ac', nc', cc', rfl, hTb⟩⟩
  · have H3 := Lib.hid (And.intro (HB.out.2.2.1.on b3) (on_trans HB.out.1.bel b3))
    clear b3
    go_wp2_with fail
    refine (awake7_any w3 H3.out.1).mono ?_
    rintro e w9 ⟨rfl, b9⟩
    have F9 := Lib.hid (on_trans H3.out.2 b9)
    clear b9
    go_wp2
    go_ret
    exact ⟨rfl, F9.out⟩
  have H3 := Lib.hid (And.intro (HB.out.2.2.1.on b3) (And.intro (on_trans HB.out.1.bel b3) (And.intro hTb (HB.out.2.2.2.on7 b3))))
  clear b3 hTb
  by_cases hn : 400 < n3
  · have hni : (400 : Int) < (n3 : Int) := by omega
    go_wp2_with fail
    refine (awake7_any w3 H3.out.1).mono ?_
    rintro e w9 ⟨rfl, b9⟩
    have F9 := Lib.hid (on_trans H3.out.2.1 b9)
    clear b9
    go_wp2
    go_ret
    exact ⟨rfl, F9.out⟩
  have hni : ¬ (400 : Int) < (n3 : Int) := by omega
  go_wp2_with fail
  refine (newReader_any w3 _ A3 n3 c3 l H3.out.2.2.2 (by omega)).mono ?_
  rintro e w5 ⟨r, gr, rfl, hr, hgr, hrd, b5⟩
  obtain ⟨C6, hC6⟩ := rdC_made A3 n3 c3 st0 none 0
  obtain ⟨N, hN⟩ : ∃ N, N = noCells := ⟨_, rfl⟩
  have hz : ∀ w, (zeroValue 61).run Tryd.prog w = .ok (.agg N) w := fun w => by rw [hN]; kernel_rfl
  have hNs : N.size = 3 := by rw [hN]; rfl
  have HN := Lib.hid hNs
  have HBD := Lib.hid (show ∀ w, (Instr.build 61 #[(0, .slice A3 n3 c3)]).run Tryd.prog w = .ok (.agg C6) w from fun w => by rw [← hC6.val]; exact run_build w 61 _ _ (by show Program.built _ _ _ = _; kernel_rfl))
  have H5 := Lib.hid (And.intro hr (And.intro hrd (And.intro b5 hC6)))
  clear hr hgr hrd b5 hN hNs hC6
  go_wp2_with (first
    | (with_reducible refine wpList_build_to (op := ⟨some 41, _, _, _, _, _⟩) rfl 61 _ rfl (.agg C6) _ (by simp [Act.eval]) (HBD.out _) ?_)
    | (with_reducible refine wpList_store_61 (o := ⟨none, _, _, _, _, _⟩) rfl (.tmp 15) (.tmp 41) rfl rfl w5.heap.size C6 rfl rfl N (Box.made _ _ _) HN.out H5.out.2.2.2.size H5.out.2.2.2.one ?_
       intro w6 b6 k6
       have H6 := Lib.hid (And.intro b6 k6)
       clear b6 k6)
    | fail)
  have h6b : Below w5.heap.size w5 w6 := (on_alloc w5 (.cells N 61)).trans (H6.out.2.below (by simp) (fun i hi e => by omega))
  obtain ⟨g7, hg7⟩ : ∃ g7, g7 = w5.heap.size := ⟨_, rfl⟩
  have hq6 := H6.out.1
  obtain ⟨Z, hZ⟩ : ∃ Z, Z = (cellsI zeros64).toArray := ⟨_, rfl⟩
  have hz23 : ∀ w, (zeroValue 23).run Tryd.prog w = .ok (.agg Z) w := fun w => by rw [hZ]; exact zero23 w
  have hZs : Z.size = 64 := by rw [hZ]; rfl
  have HZ := Lib.hid hZs
  have h7 := Rq.mk (w := w3) (H5.out.2.1.on h6b) hq6 H5.out.2.2.2 (Il.none w6) ⟨H5.out.1, by have := H5.out.2.2.1.size; omega⟩ (on_trans H5.out.2.2.1 h6b)
  rw [← hg7] at h7
  have H7 := Lib.hid (And.intro h7 (And.intro (H3.out.1.on (on_trans H5.out.2.2.1 h6b)) hg7))
  clear h6b h7 hq6 hg7 hZ hZs
  rw [← H7.out.2.2]
  go_loopw [2, 42] (fun p i wr => ∃ k pv s Al cl C, k ≤ 8 ∧ p = .int .i64 pv ∧ i = .int .i64 ((k : Nat) : Int) ∧ Rq w3 wr r gr g7 A3 n3 c3 l s Al cl C) (fun _ i _ => 8 - (intOf i).toNat)
  case atStart => exact ⟨0, prev, st0, none, 0, C6, Nat.zero_le _, rfl, rfl, H7.out.1⟩
  case round =>
    obtain ⟨k, pv, s, Al, cl, Ck, hk, rfl, rfl, hR⟩ := hrel
    have HR := Lib.hid hR
    clear hR
    by_cases hlt : k < 8
    · obtain ⟨R, hR⟩ : ∃ R, R = blockF (codes B V) (codes B' V') l s pv := ⟨_, rfl⟩
      obtain ⟨lo, hi, t1a, t1b, t1c⟩ := H3.out.2.2.1.t1
      obtain ⟨lo', hi', t2a, t2b, t2c⟩ := H3.out.2.2.1.t2
      have hsz := HR.out.bel.size
      have hrn := HR.out.new.1
      have htab := H3.out.1.on HR.out.bel
      have hz0 := H3.out.1.zero
      have HC := Lib.hid (getB_any wr lo hi t lo' hi' t' r gr B V B' V' l s pv htab (t1c.on HR.out.bel) H3.out.2.2.1.val.1 (t2c.on HR.out.bel) H3.out.2.2.1.val.2 HR.out.rd (.inr (by omega)) (.inr (by omega)) (by omega) (by omega) (by omega))
      have hQ := fun (w5 : World) (b : Below w3.heap.size w3 w5) (hI : Il w5 Al s.c cl (dig s.v s.c)) => refGetB_any w5 _ Ac nc cc Ac' nc' cc' B V B' V' A3 n3 c3 l s Al cl pv (H3.out.2.2.1.on b).c1 H3.out.2.2.1.few.1 (H3.out.2.2.1.on b).c2 H3.out.2.2.1.few.2 H3.out.2.2.1.val.1 H3.out.2.2.1.val.2 (H3.out.2.2.2.on7 b) hI HR.out.rd.ok (by omega)
      rw [← hR] at HC hQ
      rw [HR.out.rc.val] at hQ
      have hl64 : R.2.1.length = 64 := by rw [hR]; exact blockF_len _ _ _ _ _
      have HQ := Lib.hid hQ
      have HL := Lib.hid hl64
      clear hQ hR hz0 hrn hsz t1a t1b t1c t2a t2b t2c htab hl64
      go_wp2_with fail
      refine HC.out.mono ?_
      rintro e wa ⟨rfl, hra, ka⟩
      obtain ⟨hqa, hIa, ba⟩ := HR.out.mid ka
      have HA := Lib.hid (And.intro hra (And.intro ka (And.intro hqa (And.intro hIa ba))))
      clear hra ka hqa hIa ba
      obtain ⟨s1, b1, E⟩ := R
      dsimp only at HQ HA HL ⊢
      go_wp2_with (first
        | (with_reducible refine wpList_load_to (op := ⟨some 53, _, _, _, _, _⟩) rfl 61 (.tmp 15) rfl (.pointer (some ⟨g7, 0, none⟩)) rfl (.agg Ck) (load61 HB8.out.2.1 HR.out.rc.size) ?_)
        | ((with_reducible refine wpList_store_blk (o := ⟨none, _, _, _, _, _⟩) arr23_size rfl (.tmp 16) (.tmp 50) rfl rfl wa.heap.size b1 rfl rfl Z ?hg HZ.out HL.out ?_)
           case hg => exact Box.made _ _ _
           intro wb bb kb
           have HBK := Lib.hid (And.intro bb kb)
           have HB8 := Lib.hid (g8step HA.out.1 HA.out.2.2.1 HA.out.2.2.2.1 HA.out.2.2.2.2 HBK.out.1 HBK.out.2 HL.out)
           clear bb kb)
        | fail)
      refine (HQ.out wb HB8.out.2.2.2.2.1 HB8.out.2.2.2.1).mono ?_
      rintro e wd ⟨Al2, cl2, rfl, hI2, bd⟩
      dsimp only at hI2 ⊢
      obtain ⟨C1, hC1⟩ := rdC_made A3 n3 c3 s1 Al2 cl2
      rw [hC1.val]
      obtain ⟨xg, hxg⟩ : ∃ xg, xg = wa.heap.size := ⟨_, rfl⟩
      rw [← hxg] at HB8 ⊢
      have HD := Lib.hid (And.intro (HB8.out.1.on bd) (And.intro (HB8.out.2.1.on bd) (And.intro (HB8.out.2.2.1.on bd) (And.intro hI2 (And.intro (on_trans HB8.out.2.2.2.2.1 bd) hC1)))))
      clear hxg hI2 bd hC1
      go_wp2_with (first
        | ((with_reducible refine wpList_store_61 (o := ⟨none, _, _, _, _, _⟩) rfl (.tmp 18) (.tmp 58) rfl rfl wd.heap.size C1 rfl rfl N ?hg HN.out HD.out.2.2.2.2.2.size HD.out.2.2.2.2.2.one ?_)
           case hg => exact (Box.made wd 61 N).on (on_alloc _ _)
           intro we be ke
           have HE := Lib.hid (g18step be ke)
           clear be ke)
        | ((with_reducible refine wpList_store_blk (o := ⟨none, _, _, _, _, _⟩) arr23_size rfl (.tmp 19) (.tmp 59) rfl rfl (wd.heap.size + 1) b1 rfl rfl Z ?hg HZ.out HL.out ?_)
           case hg => exact HE.out.2.1
           intro wf bf kf
           have HF := Lib.hid (g19step HE.out bf kf HL.out)
           clear bf kf)
        | (with_reducible refine wpList_load_to (op := ⟨some 61, _, _, _, _, _⟩) rfl 61 (.tmp 18) rfl (.pointer (some ⟨wd.heap.size, 0, none⟩)) rfl (.agg C1) (load61 HF.out.1 HD.out.2.2.2.2.2.size) ?_)
        | ((with_reducible refine wpList_store_61 (o := ⟨none, _, _, _, _, _⟩) rfl (.tmp 15) (.tmp 61) rfl rfl g7 C1 rfl rfl Ck ?hg HR.out.rc.size HD.out.2.2.2.2.2.size HD.out.2.2.2.2.2.one ?_)
           case hg => exact HD.out.2.1.on HF.out.2.2
           intro wg bg kg
           have HG := Lib.hid (Rq.done (w := w3) (HD.out.2.1.on HF.out.2.2) bg kg HD.out.2.2.2.2.2 (HD.out.2.2.2.1.on HF.out.2.2) (HD.out.2.2.1.on HF.out.2.2) HR.out.new (on_trans HD.out.2.2.2.2.1 HF.out.2.2) (HD.out.1.on HF.out.2.2) HF.out.2.1)
           clear bg kg)
        | fail)
      have HX := Lib.hid (And.intro HG.out.2.1 HG.out.2.2)
      have q0 : Hid (Below wg.heap.size wg wg.drew) := Lib.hid (on_drew wg)
      obtain ⟨at1, hat⟩ : ∃ at1, at1 = (s1.at_ : Int) := ⟨_, rfl⟩
      have HAT := Lib.hid (show ∀ w', Below wg.heap.size wg w' → w'.cell? ⟨g7, 1, none⟩ = some (.int .i64 at1) from fun w' b => by rw [hat]; exact (HG.out.1.on b).at_)
      have HX0 := Lib.hid (show ∀ w', Below wg.heap.size wg w' → w'.cell? ⟨xg, 0, none⟩ = some (.int .i64 (b1.getD 0 0)) from fun w' b => (HX.out.1.on b).cell (by omega))
      have HTA := Lib.hid (fun w' (b : Below wg.heap.size wg w') => at_any w' r gr l s1 (HG.out.1.rd.on b))
      rw [← hat] at HTA
      clear hat
      refine wp_region_held_drew (S := fun w' => Hid (Below wg.heap.size wg w')) (by kernel_rfl) q0 fun q0 => ?_
      refine take_to (i := 0) (v := blkV b1) rfl (by kernel_rfl) (by kernel_rfl) (by kernel_rfl) (fun _ _ _ h => h) (yieldsIf_load (by rfl) 23 (.tmp 16) rfl (.pointer (some ⟨xg, 0, none⟩)) rfl (blkV b1) (fun w' h => (HX.out.1.on h.out).load)) q0 (some 62) rfl ?_
      try simp only [Act.put, List.setIfInBounds_toArray, List.set_cons_zero, List.set_cons_succ]
      refine take_to (i := 1) (v := blkV b1) rfl (by kernel_rfl) (by kernel_rfl) (by kernel_rfl) (fun _ _ _ h => h) (yieldsIf_load (by rfl) 23 (.tmp 19) rfl (.pointer (some ⟨wd.heap.size + 1, 0, none⟩)) rfl (blkV b1) (fun w' h => (HX.out.2.on h.out).load)) q0 (some 63) rfl ?_
      try simp only [Act.put, List.setIfInBounds_toArray, List.set_cons_zero, List.set_cons_succ]
      refine take_to (i := 2) (v := .bool false) rfl (by kernel_rfl) (by kernel_rfl) (by kernel_rfl) (fun _ _ _ h => h) (yieldsIf_neq23 (by rfl) (.tmp 62) (.tmp 63) rfl b1 HL.out rfl rfl) q0 (some 64) rfl ?_
      try simp only [Act.put, List.setIfInBounds_toArray, List.set_cons_zero, List.set_cons_succ]
      refine take_to (i := 3) (v := .bool false) rfl (by kernel_rfl) (by kernel_rfl) (by kernel_rfl) (fun _ _ _ h => h) (Or.inl ⟨by rfl, fun w' hS => by go_simp⟩) q0 (some 65) rfl ?_
      try simp only [Act.put, List.setIfInBounds_toArray, List.set_cons_zero, List.set_cons_succ]
      refine take_to (i := 4) (v := .int .i64 E) rfl (by kernel_rfl) (by kernel_rfl) (by kernel_rfl) (fun _ _ _ h => h) (Or.inl ⟨by rfl, fun w' hS => by go_simp⟩) q0 (some 66) rfl ?_
      try simp only [Act.put, List.setIfInBounds_toArray, List.set_cons_zero, List.set_cons_succ]
      refine take_to (i := 5) (v := .int .i64 E) rfl (by kernel_rfl) (by kernel_rfl) (by kernel_rfl) (fun _ _ _ h => h) (Or.inl ⟨by rfl, fun w' hS => by go_simp⟩) q0 (some 67) rfl ?_
      try simp only [Act.put, List.setIfInBounds_toArray, List.set_cons_zero, List.set_cons_succ]
      refine take_to (i := 6) (v := .bool false) rfl (by kernel_rfl) (by kernel_rfl) (by kernel_rfl) (fun _ _ _ h => h) (Or.inl ⟨by rfl, fun w' hS => by go_simp⟩) q0 (some 68) rfl ?_
      try simp only [Act.put, List.setIfInBounds_toArray, List.set_cons_zero, List.set_cons_succ]
      refine take_to (i := 7) (v := .bool false) rfl (by kernel_rfl) (by kernel_rfl) (by kernel_rfl) (fun _ _ _ h => h) (Or.inl ⟨by rfl, fun w' hS => by go_simp⟩) q0 (some 69) rfl ?_
      try simp only [Act.put, List.setIfInBounds_toArray, List.set_cons_zero, List.set_cons_succ]
      refine take_to (i := 8) (v := .bool false) rfl (by kernel_rfl) (by kernel_rfl) (by kernel_rfl) (fun _ _ _ h => h) (Or.inl ⟨by rfl, fun w' hS => by go_simp⟩) q0 (some 70) rfl ?_
      try simp only [Act.put, List.setIfInBounds_toArray, List.set_cons_zero, List.set_cons_succ]
      refine take_to (i := 9) (v := .pointer (some ⟨r, 0, none⟩)) rfl (by kernel_rfl) (by kernel_rfl) (by kernel_rfl) (fun _ _ _ h => h) (Or.inl ⟨by rfl, fun w' hS => by go_simp⟩) q0 (some 71) rfl ?_
      try simp only [Act.put, List.setIfInBounds_toArray, List.set_cons_zero, List.set_cons_succ]
      refine take_to (i := 11) (v := .pointer (some ⟨g7, 1, none⟩)) rfl (by kernel_rfl) (by kernel_rfl) (by kernel_rfl) (fun _ _ _ h => h) (Or.inl ⟨by rfl, fun w' hS => by go_simp⟩) q0 (some 73) rfl ?_
      try simp only [Act.put, List.setIfInBounds_toArray, List.set_cons_zero, List.set_cons_succ]
      refine take_to (i := 12) (v := .int .i64 at1) rfl (by kernel_rfl) (by kernel_rfl) (by kernel_rfl) (fun _ _ _ h => h) (Or.inl ⟨by rfl, fun w' hS => by have := HAT.out w' hS.out; go_simp⟩) q0 (some 74) rfl ?_
      try simp only [Act.put, List.setIfInBounds_toArray, List.set_cons_zero, List.set_cons_succ]
      refine wpAnyH_ready (rs := [10]) (by kernel_rfl) (by simp) ?_
      refine AllReadyH.cons rfl (fun K hK => ?_) AllReadyH.nil
      rw [if_pos (by rfl)]
      go_simp
      refine (HTA.out _ q0.out).mono ?_
      rintro e w8 ⟨rfl, b8⟩
      have q8 : Hid (Below wg.heap.size wg w8) := Lib.hid (on_trans q0.out b8)
      clear b8
      refine hK.out _ _ q8 fun _ => ?_
      clear hK K
      try simp only [Act.put, List.setIfInBounds_toArray, List.set_cons_zero, List.set_cons_succ]
      refine take_to (i := 13) (v := .bool false) rfl (by kernel_rfl) (by kernel_rfl) (by kernel_rfl) (fun _ _ _ h => h) (Or.inl ⟨by rfl, fun w' hS => by go_simp⟩) q8 (some 75) rfl ?_
      try simp only [Act.put, List.setIfInBounds_toArray, List.set_cons_zero, List.set_cons_succ]
      refine take_to (i := 14) (v := .bool false) rfl (by kernel_rfl) (by kernel_rfl) (by kernel_rfl) (fun _ _ _ h => h) (Or.inl ⟨by rfl, fun w' hS => by go_simp⟩) q8 (some 76) rfl ?_
      try simp only [Act.put, List.setIfInBounds_toArray, List.set_cons_zero, List.set_cons_succ]
      refine wpAnyH_done (by kernel_rfl) ?_ _
      have H8 := Lib.hid (HG.out.1.on q8.out)
      have x0 := HX0.out w8 q8.out
      go_wp2_with fail
      go_roundw
      case rel => exact ⟨k + 1, _, s1, _, _, _, by omega, rfl, by go_num, H8.out⟩
      case measure => simp [intOf]; omega
    · go_wp2_with fail
      refine (awake7_any wr (H3.out.1.on HR.out.bel)).mono ?_
      rintro e w9 ⟨rfl, b9⟩
      have F9 := Lib.hid (on_trans (on_trans H3.out.2.1 HR.out.bel) b9)
      clear b9
      go_wp2
      go_ret
      exact ⟨rfl, F9.out⟩
end
end Go.Proofs.YthfpdebpepbejaaDoor
