/-
  The contract of the reference's Tables.
-/
import Derived.Test.YtgipngedmblnmaaDoorWTabs
namespace Go.Proofs.YtgipngedmblnmaaDoor
open Go.RowKit

theorem segB_app {a b : List Int} (m : Int) : (a ++ segB m b).length = a.length + (b.length + 4) := by rw [List.length_append, segB_len]
open Classical in
set_option maxRecDepth 10000 in
set_option maxHeartbeats 12800000 in
theorem refTables_any (w : World) (T : Tb) (X : Nat → Value) (col : Bool) (hW : Wt T) (hX : ∀ j, j < 4 → ∃ A n c, X j = .slice A n c ∧ Ia w A n c (T.V j)) (hfew : ∀ j, j < 4 → (T.V j).length ≤ 5000) :
    Calls Tryd.prog 12 #[tbV T X, .bool col] w (TellsY w (tablesF T (if col then 2 else 1)).1 (tablesF T (if col then 2 else 1)).2) := by
  obtain ⟨C, hC⟩ : ∃ C, C = (tbC T X).toArray := ⟨_, rfl⟩
  have eC : tbV T X = .agg C := by rw [hC]; rfl
  rw [eC]
  obtain ⟨nn, hnn⟩ : ∃ nn, nn = (if col then 2 else 1 : Nat) := ⟨_, rfl⟩
  rw [← hnn]
  have hnn2 : nn ≤ 2 := by rw [hnn]; split <;> omega
  obtain ⟨R, hR⟩ : ∃ R, R = tablesF T nn := ⟨_, rfl⟩
  rw [← hR]
  obtain ⟨gt, hgt⟩ : ∃ gt, gt = w.heap.size := ⟨_, rfl⟩
  obtain ⟨w1, hw1⟩ : ∃ x, w.alloc (.cells C 31) = x := ⟨_, rfl⟩
  have b1 : Box w1 gt 31 (tbC T X).toArray := by rw [hgt, ← hw1, hC]; exact Box.made _ _ _
  have k1 : Below w.heap.size w w1 := by rw [← hw1]; exact on_alloc _ _
  have H1 := Lib.hid (And.intro hw1 (And.intro hgt (show Tst w w1 T X gt 0 (.slice none 0 0) (.slice none 0 0) 0 0 from ⟨World.ownsRow_nil _ _ _ _, World.ownsRow_nil _ _ _ _, (fun i hi => by cases hi), b1, k1, (fun i hi => absurd hi (by omega)), by omega, by omega⟩)))
  have HT := Lib.hid (And.intro hW (And.intro hX (And.intro hfew hR)))
  clear eC hC hgt hw1 b1 k1 hW hX hfew hR
  go_enter Tryd.func12, Tryd.ntmps12
  have hc6 : (if col then (2 : Int) else 1) = (nn : Int) := by rw [hnn]; cases col <;> rfl
  rcases (show (col = true ∧ nn = 2) ∨ (col = false ∧ nn = 1) by rw [hnn]; cases col <;> simp) with ⟨rfl, rfl⟩ | ⟨rfl, rfl⟩
  · clear hnn hc6 hnn2
    go_wp2_with fail
    rw [H1.out.1, ← H1.out.2.1]
    go_loopw [7, 8, 9] (fun uq uh i wr => ∃ (k nq nh : Nat) (Aq Ah : Option Addr) (cq ch : Nat), k ≤ 2 ∧ uq = .slice Aq nq cq ∧ uh = .slice Ah nh ch ∧ i = .int .i64 ((k : Nat) : Int) ∧ Tst w wr T X gt k (.slice Aq nq cq) (.slice Ah nh ch) nq nh) (fun _ _ i _ => 2 - (intOf i).toNat)
    case atStart => exact ⟨0, 0, 0, none, none, 0, 0, by omega, rfl, rfl, rfl, H1.out.2.2⟩
    case round =>
      obtain ⟨k, nq, nh, Aq, Ah, cq, ch, hk, rfl, rfl, rfl, hS⟩ := hrel
      have HS := Lib.hid hS
      clear hS
      by_cases hkn : k < 2
      · have hst := HT.out.1.st k (by omega)
        have hsb1 := HT.out.1.sb k (by omega)
        have hsb2 := HT.out.1.sb (2 + k) (by omega)
        obtain ⟨A1, n1, c1, ex1, ia1⟩ := HT.out.2.1 k (by omega)
        obtain ⟨A2, n2, c2, ex2, ia2⟩ := HT.out.2.1 (2 + k) (by omega)
        have hf1 := HT.out.2.2.1 k (by omega)
        have hf2 := HT.out.2.2.1 (2 + k) (by omega)
        rw [ia1.len] at hf1
        rw [ia2.len] at hf2
        obtain ⟨Vt, hVt⟩ : ∃ V, V = blkV (T.t k) := ⟨_, rfl⟩
        obtain ⟨V1, hV1⟩ : ∃ V, V = specV (T.B k) (.slice A1 n1 c1) := ⟨_, rfl⟩
        obtain ⟨V2, hV2⟩ : ∃ V, V = specV (T.B (2 + k)) (.slice A2 n2 c2) := ⟨_, rfl⟩
        have HF := Lib.hid (And.intro (And.intro hst (And.intro hsb1 hsb2)) (And.intro (And.intro ia1 ia2) (And.intro (And.intro hf1 hf2) (And.intro (And.intro ex1 ex2) (And.intro hVt (And.intro hV1 hV2))))))
        have hkn' : (k : Int) < 2 := by omega
        have hk2 : (k : Int) < 2 := by omega
        have q1 : 128 + k * 17 = 128 + 17 * k := by omega
        have q2 : 162 + k * 17 = 128 + 17 * (2 + k) := by omega
        have q3 : k * 64 = 64 * k := by omega
        have HL1 := Lib.hid (fun (w' : World) (h : Box w' gt 31 (tbC T X).toArray) => (show (Instr.loadAt 23 (.pointer (some ⟨gt, 64 * k, none⟩))).run Tryd.prog w' = .ok Vt w' by rw [HF.out.2.2.2.2.1]; exact (h.tb).loadT HT.out.1 (by omega)))
        have HL2 := Lib.hid (fun (w' : World) (h : Box w' gt 31 (tbC T X).toArray) => (show (Instr.loadAt 28 (.pointer (some ⟨gt, 128 + 17 * k, none⟩))).run Tryd.prog w' = .ok V1 w' by rw [HF.out.2.2.2.2.2.1, ← HF.out.2.2.2.1.1]; exact (h.tb).loadS HT.out.1 (by omega)))
        have HL3 := Lib.hid (fun (w' : World) (h : Box w' gt 31 (tbC T X).toArray) => (show (Instr.loadAt 28 (.pointer (some ⟨gt, 128 + 17 * (2 + k), none⟩))).run Tryd.prog w' = .ok V2 w' by rw [HF.out.2.2.2.2.2.2, ← HF.out.2.2.2.1.2]; exact (h.tb).loadS HT.out.1 (by omega)))
        have hr1 := in_any wr (T.t k) hst
        rw [← hVt] at hr1
        have HR1 := Lib.hid hr1
        clear hst hsb1 hsb2 ex1 ex2 ia1 ia2 hf1 hf2 hVt hV1 hV2 hr1
        go_wp2_with (first
          | (with_reducible refine wpList_load_to (op := ⟨some 20, _, _, _, _, _⟩) rfl 23 (.tmp 19) rfl (.pointer (some ⟨gt, 64 * k, none⟩)) rfl Vt (HL1.out _ HS.out.box) ?_)
          | fail)
        refine Calls.mono HR1.out ?_
        rintro e w2 ⟨rfl, b2⟩
        have S2 := Lib.hid (HS.out.on b2)
        clear b2 HR1
        by_cases hok : ¬ StepOk (T.t k)
        · rw [decide_eq_false hok]
          have HRn := Lib.hid (show R = ([], 1) by rw [HT.out.2.2.2]; exact tablesF_no (fun h => hok (h k hkn).1))
          go_wp2_with fail
          go_ret2
          rw [HRn.out]
          exact ⟨none, 0, rfl, sl_nil _ _, S2.out.bel⟩
        have hok' : StepOk (T.t k) := by simpa using hok
        rw [decide_eq_true hok']
        have Hok := Lib.hid hok'
        clear hok hok'
        go_wp2_with (first
          | (refine wpList_load_when (op := ⟨some 27, _, _, _, _, _⟩) (by rfl) 28 (.tmp 26) rfl (.pointer (some ⟨gt, 128 + 17 * k, none⟩)) rfl V1 (HL2.out _ S2.out.box) ?_)
          | fail)
        have hr2 := may_any w2 (T.B k) (T.V k) A1 n1 c1 HF.out.1.2.1 (HF.out.2.1.1.on S2.out.bel)
        rw [← HF.out.2.2.2.2.2.1] at hr2
        refine Calls.mono hr2 ?_
        rintro e w3 ⟨rfl, b3⟩
        have S3 := Lib.hid (S2.out.on b3)
        clear b3 hr2
        by_cases hv : ¬ Valid (T.B k) (T.V k)
        · rw [decide_eq_false hv]
          have HRn := Lib.hid (show R = ([], 1) by rw [HT.out.2.2.2]; exact tablesF_no (fun h => hv (h k hkn).2.1))
          go_wp2_with fail
          go_ret2
          rw [HRn.out]
          exact ⟨none, 0, rfl, sl_nil _ _, S3.out.bel⟩
        have hv' : Valid (T.B k) (T.V k) := by simpa using hv
        rw [decide_eq_true hv']
        have Hv := Lib.hid hv'
        clear hv hv'
        go_wp2_with (first
          | (refine wpList_load_when (op := ⟨some 35, _, _, _, _, _⟩) (by rfl) 28 (.tmp 34) rfl (.pointer (some ⟨gt, 128 + 17 * (2 + k), none⟩)) rfl V2 (HL3.out _ S3.out.box) ?_)
          | fail)
        have hr3 := may_any w3 (T.B (2 + k)) (T.V (2 + k)) A2 n2 c2 HF.out.1.2.2 (HF.out.2.1.2.on S3.out.bel)
        rw [← HF.out.2.2.2.2.2.2] at hr3
        refine Calls.mono hr3 ?_
        rintro e w4 ⟨rfl, b4⟩
        have S4 := Lib.hid (S3.out.on b4)
        clear b4 hr3
        by_cases hv : ¬ Valid (T.B (2 + k)) (T.V (2 + k))
        · rw [decide_eq_false hv]
          have HRn := Lib.hid (show R = ([], 1) by rw [HT.out.2.2.2]; exact tablesF_no (fun h => hv (h k hkn).2.2))
          go_wp2_with fail
          go_ret2
          rw [HRn.out]
          exact ⟨none, 0, rfl, sl_nil _ _, S4.out.bel⟩
        have hv' : Valid (T.B (2 + k)) (T.V (2 + k)) := by simpa using hv
        rw [decide_eq_true hv']
        have Hv2 := Lib.hid hv'
        clear hv hv'
        have had := steps_any w4 (k : Int) (T.t k) (by omega) (by omega) HF.out.1.1
        rw [← HF.out.2.2.2.2.1] at had
        have HAd := Lib.hid had
        clear had
        go_wp2_with (first
          | (with_reducible refine wpList_load_to (op := ⟨some 44, _, _, _, _, _⟩) rfl 23 (.tmp 43) rfl (.pointer (some ⟨gt, 64 * k, none⟩)) rfl Vt (HL1.out _ S4.out.box) ?_)
          | fail)
        refine Calls.mono HAd.out ?_
        rintro e w5 ⟨A5, c5, rfl, s5, b5⟩
        rw [stepsB_len] at s5 ⊢
        have S5 := Lib.hid (And.intro (S4.out.on b5) s5)
        clear b5 s5 HAd
        go_wp2_with (first
          | ((with_reducible refine wpList_append_z (o := ⟨some 46, _, _, _, _, _⟩) rfl (.tmp 39) (.tmp 45) rfl w.heap.size (.slice Aq nq cq) nq (qB T k) rfl S5.out.1.q _ A5 65 c5 (stepsB (k : Int) (T.t k)) rfl S5.out.2 ?hs S5.out.1.bel.size ?_)
             case hs => have := S5.out.1.bq; omega
             intro v6 w6 g6
             obtain ⟨h6, a6⟩ := g6.pair S5.out.1.h S5.out.1.ap
             obtain ⟨A6, c6, hv6⟩ := g6.val
             subst hv6
             have bel6 : Below w.heap.size w w6 := S5.out.1.bel.trans (g6.lo S5.out.1.q S5.out.1.bel.size)
             have box6 := g6.box S5.out.1.q S5.out.1.box (by decide)
             have own6 := g6.own
             rw [← qB_more] at own6
             have H6 := Lib.hid (And.intro own6 (And.intro h6 (And.intro a6 (And.intro bel6 box6))))
             have hsp := spec_any w6 (k : Int) (T.B k) (T.V k) A1 n1 c1 (by omega) (by omega) HF.out.1.2.1 (HF.out.2.1.1.on bel6) (by have := HF.out.2.2.1.1; omega)
             rw [← HF.out.2.2.2.2.2.1] at hsp
             have HSp := Lib.hid hsp
             clear g6 h6 a6 bel6 box6 own6 hsp)
          | (with_reducible refine wpList_load_to (op := ⟨some 52, _, _, _, _, _⟩) rfl 28 (.tmp 51) rfl (.pointer (some ⟨gt, 128 + 17 * k, none⟩)) rfl V1 (HL2.out _ H6.out.2.2.2.2) ?_)
          | fail)
        refine Calls.mono HSp.out ?_
        rintro e w7 ⟨A7, c7, rfl, s7, b7⟩
        obtain ⟨m7, hm7⟩ : ∃ m, m = (specB (k : Int) (T.B k) (T.V k)).length := ⟨_, rfl⟩
        rw [← hm7] at s7 ⊢
        have hm7' : m7 = 17 + n1 := by rw [hm7, specB_len, HF.out.1.2.1, HF.out.2.1.1.len]; omega
        have own7 := own_on H6.out.1 b7
        have ownh7 := own_on H6.out.2.1 b7
        have H7 := Lib.hid (And.intro (And.intro own7 ownh7) (And.intro H6.out.2.2.1 (And.intro (on_trans H6.out.2.2.2.1 b7) (And.intro (H6.out.2.2.2.2.on b7) (And.intro s7 hm7')))))
        clear own7 ownh7 b7 s7 hm7 hm7' HSp H6
        go_wp2_with (first
          | ((with_reducible refine wpList_append_z (o := ⟨some 54, _, _, _, _, _⟩) rfl (.tmp 47) (.tmp 53) rfl w.heap.size (.slice Ah nh ch) nh (hB T k) rfl H7.out.1.2 _ A7 m7 c7 (specB (k : Int) (T.B k) (T.V k)) rfl H7.out.2.2.2.2.1 ?hs H7.out.2.2.1.size ?_)
             case hs => have := S5.out.1.bh; have := H7.out.2.2.2.2.2; have := HF.out.2.2.1; omega
             intro v8 w8 g8
             obtain ⟨q8, a8⟩ := g8.pair H7.out.1.1 H7.out.2.1.symm
             obtain ⟨A8, c8, hv8⟩ := g8.val
             subst hv8
             have bel8 : Below w.heap.size w w8 := H7.out.2.2.1.trans (g8.lo H7.out.1.2 H7.out.2.2.1.size)
             have box8 := g8.box H7.out.1.2 H7.out.2.2.2.1 (by decide)
             have H8 := Lib.hid (And.intro q8 (And.intro g8.own (And.intro a8 (And.intro bel8 box8))))
             have hsp := spec_any w8 (16 + (k : Int)) (T.B (2 + k)) (T.V (2 + k)) A2 n2 c2 (by omega) (by omega) HF.out.1.2.2 (HF.out.2.1.2.on bel8) (by have := HF.out.2.2.1.2; omega)
             rw [← HF.out.2.2.2.2.2.2] at hsp
             have HSp := Lib.hid hsp
             clear g8 q8 a8 bel8 box8 hsp)
          | (with_reducible refine wpList_load_to (op := ⟨some 61, _, _, _, _, _⟩) rfl 28 (.tmp 60) rfl (.pointer (some ⟨gt, 128 + 17 * (2 + k), none⟩)) rfl V2 (HL3.out _ H8.out.2.2.2.2) ?_)
          | fail)
        refine Calls.mono HSp.out ?_
        rintro e w9 ⟨A9, c9, rfl, s9, b9⟩
        obtain ⟨m9, hm9⟩ : ∃ m, m = (specB (16 + (k : Int)) (T.B (2 + k)) (T.V (2 + k))).length := ⟨_, rfl⟩
        rw [← hm9] at s9 ⊢
        have hm9' : m9 = 17 + n2 := by rw [hm9, specB_len, HF.out.1.2.2, HF.out.2.1.2.len]; omega
        have own9 := own_on H8.out.1 b9
        have ownh9 := own_on H8.out.2.1 b9
        have H9 := Lib.hid (And.intro (And.intro own9 ownh9) (And.intro H8.out.2.2.1 (And.intro (on_trans H8.out.2.2.2.1 b9) (And.intro (H8.out.2.2.2.2.on b9) (And.intro s9 hm9')))))
        have HBd := Lib.hid (show nh + m7 + m9 ≤ 20000 * (k + 1) by have := S5.out.1.bh; have := H7.out.2.2.2.2.2; have := HF.out.2.2.1; omega)
        clear own9 ownh9 b9 s9 hm9 hm9' HSp H8
        go_wp2_with (first
          | ((with_reducible refine wpList_append_z (o := ⟨some 63, _, _, _, _, _⟩) rfl (.tmp 55) (.tmp 62) rfl w.heap.size (.slice A8 (nh + m7) c8) (nh + m7) (hB T k ++ specB (k : Int) (T.B k) (T.V k)) rfl H9.out.1.2 _ A9 m9 c9 (specB (16 + (k : Int)) (T.B (2 + k)) (T.V (2 + k))) rfl H9.out.2.2.2.2.1 ?hs H9.out.2.2.1.size ?_)
             case hs => have := HBd.out; omega
             intro v10 w10 g10
             obtain ⟨q10, a10⟩ := g10.pair H9.out.1.1 H9.out.2.1
             obtain ⟨A10, c10, hv10⟩ := g10.val
             subst hv10
             have own10 := g10.own
             rw [List.append_assoc, ← hB_more] at own10
             have H10 := Lib.hid (show Tst w w10 T X gt (k + 1) (.slice A6 (nq + 65) c6) (.slice A10 (nh + m7 + m9) c10) (nq + 65) (nh + m7 + m9) from
               ⟨q10, own10, a10.symm, g10.box H9.out.1.2 H9.out.2.2.2.1 (by decide), H9.out.2.2.1.trans (g10.lo H9.out.1.2 H9.out.2.2.1.size), S5.out.1.ok.more Hok.out Hv.out Hv2.out, by have := S5.out.1.bq; omega, HBd.out⟩)
             clear g10 q10 a10 own10)
          | fail)
        go_roundw
        case rel => exact ⟨k + 1, _, _, _, _, _, _, by omega, rfl, rfl, by go_num, H10.out⟩
        case measure => simp [intOf]; omega
      · have ek : k = 2 := by omega
        have hS := HS.out
        rw [ek] at hS
        have HE := Lib.hid hS
        have hRn : R = (tablesB T 2, 0) := by rw [HT.out.2.2.2]; exact tablesF_yes hS.ok
        have HRn := Lib.hid hRn
        have hnq := own_len hS.q
        have hnh := own_len hS.h
        obtain ⟨Aq', cq', eq', sq⟩ := sl_of_own' hS.q (qB_fit T 2 (by omega))
        obtain ⟨Ah', ch', eh', sh⟩ := sl_of_own' hS.h (hB_fit T 2 (by omega))
        cases eq'
        cases eh'
        obtain ⟨gl, hgl⟩ : ∃ gl, gl = wr.heap.size := ⟨_, rfl⟩
        obtain ⟨w2, hw2⟩ : ∃ x, wr.alloc (.cells #[.int .u8 255, .int .u8 216] 5) = x := ⟨_, rfl⟩
        have bl : Box w2 gl 5 (cellsOf [255, 216]).toArray := by rw [hgl, ← hw2]; exact Box.made _ _ _
        have k2 : Below wr.heap.size wr w2 := by rw [← hw2]; exact on_alloc _ _
        have hS2 := hS.on k2
        have ol : w2.ownsRow w.heap.size 5 1 (.slice (some ⟨gl, 0, none⟩) 2 2) 2 (cellsOf [255, 216]) := own_of_box bl rfl (by rw [hgl]; exact hS.bel.size) (by decide)
        have hq2 : nq ≤ 200 := by have := hS.bq; omega
        have hh2 : nh ≤ 50000 := by have := hS.bh; omega
        have HP1 := Lib.hid (put_any w2 _ 219 Aq nq cq (qB T 2) (sq.kept (Kept.of_below k2 (fun _ => False)) (fun _ _ e => e)) (by omega) (by omega) (by omega))
        have H2 := Lib.hid (And.intro hw2 (And.intro hgl (And.intro hS2 (And.intro ol (And.intro (sh.kept (Kept.of_below k2 (fun _ => False)) (fun _ _ e => e)) (And.intro hnq hnh))))))
        clear ek hS hRn hnq hnh sq sh hgl hw2 bl k2 hS2 ol
        go_wp2_with fail
        rw [H2.out.1, ← H2.out.2.1]
        refine Calls.mono HP1.out ?_
        rintro e w3 ⟨A3, c3, rfl, s3, b3⟩
        obtain ⟨m3, hm3⟩ : ∃ m, m = (segB 219 (qB T 2)).length := ⟨_, rfl⟩
        rw [← hm3] at s3 ⊢
        rw [segB_len, H2.out.2.2.2.2.2.1] at hm3
        have H3 := Lib.hid (And.intro (own_on H2.out.2.2.2.1 b3) (And.intro s3 (And.intro (H2.out.2.2.2.2.1.kept (Kept.of_below b3 (fun _ => False)) (fun _ _ e => e)) (And.intro (on_trans H2.out.2.2.1.bel b3) (And.intro hm3 (show ∀ i, (Value.slice (some ⟨gl, 0, none⟩) 2 2).ownBlock = some i → (Value.slice Ah nh ch).ownBlock ≠ some i from fun i hi e => by
          obtain ⟨_, cs, hh⟩ := own_block3 HE.out.h e
          have := (Array.getElem?_eq_some_iff.1 hh).1
          have h3 : gl = i := by injection hi
          have := H2.out.2.1
          omega))))))
        clear hm3 s3 b3 HP1
        go_wp2_with (first
          | ((with_reducible refine wpList_append_z (o := ⟨some 67, _, _, _, _, _⟩) rfl (.tmp 64) (.tmp 66) rfl w.heap.size (.slice (some ⟨gl, 0, none⟩) 2 2) 2 [255, 216] rfl H3.out.1 _ A3 m3 c3 (segB 219 (qB T 2)) rfl H3.out.2.1 ?hs H3.out.2.2.2.1.size ?_)
             case hs => have := H3.out.2.2.2.2.1; omega
             intro v4 w4 g4
             obtain ⟨A4, c4, hv4⟩ := g4.val
             subst hv4
             have bel4 := H3.out.2.2.2.1.trans (g4.lo H3.out.1 H3.out.2.2.2.1.size)
             have sh4 := (H3.out.2.2.1).kept g4.kep (fun b hb e => H3.out.2.2.2.2.2 b e hb)
             have HP2 := Lib.hid (put_any w4 _ 196 Ah nh ch (hB T 2) sh4 (by omega) (by omega) (by omega))
             have H4 := Lib.hid (And.intro g4.own bel4)
             clear g4 bel4 sh4)
          | fail)
        refine Calls.mono HP2.out ?_
        rintro e w5 ⟨A5, c5, rfl, s5, b5⟩
        obtain ⟨m5, hm5⟩ : ∃ m, m = (segB 196 (hB T 2)).length := ⟨_, rfl⟩
        rw [← hm5] at s5 ⊢
        rw [segB_len, H2.out.2.2.2.2.2.2] at hm5
        obtain ⟨m4, hm4⟩ : ∃ m, m = 2 + m3 := ⟨_, rfl⟩
        have hl4 : m4 ≤ 1000 := by have := H3.out.2.2.2.2.1; omega
        have own5 := own_on H4.out.1 b5
        rw [← hm4] at own5 ⊢
        have H5 := Lib.hid (And.intro own5 (And.intro s5 (And.intro (on_trans H4.out.2 b5) (And.intro hm5 (And.intro hm4 hl4)))))
        clear hm5 hm4 s5 b5 HP2 own5
        go_wp2_with (first
          | ((with_reducible refine wpList_append_z (o := ⟨some 71, _, _, _, _, _⟩) rfl (.tmp 68) (.tmp 70) rfl w.heap.size (.slice A4 m4 c4) m4 ([255, 216] ++ segB 219 (qB T 2)) rfl H5.out.1 _ A5 m5 c5 (segB 196 (hB T 2)) rfl H5.out.2.1 ?hs H5.out.2.2.1.size ?_)
             case hs => have := H5.out.2.2.2.1; omega
             intro v6 w6 g6
             obtain ⟨A6, c6, hv6⟩ := g6.val
             subst hv6
             have bel6 := H5.out.2.2.1.trans (g6.lo H5.out.1 H5.out.2.2.1.size)
             obtain ⟨m6, hm6⟩ : ∃ m, m = m4 + m5 := ⟨_, rfl⟩
             have own6 := g6.own
             rw [← hm6] at own6 ⊢
             obtain ⟨w7, hw7⟩ : ∃ x, w6.alloc (.cells #[.int .u8 255, .int .u8 217] 5) = x := ⟨_, rfl⟩
             have s7 : Sl w7 (fun b => b = w6.heap.size) (some ⟨w6.heap.size, 0, none⟩) 2 2 [255, 217] := by rw [← hw7]; exact sl_lit w6 [255, 217] (by unfold Fit; decide) (by decide)
             have k7 : Below w6.heap.size w6 w7 := by rw [← hw7]; exact on_alloc _ _
             have H7 := Lib.hid (And.intro hw7 (And.intro s7 (And.intro (on_trans bel6 k7) (And.intro (own_on own6 k7) (And.intro hm6 (show w.heap.size ≤ w7.heap.size from Nat.le_trans bel6.size k7.size))))))
             have hm6b : m6 + 2 ≤ 140737488351232 := by have := H5.out.2.2.2.1; omega
             clear g6 bel6 own6 hw7 s7 k7 hm6)
          | ((with_reducible refine wpList_append_z (o := ⟨some 74, _, _, _, _, _⟩) rfl (.tmp 72) (.tmp 73) rfl w.heap.size (.slice A6 m6 c6) m6 ([255, 216] ++ segB 219 (qB T 2) ++ segB 196 (hB T 2)) rfl ?hown (fun b => b = w6.heap.size) (some ⟨w6.heap.size, 0, none⟩) 2 2 [255, 217] rfl ?hr ?hs ?hb ?_)
             case hown => rw [H7.out.1]; exact H7.out.2.2.2.1
             case hr => rw [H7.out.1]; exact H7.out.2.1
             case hs => exact hm6b
             case hb => rw [H7.out.1]; exact H7.out.2.2.2.2.2
             intro v8 w8 hg8
             rw [H7.out.1] at hg8
             obtain ⟨A8, c8, hv8⟩ := hg8.val
             subst hv8
             have H8 := Lib.hid hg8
             clear hg8)
          | fail)
        go_ret2
        rw [HRn.out]
        have hf7 : Fit ([255, 216] ++ segB 219 (qB T 2) ++ segB 196 (hB T 2)) := fit_app (fit_app (by unfold Fit; decide) (fit_seg (by omega) (by omega) (qB_fit T 2 (by omega)))) (fit_seg (by omega) (by omega) (hB_fit T 2 (by omega)))
        obtain ⟨Af, cf, ef, sf⟩ := sl_of_own H8.out.own (fit_app hf7 (by unfold Fit; decide))
        cases ef
        have el : ([255, 216] ++ segB 219 (qB T 2) ++ segB 196 (hB T 2) ++ [255, 217]).length = m6 + 2 := by
          rw [List.length_append, List.length_append, List.length_append, segB_len, segB_len, H2.out.2.2.2.2.2.1, H2.out.2.2.2.2.2.2]
          show 2 + (nq + 4) + (nh + 4) + 2 = _
          have := H3.out.2.2.2.2.1
          have := H5.out.2.2.2
          have := H7.out.2.2.2.2.1
          omega
        refine ⟨A8, c8, ?_, ?_, H7.out.2.2.1.trans (H8.out.lo H7.out.2.2.2.1 H7.out.2.2.2.2.2)⟩
        · show _ = Ending.returned (.tuple #[.slice A8 (tablesB T 2).length c8, .int .i64 0])
          rw [show (tablesB T 2).length = m6 + 2 from el]
          rfl
        · show Sl w8 _ A8 (tablesB T 2).length c8 (tablesB T 2)
          rw [show (tablesB T 2).length = m6 + 2 from el]
          exact sf
  · clear hnn hc6 hnn2
    go_wp2_with fail
    rw [H1.out.1, ← H1.out.2.1]
    go_loopw [7, 8, 9] (fun uq uh i wr => ∃ (k nq nh : Nat) (Aq Ah : Option Addr) (cq ch : Nat), k ≤ 1 ∧ uq = .slice Aq nq cq ∧ uh = .slice Ah nh ch ∧ i = .int .i64 ((k : Nat) : Int) ∧ Tst w wr T X gt k (.slice Aq nq cq) (.slice Ah nh ch) nq nh) (fun _ _ i _ => 1 - (intOf i).toNat)
    case atStart => exact ⟨0, 0, 0, none, none, 0, 0, by omega, rfl, rfl, rfl, H1.out.2.2⟩
    case round =>
      obtain ⟨k, nq, nh, Aq, Ah, cq, ch, hk, rfl, rfl, rfl, hS⟩ := hrel
      have HS := Lib.hid hS
      clear hS
      by_cases hkn : k < 1
      · have hst := HT.out.1.st k (by omega)
        have hsb1 := HT.out.1.sb k (by omega)
        have hsb2 := HT.out.1.sb (2 + k) (by omega)
        obtain ⟨A1, n1, c1, ex1, ia1⟩ := HT.out.2.1 k (by omega)
        obtain ⟨A2, n2, c2, ex2, ia2⟩ := HT.out.2.1 (2 + k) (by omega)
        have hf1 := HT.out.2.2.1 k (by omega)
        have hf2 := HT.out.2.2.1 (2 + k) (by omega)
        rw [ia1.len] at hf1
        rw [ia2.len] at hf2
        obtain ⟨Vt, hVt⟩ : ∃ V, V = blkV (T.t k) := ⟨_, rfl⟩
        obtain ⟨V1, hV1⟩ : ∃ V, V = specV (T.B k) (.slice A1 n1 c1) := ⟨_, rfl⟩
        obtain ⟨V2, hV2⟩ : ∃ V, V = specV (T.B (2 + k)) (.slice A2 n2 c2) := ⟨_, rfl⟩
        have HF := Lib.hid (And.intro (And.intro hst (And.intro hsb1 hsb2)) (And.intro (And.intro ia1 ia2) (And.intro (And.intro hf1 hf2) (And.intro (And.intro ex1 ex2) (And.intro hVt (And.intro hV1 hV2))))))
        have hkn' : (k : Int) < 1 := by omega
        have hk2 : (k : Int) < 2 := by omega
        have q1 : 128 + k * 17 = 128 + 17 * k := by omega
        have q2 : 162 + k * 17 = 128 + 17 * (2 + k) := by omega
        have q3 : k * 64 = 64 * k := by omega
        have HL1 := Lib.hid (fun (w' : World) (h : Box w' gt 31 (tbC T X).toArray) => (show (Instr.loadAt 23 (.pointer (some ⟨gt, 64 * k, none⟩))).run Tryd.prog w' = .ok Vt w' by rw [HF.out.2.2.2.2.1]; exact (h.tb).loadT HT.out.1 (by omega)))
        have HL2 := Lib.hid (fun (w' : World) (h : Box w' gt 31 (tbC T X).toArray) => (show (Instr.loadAt 28 (.pointer (some ⟨gt, 128 + 17 * k, none⟩))).run Tryd.prog w' = .ok V1 w' by rw [HF.out.2.2.2.2.2.1, ← HF.out.2.2.2.1.1]; exact (h.tb).loadS HT.out.1 (by omega)))
        have HL3 := Lib.hid (fun (w' : World) (h : Box w' gt 31 (tbC T X).toArray) => (show (Instr.loadAt 28 (.pointer (some ⟨gt, 128 + 17 * (2 + k), none⟩))).run Tryd.prog w' = .ok V2 w' by rw [HF.out.2.2.2.2.2.2, ← HF.out.2.2.2.1.2]; exact (h.tb).loadS HT.out.1 (by omega)))
        have hr1 := in_any wr (T.t k) hst
        rw [← hVt] at hr1
        have HR1 := Lib.hid hr1
        clear hst hsb1 hsb2 ex1 ex2 ia1 ia2 hf1 hf2 hVt hV1 hV2 hr1
        go_wp2_with (first
          | (with_reducible refine wpList_load_to (op := ⟨some 20, _, _, _, _, _⟩) rfl 23 (.tmp 19) rfl (.pointer (some ⟨gt, 64 * k, none⟩)) rfl Vt (HL1.out _ HS.out.box) ?_)
          | fail)
        refine Calls.mono HR1.out ?_
        rintro e w2 ⟨rfl, b2⟩
        have S2 := Lib.hid (HS.out.on b2)
        clear b2 HR1
        by_cases hok : ¬ StepOk (T.t k)
        · rw [decide_eq_false hok]
          have HRn := Lib.hid (show R = ([], 1) by rw [HT.out.2.2.2]; exact tablesF_no (fun h => hok (h k hkn).1))
          go_wp2_with fail
          go_ret2
          rw [HRn.out]
          exact ⟨none, 0, rfl, sl_nil _ _, S2.out.bel⟩
        have hok' : StepOk (T.t k) := by simpa using hok
        rw [decide_eq_true hok']
        have Hok := Lib.hid hok'
        clear hok hok'
        go_wp2_with (first
          | (refine wpList_load_when (op := ⟨some 27, _, _, _, _, _⟩) (by rfl) 28 (.tmp 26) rfl (.pointer (some ⟨gt, 128 + 17 * k, none⟩)) rfl V1 (HL2.out _ S2.out.box) ?_)
          | fail)
        have hr2 := may_any w2 (T.B k) (T.V k) A1 n1 c1 HF.out.1.2.1 (HF.out.2.1.1.on S2.out.bel)
        rw [← HF.out.2.2.2.2.2.1] at hr2
        refine Calls.mono hr2 ?_
        rintro e w3 ⟨rfl, b3⟩
        have S3 := Lib.hid (S2.out.on b3)
        clear b3 hr2
        by_cases hv : ¬ Valid (T.B k) (T.V k)
        · rw [decide_eq_false hv]
          have HRn := Lib.hid (show R = ([], 1) by rw [HT.out.2.2.2]; exact tablesF_no (fun h => hv (h k hkn).2.1))
          go_wp2_with fail
          go_ret2
          rw [HRn.out]
          exact ⟨none, 0, rfl, sl_nil _ _, S3.out.bel⟩
        have hv' : Valid (T.B k) (T.V k) := by simpa using hv
        rw [decide_eq_true hv']
        have Hv := Lib.hid hv'
        clear hv hv'
        go_wp2_with (first
          | (refine wpList_load_when (op := ⟨some 35, _, _, _, _, _⟩) (by rfl) 28 (.tmp 34) rfl (.pointer (some ⟨gt, 128 + 17 * (2 + k), none⟩)) rfl V2 (HL3.out _ S3.out.box) ?_)
          | fail)
        have hr3 := may_any w3 (T.B (2 + k)) (T.V (2 + k)) A2 n2 c2 HF.out.1.2.2 (HF.out.2.1.2.on S3.out.bel)
        rw [← HF.out.2.2.2.2.2.2] at hr3
        refine Calls.mono hr3 ?_
        rintro e w4 ⟨rfl, b4⟩
        have S4 := Lib.hid (S3.out.on b4)
        clear b4 hr3
        by_cases hv : ¬ Valid (T.B (2 + k)) (T.V (2 + k))
        · rw [decide_eq_false hv]
          have HRn := Lib.hid (show R = ([], 1) by rw [HT.out.2.2.2]; exact tablesF_no (fun h => hv (h k hkn).2.2))
          go_wp2_with fail
          go_ret2
          rw [HRn.out]
          exact ⟨none, 0, rfl, sl_nil _ _, S4.out.bel⟩
        have hv' : Valid (T.B (2 + k)) (T.V (2 + k)) := by simpa using hv
        rw [decide_eq_true hv']
        have Hv2 := Lib.hid hv'
        clear hv hv'
        have had := steps_any w4 (k : Int) (T.t k) (by omega) (by omega) HF.out.1.1
        rw [← HF.out.2.2.2.2.1] at had
        have HAd := Lib.hid had
        clear had
        go_wp2_with (first
          | (with_reducible refine wpList_load_to (op := ⟨some 44, _, _, _, _, _⟩) rfl 23 (.tmp 43) rfl (.pointer (some ⟨gt, 64 * k, none⟩)) rfl Vt (HL1.out _ S4.out.box) ?_)
          | fail)
        refine Calls.mono HAd.out ?_
        rintro e w5 ⟨A5, c5, rfl, s5, b5⟩
        rw [stepsB_len] at s5 ⊢
        have S5 := Lib.hid (And.intro (S4.out.on b5) s5)
        clear b5 s5 HAd
        go_wp2_with (first
          | ((with_reducible refine wpList_append_z (o := ⟨some 46, _, _, _, _, _⟩) rfl (.tmp 39) (.tmp 45) rfl w.heap.size (.slice Aq nq cq) nq (qB T k) rfl S5.out.1.q _ A5 65 c5 (stepsB (k : Int) (T.t k)) rfl S5.out.2 ?hs S5.out.1.bel.size ?_)
             case hs => have := S5.out.1.bq; omega
             intro v6 w6 g6
             obtain ⟨h6, a6⟩ := g6.pair S5.out.1.h S5.out.1.ap
             obtain ⟨A6, c6, hv6⟩ := g6.val
             subst hv6
             have bel6 : Below w.heap.size w w6 := S5.out.1.bel.trans (g6.lo S5.out.1.q S5.out.1.bel.size)
             have box6 := g6.box S5.out.1.q S5.out.1.box (by decide)
             have own6 := g6.own
             rw [← qB_more] at own6
             have H6 := Lib.hid (And.intro own6 (And.intro h6 (And.intro a6 (And.intro bel6 box6))))
             have hsp := spec_any w6 (k : Int) (T.B k) (T.V k) A1 n1 c1 (by omega) (by omega) HF.out.1.2.1 (HF.out.2.1.1.on bel6) (by have := HF.out.2.2.1.1; omega)
             rw [← HF.out.2.2.2.2.2.1] at hsp
             have HSp := Lib.hid hsp
             clear g6 h6 a6 bel6 box6 own6 hsp)
          | (with_reducible refine wpList_load_to (op := ⟨some 52, _, _, _, _, _⟩) rfl 28 (.tmp 51) rfl (.pointer (some ⟨gt, 128 + 17 * k, none⟩)) rfl V1 (HL2.out _ H6.out.2.2.2.2) ?_)
          | fail)
        refine Calls.mono HSp.out ?_
        rintro e w7 ⟨A7, c7, rfl, s7, b7⟩
        obtain ⟨m7, hm7⟩ : ∃ m, m = (specB (k : Int) (T.B k) (T.V k)).length := ⟨_, rfl⟩
        rw [← hm7] at s7 ⊢
        have hm7' : m7 = 17 + n1 := by rw [hm7, specB_len, HF.out.1.2.1, HF.out.2.1.1.len]; omega
        have own7 := own_on H6.out.1 b7
        have ownh7 := own_on H6.out.2.1 b7
        have H7 := Lib.hid (And.intro (And.intro own7 ownh7) (And.intro H6.out.2.2.1 (And.intro (on_trans H6.out.2.2.2.1 b7) (And.intro (H6.out.2.2.2.2.on b7) (And.intro s7 hm7')))))
        clear own7 ownh7 b7 s7 hm7 hm7' HSp H6
        go_wp2_with (first
          | ((with_reducible refine wpList_append_z (o := ⟨some 54, _, _, _, _, _⟩) rfl (.tmp 47) (.tmp 53) rfl w.heap.size (.slice Ah nh ch) nh (hB T k) rfl H7.out.1.2 _ A7 m7 c7 (specB (k : Int) (T.B k) (T.V k)) rfl H7.out.2.2.2.2.1 ?hs H7.out.2.2.1.size ?_)
             case hs => have := S5.out.1.bh; have := H7.out.2.2.2.2.2; have := HF.out.2.2.1; omega
             intro v8 w8 g8
             obtain ⟨q8, a8⟩ := g8.pair H7.out.1.1 H7.out.2.1.symm
             obtain ⟨A8, c8, hv8⟩ := g8.val
             subst hv8
             have bel8 : Below w.heap.size w w8 := H7.out.2.2.1.trans (g8.lo H7.out.1.2 H7.out.2.2.1.size)
             have box8 := g8.box H7.out.1.2 H7.out.2.2.2.1 (by decide)
             have H8 := Lib.hid (And.intro q8 (And.intro g8.own (And.intro a8 (And.intro bel8 box8))))
             have hsp := spec_any w8 (16 + (k : Int)) (T.B (2 + k)) (T.V (2 + k)) A2 n2 c2 (by omega) (by omega) HF.out.1.2.2 (HF.out.2.1.2.on bel8) (by have := HF.out.2.2.1.2; omega)
             rw [← HF.out.2.2.2.2.2.2] at hsp
             have HSp := Lib.hid hsp
             clear g8 q8 a8 bel8 box8 hsp)
          | (with_reducible refine wpList_load_to (op := ⟨some 61, _, _, _, _, _⟩) rfl 28 (.tmp 60) rfl (.pointer (some ⟨gt, 128 + 17 * (2 + k), none⟩)) rfl V2 (HL3.out _ H8.out.2.2.2.2) ?_)
          | fail)
        refine Calls.mono HSp.out ?_
        rintro e w9 ⟨A9, c9, rfl, s9, b9⟩
        obtain ⟨m9, hm9⟩ : ∃ m, m = (specB (16 + (k : Int)) (T.B (2 + k)) (T.V (2 + k))).length := ⟨_, rfl⟩
        rw [← hm9] at s9 ⊢
        have hm9' : m9 = 17 + n2 := by rw [hm9, specB_len, HF.out.1.2.2, HF.out.2.1.2.len]; omega
        have own9 := own_on H8.out.1 b9
        have ownh9 := own_on H8.out.2.1 b9
        have H9 := Lib.hid (And.intro (And.intro own9 ownh9) (And.intro H8.out.2.2.1 (And.intro (on_trans H8.out.2.2.2.1 b9) (And.intro (H8.out.2.2.2.2.on b9) (And.intro s9 hm9')))))
        have HBd := Lib.hid (show nh + m7 + m9 ≤ 20000 * (k + 1) by have := S5.out.1.bh; have := H7.out.2.2.2.2.2; have := HF.out.2.2.1; omega)
        clear own9 ownh9 b9 s9 hm9 hm9' HSp H8
        go_wp2_with (first
          | ((with_reducible refine wpList_append_z (o := ⟨some 63, _, _, _, _, _⟩) rfl (.tmp 55) (.tmp 62) rfl w.heap.size (.slice A8 (nh + m7) c8) (nh + m7) (hB T k ++ specB (k : Int) (T.B k) (T.V k)) rfl H9.out.1.2 _ A9 m9 c9 (specB (16 + (k : Int)) (T.B (2 + k)) (T.V (2 + k))) rfl H9.out.2.2.2.2.1 ?hs H9.out.2.2.1.size ?_)
             case hs => have := HBd.out; omega
             intro v10 w10 g10
             obtain ⟨q10, a10⟩ := g10.pair H9.out.1.1 H9.out.2.1
             obtain ⟨A10, c10, hv10⟩ := g10.val
             subst hv10
             have own10 := g10.own
             rw [List.append_assoc, ← hB_more] at own10
             have H10 := Lib.hid (show Tst w w10 T X gt (k + 1) (.slice A6 (nq + 65) c6) (.slice A10 (nh + m7 + m9) c10) (nq + 65) (nh + m7 + m9) from
               ⟨q10, own10, a10.symm, g10.box H9.out.1.2 H9.out.2.2.2.1 (by decide), H9.out.2.2.1.trans (g10.lo H9.out.1.2 H9.out.2.2.1.size), S5.out.1.ok.more Hok.out Hv.out Hv2.out, by have := S5.out.1.bq; omega, HBd.out⟩)
             clear g10 q10 a10 own10)
          | fail)
        go_roundw
        case rel => exact ⟨k + 1, _, _, _, _, _, _, by omega, rfl, rfl, by go_num, H10.out⟩
        case measure => simp [intOf]; omega
      · have ek : k = 1 := by omega
        have hS := HS.out
        rw [ek] at hS
        have HE := Lib.hid hS
        have hRn : R = (tablesB T 1, 0) := by rw [HT.out.2.2.2]; exact tablesF_yes hS.ok
        have HRn := Lib.hid hRn
        have hnq := own_len hS.q
        have hnh := own_len hS.h
        obtain ⟨Aq', cq', eq', sq⟩ := sl_of_own' hS.q (qB_fit T 1 (by omega))
        obtain ⟨Ah', ch', eh', sh⟩ := sl_of_own' hS.h (hB_fit T 1 (by omega))
        cases eq'
        cases eh'
        obtain ⟨gl, hgl⟩ : ∃ gl, gl = wr.heap.size := ⟨_, rfl⟩
        obtain ⟨w2, hw2⟩ : ∃ x, wr.alloc (.cells #[.int .u8 255, .int .u8 216] 5) = x := ⟨_, rfl⟩
        have bl : Box w2 gl 5 (cellsOf [255, 216]).toArray := by rw [hgl, ← hw2]; exact Box.made _ _ _
        have k2 : Below wr.heap.size wr w2 := by rw [← hw2]; exact on_alloc _ _
        have hS2 := hS.on k2
        have ol : w2.ownsRow w.heap.size 5 1 (.slice (some ⟨gl, 0, none⟩) 2 2) 2 (cellsOf [255, 216]) := own_of_box bl rfl (by rw [hgl]; exact hS.bel.size) (by decide)
        have hq2 : nq ≤ 200 := by have := hS.bq; omega
        have hh2 : nh ≤ 50000 := by have := hS.bh; omega
        have HP1 := Lib.hid (put_any w2 _ 219 Aq nq cq (qB T 1) (sq.kept (Kept.of_below k2 (fun _ => False)) (fun _ _ e => e)) (by omega) (by omega) (by omega))
        have H2 := Lib.hid (And.intro hw2 (And.intro hgl (And.intro hS2 (And.intro ol (And.intro (sh.kept (Kept.of_below k2 (fun _ => False)) (fun _ _ e => e)) (And.intro hnq hnh))))))
        clear ek hS hRn hnq hnh sq sh hgl hw2 bl k2 hS2 ol
        go_wp2_with fail
        rw [H2.out.1, ← H2.out.2.1]
        refine Calls.mono HP1.out ?_
        rintro e w3 ⟨A3, c3, rfl, s3, b3⟩
        obtain ⟨m3, hm3⟩ : ∃ m, m = (segB 219 (qB T 1)).length := ⟨_, rfl⟩
        rw [← hm3] at s3 ⊢
        rw [segB_len, H2.out.2.2.2.2.2.1] at hm3
        have H3 := Lib.hid (And.intro (own_on H2.out.2.2.2.1 b3) (And.intro s3 (And.intro (H2.out.2.2.2.2.1.kept (Kept.of_below b3 (fun _ => False)) (fun _ _ e => e)) (And.intro (on_trans H2.out.2.2.1.bel b3) (And.intro hm3 (show ∀ i, (Value.slice (some ⟨gl, 0, none⟩) 2 2).ownBlock = some i → (Value.slice Ah nh ch).ownBlock ≠ some i from fun i hi e => by
          obtain ⟨_, cs, hh⟩ := own_block3 HE.out.h e
          have := (Array.getElem?_eq_some_iff.1 hh).1
          have h3 : gl = i := by injection hi
          have := H2.out.2.1
          omega))))))
        clear hm3 s3 b3 HP1
        go_wp2_with (first
          | ((with_reducible refine wpList_append_z (o := ⟨some 67, _, _, _, _, _⟩) rfl (.tmp 64) (.tmp 66) rfl w.heap.size (.slice (some ⟨gl, 0, none⟩) 2 2) 2 [255, 216] rfl H3.out.1 _ A3 m3 c3 (segB 219 (qB T 1)) rfl H3.out.2.1 ?hs H3.out.2.2.2.1.size ?_)
             case hs => have := H3.out.2.2.2.2.1; omega
             intro v4 w4 g4
             obtain ⟨A4, c4, hv4⟩ := g4.val
             subst hv4
             have bel4 := H3.out.2.2.2.1.trans (g4.lo H3.out.1 H3.out.2.2.2.1.size)
             have sh4 := (H3.out.2.2.1).kept g4.kep (fun b hb e => H3.out.2.2.2.2.2 b e hb)
             have HP2 := Lib.hid (put_any w4 _ 196 Ah nh ch (hB T 1) sh4 (by omega) (by omega) (by omega))
             have H4 := Lib.hid (And.intro g4.own bel4)
             clear g4 bel4 sh4)
          | fail)
        refine Calls.mono HP2.out ?_
        rintro e w5 ⟨A5, c5, rfl, s5, b5⟩
        obtain ⟨m5, hm5⟩ : ∃ m, m = (segB 196 (hB T 1)).length := ⟨_, rfl⟩
        rw [← hm5] at s5 ⊢
        rw [segB_len, H2.out.2.2.2.2.2.2] at hm5
        obtain ⟨m4, hm4⟩ : ∃ m, m = 2 + m3 := ⟨_, rfl⟩
        have hl4 : m4 ≤ 1000 := by have := H3.out.2.2.2.2.1; omega
        have own5 := own_on H4.out.1 b5
        rw [← hm4] at own5 ⊢
        have H5 := Lib.hid (And.intro own5 (And.intro s5 (And.intro (on_trans H4.out.2 b5) (And.intro hm5 (And.intro hm4 hl4)))))
        clear hm5 hm4 s5 b5 HP2 own5
        go_wp2_with (first
          | ((with_reducible refine wpList_append_z (o := ⟨some 71, _, _, _, _, _⟩) rfl (.tmp 68) (.tmp 70) rfl w.heap.size (.slice A4 m4 c4) m4 ([255, 216] ++ segB 219 (qB T 1)) rfl H5.out.1 _ A5 m5 c5 (segB 196 (hB T 1)) rfl H5.out.2.1 ?hs H5.out.2.2.1.size ?_)
             case hs => have := H5.out.2.2.2.1; omega
             intro v6 w6 g6
             obtain ⟨A6, c6, hv6⟩ := g6.val
             subst hv6
             have bel6 := H5.out.2.2.1.trans (g6.lo H5.out.1 H5.out.2.2.1.size)
             obtain ⟨m6, hm6⟩ : ∃ m, m = m4 + m5 := ⟨_, rfl⟩
             have own6 := g6.own
             rw [← hm6] at own6 ⊢
             obtain ⟨w7, hw7⟩ : ∃ x, w6.alloc (.cells #[.int .u8 255, .int .u8 217] 5) = x := ⟨_, rfl⟩
             have s7 : Sl w7 (fun b => b = w6.heap.size) (some ⟨w6.heap.size, 0, none⟩) 2 2 [255, 217] := by rw [← hw7]; exact sl_lit w6 [255, 217] (by unfold Fit; decide) (by decide)
             have k7 : Below w6.heap.size w6 w7 := by rw [← hw7]; exact on_alloc _ _
             have H7 := Lib.hid (And.intro hw7 (And.intro s7 (And.intro (on_trans bel6 k7) (And.intro (own_on own6 k7) (And.intro hm6 (show w.heap.size ≤ w7.heap.size from Nat.le_trans bel6.size k7.size))))))
             have hm6b : m6 + 2 ≤ 140737488351232 := by have := H5.out.2.2.2.1; omega
             clear g6 bel6 own6 hw7 s7 k7 hm6)
          | ((with_reducible refine wpList_append_z (o := ⟨some 74, _, _, _, _, _⟩) rfl (.tmp 72) (.tmp 73) rfl w.heap.size (.slice A6 m6 c6) m6 ([255, 216] ++ segB 219 (qB T 1) ++ segB 196 (hB T 1)) rfl ?hown (fun b => b = w6.heap.size) (some ⟨w6.heap.size, 0, none⟩) 2 2 [255, 217] rfl ?hr ?hs ?hb ?_)
             case hown => rw [H7.out.1]; exact H7.out.2.2.2.1
             case hr => rw [H7.out.1]; exact H7.out.2.1
             case hs => exact hm6b
             case hb => rw [H7.out.1]; exact H7.out.2.2.2.2.2
             intro v8 w8 hg8
             rw [H7.out.1] at hg8
             obtain ⟨A8, c8, hv8⟩ := hg8.val
             subst hv8
             have H8 := Lib.hid hg8
             clear hg8)
          | fail)
        go_ret2
        rw [HRn.out]
        have hf7 : Fit ([255, 216] ++ segB 219 (qB T 1) ++ segB 196 (hB T 1)) := fit_app (fit_app (by unfold Fit; decide) (fit_seg (by omega) (by omega) (qB_fit T 1 (by omega)))) (fit_seg (by omega) (by omega) (hB_fit T 1 (by omega)))
        obtain ⟨Af, cf, ef, sf⟩ := sl_of_own H8.out.own (fit_app hf7 (by unfold Fit; decide))
        cases ef
        have el : ([255, 216] ++ segB 219 (qB T 1) ++ segB 196 (hB T 1) ++ [255, 217]).length = m6 + 2 := by
          rw [List.length_append, List.length_append, List.length_append, segB_len, segB_len, H2.out.2.2.2.2.2.1, H2.out.2.2.2.2.2.2]
          show 2 + (nq + 4) + (nh + 4) + 2 = _
          have := H3.out.2.2.2.2.1
          have := H5.out.2.2.2
          have := H7.out.2.2.2.2.1
          omega
        refine ⟨A8, c8, ?_, ?_, H7.out.2.2.1.trans (H8.out.lo H7.out.2.2.2.1 H7.out.2.2.2.2.2)⟩
        · show _ = Ending.returned (.tuple #[.slice A8 (tablesB T 1).length c8, .int .i64 0])
          rw [show (tablesB T 1).length = m6 + 2 from el]
          rfl
        · show Sl w8 _ A8 (tablesB T 1).length c8 (tablesB T 1)
          rw [show (tablesB T 1).length = m6 + 2 from el]
          exact sf
end Go.Proofs.YtgipngedmblnmaaDoor
