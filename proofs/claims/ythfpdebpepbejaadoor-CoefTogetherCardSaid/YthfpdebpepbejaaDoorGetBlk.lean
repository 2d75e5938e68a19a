/-
  The contract of the program's Get.
-/
import Derived.Test.YthfpdebpepbejaaDoorGetOth
import Derived.Test.YthfpdebpepbejaaDoorOrder
namespace Go.Proofs.YthfpdebpepbejaaDoor
open Go.RowKit

theorem results_ct {fn : Func} {p q : Tmp} {ty : TypeId} (h : fn.results = #[.cell p ty, .tmp q]) (tmps : Array Value) (w : World) (g : Nat) (x v : Value)
    (hp : tmps.getD p undef = .pointer (some ⟨g, 0, none⟩)) (hq : tmps.getD q undef = v) (hl : (loadVar ty ⟨g, 0, none⟩).run Tryd.prog w = .ok x w) : (results fn tmps).run Tryd.prog w = .ok (.tuple #[x, v]) w := by
  have hp' : tmps[p]?.getD undef = .pointer (some ⟨g, 0, none⟩) := by simpa using hp
  have hq' : tmps[q]?.getD undef = v := by simpa using hq
  simp [results, h, hp', hq', asAddr, hl]
theorem results_cct {fn : Func} {p p' q : Tmp} {ty ty' : TypeId} (h : fn.results = #[.cell p ty, .cell p' ty', .tmp q]) (tmps : Array Value) (w : World) (g g' : Nat) (x x' v : Value)
    (hp : tmps.getD p undef = .pointer (some ⟨g, 0, none⟩)) (hp' : tmps.getD p' undef = .pointer (some ⟨g', 0, none⟩)) (hq : tmps.getD q undef = v)
    (hl : (loadVar ty ⟨g, 0, none⟩).run Tryd.prog w = .ok x w) (hl' : (loadVar ty' ⟨g', 0, none⟩).run Tryd.prog w = .ok x' w) : (results fn tmps).run Tryd.prog w = .ok (.tuple #[x, x', v]) w := by
  have e1 : tmps[p]?.getD undef = .pointer (some ⟨g, 0, none⟩) := by simpa using hp
  have e2 : tmps[p']?.getD undef = .pointer (some ⟨g', 0, none⟩) := by simpa using hp'
  have e3 : tmps[q]?.getD undef = v := by simpa using hq
  simp [results, h, e1, e2, e3, asAddr, hl, hl']
theorem loadVar_blk {w : World} {g : Nat} {b : List Int} (h : Box w g 23 (cellsI b).toArray) (hl : b.length = 64) : (loadVar 23 ⟨g, 0, none⟩).run Tryd.prog w = .ok (blkV b) w :=
  run_loadVar_row w g 23 23 _ (0, 0) _ h Tryd.underlying23 rfl (by rw [arr23_size]; simp [cellsI_len, hl])

/-- what Get tells -/
def GotB (w : World) (r g : Nat) (l : List Int) (R : St × List Int × Int) (e : Ending) (w' : World) : Prop :=
  e = .returned (.tuple #[blkV R.2.1, .int .i64 R.2.2]) ∧ Rd w' r g l R.1 ∧ Kept (fun i => i = r) w w'

theorem blockF_prev {Ld La : List En} {l : List Int} {s : St} {prev : Int} (h : ¬ In prev) : blockF Ld La l s prev = (s, zeros64, 2) := by unfold blockF; rw [if_neg h]
section
variable {Ld La : List En} {l : List Int} {s : St} {prev : Int} {F : St × Int × Int} {O : St × List Int × Int}
theorem blockF_first (h : In prev) (hF : F = firstF Ld l s) (h0 : F.2.2 ≠ 0) : blockF Ld La l s prev = (F.1, zeros64, F.2.2) := by
  unfold blockF
  rw [← hF, if_pos h, if_neg h0]
theorem blockF_others (h : In prev) (hF : F = firstF Ld l s) (h0 : F.2.2 = 0) (hO : O = othersG La l 63 1 F.1 ((prev + F.2.1) :: List.replicate 63 0)) (h1 : O.2.2 ≠ 0) : blockF Ld La l s prev = (O.1, zeros64, O.2.2) := by
  unfold blockF
  rw [← hF, if_pos h, if_pos h0, ← hO, if_neg h1]
theorem blockF_form (h : In prev) (hF : F = firstF Ld l s) (h0 : F.2.2 = 0) (hO : O = othersG La l 63 1 F.1 ((prev + F.2.1) :: List.replicate 63 0)) (h1 : O.2.2 = 0) (h2 : ¬ RightB O.2.1) : blockF Ld La l s prev = (O.1, zeros64, 4) := by
  unfold blockF
  rw [← hF, if_pos h, if_pos h0, ← hO, if_pos h1, if_neg h2]
theorem blockF_done (h : In prev) (hF : F = firstF Ld l s) (h0 : F.2.2 = 0) (hO : O = othersG La l 63 1 F.1 ((prev + F.2.1) :: List.replicate 63 0)) (h1 : O.2.2 = 0) (h2 : RightB O.2.1) : blockF Ld La l s prev = (O.1, O.2.1, 0) := by
  unfold blockF
  rw [← hF, if_pos h, if_pos h0, ← hO, if_pos h1, if_pos h2]
theorem firstF_small {B V : List Int} (hv : Valid B V) (hf : Fit l) (h : s.ok l.length) : -2047 ≤ (firstF (codes B V) l s).2.1 ∧ (firstF (codes B V) l s).2.1 ≤ 2047 := by
  have hval := getsF_val (l := l) (valid_vals hv) 16 s 0 0
  have hok := getsF_ok (L := codes B V) hf 16 s 0 0 h
  unfold firstF
  split
  · split
    · dsimp only; omega
    · exact numF_small hf hok (by omega)
  · dsimp only; omega
end

section
variable (w : World) (lo hi t lo' hi' t' r g : Nat) (B V B' V' : List Int) (l : List Int) (s : St) (prev : Int)
set_option maxRecDepth 10000 in
set_option maxHeartbeats 3200000 in
theorem getB_any (hT : Tab w) (h : Tb w lo hi t B V (codes B V)) (hv : Valid B V) (h' : Tb w lo' hi' t' B' V' (codes B' V')) (hv' : Valid B' V') (hr : Rd w r g l s) (hout : r < lo ∨ hi ≤ r) (hout' : r < lo' ∨ hi' ≤ r) (hhi : hi ≤ w.heap.size) (hhi' : hi' ≤ w.heap.size) (hr0 : r ≠ 0) :
    Calls Tryd.prog 29 #[.pointer (some ⟨r, 0, none⟩), .pointer (some ⟨t, 0, none⟩), .pointer (some ⟨t', 0, none⟩), .int .i64 prev] w (GotB w r g l (blockF (codes B V) (codes B' V') l s prev)) := by
  obtain ⟨Z, hZ⟩ : ∃ Z, Z = (cellsI zeros64).toArray := ⟨_, rfl⟩
  have hz : ∀ w, (zeroValue 23).run Tryd.prog w = .ok (.agg Z) w := fun w => by rw [hZ]; exact zero23 w
  have hZs : Z.size = 64 := by rw [hZ]; rfl
  obtain ⟨g8, hg8⟩ : ∃ g8, g8 = w.heap.size := ⟨_, rfl⟩
  obtain ⟨w1, hw1⟩ : ∃ w1, w1 = w.alloc (.cells Z 23) := ⟨_, rfl⟩
  have bel : Below w.heap.size w w1 := by rw [hw1]; exact on_alloc _ _
  have hb8 : Blk w1 g8 zeros64 := ⟨by rw [hw1, hg8, ← hZ]; exact Box.made _ _ _, rfl⟩
  have hr8 : r ≠ g8 := by have := hr.box.lt; omega
  have hbd : ∀ w, (Instr.build 23 #[]).run Tryd.prog w = .ok (.agg Z) w := fun w => by rw [hZ]; exact build0 w
  have H1 := Lib.hid (And.intro hb8 (And.intro (hr.on bel) (And.intro bel (And.intro (hT.on bel) (And.intro (h.on bel) (h'.on bel))))))
  have HP := Lib.hid (And.intro hv (And.intro hv' (And.intro hout (And.intro hout' (And.intro hhi (And.intro hhi' (And.intro hr0 (And.intro hr8 (And.intro hg8 (And.intro hw1 (And.intro hZ hZs)))))))))))
  have HT0 := Lib.hid (And.intro hT.zero (And.intro hr.own.lt hr.box.lt))
  have hZV : Value.agg Z = blkV zeros64 := by rw [hZ]; rfl
  have HZV := Lib.hid hZV
  clear hZV hZ hZs hw1 bel hb8 hr8 hg8 hT h hv h' hv' hr hout hout' hhi hhi' hr0
  by_cases hin : In prev
  · have hd : decide (In prev) = true := by simpa using hin
    have HD := Lib.hid (And.intro hd hin)
    have hprev := hin
    unfold In at hprev
    obtain ⟨hp0, hp1⟩ := hprev
    clear hd hin
    have HF := Lib.hid (getFirst_any w1 lo hi t r g B V l s H1.out.2.2.2.2.1 HP.out.1 H1.out.2.1 HP.out.2.2.1 (Nat.le_trans HP.out.2.2.2.2.1 H1.out.2.2.1.size))
    have hsm := firstF_small (l := l) HP.out.1 H1.out.2.1.fit H1.out.2.1.ok
    obtain ⟨F, hF⟩ : ∃ F, F = firstF (codes B V) l s := ⟨_, rfl⟩
    rw [← hF] at HF hsm
    have HFF := Lib.hid hF
    clear hF
    by_cases h0 : F.2.2 = 0
    · obtain ⟨b0, hb0⟩ : ∃ b0, b0 = (prev + F.2.1) :: List.replicate 63 0 := ⟨_, rfl⟩
      obtain ⟨Z1, hZ1⟩ : ∃ Z1, Z1 = (cellsI b0).toArray := ⟨_, rfl⟩
      have hb0l : b0.length = 64 := by rw [hb0]; simp
      have HB1 := Lib.hid (show ∀ w, (Instr.build 23 #[(0, .int .i64 (prev + F.2.1))]).run Tryd.prog w = .ok (.agg Z1) w from fun w => by rw [hZ1, hb0]; exact build1 w _)
      have HB0 := Lib.hid (And.intro hb0 (And.intro hZ1 hb0l))
      have HZ1 := Lib.hid (show Value.agg Z1 = blkV b0 by rw [hZ1]; rfl)
      clear hb0 hZ1 hb0l
      obtain ⟨O, hO⟩ : ∃ O, O = othersG (codes B' V') l 63 1 F.1 b0 := ⟨_, rfl⟩
      have HO := Lib.hid hO
      clear hO
      have HOX := Lib.hid (show O = othersG (codes B' V') l 63 1 F.1 ((prev + F.2.1) :: List.replicate 63 0) by rw [← HB0.out.1]; exact HO.out)
      obtain ⟨R, hR⟩ : ∃ R, R = blockF (codes B V) (codes B' V') l s prev := ⟨_, rfl⟩
      rw [← hR]
      have HR := Lib.hid hR
      clear hR
      have HE0 := Lib.hid h0
      obtain ⟨s1, d, E⟩ := F
      dsimp only at h0 hsm HF HB1
      subst h0
      obtain ⟨hs0, hs1⟩ := hsm
      go_enter Tryd.func29, Tryd.ntmps29
      go_wp2_with fail
      rw [← HP.out.2.2.2.2.2.2.2.2.2.1]
      refine (inRange_any w1 prev).mono ?_
      rintro e w2 ⟨rfl, rfl⟩
      rw [HD.out.1]
      go_wp2_with fail
      refine HF.out.mono ?_
      rintro e w2 ⟨rfl, hr2, k2⟩
      dsimp only at hr2 ⊢
      have hb2 := H1.out.1.kept k2 (fun e => HP.out.2.2.2.2.2.2.2.1 e.symm)
      have H2 := Lib.hid (And.intro hr2 (And.intro hb2 (And.intro ((Kept.of_below H1.out.2.2.1 (fun i => i = r)).trans k2 (fun _ _ e => e)) (And.intro (H1.out.2.2.2.1.kept k2 (fun e => HP.out.2.2.2.2.2.2.1 e.symm)) (H1.out.2.2.2.2.2.kept k2 (fun b' h1 h2 e => by have := HP.out.2.2.2.1; omega))))))
      clear hr2 k2 hb2
      obtain ⟨gb, hgb⟩ : ∃ gb, gb = w2.heap.size := ⟨_, rfl⟩
      have hgb2 := Lib.hid (And.intro hgb True.intro)
      clear hgb
      go_wp2_with (first
        | (with_reducible refine wpList_build_to (op := ⟨some 31, _, _, _, _, _⟩) rfl 23 _ rfl (.agg Z1) _ (by simp [Act.eval]) (HB1.out _) ?_)
        | ((with_reducible refine wpList_store_blk (o := ⟨none, _, _, _, _, _⟩) arr23_size rfl (.tmp 12) (.tmp 31) rfl rfl w2.heap.size b0 rfl ?hy Z (Box.made _ _ _) HP.out.2.2.2.2.2.2.2.2.2.2.2 HB0.out.2.2 ?_)
           case hy => exact HZ1.out
           intro w3 b3 k3
           have H3 := Lib.hid (And.intro (Blk.mk b3 HB0.out.2.2) k3)
           clear b3 k3)
        | fail)
      rw [← hgb2.out.1]
      have b23 : Below w2.heap.size w2 w3 := (on_alloc w2 _).trans (H3.out.2.below (by simp) (fun i hi e => by omega))
      have hs12 := H1.out.2.2.1.size
      have hs2 := H2.out.2.2.1.size
      have hsg : w.heap.size ≤ gb := by have := hgb2.out.1; omega
      have HG := Lib.hid hsg
      have h3b := H3.out.1
      rw [← hgb2.out.1] at h3b
      have H3 := Lib.hid (And.intro (H2.out.1.on b23) (And.intro (H2.out.2.1.on b23) (And.intro (H2.out.2.2.1.trans (Kept.of_below b23 (fun _ => False)) (fun _ _ h => h.elim)) h3b)))
      have HC := Lib.hid (getOthers_any w3 lo' hi' t' r g gb B' V' l s1 b0 (H2.out.2.2.2.1.on b23) (H2.out.2.2.2.2.on b23) HP.out.2.1 H3.out.1 H3.out.2.2.2 HP.out.2.2.2.1 (.inr (by have := HP.out.2.2.2.2.2.1; omega)) (by have := HP.out.2.2.2.2.2.1; have := H3.out.2.2.1.size; omega) HP.out.2.2.2.2.2.2.1 (by have := HT0.out.1; omega) (by have := HT0.out.2.1; omega))
      clear b23 hs12 hs2 hsg h3b
      rw [← HO.out] at HC
      refine HC.out.mono ?_
      rintro e w4 ⟨rfl, hr4, ⟨b', hb', himp⟩, k4⟩
      have hg8 := HP.out.2.2.2.2.2.2.2.2.1
      have H4 := Lib.hid (And.intro hr4 (And.intro hb' (And.intro himp (And.intro (H3.out.2.1.kept k4 (fun e => by
        rcases e with e | e
        · exact HP.out.2.2.2.2.2.2.2.1 e.symm
        · have h1 := hgb2.out.1
          have h2 := H1.out.1.box.lt
          have h3 := H2.out.2.1.box.lt
          omega)) ((H3.out.2.2.1.trans k4 (fun i hi e => by
        rcases e with e | e
        · exact e
        · have := HG.out; omega)))))))
      clear hr4 hb' himp k4 hg8 HC
      have HOE := Lib.hid (show ∃ E2, E2 = O.2.2 from ⟨_, rfl⟩)
      obtain ⟨E2, hE2⟩ := HOE.out
      rw [← hE2]
      have HE2 := Lib.hid hE2
      clear hE2 HOE
      by_cases hz2 : E2 = 0
      · subst hz2
        have hb'O := H4.out.2.2.1 HE2.out.symm
        have HbO := Lib.hid hb'O
        clear hb'O
        have HL := Lib.hid H4.out.2.1.load
        by_cases hrr : RightB b'
        · have hd : decide (RightB b') = true := by simpa using hrr
          have hRd := blockF_done HD.out.2 HFF.out rfl HOX.out HE2.out.symm (by rw [← HbO.out]; exact hrr)
          rw [← HR.out] at hRd
          have HRR := Lib.hid (And.intro hRd hd)
          clear hRd hd hrr
          go_wp2_with (first
            | (with_reducible refine wpList_load_to (op := ⟨some 39, _, _, _, _, _⟩) rfl 23 (.tmp 12) rfl (.pointer (some ⟨gb, 0, none⟩)) rfl (blkV b') HL.out ?_)
            | fail)
          refine (right64_any w4 b' H4.out.2.1.len).mono ?_
          rintro e w5 ⟨rfl, b5⟩
          rw [HRR.out.2]
          have H5 := Lib.hid (And.intro (H4.out.2.1.on b5) (And.intro (H4.out.2.2.2.1.on b5) (And.intro (H4.out.2.2.2.2.trans (Kept.of_below b5 (fun _ => False)) (fun _ _ h => h.elim)) (H4.out.1.on b5))))
          have HL5 := Lib.hid H5.out.1.load
          clear b5
          go_wp2_with (first
            | (with_reducible refine wpList_load_to (op := ⟨some 43, _, _, _, _, _⟩) rfl 23 (.tmp 12) rfl (.pointer (some ⟨gb, 0, none⟩)) rfl (blkV b') HL5.out ?_)
            | ((with_reducible refine wpList_store_blk (o := ⟨none, _, _, _, _, _⟩) arr23_size rfl (.tmp 8) (.tmp 43) rfl rfl w.heap.size b' rfl rfl Z ?hg HP.out.2.2.2.2.2.2.2.2.2.2.2 H5.out.1.len ?_)
               case hg => have := H5.out.2.1.box; rw [HP.out.2.2.2.2.2.2.2.2.1, ← HP.out.2.2.2.2.2.2.2.2.2.2.1] at this; exact this
               intro w9 b9 k9
               have H9 := Lib.hid (And.intro b9 k9)
               clear b9 k9)
            | fail)
          refine bodyPost_ret (v := .tuple #[blkV b', .int .i64 0]) (results_ct (fn := Tryd.f29) Tryd.results29 _ _ w.heap.size _ _ rfl rfl (loadVar_blk H9.out.1 H5.out.1.len)) rfl ?_
          rw [HRR.out.1, ← HbO.out]
          exact ⟨rfl, H5.out.2.2.2.kept H9.out.2 (fun e => by have := HT0.out.2.2; omega) (fun e => by have := HT0.out.2.1; omega), H5.out.2.2.1.trans H9.out.2 (fun i hi e => by omega)⟩
        · have hd : decide (RightB b') = false := by simpa using hrr
          have hRd := blockF_form HD.out.2 HFF.out rfl HOX.out HE2.out.symm (by rw [← HbO.out]; exact hrr)
          rw [← HR.out] at hRd
          have HRR := Lib.hid (And.intro hRd hd)
          clear hRd hd hrr
          go_wp2_with (first
            | (with_reducible refine wpList_load_to (op := ⟨some 39, _, _, _, _, _⟩) rfl 23 (.tmp 12) rfl (.pointer (some ⟨gb, 0, none⟩)) rfl (blkV b') HL.out ?_)
            | fail)
          refine (right64_any w4 b' H4.out.2.1.len).mono ?_
          rintro e w5 ⟨rfl, b5⟩
          rw [HRR.out.2]
          have H5 := Lib.hid (And.intro (H4.out.2.1.on b5) (And.intro (H4.out.2.2.2.1.on b5) (And.intro (H4.out.2.2.2.2.trans (Kept.of_below b5 (fun _ => False)) (fun _ _ h => h.elim)) (H4.out.1.on b5))))
          clear b5
          go_wp2_with (first
            | ((with_reducible refine wpList_store_blk (o := ⟨none, _, _, _, _, _⟩) arr23_size rfl (.tmp 8) (.tmp 42) rfl rfl w.heap.size zeros64 rfl ?hy Z ?hg HP.out.2.2.2.2.2.2.2.2.2.2.2 rfl ?_)
               case hy => exact HZV.out
               case hg => have := H5.out.2.1.box; rw [HP.out.2.2.2.2.2.2.2.2.1, ← HP.out.2.2.2.2.2.2.2.2.2.2.1] at this; exact this
               intro w9 b9 k9
               have H9 := Lib.hid (And.intro b9 k9)
               clear b9 k9)
            | fail)
          rw [HRR.out.1]
          refine bodyPost_ret (v := .tuple #[blkV zeros64, .int .i64 4]) (results_ct (fn := Tryd.f29) Tryd.results29 _ _ w.heap.size _ _ rfl rfl (loadVar_blk H9.out.1 rfl)) rfl ?_
          exact ⟨rfl, H5.out.2.2.2.kept H9.out.2 (fun e => by have := HT0.out.2.2; omega) (fun e => by have := HT0.out.2.1; omega), H5.out.2.2.1.trans H9.out.2 (fun i hi e => by omega)⟩
      · have hRd := blockF_others HD.out.2 HFF.out rfl HOX.out (by rw [← HE2.out]; exact hz2)
        rw [← HR.out, ← HE2.out] at hRd
        have HRR := Lib.hid hRd
        clear hRd
        have e0 : (E2 == 0) = false := by simpa using hz2
        have e1 : (E2 != 0) = true := by simpa using hz2
        go_wp2_with (first
          | ((with_reducible refine wpList_store_blk (o := ⟨none, _, _, _, _, _⟩) arr23_size rfl (.tmp 8) (.tmp 37) rfl rfl w.heap.size zeros64 rfl ?hy Z ?hg HP.out.2.2.2.2.2.2.2.2.2.2.2 rfl ?_)
             case hy => exact HZV.out
             case hg => have := H4.out.2.2.2.1.box; rw [HP.out.2.2.2.2.2.2.2.2.1, ← HP.out.2.2.2.2.2.2.2.2.2.2.1] at this; exact this
             intro w9 b9 k9
             have H9 := Lib.hid (And.intro b9 k9)
             clear b9 k9)
          | fail)
        rw [HRR.out]
        refine bodyPost_ret (v := .tuple #[blkV zeros64, .int .i64 E2]) (results_ct (fn := Tryd.f29) Tryd.results29 _ _ w.heap.size _ _ rfl rfl (loadVar_blk H9.out.1 rfl)) rfl ?_
        exact ⟨rfl, H4.out.1.kept H9.out.2 (fun e => by have := HT0.out.2.2; omega) (fun e => by have := HT0.out.2.1; omega), H4.out.2.2.2.2.trans H9.out.2 (fun i hi e => by omega)⟩
    · rw [blockF_first HD.out.2 HFF.out h0]
      clear HFF
      obtain ⟨s1, d, E⟩ := F
      dsimp only at h0 hsm HF ⊢
      have e0 : (E == 0) = false := by simpa using h0
      have e1 : (E != 0) = true := by simpa using h0
      go_enter Tryd.func29, Tryd.ntmps29
      go_wp2_with fail
      rw [← HP.out.2.2.2.2.2.2.2.2.2.1]
      refine (inRange_any w1 prev).mono ?_
      rintro e w2 ⟨rfl, rfl⟩
      rw [HD.out.1]
      go_wp2_with fail
      refine HF.out.mono ?_
      rintro e w2 ⟨rfl, hr2, k2⟩
      dsimp only at hr2 ⊢
      have hb2 := H1.out.1.kept k2 (fun e => HP.out.2.2.2.2.2.2.2.1 e.symm)
      have H2 := Lib.hid (And.intro hr2 (And.intro hb2 ((Kept.of_below H1.out.2.2.1 (fun i => i = r)).trans k2 (fun _ _ e => e))))
      clear hr2 k2 hb2
      go_wp2_with (first
        | ((with_reducible refine wpList_store_blk (o := ⟨none, _, _, _, _, _⟩) arr23_size rfl (.tmp 8) (.tmp 26) rfl rfl w.heap.size zeros64 rfl ?hy Z ?hg HP.out.2.2.2.2.2.2.2.2.2.2.2 rfl ?_)
           case hy => exact HZV.out
           case hg => have := H2.out.2.1.box; rw [HP.out.2.2.2.2.2.2.2.2.1, ← HP.out.2.2.2.2.2.2.2.2.2.2.1] at this; exact this
           intro w9 b9 k9
           have H9 := Lib.hid (And.intro b9 k9)
           clear b9 k9)
        | fail)
      refine bodyPost_ret (v := .tuple #[blkV zeros64, .int .i64 E]) (results_ct (fn := Tryd.f29) Tryd.results29 _ _ w.heap.size _ _ rfl rfl (loadVar_blk H9.out.1 rfl)) rfl ?_
      exact ⟨rfl, H2.out.1.kept H9.out.2 (fun e => by have := HT0.out.2.2; omega) (fun e => by have := HT0.out.2.1; omega), H2.out.2.2.trans H9.out.2 (fun i hi e => by omega)⟩
  · rw [blockF_prev hin]
    have hd : decide (In prev) = false := by simpa using hin
    have HD := Lib.hid hd
    clear hd hin
    go_enter Tryd.func29, Tryd.ntmps29
    go_wp2_with fail
    rw [← HP.out.2.2.2.2.2.2.2.2.2.1]
    refine (inRange_any w1 prev).mono ?_
    rintro e w2 ⟨rfl, rfl⟩
    rw [HD.out]
    go_wp2_with (first
      | ((with_reducible refine wpList_store_blk (o := ⟨none, _, _, _, _, _⟩) arr23_size rfl (.tmp 8) (.tmp 17) rfl rfl w.heap.size zeros64 rfl ?hy Z ?hg HP.out.2.2.2.2.2.2.2.2.2.2.2 rfl ?_)
         case hy => exact HZV.out
         case hg => have := H1.out.1.box; rw [HP.out.2.2.2.2.2.2.2.2.1, ← HP.out.2.2.2.2.2.2.2.2.2.2.1] at this; exact this
         intro w4 b4 k4
         have H4 := Lib.hid (And.intro b4 k4)
         clear b4 k4)
      | fail)
    refine bodyPost_ret (v := .tuple #[blkV zeros64, .int .i64 2]) (results_ct (fn := Tryd.f29) Tryd.results29 _ _ w.heap.size _ _ rfl rfl (loadVar_blk H4.out.1 rfl)) rfl ?_
    exact ⟨rfl, H1.out.2.1.kept H4.out.2 (fun e => HP.out.2.2.2.2.2.2.2.1 (by rw [e, HP.out.2.2.2.2.2.2.2.2.1])) (fun e => by have := HT0.out.2.1; omega), ((Kept.of_below H1.out.2.2.1 (fun i => i = r)).trans H4.out.2 (fun i hi e => by omega))⟩
end
end Go.Proofs.YthfpdebpepbejaaDoor
