/-
  ScanBack, walked.
-/
import Derived.Test.YtdnjnbfmmgkpjaaDoorBB
import Derived.Deep.DeepCutAuto
namespace Go.Proofs.YtdnjnbfmmgkpjaaDoor
open Go.RowKit

section
variable (w : World) (W H K R : Int) (T : Tbs) (X : Nat → Value) (A : Option Addr) (n c : Nat) (L : List (Option Addr × Nat × Nat)) (tl : List (List (List Int))) (Ab : Option Addr) (nb cb : Nat) (lb : List Int)
set_option maxRecDepth 10000 in
set_option maxHeartbeats 25600000 in
theorem back_calls (hT : Tab w) (hW : Wt T) (h1X : ∀ j, (X j).oneCell' = true) (hX : Xs w T X) (ht : Ti w A n L tl) (hb : Sl w (fun _ => True) Ab nb cb lb) :
    Calls Tryd.prog 4 #[scanV W H K R, tbV T X, tileV A n c, .slice Ab nb cb] w fun e w' => e = .returned (.bool true) ∧ Below w.heap.size w w' := by
  obtain ⟨C, hC⟩ : ∃ C, C = (tbC T X).toArray := ⟨_, rfl⟩
  have eC : tbV T X = .agg C := by rw [hC]; rfl
  obtain ⟨V, hV⟩ : ∃ V, V = (twoC T.t).toArray := ⟨_, rfl⟩
  obtain ⟨g1, hg1⟩ : ∃ g1, w.heap.size = g1 := ⟨_, rfl⟩
  obtain ⟨w1, hw1⟩ : ∃ w1, ((w.alloc (.cells #[.int .i64 W, .int .i64 H, .int .i64 K, .int .i64 R] 23)).alloc (.cells C 33)).alloc (.cells #[.slice A n c] 36) = w1 := ⟨_, rfl⟩
  have b1 : Box w1 g1 23 #[.int .i64 W, .int .i64 H, .int .i64 K, .int .i64 R] := by rw [← hw1, ← hg1]; exact ((Box.made _ _ _).alloc _).alloc _
  have b2 : Box w1 (g1 + 1) 33 C := by
    rw [← hw1, ← hg1]
    have := (Box.made (w.alloc (.cells #[.int .i64 W, .int .i64 H, .int .i64 K, .int .i64 R] 23)) 33 C).alloc (.cells #[.slice A n c] 36)
    simpa using this
  have b3 : Box w1 (g1 + 1 + 1) 36 #[.slice A n c] := by
    rw [← hw1, ← hg1]
    have := Box.made ((w.alloc (.cells #[.int .i64 W, .int .i64 H, .int .i64 K, .int .i64 R] 23)).alloc (.cells C 33)) 36 #[.slice A n c]
    simpa using this
  have k1 : Below w.heap.size w w1 := by rw [← hw1]; exact on_trans (on_trans (on_alloc _ _) (on_alloc _ _)) (on_alloc _ _)
  have r0 : w1.cell? ⟨g1 + 1 + 1, 0, none⟩ = some (.slice A n c) := b3.cell 0
  have hfw := few_any w1 A n c L tl (ht.on k1)
  unfold tileV FewY at hfw
  have HF := Lib.hid hfw
  have HL := Lib.hid (And.intro (fun (w' : World) (h : Box w' g1 23 #[.int .i64 W, .int .i64 H, .int .i64 K, .int .i64 R]) => load_scan h) (fun (w' : World) (h : Box w' (g1 + 1 + 1) 36 #[.slice A n c]) => load_tile h))
  have hCs : C.size = 196 := by rw [hC, List.size_toArray, tbC_len]
  have HB := Lib.hid (And.intro b1 (And.intro b2 (And.intro b3 (And.intro k1 (And.intro hg1 (And.intro eC (And.intro hC hV)))))))
  have HA := Lib.hid (And.intro hT (And.intro hW (And.intro h1X (And.intro hX (And.intro ht hb)))))
  have HCs := Lib.hid hCs
  have hnb := hb.len
  have hncb := hb.cap
  have hmb := hb.max
  unfold maxLen at hmb
  have hpos0 : 0 < w.heap.size := hT.zero
  rw [eC]
  clear b1 b2 b3 k1 hfw eC hC hV hT hW h1X hX ht hb hCs
  unfold scanV tileV
  go_enter Tryd.func4, Tryd.ntmps4
  go_upto_region 1 with fail
  clear hw1
  go_wp2_with fail
  refine Calls.mono HF.out ?_
  rintro e w2 ⟨fb, rfl, hfb, k2⟩
  have H2 := Lib.hid (And.intro (HB.out.1.on k2) (And.intro (HB.out.2.1.on k2) (And.intro (HB.out.2.2.1.on k2) (And.intro (on_trans HB.out.2.2.2.1 k2) hfb))))
  clear k2 HF r0 hfb
  cases fb with
  | false =>
    go_wp2_with fail
    refine Calls.mono (awake_any _) ?_
    rintro e w3 ⟨rfl, b3⟩
    have H3 := Lib.hid (on_trans H2.out.2.2.2.1 b3)
    clear b3
    go_wp2_with fail
    go_ret
    exact ⟨rfl, H3.out⟩
  | true =>
    have kw2 := H2.out.2.2.2.1
    have hld : (Instr.loadAt 33 (.pointer (some ⟨g1 + 1, 0, none⟩))).run Tryd.prog w2 = .ok (.agg C) w2 := by
      have hb := H2.out.2.1
      rw [HB.out.2.2.2.2.2.2.1] at hb
      rw [← HB.out.2.2.2.2.2.1]
      exact (hb.rng).load
    have HLd := Lib.hid hld
    have hsm := small_any w2 W H K R T X (HA.out.2.2.2.1.on kw2)
    unfold scanV SmallY at hsm
    rw [HB.out.2.2.2.2.2.1] at hsm
    have HSm := Lib.hid hsm
    have q0 : w2.cell? ⟨g1, 0, none⟩ = some (.int .i64 W) := H2.out.1.cell 0
    have q1 : w2.cell? ⟨g1, 1, none⟩ = some (.int .i64 H) := H2.out.1.cell 1
    have q2 : w2.cell? ⟨g1, 2, none⟩ = some (.int .i64 K) := H2.out.1.cell 2
    have q3 : w2.cell? ⟨g1, 3, none⟩ = some (.int .i64 R) := H2.out.1.cell 3
    clear hld hsm kw2
    go_wp2_with fail
    refine wp_load_at (o := ⟨some 23, _, _, _, _, _⟩) 33 (.tmp 5) rfl (.pointer (some ⟨g1 + 1, 0, none⟩)) rfl (.agg C) HLd.out ?_
    go_wp2_with fail
    refine Calls.mono HSm.out ?_
    rintro e w3 ⟨sb, rfl, hsb, k3⟩
    have H3 := Lib.hid (And.intro (H2.out.1.on k3) (And.intro (H2.out.2.1.on k3) (And.intro (H2.out.2.2.1.on k3) (And.intro (on_trans H2.out.2.2.2.1 k3) hsb))))
    clear k3 HSm hsb q0 q1 q2 q3 HLd
    cases sb with
    | false =>
      go_wp2_with fail
      refine Calls.mono (awake_any _) ?_
      rintro e w4 ⟨rfl, b4⟩
      have H4 := Lib.hid (on_trans H3.out.2.2.2.1 b4)
      clear b4
      go_wp2_with fail
      go_ret
      exact ⟨rfl, H4.out⟩
    | true =>
      by_cases h1000 : nb ≤ 1000
      · have hgt : ¬ (1000 : Int) < nb := by omega
        have hfew := H2.out.2.2.2.2 trivial
        have hsmall := H3.out.2.2.2.2 rfl
        have kw3 := H3.out.2.2.2.1
        have ht100 : ∀ t ∈ tl, t.length ≤ 100 := fun t h => by
          obtain ⟨p, hp⟩ := List.mem_iff_getElem?.1 h
          have := hfew.2 p t hp
          omega
        have how : ∀ w', Ti w' A n L tl → Calls Tryd.prog 10 #[.agg #[.slice A n c]] w' (OwnT w' n tl) := fun w' h => own_any w' A n c L tl h hfew.1 ht100
        unfold OwnT at how
        have HOw := Lib.hid how
        have htn : ∀ w', Below w3.heap.size w3 w' → ∀ A8 c8 L8 bl, Ti w' A8 n L8 tl → bl < w'.heap.size → w'.cell? ⟨bl, 0, none⟩ = some (.slice A8 n c8) → Calls Tryd.prog 14 #[.agg #[.int .i64 W, .int .i64 H, .int .i64 K, .int .i64 R], .slice (some ⟨bl, 0, none⟩) 1 1, .agg V] w' fun e w'' => Below w'.heap.size w' w'' ∧ ∃ C E, e = .returned (.tuple #[.agg C, .int .i64 E]) ∧ C.size = 196 ∧ C.all (·.oneCell') = true ∧ TuneR w'' W H K R tl C E := fun w' k A8 c8 L8 bl h8 hbl hc8 =>
          tune_one w' W H K R tl A8 n c8 L8 bl 0 1 T.t V HB.out.2.2.2.2.2.2.2 (HA.out.1.on (on_trans kw3 k)) h8 hsmall.1 hbl hc8 HA.out.2.1.st
        have HTn := Lib.hid htn
        have HL26 := Lib.hid (fun (w' : World) (k : Below w3.heap.size w3 w') => (show (Instr.loadAt 26 (.pointer (some ⟨g1 + 1, 0, none⟩))).run Tryd.prog w' = .ok (.agg V) w' by
          have hb := H3.out.2.1.on k
          rw [HB.out.2.2.2.2.2.2.1] at hb
          rw [HB.out.2.2.2.2.2.2.2]
          exact run_loadAt_mid w' (g1 + 1) 0 26 (twoC T.t) _ (fun j u hu => by
            have hj := (List.getElem?_eq_some_iff.1 hu).1
            have hl : (twoC T.t).length = 128 := by simp [twoC, cellsI_len, HA.out.2.1.st 0 (by omega), HA.out.2.1.st 1 (by omega)]
            rw [Nat.zero_add, hb.rng.cell (by omega)]
            unfold twoC at hu
            by_cases h64 : j < 64
            · rw [List.getElem?_append_left (by rw [cellsI_len, HA.out.2.1.st 0 (by omega)]; exact h64), cellsI_get _ _ (by rw [HA.out.2.1.st 0 (by omega)]; exact h64)] at hu
              have := tbAt_t (T := T) (X := X) (i := 0) (k := j) (by omega) h64
              rw [Nat.mul_zero, Nat.zero_add] at this
              rw [this, hu]
            · rw [List.getElem?_append_right (by rw [cellsI_len, HA.out.2.1.st 0 (by omega)]; omega), cellsI_len, HA.out.2.1.st 0 (by omega), cellsI_get _ _ (by rw [HA.out.2.1.st 1 (by omega)]; omega)] at hu
              have := tbAt_t (T := T) (X := X) (i := 1) (k := j - 64) (by omega) (by omega)
              rw [show 64 * 1 + (j - 64) = j by omega] at this
              rw [this, hu]) Tryd.underlying26 rfl (by rw [two_size]; simp [twoC, cellsI_len, HA.out.2.1.st 0 (by omega), HA.out.2.1.st 1 (by omega)])))
        have HW3 := Lib.hid (And.intro H3.out.1 (And.intro H3.out.2.2.1 (HA.out.2.2.2.2.1.on kw3)))
        have HS := Lib.hid (And.intro hfew.1 (And.intro ht100 hsmall))
        obtain ⟨Z, hZ⟩ : ∃ Z, Z = (tbC tb0 nilX).toArray := ⟨_, rfl⟩
        have hz33 : ∀ w, (zeroValue 33).run Tryd.prog w = .ok (.agg Z) w := fun w => by rw [hZ]; exact zero33 w
        have HZ := Lib.hid (show Z.size = 196 by rw [hZ, List.size_toArray, tbC_len])
        clear how htn hfew hsmall kw3 ht100 hZ
        go_upto_region 3 with fail
        go_cut [9, 10] from 33 to 42 (fun p e wx => ∃ (g9 : Nat) (CT : Array Value) (E : Int), p = .pointer (some ⟨g9, 0, none⟩) ∧ e = .int .i64 E ∧ Box wx g9 33 CT ∧ CT.size = 196 ∧ CT.all (·.oneCell') = true ∧ Below w3.heap.size w3 wx ∧ TuneR wx W H K R tl CT E)
        case first =>
          refine wp_region_held_drew (S := fun w' => Hid (Below w3.heap.size w3 w')) (by kernel_rfl) (Lib.hid (on_drew w3)) fun s0 => ?_
          refine take_to (i := 0) (v := .agg #[.int .i64 W, .int .i64 H, .int .i64 K, .int .i64 R]) rfl (by kernel_rfl) (by kernel_rfl) (by kernel_rfl) (fun _ _ _ h => h) (yieldsIf_load7 (by rfl) 23 (.tmp 4) rfl (.pointer (some ⟨g1, 0, none⟩)) rfl (.agg #[.int .i64 W, .int .i64 H, .int .i64 K, .int .i64 R]) (fun w' hS => HL.out.1 w' (HW3.out.1.on hS.out))) s0 (some 34) rfl ?_
          try simp only [Act.put, List.setIfInBounds_toArray, List.set_cons_zero, List.set_cons_succ]
          refine take_to (i := 1) (v := .agg #[.slice A n c]) rfl (by kernel_rfl) (by kernel_rfl) (by kernel_rfl) (fun _ _ _ h => h) (yieldsIf_load7 (by rfl) 36 (.tmp 6) rfl (.pointer (some ⟨g1 + 1 + 1, 0, none⟩)) rfl (.agg #[.slice A n c]) (fun w' hS => HL.out.2 w' (HW3.out.2.1.on hS.out))) s0 (some 35) rfl ?_
          try simp only [Act.put, List.setIfInBounds_toArray, List.set_cons_zero, List.set_cons_succ]
          refine take_to (i := 4) (v := .pointer (some ⟨g1 + 1, 0, none⟩)) rfl (by kernel_rfl) (by kernel_rfl) (by kernel_rfl) (fun _ _ _ h => h) (Or.inl ⟨by rfl, fun w' hS => by go_simp⟩) s0 (some 38) rfl ?_
          try simp only [Act.put, List.setIfInBounds_toArray, List.set_cons_zero, List.set_cons_succ]
          refine take_to (i := 5) (v := .agg V) rfl (by kernel_rfl) (by kernel_rfl) (by kernel_rfl) (fun _ _ _ h => h) (yieldsIf_load7 (by rfl) 26 (.tmp 38) rfl (.pointer (some ⟨g1 + 1, 0, none⟩)) rfl (.agg V) (fun w' hS => HL26.out w' hS.out)) s0 (some 39) rfl ?_
          try simp only [Act.put, List.setIfInBounds_toArray, List.set_cons_zero, List.set_cons_succ]
          obtain ⟨v0, hv0⟩ : ∃ v0, v0 = w3.drew := ⟨_, rfl⟩
          rw [← hv0] at s0 ⊢
          clear hv0
          refine wpAnyH_ready (rs := [2, 10]) (by kernel_rfl) (by simp) ?_
          refine (AllReadyH.cons rfl (fun Kq hKq => ?_) (AllReadyH.cons rfl (fun Kq hKq => ?_) AllReadyH.nil))
          · go_simp
            refine Calls.mono (HOw.out _ (HW3.out.2.2.on s0.out)) ?_
            rintro e v1 ⟨A8, c8, L8, rfl, t8, bq⟩
            unfold tileV
            have HT8 := Lib.hid t8
            clear t8
            have K1 := Lib.hid bq
            have sq := Lib.hid (on_trans s0.out bq)
            refine hKq.out _ _ sq fun _ => ?_
            clear hKq Kq bq s0
            have s0 := sq
            clear sq
            refine wpAnyH_ready (rs := [3, 10]) (by kernel_rfl) (by simp) ?_
            refine (AllReadyH.cons rfl (fun Kq hKq => ?_) (AllReadyH.cons rfl (fun Kq hKq => ?_) AllReadyH.nil))
            · go_simp
              have bq : Below v1.heap.size v1 (v1.alloc (.cells #[.slice A8 n c8] 36)) := on_alloc _ _
              have bb : Box (v1.alloc (.cells #[.slice A8 n c8] 36)) v1.heap.size 36 #[.slice A8 n c8] := Box.made _ _ _
              obtain ⟨gl, hgl⟩ : ∃ gl, gl = v1.heap.size := ⟨_, rfl⟩
              obtain ⟨v2, hn2⟩ : ∃ x, x = v1.alloc (.cells #[.slice A8 n c8] 36) := ⟨_, rfl⟩
              simp only [← hgl, ← hn2] at bb ⊢
              rw [← hn2] at bq
              have HGl := Lib.hid bb
              clear bb hn2 hgl
              have K2 := Lib.hid bq
              have sq := Lib.hid (on_trans s0.out bq)
              refine hKq.out _ _ sq fun _ => ?_
              clear hKq Kq bq s0
              have s0 := sq
              clear sq
              refine wpAnyH_ready (rs := [6, 10]) (by kernel_rfl) (by simp) ?_
              refine (AllReadyH.cons rfl (fun Kq hKq => ?_) (AllReadyH.cons rfl (fun Kq hKq => ?_) AllReadyH.nil))
              · go_simp
                have ct8 : v2.cell? ⟨gl, 0, none⟩ = some (.slice A8 n c8) := (HGl.out).cell 0
                refine Calls.mono (HTn.out _ s0.out A8 c8 L8 gl ((HT8.out).on K2.out) (HGl.out).lt ct8) ?_
                rintro e v3 ⟨bq, CT, ET, rfl, hcs, hc1, htr⟩
                have HTr := Lib.hid htr
                have HCT := Lib.hid (And.intro hcs hc1)
                clear htr hcs hc1 ct8
                have K3 := Lib.hid bq
                have sq := Lib.hid (on_trans s0.out bq)
                refine hKq.out _ _ sq fun _ => ?_
                clear hKq Kq bq s0
                have s0 := sq
                clear sq
                refine take_to (i := 7) (v := .tuple #[.agg CT, .int .i64 ET]) rfl (by kernel_rfl) (by kernel_rfl) (by kernel_rfl) (fun _ _ _ h => h) (Or.inl ⟨by rfl, fun w' hS => by go_simp⟩) s0 (some 33) rfl ?_
                try simp only [Act.put, List.setIfInBounds_toArray, List.set_cons_zero, List.set_cons_succ]
                refine take_to (i := 8) (v := .agg CT) rfl (by kernel_rfl) (by kernel_rfl) (by kernel_rfl) (fun _ _ _ h => h) (Or.inl ⟨by rfl, fun w' hS => by go_simp⟩) s0 (some 41) rfl ?_
                try simp only [Act.put, List.setIfInBounds_toArray, List.set_cons_zero, List.set_cons_succ]
                refine take_to (i := 9) (v := .int .i64 ET) rfl (by kernel_rfl) (by kernel_rfl) (by kernel_rfl) (fun _ _ _ h => h) (Or.inl ⟨by rfl, fun w' hS => by go_simp⟩) s0 (some 42) rfl ?_
                try simp only [Act.put, List.setIfInBounds_toArray, List.set_cons_zero, List.set_cons_succ]
                refine wpAnyH_ready (rs := [10]) (by kernel_rfl) (by simp) ?_
                refine (AllReadyH.cons rfl (fun Kq hKq => ?_) AllReadyH.nil)
                go_simp
                have bq : Below v3.heap.size v3 (v3.alloc (.cells Z 33)) := on_alloc _ _
                have bb : Box (v3.alloc (.cells Z 33)) v3.heap.size 33 Z := Box.made _ _ _
                obtain ⟨g9, hg9⟩ : ∃ g9, g9 = v3.heap.size := ⟨_, rfl⟩
                obtain ⟨v4, hn4⟩ : ∃ x, x = v3.alloc (.cells Z 33) := ⟨_, rfl⟩
                simp only [← hg9, ← hn4] at bb ⊢
                rw [← hn4] at bq
                have HG9 := Lib.hid (And.intro bb (show w3.heap.size ≤ g9 by rw [hg9]; exact s0.out.size))
                clear bb hn4 hg9
                have K4 := Lib.hid bq
                have sq := Lib.hid (on_trans s0.out bq)
                refine hKq.out _ _ sq fun _ => ?_
                clear hKq Kq bq s0
                have s0 := sq
                clear sq
                refine wpAnyH_ready (rs := [11]) (by kernel_rfl) (by simp) ?_
                refine AllReadyH.cons rfl (fun Kq hKq => ?_) AllReadyH.nil
                have bz9 := HG9.out.1
                have htz := (HTr.out).on K4.out
                refine step_store_row rfl 33 (.tmp 9) (.tmp 41) rfl rfl g9 CT rfl rfl (by rw [tables_size, HCT.out.1]) 33 Z bz9 (by rw [HZ.out, HCT.out.1]) HCT.out.2 ?_
                intro wz b9 k9
                have sq := Lib.hid (s0.out.trans (k9.below s0.out.size (fun i hi e => by have := HG9.out.2; omega)))
                have HR9 := Lib.hid (And.intro b9 (htz.kept k9 bz9 (fun _ e => e)))
                refine hKq.out _ _ sq fun _ => ?_
                clear hKq Kq s0 b9 k9 bz9 htz
                have s0 := sq
                clear sq
                refine take_to (i := 12) (v := .int .i64 ET) rfl (by kernel_rfl) (by kernel_rfl) (by kernel_rfl) (fun _ _ _ h => h) (Or.inl ⟨by rfl, fun w' hS => by go_simp⟩) s0 (some 10) rfl ?_
                try simp only [Act.put, List.setIfInBounds_toArray, List.set_cons_zero, List.set_cons_succ]
                refine wpAnyH_done (by kernel_rfl) ?_ _
                go_wp2_with fail
                go_meet
                exact ⟨g9, CT, ET, rfl, rfl, HR9.out.1, HCT.out.1, HCT.out.2, s0.out, HR9.out.2⟩
              · go_simp
                have bq : Below v2.heap.size v2 (v2.alloc (.cells Z 33)) := on_alloc _ _
                have bb : Box (v2.alloc (.cells Z 33)) v2.heap.size 33 Z := Box.made _ _ _
                obtain ⟨g9, hg9⟩ : ∃ g9, g9 = v2.heap.size := ⟨_, rfl⟩
                obtain ⟨v5, hn5⟩ : ∃ x, x = v2.alloc (.cells Z 33) := ⟨_, rfl⟩
                simp only [← hg9, ← hn5] at bb ⊢
                rw [← hn5] at bq
                have HG9 := Lib.hid (And.intro bb (show w3.heap.size ≤ g9 by rw [hg9]; exact s0.out.size))
                clear bb hn5 hg9
                have K5 := Lib.hid bq
                have sq := Lib.hid (on_trans s0.out bq)
                refine hKq.out _ _ sq fun _ => ?_
                clear hKq Kq bq s0
                have s0 := sq
                clear sq
                refine wpAnyH_ready (rs := [6]) (by kernel_rfl) (by simp) ?_
                refine (AllReadyH.cons rfl (fun Kq hKq => ?_) AllReadyH.nil)
                go_simp
                have ct8 : v5.cell? ⟨gl, 0, none⟩ = some (.slice A8 n c8) := ((HGl.out).on K5.out).cell 0
                refine Calls.mono (HTn.out _ s0.out A8 c8 L8 gl (((HT8.out).on K2.out).on K5.out) ((HGl.out).on K5.out).lt ct8) ?_
                rintro e v6 ⟨bq, CT, ET, rfl, hcs, hc1, htr⟩
                have HTr := Lib.hid htr
                have HCT := Lib.hid (And.intro hcs hc1)
                clear htr hcs hc1 ct8
                have K6 := Lib.hid bq
                have sq := Lib.hid (on_trans s0.out bq)
                refine hKq.out _ _ sq fun _ => ?_
                clear hKq Kq bq s0
                have s0 := sq
                clear sq
                refine take_to (i := 7) (v := .tuple #[.agg CT, .int .i64 ET]) rfl (by kernel_rfl) (by kernel_rfl) (by kernel_rfl) (fun _ _ _ h => h) (Or.inl ⟨by rfl, fun w' hS => by go_simp⟩) s0 (some 33) rfl ?_
                try simp only [Act.put, List.setIfInBounds_toArray, List.set_cons_zero, List.set_cons_succ]
                refine take_to (i := 8) (v := .agg CT) rfl (by kernel_rfl) (by kernel_rfl) (by kernel_rfl) (fun _ _ _ h => h) (Or.inl ⟨by rfl, fun w' hS => by go_simp⟩) s0 (some 41) rfl ?_
                try simp only [Act.put, List.setIfInBounds_toArray, List.set_cons_zero, List.set_cons_succ]
                refine take_to (i := 9) (v := .int .i64 ET) rfl (by kernel_rfl) (by kernel_rfl) (by kernel_rfl) (fun _ _ _ h => h) (Or.inl ⟨by rfl, fun w' hS => by go_simp⟩) s0 (some 42) rfl ?_
                try simp only [Act.put, List.setIfInBounds_toArray, List.set_cons_zero, List.set_cons_succ]
                refine wpAnyH_ready (rs := [11]) (by kernel_rfl) (by simp) ?_
                refine AllReadyH.cons rfl (fun Kq hKq => ?_) AllReadyH.nil
                have bz9 := (HG9.out.1).on K6.out
                have htz := HTr.out
                refine step_store_row rfl 33 (.tmp 9) (.tmp 41) rfl rfl g9 CT rfl rfl (by rw [tables_size, HCT.out.1]) 33 Z bz9 (by rw [HZ.out, HCT.out.1]) HCT.out.2 ?_
                intro wz b9 k9
                have sq := Lib.hid (s0.out.trans (k9.below s0.out.size (fun i hi e => by have := HG9.out.2; omega)))
                have HR9 := Lib.hid (And.intro b9 (htz.kept k9 bz9 (fun _ e => e)))
                refine hKq.out _ _ sq fun _ => ?_
                clear hKq Kq s0 b9 k9 bz9 htz
                have s0 := sq
                clear sq
                refine take_to (i := 12) (v := .int .i64 ET) rfl (by kernel_rfl) (by kernel_rfl) (by kernel_rfl) (fun _ _ _ h => h) (Or.inl ⟨by rfl, fun w' hS => by go_simp⟩) s0 (some 10) rfl ?_
                try simp only [Act.put, List.setIfInBounds_toArray, List.set_cons_zero, List.set_cons_succ]
                refine wpAnyH_done (by kernel_rfl) ?_ _
                go_wp2_with fail
                go_meet
                exact ⟨g9, CT, ET, rfl, rfl, HR9.out.1, HCT.out.1, HCT.out.2, s0.out, HR9.out.2⟩
            · go_simp
              have bq : Below v1.heap.size v1 (v1.alloc (.cells Z 33)) := on_alloc _ _
              have bb : Box (v1.alloc (.cells Z 33)) v1.heap.size 33 Z := Box.made _ _ _
              obtain ⟨g9, hg9⟩ : ∃ g9, g9 = v1.heap.size := ⟨_, rfl⟩
              obtain ⟨v7, hn7⟩ : ∃ x, x = v1.alloc (.cells Z 33) := ⟨_, rfl⟩
              simp only [← hg9, ← hn7] at bb ⊢
              rw [← hn7] at bq
              have HG9 := Lib.hid (And.intro bb (show w3.heap.size ≤ g9 by rw [hg9]; exact s0.out.size))
              clear bb hn7 hg9
              have K7 := Lib.hid bq
              have sq := Lib.hid (on_trans s0.out bq)
              refine hKq.out _ _ sq fun _ => ?_
              clear hKq Kq bq s0
              have s0 := sq
              clear sq
              refine wpAnyH_ready (rs := [3]) (by kernel_rfl) (by simp) ?_
              refine (AllReadyH.cons rfl (fun Kq hKq => ?_) AllReadyH.nil)
              go_simp
              have bq : Below v7.heap.size v7 (v7.alloc (.cells #[.slice A8 n c8] 36)) := on_alloc _ _
              have bb : Box (v7.alloc (.cells #[.slice A8 n c8] 36)) v7.heap.size 36 #[.slice A8 n c8] := Box.made _ _ _
              obtain ⟨gl, hgl⟩ : ∃ gl, gl = v7.heap.size := ⟨_, rfl⟩
              obtain ⟨v8, hn8⟩ : ∃ x, x = v7.alloc (.cells #[.slice A8 n c8] 36) := ⟨_, rfl⟩
              simp only [← hgl, ← hn8] at bb ⊢
              rw [← hn8] at bq
              have HGl := Lib.hid bb
              clear bb hn8 hgl
              have K8 := Lib.hid bq
              have sq := Lib.hid (on_trans s0.out bq)
              refine hKq.out _ _ sq fun _ => ?_
              clear hKq Kq bq s0
              have s0 := sq
              clear sq
              refine wpAnyH_ready (rs := [6]) (by kernel_rfl) (by simp) ?_
              refine (AllReadyH.cons rfl (fun Kq hKq => ?_) AllReadyH.nil)
              go_simp
              have ct8 : v8.cell? ⟨gl, 0, none⟩ = some (.slice A8 n c8) := (HGl.out).cell 0
              refine Calls.mono (HTn.out _ s0.out A8 c8 L8 gl (((HT8.out).on K7.out).on K8.out) (HGl.out).lt ct8) ?_
              rintro e v9 ⟨bq, CT, ET, rfl, hcs, hc1, htr⟩
              have HTr := Lib.hid htr
              have HCT := Lib.hid (And.intro hcs hc1)
              clear htr hcs hc1 ct8
              have K9 := Lib.hid bq
              have sq := Lib.hid (on_trans s0.out bq)
              refine hKq.out _ _ sq fun _ => ?_
              clear hKq Kq bq s0
              have s0 := sq
              clear sq
              refine take_to (i := 7) (v := .tuple #[.agg CT, .int .i64 ET]) rfl (by kernel_rfl) (by kernel_rfl) (by kernel_rfl) (fun _ _ _ h => h) (Or.inl ⟨by rfl, fun w' hS => by go_simp⟩) s0 (some 33) rfl ?_
              try simp only [Act.put, List.setIfInBounds_toArray, List.set_cons_zero, List.set_cons_succ]
              refine take_to (i := 8) (v := .agg CT) rfl (by kernel_rfl) (by kernel_rfl) (by kernel_rfl) (fun _ _ _ h => h) (Or.inl ⟨by rfl, fun w' hS => by go_simp⟩) s0 (some 41) rfl ?_
              try simp only [Act.put, List.setIfInBounds_toArray, List.set_cons_zero, List.set_cons_succ]
              refine take_to (i := 9) (v := .int .i64 ET) rfl (by kernel_rfl) (by kernel_rfl) (by kernel_rfl) (fun _ _ _ h => h) (Or.inl ⟨by rfl, fun w' hS => by go_simp⟩) s0 (some 42) rfl ?_
              try simp only [Act.put, List.setIfInBounds_toArray, List.set_cons_zero, List.set_cons_succ]
              refine wpAnyH_ready (rs := [11]) (by kernel_rfl) (by simp) ?_
              refine AllReadyH.cons rfl (fun Kq hKq => ?_) AllReadyH.nil
              have bz9 := ((HG9.out.1).on K8.out).on K9.out
              have htz := HTr.out
              refine step_store_row rfl 33 (.tmp 9) (.tmp 41) rfl rfl g9 CT rfl rfl (by rw [tables_size, HCT.out.1]) 33 Z bz9 (by rw [HZ.out, HCT.out.1]) HCT.out.2 ?_
              intro wz b9 k9
              have sq := Lib.hid (s0.out.trans (k9.below s0.out.size (fun i hi e => by have := HG9.out.2; omega)))
              have HR9 := Lib.hid (And.intro b9 (htz.kept k9 bz9 (fun _ e => e)))
              refine hKq.out _ _ sq fun _ => ?_
              clear hKq Kq s0 b9 k9 bz9 htz
              have s0 := sq
              clear sq
              refine take_to (i := 12) (v := .int .i64 ET) rfl (by kernel_rfl) (by kernel_rfl) (by kernel_rfl) (fun _ _ _ h => h) (Or.inl ⟨by rfl, fun w' hS => by go_simp⟩) s0 (some 10) rfl ?_
              try simp only [Act.put, List.setIfInBounds_toArray, List.set_cons_zero, List.set_cons_succ]
              refine wpAnyH_done (by kernel_rfl) ?_ _
              go_wp2_with fail
              go_meet
              exact ⟨g9, CT, ET, rfl, rfl, HR9.out.1, HCT.out.1, HCT.out.2, s0.out, HR9.out.2⟩
          · go_simp
            have bq : Below v0.heap.size v0 (v0.alloc (.cells Z 33)) := on_alloc _ _
            have bb : Box (v0.alloc (.cells Z 33)) v0.heap.size 33 Z := Box.made _ _ _
            obtain ⟨g9, hg9⟩ : ∃ g9, g9 = v0.heap.size := ⟨_, rfl⟩
            obtain ⟨v10, hn10⟩ : ∃ x, x = v0.alloc (.cells Z 33) := ⟨_, rfl⟩
            simp only [← hg9, ← hn10] at bb ⊢
            rw [← hn10] at bq
            have HG9 := Lib.hid (And.intro bb (show w3.heap.size ≤ g9 by rw [hg9]; exact s0.out.size))
            clear bb hn10 hg9
            have K10 := Lib.hid bq
            have sq := Lib.hid (on_trans s0.out bq)
            refine hKq.out _ _ sq fun _ => ?_
            clear hKq Kq bq s0
            have s0 := sq
            clear sq
            refine wpAnyH_ready (rs := [2]) (by kernel_rfl) (by simp) ?_
            refine (AllReadyH.cons rfl (fun Kq hKq => ?_) AllReadyH.nil)
            go_simp
            refine Calls.mono (HOw.out _ (HW3.out.2.2.on s0.out)) ?_
            rintro e v11 ⟨A8, c8, L8, rfl, t8, bq⟩
            unfold tileV
            have HT8 := Lib.hid t8
            clear t8
            have K11 := Lib.hid bq
            have sq := Lib.hid (on_trans s0.out bq)
            refine hKq.out _ _ sq fun _ => ?_
            clear hKq Kq bq s0
            have s0 := sq
            clear sq
            refine wpAnyH_ready (rs := [3]) (by kernel_rfl) (by simp) ?_
            refine (AllReadyH.cons rfl (fun Kq hKq => ?_) AllReadyH.nil)
            go_simp
            have bq : Below v11.heap.size v11 (v11.alloc (.cells #[.slice A8 n c8] 36)) := on_alloc _ _
            have bb : Box (v11.alloc (.cells #[.slice A8 n c8] 36)) v11.heap.size 36 #[.slice A8 n c8] := Box.made _ _ _
            obtain ⟨gl, hgl⟩ : ∃ gl, gl = v11.heap.size := ⟨_, rfl⟩
            obtain ⟨v12, hn12⟩ : ∃ x, x = v11.alloc (.cells #[.slice A8 n c8] 36) := ⟨_, rfl⟩
            simp only [← hgl, ← hn12] at bb ⊢
            rw [← hn12] at bq
            have HGl := Lib.hid bb
            clear bb hn12 hgl
            have K12 := Lib.hid bq
            have sq := Lib.hid (on_trans s0.out bq)
            refine hKq.out _ _ sq fun _ => ?_
            clear hKq Kq bq s0
            have s0 := sq
            clear sq
            refine wpAnyH_ready (rs := [6]) (by kernel_rfl) (by simp) ?_
            refine (AllReadyH.cons rfl (fun Kq hKq => ?_) AllReadyH.nil)
            go_simp
            have ct8 : v12.cell? ⟨gl, 0, none⟩ = some (.slice A8 n c8) := (HGl.out).cell 0
            refine Calls.mono (HTn.out _ s0.out A8 c8 L8 gl ((HT8.out).on K12.out) (HGl.out).lt ct8) ?_
            rintro e v13 ⟨bq, CT, ET, rfl, hcs, hc1, htr⟩
            have HTr := Lib.hid htr
            have HCT := Lib.hid (And.intro hcs hc1)
            clear htr hcs hc1 ct8
            have K13 := Lib.hid bq
            have sq := Lib.hid (on_trans s0.out bq)
            refine hKq.out _ _ sq fun _ => ?_
            clear hKq Kq bq s0
            have s0 := sq
            clear sq
            refine take_to (i := 7) (v := .tuple #[.agg CT, .int .i64 ET]) rfl (by kernel_rfl) (by kernel_rfl) (by kernel_rfl) (fun _ _ _ h => h) (Or.inl ⟨by rfl, fun w' hS => by go_simp⟩) s0 (some 33) rfl ?_
            try simp only [Act.put, List.setIfInBounds_toArray, List.set_cons_zero, List.set_cons_succ]
            refine take_to (i := 8) (v := .agg CT) rfl (by kernel_rfl) (by kernel_rfl) (by kernel_rfl) (fun _ _ _ h => h) (Or.inl ⟨by rfl, fun w' hS => by go_simp⟩) s0 (some 41) rfl ?_
            try simp only [Act.put, List.setIfInBounds_toArray, List.set_cons_zero, List.set_cons_succ]
            refine take_to (i := 9) (v := .int .i64 ET) rfl (by kernel_rfl) (by kernel_rfl) (by kernel_rfl) (fun _ _ _ h => h) (Or.inl ⟨by rfl, fun w' hS => by go_simp⟩) s0 (some 42) rfl ?_
            try simp only [Act.put, List.setIfInBounds_toArray, List.set_cons_zero, List.set_cons_succ]
            refine wpAnyH_ready (rs := [11]) (by kernel_rfl) (by simp) ?_
            refine AllReadyH.cons rfl (fun Kq hKq => ?_) AllReadyH.nil
            have bz9 := (((HG9.out.1).on K11.out).on K12.out).on K13.out
            have htz := HTr.out
            refine step_store_row rfl 33 (.tmp 9) (.tmp 41) rfl rfl g9 CT rfl rfl (by rw [tables_size, HCT.out.1]) 33 Z bz9 (by rw [HZ.out, HCT.out.1]) HCT.out.2 ?_
            intro wz b9 k9
            have sq := Lib.hid (s0.out.trans (k9.below s0.out.size (fun i hi e => by have := HG9.out.2; omega)))
            have HR9 := Lib.hid (And.intro b9 (htz.kept k9 bz9 (fun _ e => e)))
            refine hKq.out _ _ sq fun _ => ?_
            clear hKq Kq s0 b9 k9 bz9 htz
            have s0 := sq
            clear sq
            refine take_to (i := 12) (v := .int .i64 ET) rfl (by kernel_rfl) (by kernel_rfl) (by kernel_rfl) (fun _ _ _ h => h) (Or.inl ⟨by rfl, fun w' hS => by go_simp⟩) s0 (some 10) rfl ?_
            try simp only [Act.put, List.setIfInBounds_toArray, List.set_cons_zero, List.set_cons_succ]
            refine wpAnyH_done (by kernel_rfl) ?_ _
            go_wp2_with fail
            go_meet
            exact ⟨g9, CT, ET, rfl, rfl, HR9.out.1, HCT.out.1, HCT.out.2, s0.out, HR9.out.2⟩
        case rest =>
          obtain ⟨g9, CT, E, rfl, rfl, b9, hcs, hc1, k9, htr⟩ := hcut
          have HC := Lib.hid (And.intro b9 (And.intro hcs (And.intro hc1 (And.intro k9 htr))))
          have kwc := on_trans H3.out.2.2.2.1 k9
          have HWc := Lib.hid (And.intro (H3.out.1.on k9) (And.intro (H3.out.2.1.on k9) (And.intro (H3.out.2.2.1.on k9) kwc)))
          clear b9 hcs hc1 k9 htr kwc
          by_cases hR : RightT W H K R tl
          · have HR := Lib.hid hR
            obtain rfl : E = 0 := (HC.out.2.2.2.2.2 hR).1
            obtain ⟨T', X', hCT, hTK, hok, hpe⟩ := HC.out.2.2.2.2.know hR
            have hnn : n = nP K := HA.out.2.2.2.2.1.len.symm.trans hR.2.1
            have HK := Lib.hid (And.intro hCT (And.intro hTK (And.intro (putR_ok hR hok hpe) hnn)))
            clear hR hCT hTK hok hpe hnn
            have hl9 : (Instr.loadAt 33 (.pointer (some ⟨g9, 0, none⟩))).run Tryd.prog wc = .ok (.agg CT) wc := by
              have hb := HC.out.1
              rw [HK.out.1] at hb ⊢
              exact hb.rng.load
            have hl5 : (Instr.loadAt 33 (.pointer (some ⟨g1 + 1, 0, none⟩))).run Tryd.prog wc = .ok (.agg C) wc := by
              have hb := HWc.out.2.1
              rw [HB.out.2.2.2.2.2.2.1] at hb ⊢
              exact hb.rng.load
            obtain ⟨D, hD⟩ : ∃ D, D = (CT.toList ++ C.toList).toArray := ⟨_, rfl⟩
            have hbd : (Instr.build 51 #[(0, .agg CT), (1, .agg C)]).run Tryd.prog wc = .ok (.agg D) wc := by
              have := build51 wc (a := CT.toList) (b := C.toList) (by rw [Array.length_toList]; exact HC.out.2.1) (by rw [Array.length_toList]; exact HCs.out)
              rw [hD]
              simpa using this
            have hix : ∀ w (k : Nat), k < 2 → (Instr.index 51 (.agg D) (.int .i64 (k : Int))).run Tryd.prog w = .ok (.agg (if k = 0 then CT else C)) w := fun w k hk => by rw [hD]; exact index51 w HC.out.2.1 HCs.out hk
            have HL6 := Lib.hid (And.intro hl9 (And.intro hl5 (And.intro hbd hix)))
            clear hl9 hl5 hbd hix hD
            go_wp2_with (first
              | (with_reducible refine wpList_load_to (op := ⟨some 52, _, _, _, _, _⟩) rfl 33 (.tmp 9) rfl (.pointer (some ⟨g9, 0, none⟩)) rfl (.agg CT) HL6.out.1 ?_)
              | (with_reducible refine wpList_load_to (op := ⟨some 53, _, _, _, _, _⟩) rfl 33 (.tmp 5) rfl (.pointer (some ⟨g1 + 1, 0, none⟩)) rfl (.agg C) HL6.out.2.1 ?_)
              | (refine wpList_build_to (op := ⟨some 54, _, _, _, _, _⟩) rfl 51 _ rfl (.agg D) #[(0, .agg CT), (1, .agg C)] (by simp; exact ⟨rfl, rfl⟩) HL6.out.2.2.1 ?_)
              | fail)
            go_loopw [11, 13, 14, 16, 17, 55] (fun _ _ _ _ _ i wx => ∃ k : Nat, k ≤ 2 ∧ i = .int .i64 (k : Int) ∧ Below wc.heap.size wc wx) (fun _ _ _ _ _ i _ => 2 - (intOf i).toNat)
            case atStart => exact ⟨0, by omega, rfl, Below.refl _ _⟩
            case round =>
              obtain ⟨k, hk2, rfl, hbw⟩ := hrel
              by_cases hlt : k < 2
              · obtain ⟨Dk, hDk⟩ : ∃ Dk, Dk = if k = 0 then CT else C := ⟨_, rfl⟩
                have hTX : ∃ Tk Xk, Dk = (tbC Tk Xk).toArray ∧ TbK wr Tk Xk ∧ (k = 0 → (putR W H K R Tk tl).2 = 0) := by
                  by_cases h0 : k = 0
                  · exact ⟨T', X', by rw [hDk, if_pos h0]; exact HK.out.1, HK.out.2.1.on hbw, fun _ => HK.out.2.2.1⟩
                  · exact ⟨T, X, by rw [hDk, if_neg h0]; exact HB.out.2.2.2.2.2.2.1, ⟨HA.out.2.2.2.1.on (on_trans HWc.out.2.2.2 hbw), HA.out.2.1, HA.out.2.2.1, HS.out.2.2.2⟩, fun h => absurd h h0⟩
                obtain ⟨Tk, Xk, hDT, hTk, hk0⟩ := hTX
                have hDs : Dk.size = 196 := by rw [hDT, List.size_toArray, tbC_len]
                have hD1 : Dk.all (·.oneCell') = true := by rw [hDT]; exact all_oneCell_toArray (tb_one hTk.one)
                obtain ⟨g12, hg12⟩ : ∃ g12, wr.heap.size = g12 := ⟨_, rfl⟩
                obtain ⟨w7, hw7⟩ : ∃ w7, wr.alloc (.cells Z 33) = w7 := ⟨_, rfl⟩
                have b7 : Box w7 g12 33 Z := by rw [← hw7, ← hg12]; exact Box.made _ _ _
                have k7 : Below wr.heap.size wr w7 := by rw [← hw7]; exact on_alloc _ _
                have HIx := Lib.hid (show ∀ w, (Instr.index 51 (.agg D) (.int .i64 (k : Int))).run Tryd.prog w = .ok (.agg Dk) w from fun w => by rw [hDk]; exact HL6.out.2.2.2 w k hlt)
                have H7 := Lib.hid (And.intro b7 (And.intro (on_trans hbw k7) (And.intro hDT (And.intro hTk (And.intro hk0 (And.intro hDs hD1))))))
                have HK7 := Lib.hid k7
                have hkl : (k : Int) < 2 := by omega
                have hsz7 := hbw.size
                clear hDk hDT hTk hk0 hDs hD1 b7 k7 hbw
                go_upto_region 9 with (first
                  | (with_reducible refine wpList_index_to (op := ⟨some 58, _, _, _, _, _⟩) rfl 51 (.tmp 54) (.tmp 55) rfl (.agg D) (.int .i64 (k : Int)) rfl rfl (.agg Dk) (HIx.out _) ?_)
                  | ((with_reducible refine wpList_store_rowk (o := ⟨none, _, _, _, _, _⟩) rfl 33 (.tmp 12) (.tmp 58) rfl rfl g12 Dk rfl rfl (by rw [tables_size, H7.out.2.2.2.2.2.1]) 33 Z H7.out.1 (by rw [HZ.out, H7.out.2.2.2.2.2.1]) H7.out.2.2.2.2.2.2 ?_)
                     intro w8 b8 k8
                     have H8 := Lib.hid (And.intro b8 k8)
                     clear b8 k8)
                  | fail)
                clear hw7
                have bel8 : Below wc.heap.size wc w8 := H7.out.2.1.trans (H8.out.2.below H7.out.2.1.size (fun i hi e => by omega))
                have bel08 := on_trans HWc.out.2.2.2 bel8
                have HW8 := Lib.hid (And.intro (HWc.out.1.on bel8) (And.intro (HWc.out.2.2.1.on bel8) (HA.out.2.2.2.2.1.on bel08)))
                have hXk : Xs w8 Tk Xk := H7.out.2.2.2.1.xs.on (HK7.out.trans (H8.out.2.below HK7.out.size (fun i hi e => by omega)))
                obtain ⟨Ek, hEk⟩ : ∃ Ek, Ek = (putR W H K R Tk tl).2 := ⟨_, rfl⟩
                obtain ⟨o, ho⟩ : ∃ o, o = (putR W H K R Tk tl).1 := ⟨_, rfl⟩
                have HL8 := Lib.hid (fun (w' : World) (k : Below w8.heap.size w8 w') => (show (Instr.loadAt 33 (.pointer (some ⟨g12, 0, none⟩))).run Tryd.prog w' = .ok (.agg Dk) w' by
                  have hb := H8.out.1.on k
                  rw [H7.out.2.2.1] at hb ⊢
                  exact hb.rng.load))
                have hput : ∀ w', Below w8.heap.size w8 w' → ∀ A8 c8 L8, Ti w' A8 n L8 tl → Calls Tryd.prog 11 #[.agg #[.int .i64 W, .int .i64 H, .int .i64 K, .int .i64 R], .agg Dk, .agg #[.slice A8 n c8]] w' fun e w'' => Below w'.heap.size w' w'' ∧ ∃ A' m c', e = .returned (.tuple #[.slice A' m c', .int .i64 Ek]) ∧ Sl w'' (fun b => w'.heap.size ≤ b) A' m c' o := fun w' k A8 c8 L8 h8 => by
                  have := scanPut_one w' W H K R Tk Xk A8 n c8 L8 tl (HA.out.1.on (on_trans bel08 k)) (hXk.on k) H7.out.2.2.2.1.wt H7.out.2.2.2.1.few h8 HS.out.2.2.1
                  rw [← hEk, ← ho] at this
                  rw [H7.out.2.2.1]
                  exact this
                have HPu := Lib.hid hput
                have H88 := Lib.hid (And.intro bel8 (And.intro bel08 (And.intro hXk (And.intro hEk ho))))
                clear bel8 bel08 hXk hput hEk ho
                refine wp_region_held_drew (S := fun w' => Hid (Below w8.heap.size w8 w')) (by kernel_rfl) (Lib.hid (on_drew w8)) fun s0 => ?_
                refine take_to (i := 0) (v := .agg #[.int .i64 W, .int .i64 H, .int .i64 K, .int .i64 R]) rfl (by kernel_rfl) (by kernel_rfl) (by kernel_rfl) (fun _ _ _ h => h) (yieldsIf_load7 (by rfl) 23 (.tmp 4) rfl (.pointer (some ⟨g1, 0, none⟩)) rfl (.agg #[.int .i64 W, .int .i64 H, .int .i64 K, .int .i64 R]) (fun w' hS => HL.out.1 w' (HW8.out.1.on hS.out))) s0 (some 60) rfl ?_
                try simp only [Act.put, List.setIfInBounds_toArray, List.set_cons_zero, List.set_cons_succ]
                refine take_to (i := 1) (v := .agg Dk) rfl (by kernel_rfl) (by kernel_rfl) (by kernel_rfl) (fun _ _ _ h => h) (yieldsIf_load7 (by rfl) 33 (.tmp 12) rfl (.pointer (some ⟨g12, 0, none⟩)) rfl (.agg Dk) (fun w' hS => HL8.out w' hS.out)) s0 (some 61) rfl ?_
                try simp only [Act.put, List.setIfInBounds_toArray, List.set_cons_zero, List.set_cons_succ]
                refine take_to (i := 2) (v := .agg #[.slice A n c]) rfl (by kernel_rfl) (by kernel_rfl) (by kernel_rfl) (fun _ _ _ h => h) (yieldsIf_load7 (by rfl) 36 (.tmp 6) rfl (.pointer (some ⟨g1 + 1 + 1, 0, none⟩)) rfl (.agg #[.slice A n c]) (fun w' hS => HL.out.2 w' (HW8.out.2.1.on hS.out))) s0 (some 62) rfl ?_
                try simp only [Act.put, List.setIfInBounds_toArray, List.set_cons_zero, List.set_cons_succ]
                refine wpAnyH_ready (rs := [3]) (by kernel_rfl) (by simp) ?_
                refine AllReadyH.cons rfl (fun Kq hKq => ?_) AllReadyH.nil
                go_simp
                refine Calls.mono (HOw.out _ (HW8.out.2.2.on s0.out)) ?_
                rintro e wq3 ⟨A8, c8, L8, rfl, t8, bq⟩
                have HT8 := Lib.hid t8
                clear t8
                unfold tileV
                have sq := Lib.hid (on_trans s0.out bq)
                refine hKq.out _ _ sq fun _ => ?_
                clear hKq Kq bq s0
                have s0 := sq
                clear sq
                refine wpAnyH_ready (rs := [4]) (by kernel_rfl) (by simp) ?_
                refine AllReadyH.cons rfl (fun Kq hKq => ?_) AllReadyH.nil
                go_simp
                refine Calls.mono (HPu.out _ s0.out A8 c8 L8 HT8.out) ?_
                rintro e wq4 ⟨bq, A1, m1, k1, rfl, sl1⟩
                have HS0 := Lib.hid sl1
                clear sl1
                have sq := Lib.hid (on_trans s0.out bq)
                refine hKq.out _ _ sq fun _ => ?_
                clear hKq Kq bq s0
                have s0 := sq
                clear sq
                refine take_to (i := 5) (v := .tuple #[.slice A1 m1 k1, .int .i64 Ek]) rfl (by kernel_rfl) (by kernel_rfl) (by kernel_rfl) (fun _ _ _ h => h) (Or.inl ⟨by rfl, fun w' hS => by go_simp⟩) s0 (some 59) rfl ?_
                try simp only [Act.put, List.setIfInBounds_toArray, List.set_cons_zero, List.set_cons_succ]
                refine take_to (i := 6) (v := .slice A1 m1 k1) rfl (by kernel_rfl) (by kernel_rfl) (by kernel_rfl) (fun _ _ _ h => h) (Or.inl ⟨by rfl, fun w' hS => by go_simp⟩) s0 (some 65) rfl ?_
                try simp only [Act.put, List.setIfInBounds_toArray, List.set_cons_zero, List.set_cons_succ]
                refine take_to (i := 7) (v := .int .i64 Ek) rfl (by kernel_rfl) (by kernel_rfl) (by kernel_rfl) (fun _ _ _ h => h) (Or.inl ⟨by rfl, fun w' hS => by go_simp⟩) s0 (some 66) rfl ?_
                try simp only [Act.put, List.setIfInBounds_toArray, List.set_cons_zero, List.set_cons_succ]
                refine take_to (i := 8) (v := .slice A1 m1 k1) rfl (by kernel_rfl) (by kernel_rfl) (by kernel_rfl) (fun _ _ _ h => h) (Or.inl ⟨by rfl, fun w' hS => by go_simp⟩) s0 (some 13) rfl ?_
                try simp only [Act.put, List.setIfInBounds_toArray, List.set_cons_zero, List.set_cons_succ]
                refine take_to (i := 9) (v := .int .i64 Ek) rfl (by kernel_rfl) (by kernel_rfl) (by kernel_rfl) (fun _ _ _ h => h) (Or.inl ⟨by rfl, fun w' hS => by go_simp⟩) s0 (some 14) rfl ?_
                try simp only [Act.put, List.setIfInBounds_toArray, List.set_cons_zero, List.set_cons_succ]
                refine wpAnyH_done (by kernel_rfl) ?_ _
                have hm1 := HS0.out.len
                have H9 := Lib.hid (And.intro (on_trans H88.out.1 s0.out) (And.intro (on_trans H88.out.2.1 s0.out) (HS0.out.mono (K' := fun _ => True) (fun _ _ _ => trivial))))
                have HW9 := Lib.hid (And.intro (HW8.out.1.on s0.out) (HW8.out.2.1.on s0.out))
                have HL9 := Lib.hid (fun (w' : World) (k : Below wq4.heap.size wq4 w') => HL8.out w' (on_trans s0.out k))
                have HX9 := Lib.hid (H88.out.2.2.1.on s0.out)
                clear s0 HT8 HS0 HPu HL8 HW8
                by_cases hE0 : Ek = 0
                · subst hE0
                  obtain ⟨hRt, hok, hpe, hpo⟩ := putR_zero H88.out.2.2.2.1.symm
                  have ho : o = putOut W H K R Tk tl := H88.out.2.2.2.2.trans hpo
                  have hlen : o.length ≤ 40000 := by
                    have hR0 := hRt.1.2.2.2.1
                    obtain ⟨r, rfl⟩ : ∃ r : Nat, R = (r : Int) := ⟨R.toNat, by omega⟩
                    have hsm := HS.out.2.2.1 hRt.1
                    have hfb := few_bits (tl := tl) hRt.1 hsm.1 hsm.2 hok (done := evTo (uW W K) K r (uW W K * uH H K)) (q := []) (List.append_nil _)
                    have h1 := hfb.2.2.room
                    have h2 := few_places hRt.1 hsm.1 hsm.2
                    have h3 := places_evTo (uW W K) K r (uW W K * uH H K)
                    have h4 := rests_evTo (uW W K) K r (uW W K * uH H K)
                    have h5 : (uW W K * uH H K - 1) / r ≤ uW W K * uH H K - 1 := Nat.div_le_self _ _
                    have h6 := scan_len hfb.2.2.packs.scan
                    rw [ho]
                    unfold putOut
                    rw [Int.toNat_natCast, List.length_append]
                    split at h4 <;> omega
                  have hfit : Fit (o ++ lb) := H9.out.2.2.bts.fit.app HA.out.2.2.2.2.2.bts.fit
                  have h64 : ∀ p a, p < nP K → a < (uW W K * uA K p) * (uH H K * uD K p) → (blkAt tl p a).length = 64 := by
                    obtain ⟨ad, cc, _, hat⟩ := tile_ad HA.out.2.2.2.2.1 hRt
                    exact fun p a hp ha => (hat p a hp ha).1
                  obtain ⟨N9, hN9⟩ : ∃ N9, N9 = wq4.heap.size := ⟨_, rfl⟩
                  obtain ⟨ge, ga, gt⟩ := get_put hRt hok hpe h64 lb
                  rw [← ho] at ge ga gt
                  have hget : ∀ w', Below wq4.heap.size wq4 w' → ∀ A7 c7, Sl w' (fun b => N9 ≤ b) A7 (m1 + nb) c7 (o ++ lb) → Calls Tryd.prog 16 #[.agg #[.int .i64 W, .int .i64 H, .int .i64 K, .int .i64 R], .agg Dk, .slice A7 (m1 + nb) c7] w' fun e w'' => Below w'.heap.size w' w'' ∧ ∃ At ct bd, e = .returned (.tuple #[.agg #[.slice At (nP K) ct], .int .i64 (m1 : Int), .int .i64 0]) ∧ TlM w'' w'.heap.size W H K At bd tl := fun w' k A7 c7 h7 => by
                    have hg := scanGet_any w' W H K R Tk Xk _ A7 (m1 + nb) c7 (o ++ lb) (HA.out.1.on (on_trans H9.out.2.1 k)) (HX9.out.on k) H7.out.2.2.2.1.wt H7.out.2.2.2.1.few h7 (by omega)
                    rw [H7.out.2.2.1]
                    refine hg.mono ?_
                    rintro e w'' h
                    refine ⟨h.bel, ?_⟩
                    obtain ⟨At, ct, bd, e1, e2⟩ := h.got hRt.1 hok ge
                    rw [ga, hm1] at e1
                    rw [gt] at e2
                    exact ⟨At, ct, bd, e1, e2⟩
                  have HGt := Lib.hid hget
                  have HFt := Lib.hid hfit
                  have HS1 := Lib.hid H9.out.2.2
                  have HB9 := Lib.hid (HA.out.2.2.2.2.2.on H9.out.2.1)
                  have hsh : ∀ t ∈ tl, t.length ≤ 100 := HS.out.2.1
                  have HSh := Lib.hid hsh
                  have hm40 : m1 ≤ 40000 := by omega
                  have hz36 : ∀ w, (zeroValue 36).run Tryd.prog w = .ok (.agg #[.slice none 0 0]) w := fun w => by kernel_rfl
                  clear hRt hok hpe hpo hlen hfit h64 ge ga gt hget hsh
                  go_upto_region 13 with fail
                  go_cut [15, 16, 17] from 71 to 82 (fun p q e wx => ∃ (g15 : Nat) (At : Option Addr) (ct : Nat) (bd : Nat → Nat), p = .pointer (some ⟨g15, 0, none⟩) ∧ q = .int .i64 (m1 : Int) ∧ e = .int .i64 0 ∧ Box wx g15 36 #[.slice At (nP K) ct] ∧ Ti wx At (nP K) (tlL W H K bd) tl ∧ Below wq4.heap.size wq4 wx)
                  case first =>
                    refine wp_region_held_drew (S := fun w' => Hid (Below wq4.heap.size wq4 w')) (by kernel_rfl) (Lib.hid (on_drew wq4)) fun s0 => ?_
                    refine take_to (i := 0) (v := .agg #[.int .i64 W, .int .i64 H, .int .i64 K, .int .i64 R]) rfl (by kernel_rfl) (by kernel_rfl) (by kernel_rfl) (fun _ _ _ h => h) (yieldsIf_load7 (by rfl) 23 (.tmp 4) rfl (.pointer (some ⟨g1, 0, none⟩)) rfl (.agg #[.int .i64 W, .int .i64 H, .int .i64 K, .int .i64 R]) (fun w' hS => HL.out.1 w' (HW9.out.1.on hS.out))) s0 (some 72) rfl ?_
                    try simp only [Act.put, List.setIfInBounds_toArray, List.set_cons_zero, List.set_cons_succ]
                    refine take_to (i := 1) (v := .agg Dk) rfl (by kernel_rfl) (by kernel_rfl) (by kernel_rfl) (fun _ _ _ h => h) (yieldsIf_load7 (by rfl) 33 (.tmp 12) rfl (.pointer (some ⟨g12, 0, none⟩)) rfl (.agg Dk) (fun w' hS => HL9.out w' hS.out)) s0 (some 73) rfl ?_
                    try simp only [Act.put, List.setIfInBounds_toArray, List.set_cons_zero, List.set_cons_succ]
                    refine take_to (i := 3) (v := .slice A1 m1 k1) rfl (by kernel_rfl) (by kernel_rfl) (by kernel_rfl) (fun _ _ _ h => h) (Or.inl ⟨by rfl, fun w' hS => by go_simp⟩) s0 (some 75) rfl ?_
                    try simp only [Act.put, List.setIfInBounds_toArray, List.set_cons_zero, List.set_cons_succ]
                    refine take_to (i := 5) (v := .slice Ab nb cb) rfl (by kernel_rfl) (by kernel_rfl) (by kernel_rfl) (fun _ _ _ h => h) (Or.inl ⟨by rfl, fun w' hS => by go_simp⟩) s0 (some 77) rfl ?_
                    try simp only [Act.put, List.setIfInBounds_toArray, List.set_cons_zero, List.set_cons_succ]
                    obtain ⟨v0, hv0⟩ : ∃ v0, v0 = wq4.drew := ⟨_, rfl⟩
                    rw [← hv0] at s0 ⊢
                    clear hv0
                    refine wpAnyH_ready (rs := [2, 12]) (by kernel_rfl) (by simp) ?_
                    refine (AllReadyH.cons rfl (fun Kq hKq => ?_) (AllReadyH.cons rfl (fun Kq hKq => ?_) AllReadyH.nil))
                    · go_simp
                      have bq : Below v0.heap.size v0 (v0.alloc (.cells #[] 5)) := on_alloc _ _
                      have bo : (v0.alloc (.cells #[] 5)).ownsRow N9 5 1 (.slice (some ⟨v0.heap.size, 0, none⟩) 0 0) 0 (cellsOf []) := World.ownsRow_made v0 #[] 0 (by have := s0.out.size; omega) (by unfold maxLen; omega) rfl
                      obtain ⟨gb, hgb⟩ : ∃ gb, gb = v0.heap.size := ⟨_, rfl⟩
                      obtain ⟨v14, hn14⟩ : ∃ x, x = v0.alloc (.cells #[] 5) := ⟨_, rfl⟩
                      simp only [← hgb, ← hn14] at bo ⊢
                      rw [← hn14] at bq
                      have HO14 := Lib.hid bo
                      clear bo hn14 hgb
                      have K14 := Lib.hid bq
                      have sq := Lib.hid (on_trans s0.out bq)
                      refine hKq.out _ _ sq fun _ => ?_
                      clear hKq Kq bq s0
                      have s0 := sq
                      clear sq
                      refine wpAnyH_ready (rs := [4, 12]) (by kernel_rfl) (by simp) ?_
                      refine (AllReadyH.cons rfl (fun Kq hKq => ?_) (AllReadyH.cons rfl (fun Kq hKq => ?_) AllReadyH.nil))
                      · have bo := HO14.out
                        refine step_append_sk rfl (.tmp 74) (.tmp 75) rfl N9 (.slice (some ⟨gb, 0, none⟩) 0 0) 0 [] rfl bo A1 m1 k1 o rfl ((HS1.out.on s0.out).mono (fun _ _ _ => trivial)) (by omega) (by have := s0.out.size; omega) (some 76) rfl ?_
                        intro vv v15 hown kk
                        rw [Nat.zero_add, List.nil_append] at hown
                        obtain ⟨A4, c4, hv4⟩ := own_slice hown
                        subst hv4
                        try simp only [Act.put, List.setIfInBounds_toArray, List.set_cons_zero, List.set_cons_succ]
                        have HO15 := Lib.hid hown
                        have HK15 := Lib.hid (And.intro bo kk)
                        clear hown kk bo
                        have sq := Lib.hid (s0.out.trans (HK15.out.2.below s0.out.size (fun i hi e => by have := (own_block3 HK15.out.1 e).1; omega)))
                        refine hKq.out _ _ sq fun _ => ?_
                        clear hKq Kq s0
                        have s0 := sq
                        clear sq
                        refine wpAnyH_ready (rs := [6, 12]) (by kernel_rfl) (by simp) ?_
                        refine (AllReadyH.cons rfl (fun Kq hKq => ?_) (AllReadyH.cons rfl (fun Kq hKq => ?_) AllReadyH.nil))
                        · have bo := HO15.out
                          refine step_append_sk rfl (.tmp 76) (.tmp 77) rfl N9 (.slice A4 m1 c4) m1 o rfl bo Ab nb cb lb rfl (HB9.out.on s0.out) (by omega) (by have := s0.out.size; omega) (some 78) rfl ?_
                          intro vv v16 hown kk
                          obtain ⟨A6, c6, hv6⟩ := own_slice hown
                          subst hv6
                          try simp only [Act.put, List.setIfInBounds_toArray, List.set_cons_zero, List.set_cons_succ]
                          have HO16 := Lib.hid hown
                          have HK16 := Lib.hid (And.intro bo kk)
                          clear hown kk bo
                          have sq := Lib.hid (s0.out.trans (HK16.out.2.below s0.out.size (fun i hi e => by have := (own_block3 HK16.out.1 e).1; omega)))
                          refine hKq.out _ _ sq fun _ => ?_
                          clear hKq Kq s0
                          have s0 := sq
                          clear sq
                          refine wpAnyH_ready (rs := [7, 12]) (by kernel_rfl) (by simp) ?_
                          refine (AllReadyH.cons rfl (fun Kq hKq => ?_) (AllReadyH.cons rfl (fun Kq hKq => ?_) AllReadyH.nil))
                          · obtain ⟨A7, c7, e7, hs7⟩ := sl_of_own (HO16.out) HFt.out
                            cases e7
                            have HS7 := Lib.hid hs7
                            clear hs7
                            go_simp
                            refine Calls.mono (HGt.out _ s0.out _ _ HS7.out) ?_
                            rintro e v17 ⟨bq, At, ct, bd, rfl, htm⟩
                            have HTm := Lib.hid htm
                            clear htm
                            have K17 := Lib.hid bq
                            have sq := Lib.hid (on_trans s0.out bq)
                            refine hKq.out _ _ sq fun _ => ?_
                            clear hKq Kq bq s0
                            have s0 := sq
                            clear sq
                            refine take_to (i := 8) (v := .tuple #[.agg #[.slice At (nP K) ct], .int .i64 (m1 : Int), .int .i64 0]) rfl (by kernel_rfl) (by kernel_rfl) (by kernel_rfl) (fun _ _ _ h => h) (Or.inl ⟨by rfl, fun w' hS => by go_simp⟩) s0 (some 71) rfl ?_
                            try simp only [Act.put, List.setIfInBounds_toArray, List.set_cons_zero, List.set_cons_succ]
                            refine take_to (i := 9) (v := .agg #[.slice At (nP K) ct]) rfl (by kernel_rfl) (by kernel_rfl) (by kernel_rfl) (fun _ _ _ h => h) (Or.inl ⟨by rfl, fun w' hS => by go_simp⟩) s0 (some 80) rfl ?_
                            try simp only [Act.put, List.setIfInBounds_toArray, List.set_cons_zero, List.set_cons_succ]
                            refine take_to (i := 10) (v := .int .i64 (m1 : Int)) rfl (by kernel_rfl) (by kernel_rfl) (by kernel_rfl) (fun _ _ _ h => h) (Or.inl ⟨by rfl, fun w' hS => by go_simp⟩) s0 (some 81) rfl ?_
                            try simp only [Act.put, List.setIfInBounds_toArray, List.set_cons_zero, List.set_cons_succ]
                            refine take_to (i := 11) (v := .int .i64 0) rfl (by kernel_rfl) (by kernel_rfl) (by kernel_rfl) (fun _ _ _ h => h) (Or.inl ⟨by rfl, fun w' hS => by go_simp⟩) s0 (some 82) rfl ?_
                            try simp only [Act.put, List.setIfInBounds_toArray, List.set_cons_zero, List.set_cons_succ]
                            refine wpAnyH_ready (rs := [12]) (by kernel_rfl) (by simp) ?_
                            refine (AllReadyH.cons rfl (fun Kq hKq => ?_) AllReadyH.nil)
                            go_simp
                            have bq : Below v17.heap.size v17 (v17.alloc (.cells #[.slice none 0 0] 36)) := on_alloc _ _
                            have bb : Box (v17.alloc (.cells #[.slice none 0 0] 36)) v17.heap.size 36 #[.slice none 0 0] := Box.made _ _ _
                            obtain ⟨g15, hg15⟩ : ∃ g15, g15 = v17.heap.size := ⟨_, rfl⟩
                            obtain ⟨v18, hn18⟩ : ∃ x, x = v17.alloc (.cells #[.slice none 0 0] 36) := ⟨_, rfl⟩
                            simp only [← hg15, ← hn18] at bb ⊢
                            rw [← hn18] at bq
                            have HG15 := Lib.hid (And.intro bb (show N9 ≤ g15 by rw [hg15]; have := s0.out.size; omega))
                            clear bb hn18 hg15
                            have K18 := Lib.hid bq
                            have sq := Lib.hid (on_trans s0.out bq)
                            refine hKq.out _ _ sq fun _ => ?_
                            clear hKq Kq bq s0
                            have s0 := sq
                            clear sq
                            refine wpAnyH_ready (rs := [13]) (by kernel_rfl) (by simp) ?_
                            refine AllReadyH.cons rfl (fun Kq hKq => ?_) AllReadyH.nil
                            have b15 := HG15.out.1
                            have htz := (HTm.out).on K18.out
                            have r15 : v18.cell? ⟨g15, 0, none⟩ = some (.slice none 0 0) := b15.cell 0
                            have f15 : v18.frozen? ⟨g15, 0, none⟩ = false := b15.free 0
                            have HZ9 := Lib.hid (And.intro b15 htz)
                            clear b15 htz
                            go_simp
                            have k9 : Kept (fun i => i = g15) v18 (v18.setCell ⟨g15, 0, none⟩ (.slice At (nP K) ct)) := (Kept.refl (fun i => i = g15) v18).setCell (p := ⟨g15, 0, none⟩) (fun _ => rfl) _
                            have sq := Lib.hid (s0.out.trans (k9.below s0.out.size (fun i hi e => by have := HG15.out.2; omega)))
                            have HR9 := Lib.hid (And.intro (HZ9.out.1.put 0 (.slice At (nP K) ct)) (HZ9.out.2.kept k9 (fun g cs hb e => by subst e; exact hb.apart HZ9.out.1 (by decide) rfl) (fun p hp e => by
                              obtain ⟨cb', hcb⟩ := (HZ9.out.2.row p hp).1.box
                              exact hcb.apart HZ9.out.1 (by decide) e)))
                            refine hKq.out _ _ sq fun _ => ?_
                            clear hKq Kq s0 k9 r15 f15
                            have s0 := sq
                            clear sq
                            refine take_to (i := 14) (v := .int .i64 (m1 : Int)) rfl (by kernel_rfl) (by kernel_rfl) (by kernel_rfl) (fun _ _ _ h => h) (Or.inl ⟨by rfl, fun w' hS => by go_simp⟩) s0 (some 16) rfl ?_
                            try simp only [Act.put, List.setIfInBounds_toArray, List.set_cons_zero, List.set_cons_succ]
                            refine take_to (i := 15) (v := .int .i64 0) rfl (by kernel_rfl) (by kernel_rfl) (by kernel_rfl) (fun _ _ _ h => h) (Or.inl ⟨by rfl, fun w' hS => by go_simp⟩) s0 (some 17) rfl ?_
                            try simp only [Act.put, List.setIfInBounds_toArray, List.set_cons_zero, List.set_cons_succ]
                            refine wpAnyH_done (by kernel_rfl) ?_ _
                            go_wp2_with fail
                            go_meet
                            exact ⟨g15, At, ct, bd, rfl, rfl, rfl, HR9.out.1, HR9.out.2.ti (fun p hp => Nat.le_trans (nB_le HR.out.1 p) (by unfold maxLen; omega)), s0.out⟩
                          · go_simp
                            have bq : Below v16.heap.size v16 (v16.alloc (.cells #[.slice none 0 0] 36)) := on_alloc _ _
                            have bb : Box (v16.alloc (.cells #[.slice none 0 0] 36)) v16.heap.size 36 #[.slice none 0 0] := Box.made _ _ _
                            obtain ⟨g15, hg15⟩ : ∃ g15, g15 = v16.heap.size := ⟨_, rfl⟩
                            obtain ⟨v19, hn19⟩ : ∃ x, x = v16.alloc (.cells #[.slice none 0 0] 36) := ⟨_, rfl⟩
                            simp only [← hg15, ← hn19] at bb ⊢
                            rw [← hn19] at bq
                            have HG15 := Lib.hid (And.intro bb (show N9 ≤ g15 by rw [hg15]; have := s0.out.size; omega))
                            clear bb hn19 hg15
                            have K19 := Lib.hid bq
                            have sq := Lib.hid (on_trans s0.out bq)
                            refine hKq.out _ _ sq fun _ => ?_
                            clear hKq Kq bq s0
                            have s0 := sq
                            clear sq
                            refine wpAnyH_ready (rs := [7]) (by kernel_rfl) (by simp) ?_
                            refine (AllReadyH.cons rfl (fun Kq hKq => ?_) AllReadyH.nil)
                            obtain ⟨A7, c7, e7, hs7⟩ := sl_of_own ((own_on (HO16.out) K19.out)) HFt.out
                            cases e7
                            have HS7 := Lib.hid hs7
                            clear hs7
                            go_simp
                            refine Calls.mono (HGt.out _ s0.out _ _ HS7.out) ?_
                            rintro e v20 ⟨bq, At, ct, bd, rfl, htm⟩
                            have HTm := Lib.hid htm
                            clear htm
                            have K20 := Lib.hid bq
                            have sq := Lib.hid (on_trans s0.out bq)
                            refine hKq.out _ _ sq fun _ => ?_
                            clear hKq Kq bq s0
                            have s0 := sq
                            clear sq
                            refine take_to (i := 8) (v := .tuple #[.agg #[.slice At (nP K) ct], .int .i64 (m1 : Int), .int .i64 0]) rfl (by kernel_rfl) (by kernel_rfl) (by kernel_rfl) (fun _ _ _ h => h) (Or.inl ⟨by rfl, fun w' hS => by go_simp⟩) s0 (some 71) rfl ?_
                            try simp only [Act.put, List.setIfInBounds_toArray, List.set_cons_zero, List.set_cons_succ]
                            refine take_to (i := 9) (v := .agg #[.slice At (nP K) ct]) rfl (by kernel_rfl) (by kernel_rfl) (by kernel_rfl) (fun _ _ _ h => h) (Or.inl ⟨by rfl, fun w' hS => by go_simp⟩) s0 (some 80) rfl ?_
                            try simp only [Act.put, List.setIfInBounds_toArray, List.set_cons_zero, List.set_cons_succ]
                            refine take_to (i := 10) (v := .int .i64 (m1 : Int)) rfl (by kernel_rfl) (by kernel_rfl) (by kernel_rfl) (fun _ _ _ h => h) (Or.inl ⟨by rfl, fun w' hS => by go_simp⟩) s0 (some 81) rfl ?_
                            try simp only [Act.put, List.setIfInBounds_toArray, List.set_cons_zero, List.set_cons_succ]
                            refine take_to (i := 11) (v := .int .i64 0) rfl (by kernel_rfl) (by kernel_rfl) (by kernel_rfl) (fun _ _ _ h => h) (Or.inl ⟨by rfl, fun w' hS => by go_simp⟩) s0 (some 82) rfl ?_
                            try simp only [Act.put, List.setIfInBounds_toArray, List.set_cons_zero, List.set_cons_succ]
                            refine wpAnyH_ready (rs := [13]) (by kernel_rfl) (by simp) ?_
                            refine AllReadyH.cons rfl (fun Kq hKq => ?_) AllReadyH.nil
                            have b15 := (HG15.out.1).on K20.out
                            have htz := HTm.out
                            have r15 : v20.cell? ⟨g15, 0, none⟩ = some (.slice none 0 0) := b15.cell 0
                            have f15 : v20.frozen? ⟨g15, 0, none⟩ = false := b15.free 0
                            have HZ9 := Lib.hid (And.intro b15 htz)
                            clear b15 htz
                            go_simp
                            have k9 : Kept (fun i => i = g15) v20 (v20.setCell ⟨g15, 0, none⟩ (.slice At (nP K) ct)) := (Kept.refl (fun i => i = g15) v20).setCell (p := ⟨g15, 0, none⟩) (fun _ => rfl) _
                            have sq := Lib.hid (s0.out.trans (k9.below s0.out.size (fun i hi e => by have := HG15.out.2; omega)))
                            have HR9 := Lib.hid (And.intro (HZ9.out.1.put 0 (.slice At (nP K) ct)) (HZ9.out.2.kept k9 (fun g cs hb e => by subst e; exact hb.apart HZ9.out.1 (by decide) rfl) (fun p hp e => by
                              obtain ⟨cb', hcb⟩ := (HZ9.out.2.row p hp).1.box
                              exact hcb.apart HZ9.out.1 (by decide) e)))
                            refine hKq.out _ _ sq fun _ => ?_
                            clear hKq Kq s0 k9 r15 f15
                            have s0 := sq
                            clear sq
                            refine take_to (i := 14) (v := .int .i64 (m1 : Int)) rfl (by kernel_rfl) (by kernel_rfl) (by kernel_rfl) (fun _ _ _ h => h) (Or.inl ⟨by rfl, fun w' hS => by go_simp⟩) s0 (some 16) rfl ?_
                            try simp only [Act.put, List.setIfInBounds_toArray, List.set_cons_zero, List.set_cons_succ]
                            refine take_to (i := 15) (v := .int .i64 0) rfl (by kernel_rfl) (by kernel_rfl) (by kernel_rfl) (fun _ _ _ h => h) (Or.inl ⟨by rfl, fun w' hS => by go_simp⟩) s0 (some 17) rfl ?_
                            try simp only [Act.put, List.setIfInBounds_toArray, List.set_cons_zero, List.set_cons_succ]
                            refine wpAnyH_done (by kernel_rfl) ?_ _
                            go_wp2_with fail
                            go_meet
                            exact ⟨g15, At, ct, bd, rfl, rfl, rfl, HR9.out.1, HR9.out.2.ti (fun p hp => Nat.le_trans (nB_le HR.out.1 p) (by unfold maxLen; omega)), s0.out⟩
                        · go_simp
                          have bq : Below v15.heap.size v15 (v15.alloc (.cells #[.slice none 0 0] 36)) := on_alloc _ _
                          have bb : Box (v15.alloc (.cells #[.slice none 0 0] 36)) v15.heap.size 36 #[.slice none 0 0] := Box.made _ _ _
                          obtain ⟨g15, hg15⟩ : ∃ g15, g15 = v15.heap.size := ⟨_, rfl⟩
                          obtain ⟨v21, hn21⟩ : ∃ x, x = v15.alloc (.cells #[.slice none 0 0] 36) := ⟨_, rfl⟩
                          simp only [← hg15, ← hn21] at bb ⊢
                          rw [← hn21] at bq
                          have HG15 := Lib.hid (And.intro bb (show N9 ≤ g15 by rw [hg15]; have := s0.out.size; omega))
                          clear bb hn21 hg15
                          have K21 := Lib.hid bq
                          have sq := Lib.hid (on_trans s0.out bq)
                          refine hKq.out _ _ sq fun _ => ?_
                          clear hKq Kq bq s0
                          have s0 := sq
                          clear sq
                          refine wpAnyH_ready (rs := [6]) (by kernel_rfl) (by simp) ?_
                          refine (AllReadyH.cons rfl (fun Kq hKq => ?_) AllReadyH.nil)
                          have bo := (own_on (HO15.out) K21.out)
                          refine step_append_sk rfl (.tmp 76) (.tmp 77) rfl N9 (.slice A4 m1 c4) m1 o rfl bo Ab nb cb lb rfl (HB9.out.on s0.out) (by omega) (by have := s0.out.size; omega) (some 78) rfl ?_
                          intro vv v22 hown kk
                          obtain ⟨A6, c6, hv6⟩ := own_slice hown
                          subst hv6
                          try simp only [Act.put, List.setIfInBounds_toArray, List.set_cons_zero, List.set_cons_succ]
                          have HO22 := Lib.hid hown
                          have HK22 := Lib.hid (And.intro bo kk)
                          clear hown kk bo
                          have sq := Lib.hid (s0.out.trans (HK22.out.2.below s0.out.size (fun i hi e => by have := (own_block3 HK22.out.1 e).1; omega)))
                          refine hKq.out _ _ sq fun _ => ?_
                          clear hKq Kq s0
                          have s0 := sq
                          clear sq
                          refine wpAnyH_ready (rs := [7]) (by kernel_rfl) (by simp) ?_
                          refine (AllReadyH.cons rfl (fun Kq hKq => ?_) AllReadyH.nil)
                          obtain ⟨A7, c7, e7, hs7⟩ := sl_of_own (HO22.out) HFt.out
                          cases e7
                          have HS7 := Lib.hid hs7
                          clear hs7
                          go_simp
                          refine Calls.mono (HGt.out _ s0.out _ _ HS7.out) ?_
                          rintro e v23 ⟨bq, At, ct, bd, rfl, htm⟩
                          have HTm := Lib.hid htm
                          clear htm
                          have K23 := Lib.hid bq
                          have sq := Lib.hid (on_trans s0.out bq)
                          refine hKq.out _ _ sq fun _ => ?_
                          clear hKq Kq bq s0
                          have s0 := sq
                          clear sq
                          refine take_to (i := 8) (v := .tuple #[.agg #[.slice At (nP K) ct], .int .i64 (m1 : Int), .int .i64 0]) rfl (by kernel_rfl) (by kernel_rfl) (by kernel_rfl) (fun _ _ _ h => h) (Or.inl ⟨by rfl, fun w' hS => by go_simp⟩) s0 (some 71) rfl ?_
                          try simp only [Act.put, List.setIfInBounds_toArray, List.set_cons_zero, List.set_cons_succ]
                          refine take_to (i := 9) (v := .agg #[.slice At (nP K) ct]) rfl (by kernel_rfl) (by kernel_rfl) (by kernel_rfl) (fun _ _ _ h => h) (Or.inl ⟨by rfl, fun w' hS => by go_simp⟩) s0 (some 80) rfl ?_
                          try simp only [Act.put, List.setIfInBounds_toArray, List.set_cons_zero, List.set_cons_succ]
                          refine take_to (i := 10) (v := .int .i64 (m1 : Int)) rfl (by kernel_rfl) (by kernel_rfl) (by kernel_rfl) (fun _ _ _ h => h) (Or.inl ⟨by rfl, fun w' hS => by go_simp⟩) s0 (some 81) rfl ?_
                          try simp only [Act.put, List.setIfInBounds_toArray, List.set_cons_zero, List.set_cons_succ]
                          refine take_to (i := 11) (v := .int .i64 0) rfl (by kernel_rfl) (by kernel_rfl) (by kernel_rfl) (fun _ _ _ h => h) (Or.inl ⟨by rfl, fun w' hS => by go_simp⟩) s0 (some 82) rfl ?_
                          try simp only [Act.put, List.setIfInBounds_toArray, List.set_cons_zero, List.set_cons_succ]
                          refine wpAnyH_ready (rs := [13]) (by kernel_rfl) (by simp) ?_
                          refine AllReadyH.cons rfl (fun Kq hKq => ?_) AllReadyH.nil
                          have b15 := ((own_box HK22.out.1 HK22.out.2 (HG15.out.1) (by decide))).on K23.out
                          have htz := HTm.out
                          have r15 : v23.cell? ⟨g15, 0, none⟩ = some (.slice none 0 0) := b15.cell 0
                          have f15 : v23.frozen? ⟨g15, 0, none⟩ = false := b15.free 0
                          have HZ9 := Lib.hid (And.intro b15 htz)
                          clear b15 htz
                          go_simp
                          have k9 : Kept (fun i => i = g15) v23 (v23.setCell ⟨g15, 0, none⟩ (.slice At (nP K) ct)) := (Kept.refl (fun i => i = g15) v23).setCell (p := ⟨g15, 0, none⟩) (fun _ => rfl) _
                          have sq := Lib.hid (s0.out.trans (k9.below s0.out.size (fun i hi e => by have := HG15.out.2; omega)))
                          have HR9 := Lib.hid (And.intro (HZ9.out.1.put 0 (.slice At (nP K) ct)) (HZ9.out.2.kept k9 (fun g cs hb e => by subst e; exact hb.apart HZ9.out.1 (by decide) rfl) (fun p hp e => by
                            obtain ⟨cb', hcb⟩ := (HZ9.out.2.row p hp).1.box
                            exact hcb.apart HZ9.out.1 (by decide) e)))
                          refine hKq.out _ _ sq fun _ => ?_
                          clear hKq Kq s0 k9 r15 f15
                          have s0 := sq
                          clear sq
                          refine take_to (i := 14) (v := .int .i64 (m1 : Int)) rfl (by kernel_rfl) (by kernel_rfl) (by kernel_rfl) (fun _ _ _ h => h) (Or.inl ⟨by rfl, fun w' hS => by go_simp⟩) s0 (some 16) rfl ?_
                          try simp only [Act.put, List.setIfInBounds_toArray, List.set_cons_zero, List.set_cons_succ]
                          refine take_to (i := 15) (v := .int .i64 0) rfl (by kernel_rfl) (by kernel_rfl) (by kernel_rfl) (fun _ _ _ h => h) (Or.inl ⟨by rfl, fun w' hS => by go_simp⟩) s0 (some 17) rfl ?_
                          try simp only [Act.put, List.setIfInBounds_toArray, List.set_cons_zero, List.set_cons_succ]
                          refine wpAnyH_done (by kernel_rfl) ?_ _
                          go_wp2_with fail
                          go_meet
                          exact ⟨g15, At, ct, bd, rfl, rfl, rfl, HR9.out.1, HR9.out.2.ti (fun p hp => Nat.le_trans (nB_le HR.out.1 p) (by unfold maxLen; omega)), s0.out⟩
                      · go_simp
                        have bq : Below v14.heap.size v14 (v14.alloc (.cells #[.slice none 0 0] 36)) := on_alloc _ _
                        have bb : Box (v14.alloc (.cells #[.slice none 0 0] 36)) v14.heap.size 36 #[.slice none 0 0] := Box.made _ _ _
                        obtain ⟨g15, hg15⟩ : ∃ g15, g15 = v14.heap.size := ⟨_, rfl⟩
                        obtain ⟨v24, hn24⟩ : ∃ x, x = v14.alloc (.cells #[.slice none 0 0] 36) := ⟨_, rfl⟩
                        simp only [← hg15, ← hn24] at bb ⊢
                        rw [← hn24] at bq
                        have HG15 := Lib.hid (And.intro bb (show N9 ≤ g15 by rw [hg15]; have := s0.out.size; omega))
                        clear bb hn24 hg15
                        have K24 := Lib.hid bq
                        have sq := Lib.hid (on_trans s0.out bq)
                        refine hKq.out _ _ sq fun _ => ?_
                        clear hKq Kq bq s0
                        have s0 := sq
                        clear sq
                        refine wpAnyH_ready (rs := [4]) (by kernel_rfl) (by simp) ?_
                        refine (AllReadyH.cons rfl (fun Kq hKq => ?_) AllReadyH.nil)
                        have bo := (own_on (HO14.out) K24.out)
                        refine step_append_sk rfl (.tmp 74) (.tmp 75) rfl N9 (.slice (some ⟨gb, 0, none⟩) 0 0) 0 [] rfl bo A1 m1 k1 o rfl ((HS1.out.on s0.out).mono (fun _ _ _ => trivial)) (by omega) (by have := s0.out.size; omega) (some 76) rfl ?_
                        intro vv v25 hown kk
                        rw [Nat.zero_add, List.nil_append] at hown
                        obtain ⟨A4, c4, hv4⟩ := own_slice hown
                        subst hv4
                        try simp only [Act.put, List.setIfInBounds_toArray, List.set_cons_zero, List.set_cons_succ]
                        have HO25 := Lib.hid hown
                        have HK25 := Lib.hid (And.intro bo kk)
                        clear hown kk bo
                        have sq := Lib.hid (s0.out.trans (HK25.out.2.below s0.out.size (fun i hi e => by have := (own_block3 HK25.out.1 e).1; omega)))
                        refine hKq.out _ _ sq fun _ => ?_
                        clear hKq Kq s0
                        have s0 := sq
                        clear sq
                        refine wpAnyH_ready (rs := [6]) (by kernel_rfl) (by simp) ?_
                        refine (AllReadyH.cons rfl (fun Kq hKq => ?_) AllReadyH.nil)
                        have bo := HO25.out
                        refine step_append_sk rfl (.tmp 76) (.tmp 77) rfl N9 (.slice A4 m1 c4) m1 o rfl bo Ab nb cb lb rfl (HB9.out.on s0.out) (by omega) (by have := s0.out.size; omega) (some 78) rfl ?_
                        intro vv v26 hown kk
                        obtain ⟨A6, c6, hv6⟩ := own_slice hown
                        subst hv6
                        try simp only [Act.put, List.setIfInBounds_toArray, List.set_cons_zero, List.set_cons_succ]
                        have HO26 := Lib.hid hown
                        have HK26 := Lib.hid (And.intro bo kk)
                        clear hown kk bo
                        have sq := Lib.hid (s0.out.trans (HK26.out.2.below s0.out.size (fun i hi e => by have := (own_block3 HK26.out.1 e).1; omega)))
                        refine hKq.out _ _ sq fun _ => ?_
                        clear hKq Kq s0
                        have s0 := sq
                        clear sq
                        refine wpAnyH_ready (rs := [7]) (by kernel_rfl) (by simp) ?_
                        refine (AllReadyH.cons rfl (fun Kq hKq => ?_) AllReadyH.nil)
                        obtain ⟨A7, c7, e7, hs7⟩ := sl_of_own (HO26.out) HFt.out
                        cases e7
                        have HS7 := Lib.hid hs7
                        clear hs7
                        go_simp
                        refine Calls.mono (HGt.out _ s0.out _ _ HS7.out) ?_
                        rintro e v27 ⟨bq, At, ct, bd, rfl, htm⟩
                        have HTm := Lib.hid htm
                        clear htm
                        have K27 := Lib.hid bq
                        have sq := Lib.hid (on_trans s0.out bq)
                        refine hKq.out _ _ sq fun _ => ?_
                        clear hKq Kq bq s0
                        have s0 := sq
                        clear sq
                        refine take_to (i := 8) (v := .tuple #[.agg #[.slice At (nP K) ct], .int .i64 (m1 : Int), .int .i64 0]) rfl (by kernel_rfl) (by kernel_rfl) (by kernel_rfl) (fun _ _ _ h => h) (Or.inl ⟨by rfl, fun w' hS => by go_simp⟩) s0 (some 71) rfl ?_
                        try simp only [Act.put, List.setIfInBounds_toArray, List.set_cons_zero, List.set_cons_succ]
                        refine take_to (i := 9) (v := .agg #[.slice At (nP K) ct]) rfl (by kernel_rfl) (by kernel_rfl) (by kernel_rfl) (fun _ _ _ h => h) (Or.inl ⟨by rfl, fun w' hS => by go_simp⟩) s0 (some 80) rfl ?_
                        try simp only [Act.put, List.setIfInBounds_toArray, List.set_cons_zero, List.set_cons_succ]
                        refine take_to (i := 10) (v := .int .i64 (m1 : Int)) rfl (by kernel_rfl) (by kernel_rfl) (by kernel_rfl) (fun _ _ _ h => h) (Or.inl ⟨by rfl, fun w' hS => by go_simp⟩) s0 (some 81) rfl ?_
                        try simp only [Act.put, List.setIfInBounds_toArray, List.set_cons_zero, List.set_cons_succ]
                        refine take_to (i := 11) (v := .int .i64 0) rfl (by kernel_rfl) (by kernel_rfl) (by kernel_rfl) (fun _ _ _ h => h) (Or.inl ⟨by rfl, fun w' hS => by go_simp⟩) s0 (some 82) rfl ?_
                        try simp only [Act.put, List.setIfInBounds_toArray, List.set_cons_zero, List.set_cons_succ]
                        refine wpAnyH_ready (rs := [13]) (by kernel_rfl) (by simp) ?_
                        refine AllReadyH.cons rfl (fun Kq hKq => ?_) AllReadyH.nil
                        have b15 := ((own_box HK26.out.1 HK26.out.2 ((own_box HK25.out.1 HK25.out.2 (HG15.out.1) (by decide))) (by decide))).on K27.out
                        have htz := HTm.out
                        have r15 : v27.cell? ⟨g15, 0, none⟩ = some (.slice none 0 0) := b15.cell 0
                        have f15 : v27.frozen? ⟨g15, 0, none⟩ = false := b15.free 0
                        have HZ9 := Lib.hid (And.intro b15 htz)
                        clear b15 htz
                        go_simp
                        have k9 : Kept (fun i => i = g15) v27 (v27.setCell ⟨g15, 0, none⟩ (.slice At (nP K) ct)) := (Kept.refl (fun i => i = g15) v27).setCell (p := ⟨g15, 0, none⟩) (fun _ => rfl) _
                        have sq := Lib.hid (s0.out.trans (k9.below s0.out.size (fun i hi e => by have := HG15.out.2; omega)))
                        have HR9 := Lib.hid (And.intro (HZ9.out.1.put 0 (.slice At (nP K) ct)) (HZ9.out.2.kept k9 (fun g cs hb e => by subst e; exact hb.apart HZ9.out.1 (by decide) rfl) (fun p hp e => by
                          obtain ⟨cb', hcb⟩ := (HZ9.out.2.row p hp).1.box
                          exact hcb.apart HZ9.out.1 (by decide) e)))
                        refine hKq.out _ _ sq fun _ => ?_
                        clear hKq Kq s0 k9 r15 f15
                        have s0 := sq
                        clear sq
                        refine take_to (i := 14) (v := .int .i64 (m1 : Int)) rfl (by kernel_rfl) (by kernel_rfl) (by kernel_rfl) (fun _ _ _ h => h) (Or.inl ⟨by rfl, fun w' hS => by go_simp⟩) s0 (some 16) rfl ?_
                        try simp only [Act.put, List.setIfInBounds_toArray, List.set_cons_zero, List.set_cons_succ]
                        refine take_to (i := 15) (v := .int .i64 0) rfl (by kernel_rfl) (by kernel_rfl) (by kernel_rfl) (fun _ _ _ h => h) (Or.inl ⟨by rfl, fun w' hS => by go_simp⟩) s0 (some 17) rfl ?_
                        try simp only [Act.put, List.setIfInBounds_toArray, List.set_cons_zero, List.set_cons_succ]
                        refine wpAnyH_done (by kernel_rfl) ?_ _
                        go_wp2_with fail
                        go_meet
                        exact ⟨g15, At, ct, bd, rfl, rfl, rfl, HR9.out.1, HR9.out.2.ti (fun p hp => Nat.le_trans (nB_le HR.out.1 p) (by unfold maxLen; omega)), s0.out⟩
                    · go_simp
                      have bq : Below v0.heap.size v0 (v0.alloc (.cells #[.slice none 0 0] 36)) := on_alloc _ _
                      have bb : Box (v0.alloc (.cells #[.slice none 0 0] 36)) v0.heap.size 36 #[.slice none 0 0] := Box.made _ _ _
                      obtain ⟨g15, hg15⟩ : ∃ g15, g15 = v0.heap.size := ⟨_, rfl⟩
                      obtain ⟨v28, hn28⟩ : ∃ x, x = v0.alloc (.cells #[.slice none 0 0] 36) := ⟨_, rfl⟩
                      simp only [← hg15, ← hn28] at bb ⊢
                      rw [← hn28] at bq
                      have HG15 := Lib.hid (And.intro bb (show N9 ≤ g15 by rw [hg15]; have := s0.out.size; omega))
                      clear bb hn28 hg15
                      have K28 := Lib.hid bq
                      have sq := Lib.hid (on_trans s0.out bq)
                      refine hKq.out _ _ sq fun _ => ?_
                      clear hKq Kq bq s0
                      have s0 := sq
                      clear sq
                      refine wpAnyH_ready (rs := [2]) (by kernel_rfl) (by simp) ?_
                      refine (AllReadyH.cons rfl (fun Kq hKq => ?_) AllReadyH.nil)
                      go_simp
                      have bq : Below v28.heap.size v28 (v28.alloc (.cells #[] 5)) := on_alloc _ _
                      have bo : (v28.alloc (.cells #[] 5)).ownsRow N9 5 1 (.slice (some ⟨v28.heap.size, 0, none⟩) 0 0) 0 (cellsOf []) := World.ownsRow_made v28 #[] 0 (by have := s0.out.size; omega) (by unfold maxLen; omega) rfl
                      obtain ⟨gb, hgb⟩ : ∃ gb, gb = v28.heap.size := ⟨_, rfl⟩
                      obtain ⟨v29, hn29⟩ : ∃ x, x = v28.alloc (.cells #[] 5) := ⟨_, rfl⟩
                      simp only [← hgb, ← hn29] at bo ⊢
                      rw [← hn29] at bq
                      have HO29 := Lib.hid bo
                      clear bo hn29 hgb
                      have K29 := Lib.hid bq
                      have sq := Lib.hid (on_trans s0.out bq)
                      refine hKq.out _ _ sq fun _ => ?_
                      clear hKq Kq bq s0
                      have s0 := sq
                      clear sq
                      refine wpAnyH_ready (rs := [4]) (by kernel_rfl) (by simp) ?_
                      refine (AllReadyH.cons rfl (fun Kq hKq => ?_) AllReadyH.nil)
                      have bo := HO29.out
                      refine step_append_sk rfl (.tmp 74) (.tmp 75) rfl N9 (.slice (some ⟨gb, 0, none⟩) 0 0) 0 [] rfl bo A1 m1 k1 o rfl ((HS1.out.on s0.out).mono (fun _ _ _ => trivial)) (by omega) (by have := s0.out.size; omega) (some 76) rfl ?_
                      intro vv v30 hown kk
                      rw [Nat.zero_add, List.nil_append] at hown
                      obtain ⟨A4, c4, hv4⟩ := own_slice hown
                      subst hv4
                      try simp only [Act.put, List.setIfInBounds_toArray, List.set_cons_zero, List.set_cons_succ]
                      have HO30 := Lib.hid hown
                      have HK30 := Lib.hid (And.intro bo kk)
                      clear hown kk bo
                      have sq := Lib.hid (s0.out.trans (HK30.out.2.below s0.out.size (fun i hi e => by have := (own_block3 HK30.out.1 e).1; omega)))
                      refine hKq.out _ _ sq fun _ => ?_
                      clear hKq Kq s0
                      have s0 := sq
                      clear sq
                      refine wpAnyH_ready (rs := [6]) (by kernel_rfl) (by simp) ?_
                      refine (AllReadyH.cons rfl (fun Kq hKq => ?_) AllReadyH.nil)
                      have bo := HO30.out
                      refine step_append_sk rfl (.tmp 76) (.tmp 77) rfl N9 (.slice A4 m1 c4) m1 o rfl bo Ab nb cb lb rfl (HB9.out.on s0.out) (by omega) (by have := s0.out.size; omega) (some 78) rfl ?_
                      intro vv v31 hown kk
                      obtain ⟨A6, c6, hv6⟩ := own_slice hown
                      subst hv6
                      try simp only [Act.put, List.setIfInBounds_toArray, List.set_cons_zero, List.set_cons_succ]
                      have HO31 := Lib.hid hown
                      have HK31 := Lib.hid (And.intro bo kk)
                      clear hown kk bo
                      have sq := Lib.hid (s0.out.trans (HK31.out.2.below s0.out.size (fun i hi e => by have := (own_block3 HK31.out.1 e).1; omega)))
                      refine hKq.out _ _ sq fun _ => ?_
                      clear hKq Kq s0
                      have s0 := sq
                      clear sq
                      refine wpAnyH_ready (rs := [7]) (by kernel_rfl) (by simp) ?_
                      refine (AllReadyH.cons rfl (fun Kq hKq => ?_) AllReadyH.nil)
                      obtain ⟨A7, c7, e7, hs7⟩ := sl_of_own (HO31.out) HFt.out
                      cases e7
                      have HS7 := Lib.hid hs7
                      clear hs7
                      go_simp
                      refine Calls.mono (HGt.out _ s0.out _ _ HS7.out) ?_
                      rintro e v32 ⟨bq, At, ct, bd, rfl, htm⟩
                      have HTm := Lib.hid htm
                      clear htm
                      have K32 := Lib.hid bq
                      have sq := Lib.hid (on_trans s0.out bq)
                      refine hKq.out _ _ sq fun _ => ?_
                      clear hKq Kq bq s0
                      have s0 := sq
                      clear sq
                      refine take_to (i := 8) (v := .tuple #[.agg #[.slice At (nP K) ct], .int .i64 (m1 : Int), .int .i64 0]) rfl (by kernel_rfl) (by kernel_rfl) (by kernel_rfl) (fun _ _ _ h => h) (Or.inl ⟨by rfl, fun w' hS => by go_simp⟩) s0 (some 71) rfl ?_
                      try simp only [Act.put, List.setIfInBounds_toArray, List.set_cons_zero, List.set_cons_succ]
                      refine take_to (i := 9) (v := .agg #[.slice At (nP K) ct]) rfl (by kernel_rfl) (by kernel_rfl) (by kernel_rfl) (fun _ _ _ h => h) (Or.inl ⟨by rfl, fun w' hS => by go_simp⟩) s0 (some 80) rfl ?_
                      try simp only [Act.put, List.setIfInBounds_toArray, List.set_cons_zero, List.set_cons_succ]
                      refine take_to (i := 10) (v := .int .i64 (m1 : Int)) rfl (by kernel_rfl) (by kernel_rfl) (by kernel_rfl) (fun _ _ _ h => h) (Or.inl ⟨by rfl, fun w' hS => by go_simp⟩) s0 (some 81) rfl ?_
                      try simp only [Act.put, List.setIfInBounds_toArray, List.set_cons_zero, List.set_cons_succ]
                      refine take_to (i := 11) (v := .int .i64 0) rfl (by kernel_rfl) (by kernel_rfl) (by kernel_rfl) (fun _ _ _ h => h) (Or.inl ⟨by rfl, fun w' hS => by go_simp⟩) s0 (some 82) rfl ?_
                      try simp only [Act.put, List.setIfInBounds_toArray, List.set_cons_zero, List.set_cons_succ]
                      refine wpAnyH_ready (rs := [13]) (by kernel_rfl) (by simp) ?_
                      refine AllReadyH.cons rfl (fun Kq hKq => ?_) AllReadyH.nil
                      have b15 := ((own_box HK31.out.1 HK31.out.2 ((own_box HK30.out.1 HK30.out.2 ((HG15.out.1).on K29.out) (by decide))) (by decide))).on K32.out
                      have htz := HTm.out
                      have r15 : v32.cell? ⟨g15, 0, none⟩ = some (.slice none 0 0) := b15.cell 0
                      have f15 : v32.frozen? ⟨g15, 0, none⟩ = false := b15.free 0
                      have HZ9 := Lib.hid (And.intro b15 htz)
                      clear b15 htz
                      go_simp
                      have k9 : Kept (fun i => i = g15) v32 (v32.setCell ⟨g15, 0, none⟩ (.slice At (nP K) ct)) := (Kept.refl (fun i => i = g15) v32).setCell (p := ⟨g15, 0, none⟩) (fun _ => rfl) _
                      have sq := Lib.hid (s0.out.trans (k9.below s0.out.size (fun i hi e => by have := HG15.out.2; omega)))
                      have HR9 := Lib.hid (And.intro (HZ9.out.1.put 0 (.slice At (nP K) ct)) (HZ9.out.2.kept k9 (fun g cs hb e => by subst e; exact hb.apart HZ9.out.1 (by decide) rfl) (fun p hp e => by
                        obtain ⟨cb', hcb⟩ := (HZ9.out.2.row p hp).1.box
                        exact hcb.apart HZ9.out.1 (by decide) e)))
                      refine hKq.out _ _ sq fun _ => ?_
                      clear hKq Kq s0 k9 r15 f15
                      have s0 := sq
                      clear sq
                      refine take_to (i := 14) (v := .int .i64 (m1 : Int)) rfl (by kernel_rfl) (by kernel_rfl) (by kernel_rfl) (fun _ _ _ h => h) (Or.inl ⟨by rfl, fun w' hS => by go_simp⟩) s0 (some 16) rfl ?_
                      try simp only [Act.put, List.setIfInBounds_toArray, List.set_cons_zero, List.set_cons_succ]
                      refine take_to (i := 15) (v := .int .i64 0) rfl (by kernel_rfl) (by kernel_rfl) (by kernel_rfl) (fun _ _ _ h => h) (Or.inl ⟨by rfl, fun w' hS => by go_simp⟩) s0 (some 17) rfl ?_
                      try simp only [Act.put, List.setIfInBounds_toArray, List.set_cons_zero, List.set_cons_succ]
                      refine wpAnyH_done (by kernel_rfl) ?_ _
                      go_wp2_with fail
                      go_meet
                      exact ⟨g15, At, ct, bd, rfl, rfl, rfl, HR9.out.1, HR9.out.2.ti (fun p hp => Nat.le_trans (nB_le HR.out.1 p) (by unfold maxLen; omega)), s0.out⟩
                  case rest =>
                    obtain ⟨g15, At, ct, bd, rfl, rfl, rfl, b15, t15, k15⟩ := hcut
                    have r15 : wc.cell? ⟨g15, 0, none⟩ = some (.slice At (nP K) ct) := b15.cell 0
                    have kk := on_trans H9.out.1 k15
                    have kk0 := on_trans H9.out.2.1 k15
                    have r6 : wc.cell? ⟨g1 + 1 + 1, 0, none⟩ = some (.slice A n c) := (HWc.out.2.2.1.on kk).cell 0
                    have hsame := same_any wc At A (nP K) ct c (tlL W H K bd) L tl t15 (by rw [← HK.out.2.2.2]; exact HA.out.2.2.2.2.1.on kk0) (by have := (nP_le K).2; omega) HSh.out
                    unfold tileV at hsame
                    rw [← HK.out.2.2.2] at hsame r15
                    have HSame := Lib.hid hsame
                    have hmm : ((m1 : Int) != (m1 : Int)) = false := by simp
                    have H15 := Lib.hid (And.intro kk kk0)
                    clear hsame b15 t15 k15 kk kk0
                    go_wp2_with fail
                    refine Calls.mono HSame.out ?_
                    rintro e wd ⟨rfl, kd⟩
                    have H16 := Lib.hid (on_trans H15.out.1 kd)
                    clear kd r15 r6 HSame
                    go_wp2_with fail
                    go_roundw
                    case rel => exact ⟨k + 1, by omega, by go_num, H16.out⟩
                    case measure => simp [intOf]; omega
                · have hEb : (Ek != 0) = true := by simpa using hE0
                  have hkne : k ≠ 0 := fun h => hE0 (H88.out.2.2.2.1.trans (H7.out.2.2.2.2.1 h))
                  have hkb : ((k : Int) == 0) = false := by simp; exact hkne
                  go_wp2_with fail
                  go_roundw
                  case rel => exact ⟨k + 1, by omega, by go_num, H9.out.1⟩
                  case measure => simp [intOf]; omega
              · obtain rfl : k = 2 := by omega
                have H6 := Lib.hid (on_trans HWc.out.2.2.2 hbw)
                clear hbw
                go_wp2_with fail
                refine Calls.mono (awake_any _) ?_
                rintro e w4 ⟨rfl, b4⟩
                have H4 := Lib.hid (on_trans H6.out b4)
                clear b4
                go_wp2_with fail
                go_ret
                exact ⟨rfl, H4.out⟩
          · obtain rfl : E = 1 := HC.out.2.2.2.2.1 hR
            have q0 : wc.cell? ⟨g1, 0, none⟩ = some (.int .i64 W) := HWc.out.1.cell 0
            have q1 : wc.cell? ⟨g1, 1, none⟩ = some (.int .i64 H) := HWc.out.1.cell 1
            have q2 : wc.cell? ⟨g1, 2, none⟩ = some (.int .i64 K) := HWc.out.1.cell 2
            have q3 : wc.cell? ⟨g1, 3, none⟩ = some (.int .i64 R) := HWc.out.1.cell 3
            have r0 : wc.cell? ⟨g1 + 1 + 1, 0, none⟩ = some (.slice A n c) := HWc.out.2.2.1.cell 0
            have hrr := refRightT_any wc W H K R A n c L tl (HA.out.2.2.2.2.1.on HWc.out.2.2.2)
            unfold scanV tileV at hrr
            have HRr := Lib.hid hrr
            clear hrr
            go_wp2_with fail
            refine Calls.mono HRr.out ?_
            rintro e w5 ⟨rb, rfl, hrb, k5⟩
            have hrf : rb = false := by
              cases rb with
              | false => rfl
              | true => exact absurd (hrb.1 rfl) hR
            subst hrf
            have H5 := Lib.hid (on_trans HWc.out.2.2.2 k5)
            clear hrb k5 q0 q1 q2 q3 r0 HRr
            go_wp2_with fail
            refine Calls.mono (awake_any _) ?_
            rintro e w6 ⟨rfl, b6⟩
            have H6 := Lib.hid (on_trans H5.out b6)
            clear b6
            go_wp2_with fail
            go_ret
            exact ⟨rfl, H6.out⟩
      · have hgt : (1000 : Int) < nb := by omega
        go_wp2_with fail
        refine Calls.mono (awake_any _) ?_
        rintro e w4 ⟨rfl, b4⟩
        have H4 := Lib.hid (on_trans H3.out.2.2.2.1 b4)
        clear b4
        go_wp2_with fail
        go_ret
        exact ⟨rfl, H4.out⟩
end
end Go.Proofs.YtdnjnbfmmgkpjaaDoor
