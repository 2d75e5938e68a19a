/-
  ScanRests, walked.
-/
import Derived.Test.YtdnjnbfmmgkpjaaDoorBC
import Derived.Test.YtdnjnbfmmgkpjaaDoorQO
import Derived.Deep.DeepCutAuto
namespace Go.Proofs.YtdnjnbfmmgkpjaaDoor
open Go.RowKit

theorem rests_expD : ∀ D : List Pl3, rests (expD D) = D.countP (·.2.2)
  | [] => rfl
  | (p, a, f) :: D => by
    have e : expD ((p, a, f) :: D) = exp1 (p, a, f) ++ expD D := rfl
    rw [e, rests_app, rests_expD D, List.countP_cons]
    cases f
    · show 0 + _ = _ + 0
      omega
    · show 1 + _ = _ + 1
      omega
section
variable (w : World) (W H K R : Int) (A : Option Addr) (n c : Nat) (L : List (Option Addr × Nat × Nat)) (tl : List (List (List Int))) (y : Int)
set_option maxRecDepth 10000 in
set_option maxHeartbeats 25600000 in
theorem rests_calls (hT : Tab w) (ht : Ti w A n L tl) :
    Calls Tryd.prog 5 #[scanV W H K R, tileV A n c, .int .i64 y] w fun e w' => e = .returned (.bool true) ∧ Below w.heap.size w w' := by
  obtain ⟨C, hC⟩ : ∃ C, C = (tbC tb0 nilX).toArray := ⟨_, rfl⟩
  have eC : tbV tb0 nilX = .agg C := by rw [hC]; rfl
  obtain ⟨V, hV⟩ : ∃ V, V = (twoC fun _ => List.replicate 64 0).toArray := ⟨_, rfl⟩
  obtain ⟨g1, hg1⟩ : ∃ g1, w.heap.size = g1 := ⟨_, rfl⟩
  obtain ⟨w1, hw1⟩ : ∃ w1, (w.alloc (.cells #[.int .i64 W, .int .i64 H, .int .i64 K, .int .i64 R] 23)).alloc (.cells #[.slice A n c] 36) = w1 := ⟨_, rfl⟩
  have b1 : Box w1 g1 23 #[.int .i64 W, .int .i64 H, .int .i64 K, .int .i64 R] := by rw [← hw1, ← hg1]; exact (Box.made _ _ _).alloc _
  have b3 : Box w1 (g1 + 1) 36 #[.slice A n c] := by
    rw [← hw1, ← hg1]
    have := Box.made (w.alloc (.cells #[.int .i64 W, .int .i64 H, .int .i64 K, .int .i64 R] 23)) 36 #[.slice A n c]
    simpa using this
  have k1 : Below w.heap.size w w1 := by rw [← hw1]; exact on_trans (on_alloc _ _) (on_alloc _ _)
  have r0 : w1.cell? ⟨g1 + 1, 0, none⟩ = some (.slice A n c) := b3.cell 0
  have hfw := few_any w1 A n c L tl (ht.on k1)
  unfold tileV FewY at hfw
  have HF := Lib.hid hfw
  have HL := Lib.hid (And.intro (fun (w' : World) (h : Box w' g1 23 #[.int .i64 W, .int .i64 H, .int .i64 K, .int .i64 R]) => load_scan h) (fun (w' : World) (h : Box w' (g1 + 1) 36 #[.slice A n c]) => load_tile h))
  have HB33 := Lib.hid (show ∀ w, (Instr.build 33 #[]).run Tryd.prog w = .ok (.agg C) w from fun w => by rw [hC]; exact build33_none w)
  have hb26 : ∀ w, (Instr.build 26 #[]).run Tryd.prog w = .ok (.agg V) w := fun w => by rw [hV]; exact build26 w
  have HB := Lib.hid (And.intro b1 (And.intro b3 (And.intro k1 (And.intro hg1 (And.intro eC (And.intro hC hV))))))
  have HA := Lib.hid (And.intro hT ht)
  have hpos0 : 0 < w.heap.size := hT.zero
  clear b1 b3 k1 hfw eC hC hV hT ht
  unfold scanV tileV
  go_enter Tryd.func5, Tryd.ntmps5
  go_upto_region 1 with fail
  clear hw1
  go_wp2_with fail
  refine Calls.mono HF.out ?_
  rintro e w2 ⟨fb, rfl, hfb, k2⟩
  have H2 := Lib.hid (And.intro (HB.out.1.on k2) (And.intro (HB.out.2.1.on k2) (And.intro (on_trans HB.out.2.2.1 k2) hfb)))
  clear k2 HF r0 hfb
  cases fb with
  | false =>
    go_wp2_with fail
    refine Calls.mono (awake_any _) ?_
    rintro e w3 ⟨rfl, b3⟩
    have H3 := Lib.hid (on_trans H2.out.2.2.1 b3)
    clear b3
    go_wp2_with fail
    go_ret
    exact ⟨rfl, H3.out⟩
  | true =>
    have kw2 := H2.out.2.2.1
    have hxs : Xs w2 tb0 nilX := fun j _ => ⟨none, 0, 0, rfl, (Il.none w2).ia⟩
    have hsm := small_any w2 W H K R tb0 nilX hxs
    unfold scanV SmallY at hsm
    rw [HB.out.2.2.2.2.1] at hsm
    have HSm := Lib.hid hsm
    have q0 : w2.cell? ⟨g1, 0, none⟩ = some (.int .i64 W) := H2.out.1.cell 0
    have q1 : w2.cell? ⟨g1, 1, none⟩ = some (.int .i64 H) := H2.out.1.cell 1
    have q2 : w2.cell? ⟨g1, 2, none⟩ = some (.int .i64 K) := H2.out.1.cell 2
    have q3 : w2.cell? ⟨g1, 3, none⟩ = some (.int .i64 R) := H2.out.1.cell 3
    clear hsm kw2 hxs
    go_wp2_with (first
      | (refine wpList_build_when (op := ⟨some 26, _, _, _, _, _⟩) rfl 33 _ rfl (.agg C) #[] (by simp) (HB33.out _) ?_)
      | fail)
    refine Calls.mono HSm.out ?_
    rintro e w3 ⟨sb, rfl, hsb, k3⟩
    have H3 := Lib.hid (And.intro (H2.out.1.on k3) (And.intro (H2.out.2.1.on k3) (And.intro (on_trans H2.out.2.2.1 k3) hsb)))
    clear k3 HSm hsb q0 q1 q2 q3
    cases sb with
    | false =>
      go_wp2_with fail
      refine Calls.mono (awake_any _) ?_
      rintro e w4 ⟨rfl, b4⟩
      have H4 := Lib.hid (on_trans H3.out.2.2.1 b4)
      clear b4
      go_wp2_with fail
      go_ret
      exact ⟨rfl, H4.out⟩
    | true =>
      have hfew := H2.out.2.2.2 trivial
      have hsmall := H3.out.2.2.2 rfl
      have kw3 := H3.out.2.2.1
      have ht100 : ∀ t ∈ tl, t.length ≤ 100 := fun t h => by
        obtain ⟨p, hp⟩ := List.mem_iff_getElem?.1 h
        have := hfew.2 p t hp
        omega
      have how : ∀ w', Ti w' A n L tl → Calls Tryd.prog 10 #[.agg #[.slice A n c]] w' (OwnT w' n tl) := fun w' h => own_any w' A n c L tl h hfew.1 ht100
      unfold OwnT at how
      have HOw := Lib.hid how
      have htn : ∀ w', Below w3.heap.size w3 w' → ∀ A8 c8 L8 bl, Ti w' A8 n L8 tl → bl < w'.heap.size → w'.cell? ⟨bl, 0, none⟩ = some (.slice A8 n c8) → Calls Tryd.prog 14 #[.agg #[.int .i64 W, .int .i64 H, .int .i64 K, .int .i64 R], .slice (some ⟨bl, 0, none⟩) 1 1, .agg V] w' fun e w'' => Below w'.heap.size w' w'' ∧ ∃ C E, e = .returned (.tuple #[.agg C, .int .i64 E]) ∧ C.size = 196 ∧ C.all (·.oneCell') = true ∧ TuneS w'' W H K R tl C E := fun w' k A8 c8 L8 bl h8 hbl hc8 =>
        tune_two w' W H K R tl A8 n c8 L8 bl 0 1 (fun _ => List.replicate 64 0) V HB.out.2.2.2.2.2.2 (HA.out.1.on (on_trans kw3 k)) h8 hsmall.1 hbl hc8 (fun i _ => by simp)
      have HTn := Lib.hid htn
      have HW3 := Lib.hid (And.intro H3.out.1 (And.intro H3.out.2.1 (HA.out.2.on kw3)))
      have HS := Lib.hid (And.intro hfew.1 (And.intro ht100 hsmall))
      obtain ⟨Z, hZ⟩ : ∃ Z, Z = (tbC tb0 nilX).toArray := ⟨_, rfl⟩
      have hz33 : ∀ w, (zeroValue 33).run Tryd.prog w = .ok (.agg Z) w := fun w => by rw [hZ]; exact zero33 w
      have HZ := Lib.hid (show Z.size = 196 by rw [hZ, List.size_toArray, tbC_len])
      clear how htn hfew hsmall kw3 ht100 hZ
      go_upto_region 3 with fail
      go_cut [7, 8] from 31 to 39 (fun p e wx => ∃ (g9 : Nat) (CT : Array Value) (E : Int), p = .pointer (some ⟨g9, 0, none⟩) ∧ e = .int .i64 E ∧ Box wx g9 33 CT ∧ CT.size = 196 ∧ CT.all (·.oneCell') = true ∧ Below w3.heap.size w3 wx ∧ TuneS wx W H K R tl CT E)
      case first =>
        refine wp_region_held_drew (S := fun w' => Hid (Below w3.heap.size w3 w')) (by kernel_rfl) (Lib.hid (on_drew w3)) fun s0 => ?_
        refine take_to (i := 0) (v := .agg #[.int .i64 W, .int .i64 H, .int .i64 K, .int .i64 R]) rfl (by kernel_rfl) (by kernel_rfl) (by kernel_rfl) (fun _ _ _ h => h) (yieldsIf_load7 (by rfl) 23 (.tmp 3) rfl (.pointer (some ⟨g1, 0, none⟩)) rfl (.agg #[.int .i64 W, .int .i64 H, .int .i64 K, .int .i64 R]) (fun w' hS => HL.out.1 w' (HW3.out.1.on hS.out))) s0 (some 32) rfl ?_
        try simp only [Act.put, List.setIfInBounds_toArray, List.set_cons_zero, List.set_cons_succ]
        refine take_to (i := 1) (v := .agg #[.slice A n c]) rfl (by kernel_rfl) (by kernel_rfl) (by kernel_rfl) (fun _ _ _ h => h) (yieldsIf_load7 (by rfl) 36 (.tmp 4) rfl (.pointer (some ⟨g1 + 1, 0, none⟩)) rfl (.agg #[.slice A n c]) (fun w' hS => HL.out.2 w' (HW3.out.2.1.on hS.out))) s0 (some 33) rfl ?_
        try simp only [Act.put, List.setIfInBounds_toArray, List.set_cons_zero, List.set_cons_succ]
        refine take_to (i := 4) (v := .agg V) rfl (by kernel_rfl) (by kernel_rfl) (by kernel_rfl) (fun _ _ _ h => h) (Or.inl ⟨by rfl, fun w' hS => by go_simp; rw [HB.out.2.2.2.2.2.2]; kernel_rfl⟩) s0 (some 36) rfl ?_
        try simp only [Act.put, List.setIfInBounds_toArray, List.set_cons_zero, List.set_cons_succ]
        obtain ⟨v0, hv0⟩ : ∃ v0, v0 = w3.drew := ⟨_, rfl⟩
        rw [← hv0] at s0 ⊢
        clear hv0
        refine wpAnyH_ready (rs := [2, 9]) (by kernel_rfl) (by simp) ?_
        refine (AllReadyH.cons rfl (fun Kq hKq => ?_) (AllReadyH.cons rfl (fun Kq hKq => ?_) AllReadyH.nil))
        · go_simp
          refine Calls.mono (HOw.out _ (HW3.out.2.2.on s0.out)) ?_
          rintro e v1 ⟨A8, c8, L8, rfl, t8, bq⟩
          unfold tileV
          have HT8 := Lib.hid t8
          clear t8
          have K1 := Lib.hid bq
          have sq := Lib.hid (on_trans s0.out bq)
          refine hKq.out _ _ sq fun _ => ?_
          clear hKq Kq bq s0
          have s0 := sq
          clear sq
          refine wpAnyH_ready (rs := [3, 9]) (by kernel_rfl) (by simp) ?_
          refine (AllReadyH.cons rfl (fun Kq hKq => ?_) (AllReadyH.cons rfl (fun Kq hKq => ?_) AllReadyH.nil))
          · go_simp
            have bq : Below v1.heap.size v1 (v1.alloc (.cells #[.slice A8 n c8] 36)) := on_alloc _ _
            have bb : Box (v1.alloc (.cells #[.slice A8 n c8] 36)) v1.heap.size 36 #[.slice A8 n c8] := Box.made _ _ _
            obtain ⟨gl, hg2⟩ : ∃ g, g = v1.heap.size := ⟨_, rfl⟩
            obtain ⟨v2, hn2⟩ : ∃ x, x = v1.alloc (.cells #[.slice A8 n c8] 36) := ⟨_, rfl⟩
            simp only [← hg2, ← hn2] at bb ⊢
            rw [← hn2] at bq
            have HGl := Lib.hid (And.intro bb (show w3.heap.size ≤ gl by rw [hg2]; exact s0.out.size))
            clear bb hn2 hg2
            have K2 := Lib.hid bq
            have sq := Lib.hid (on_trans s0.out bq)
            refine hKq.out _ _ sq fun _ => ?_
            clear hKq Kq bq s0
            have s0 := sq
            clear sq
            refine wpAnyH_ready (rs := [5, 9]) (by kernel_rfl) (by simp) ?_
            refine (AllReadyH.cons rfl (fun Kq hKq => ?_) (AllReadyH.cons rfl (fun Kq hKq => ?_) AllReadyH.nil))
            · go_simp
              have ct8 : v2.cell? ⟨gl, 0, none⟩ = some (.slice A8 n c8) := (HGl.out.1).cell 0
              refine Calls.mono (HTn.out _ s0.out A8 c8 L8 gl ((HT8.out).on K2.out) (HGl.out.1).lt ct8) ?_
              rintro e v3 ⟨bq, CT, ET, rfl, hcs, hc1, htr⟩
              have HTr := Lib.hid htr
              have HCT := Lib.hid (And.intro hcs hc1)
              clear htr hcs hc1 ct8
              have K3 := Lib.hid bq
              have sq := Lib.hid (on_trans s0.out bq)
              refine hKq.out _ _ sq fun _ => ?_
              clear hKq Kq bq s0
              have s0 := sq
              clear sq
              refine take_to (i := 6) (v := .tuple #[.agg CT, .int .i64 ET]) rfl (by kernel_rfl) (by kernel_rfl) (by kernel_rfl) (fun _ _ _ h => h) (Or.inl ⟨by rfl, fun w' hS => by go_simp⟩) s0 (some 31) rfl ?_
              try simp only [Act.put, List.setIfInBounds_toArray, List.set_cons_zero, List.set_cons_succ]
              refine take_to (i := 7) (v := .agg CT) rfl (by kernel_rfl) (by kernel_rfl) (by kernel_rfl) (fun _ _ _ h => h) (Or.inl ⟨by rfl, fun w' hS => by go_simp⟩) s0 (some 38) rfl ?_
              try simp only [Act.put, List.setIfInBounds_toArray, List.set_cons_zero, List.set_cons_succ]
              refine take_to (i := 8) (v := .int .i64 ET) rfl (by kernel_rfl) (by kernel_rfl) (by kernel_rfl) (fun _ _ _ h => h) (Or.inl ⟨by rfl, fun w' hS => by go_simp⟩) s0 (some 39) rfl ?_
              try simp only [Act.put, List.setIfInBounds_toArray, List.set_cons_zero, List.set_cons_succ]
              refine wpAnyH_ready (rs := [9]) (by kernel_rfl) (by simp) ?_
              refine (AllReadyH.cons rfl (fun Kq hKq => ?_) AllReadyH.nil)
              go_simp
              have bq : Below v3.heap.size v3 (v3.alloc (.cells Z 33)) := on_alloc _ _
              have bb : Box (v3.alloc (.cells Z 33)) v3.heap.size 33 Z := Box.made _ _ _
              obtain ⟨g9, hg4⟩ : ∃ g, g = v3.heap.size := ⟨_, rfl⟩
              obtain ⟨v4, hn4⟩ : ∃ x, x = v3.alloc (.cells Z 33) := ⟨_, rfl⟩
              simp only [← hg4, ← hn4] at bb ⊢
              rw [← hn4] at bq
              have HG9 := Lib.hid (And.intro bb (show w3.heap.size ≤ g9 by rw [hg4]; exact s0.out.size))
              clear bb hn4 hg4
              have K4 := Lib.hid bq
              have sq := Lib.hid (on_trans s0.out bq)
              refine hKq.out _ _ sq fun _ => ?_
              clear hKq Kq bq s0
              have s0 := sq
              clear sq
              refine wpAnyH_ready (rs := [10]) (by kernel_rfl) (by simp) ?_
              refine (AllReadyH.cons rfl (fun Kq hKq => ?_) AllReadyH.nil)
              have bz9 := HG9.out.1
              have htz := (HTr.out).on K4.out
              refine step_store_row rfl 33 (.tmp 7) (.tmp 38) rfl rfl g9 CT rfl rfl (by rw [tables_size, HCT.out.1]) 33 Z bz9 (by rw [HZ.out, HCT.out.1]) HCT.out.2 ?_
              intro wz b9 k9
              have sq := Lib.hid (s0.out.trans (k9.below s0.out.size (fun i hi e => by have := HG9.out.2; omega)))
              have HR9 := Lib.hid (And.intro b9 (htz.kept k9 bz9 (fun _ e => e)))
              refine hKq.out _ _ sq fun _ => ?_
              clear hKq Kq s0 b9 k9 bz9 htz
              have s0 := sq
              clear sq
              refine take_to (i := 11) (v := .int .i64 ET) rfl (by kernel_rfl) (by kernel_rfl) (by kernel_rfl) (fun _ _ _ h => h) (Or.inl ⟨by rfl, fun w' hS => by go_simp⟩) s0 (some 8) rfl ?_
              try simp only [Act.put, List.setIfInBounds_toArray, List.set_cons_zero, List.set_cons_succ]
              refine wpAnyH_done (by kernel_rfl) ?_ _
              go_wp2_with fail
              go_meet
              exact ⟨g9, CT, ET, rfl, rfl, HR9.out.1, HCT.out.1, HCT.out.2, s0.out, HR9.out.2⟩
            · go_simp
              have bq : Below v2.heap.size v2 (v2.alloc (.cells Z 33)) := on_alloc _ _
              have bb : Box (v2.alloc (.cells Z 33)) v2.heap.size 33 Z := Box.made _ _ _
              obtain ⟨g9, hg5⟩ : ∃ g, g = v2.heap.size := ⟨_, rfl⟩
              obtain ⟨v5, hn5⟩ : ∃ x, x = v2.alloc (.cells Z 33) := ⟨_, rfl⟩
              simp only [← hg5, ← hn5] at bb ⊢
              rw [← hn5] at bq
              have HG9 := Lib.hid (And.intro bb (show w3.heap.size ≤ g9 by rw [hg5]; exact s0.out.size))
              clear bb hn5 hg5
              have K5 := Lib.hid bq
              have sq := Lib.hid (on_trans s0.out bq)
              refine hKq.out _ _ sq fun _ => ?_
              clear hKq Kq bq s0
              have s0 := sq
              clear sq
              refine wpAnyH_ready (rs := [5]) (by kernel_rfl) (by simp) ?_
              refine (AllReadyH.cons rfl (fun Kq hKq => ?_) AllReadyH.nil)
              go_simp
              have ct8 : v5.cell? ⟨gl, 0, none⟩ = some (.slice A8 n c8) := ((HGl.out.1).on K5.out).cell 0
              refine Calls.mono (HTn.out _ s0.out A8 c8 L8 gl (((HT8.out).on K2.out).on K5.out) ((HGl.out.1).on K5.out).lt ct8) ?_
              rintro e v6 ⟨bq, CT, ET, rfl, hcs, hc1, htr⟩
              have HTr := Lib.hid htr
              have HCT := Lib.hid (And.intro hcs hc1)
              clear htr hcs hc1 ct8
              have K6 := Lib.hid bq
              have sq := Lib.hid (on_trans s0.out bq)
              refine hKq.out _ _ sq fun _ => ?_
              clear hKq Kq bq s0
              have s0 := sq
              clear sq
              refine take_to (i := 6) (v := .tuple #[.agg CT, .int .i64 ET]) rfl (by kernel_rfl) (by kernel_rfl) (by kernel_rfl) (fun _ _ _ h => h) (Or.inl ⟨by rfl, fun w' hS => by go_simp⟩) s0 (some 31) rfl ?_
              try simp only [Act.put, List.setIfInBounds_toArray, List.set_cons_zero, List.set_cons_succ]
              refine take_to (i := 7) (v := .agg CT) rfl (by kernel_rfl) (by kernel_rfl) (by kernel_rfl) (fun _ _ _ h => h) (Or.inl ⟨by rfl, fun w' hS => by go_simp⟩) s0 (some 38) rfl ?_
              try simp only [Act.put, List.setIfInBounds_toArray, List.set_cons_zero, List.set_cons_succ]
              refine take_to (i := 8) (v := .int .i64 ET) rfl (by kernel_rfl) (by kernel_rfl) (by kernel_rfl) (fun _ _ _ h => h) (Or.inl ⟨by rfl, fun w' hS => by go_simp⟩) s0 (some 39) rfl ?_
              try simp only [Act.put, List.setIfInBounds_toArray, List.set_cons_zero, List.set_cons_succ]
              refine wpAnyH_ready (rs := [10]) (by kernel_rfl) (by simp) ?_
              refine (AllReadyH.cons rfl (fun Kq hKq => ?_) AllReadyH.nil)
              have bz9 := (HG9.out.1).on K6.out
              have htz := HTr.out
              refine step_store_row rfl 33 (.tmp 7) (.tmp 38) rfl rfl g9 CT rfl rfl (by rw [tables_size, HCT.out.1]) 33 Z bz9 (by rw [HZ.out, HCT.out.1]) HCT.out.2 ?_
              intro wz b9 k9
              have sq := Lib.hid (s0.out.trans (k9.below s0.out.size (fun i hi e => by have := HG9.out.2; omega)))
              have HR9 := Lib.hid (And.intro b9 (htz.kept k9 bz9 (fun _ e => e)))
              refine hKq.out _ _ sq fun _ => ?_
              clear hKq Kq s0 b9 k9 bz9 htz
              have s0 := sq
              clear sq
              refine take_to (i := 11) (v := .int .i64 ET) rfl (by kernel_rfl) (by kernel_rfl) (by kernel_rfl) (fun _ _ _ h => h) (Or.inl ⟨by rfl, fun w' hS => by go_simp⟩) s0 (some 8) rfl ?_
              try simp only [Act.put, List.setIfInBounds_toArray, List.set_cons_zero, List.set_cons_succ]
              refine wpAnyH_done (by kernel_rfl) ?_ _
              go_wp2_with fail
              go_meet
              exact ⟨g9, CT, ET, rfl, rfl, HR9.out.1, HCT.out.1, HCT.out.2, s0.out, HR9.out.2⟩
          · go_simp
            have bq : Below v1.heap.size v1 (v1.alloc (.cells Z 33)) := on_alloc _ _
            have bb : Box (v1.alloc (.cells Z 33)) v1.heap.size 33 Z := Box.made _ _ _
            obtain ⟨g9, hg7⟩ : ∃ g, g = v1.heap.size := ⟨_, rfl⟩
            obtain ⟨v7, hn7⟩ : ∃ x, x = v1.alloc (.cells Z 33) := ⟨_, rfl⟩
            simp only [← hg7, ← hn7] at bb ⊢
            rw [← hn7] at bq
            have HG9 := Lib.hid (And.intro bb (show w3.heap.size ≤ g9 by rw [hg7]; exact s0.out.size))
            clear bb hn7 hg7
            have K7 := Lib.hid bq
            have sq := Lib.hid (on_trans s0.out bq)
            refine hKq.out _ _ sq fun _ => ?_
            clear hKq Kq bq s0
            have s0 := sq
            clear sq
            refine wpAnyH_ready (rs := [3]) (by kernel_rfl) (by simp) ?_
            refine (AllReadyH.cons rfl (fun Kq hKq => ?_) AllReadyH.nil)
            go_simp
            have bq : Below v7.heap.size v7 (v7.alloc (.cells #[.slice A8 n c8] 36)) := on_alloc _ _
            have bb : Box (v7.alloc (.cells #[.slice A8 n c8] 36)) v7.heap.size 36 #[.slice A8 n c8] := Box.made _ _ _
            obtain ⟨gl, hg8⟩ : ∃ g, g = v7.heap.size := ⟨_, rfl⟩
            obtain ⟨v8, hn8⟩ : ∃ x, x = v7.alloc (.cells #[.slice A8 n c8] 36) := ⟨_, rfl⟩
            simp only [← hg8, ← hn8] at bb ⊢
            rw [← hn8] at bq
            have HGl := Lib.hid (And.intro bb (show w3.heap.size ≤ gl by rw [hg8]; exact s0.out.size))
            clear bb hn8 hg8
            have K8 := Lib.hid bq
            have sq := Lib.hid (on_trans s0.out bq)
            refine hKq.out _ _ sq fun _ => ?_
            clear hKq Kq bq s0
            have s0 := sq
            clear sq
            refine wpAnyH_ready (rs := [5]) (by kernel_rfl) (by simp) ?_
            refine (AllReadyH.cons rfl (fun Kq hKq => ?_) AllReadyH.nil)
            go_simp
            have ct8 : v8.cell? ⟨gl, 0, none⟩ = some (.slice A8 n c8) := (HGl.out.1).cell 0
            refine Calls.mono (HTn.out _ s0.out A8 c8 L8 gl (((HT8.out).on K7.out).on K8.out) (HGl.out.1).lt ct8) ?_
            rintro e v9 ⟨bq, CT, ET, rfl, hcs, hc1, htr⟩
            have HTr := Lib.hid htr
            have HCT := Lib.hid (And.intro hcs hc1)
            clear htr hcs hc1 ct8
            have K9 := Lib.hid bq
            have sq := Lib.hid (on_trans s0.out bq)
            refine hKq.out _ _ sq fun _ => ?_
            clear hKq Kq bq s0
            have s0 := sq
            clear sq
            refine take_to (i := 6) (v := .tuple #[.agg CT, .int .i64 ET]) rfl (by kernel_rfl) (by kernel_rfl) (by kernel_rfl) (fun _ _ _ h => h) (Or.inl ⟨by rfl, fun w' hS => by go_simp⟩) s0 (some 31) rfl ?_
            try simp only [Act.put, List.setIfInBounds_toArray, List.set_cons_zero, List.set_cons_succ]
            refine take_to (i := 7) (v := .agg CT) rfl (by kernel_rfl) (by kernel_rfl) (by kernel_rfl) (fun _ _ _ h => h) (Or.inl ⟨by rfl, fun w' hS => by go_simp⟩) s0 (some 38) rfl ?_
            try simp only [Act.put, List.setIfInBounds_toArray, List.set_cons_zero, List.set_cons_succ]
            refine take_to (i := 8) (v := .int .i64 ET) rfl (by kernel_rfl) (by kernel_rfl) (by kernel_rfl) (fun _ _ _ h => h) (Or.inl ⟨by rfl, fun w' hS => by go_simp⟩) s0 (some 39) rfl ?_
            try simp only [Act.put, List.setIfInBounds_toArray, List.set_cons_zero, List.set_cons_succ]
            refine wpAnyH_ready (rs := [10]) (by kernel_rfl) (by simp) ?_
            refine (AllReadyH.cons rfl (fun Kq hKq => ?_) AllReadyH.nil)
            have bz9 := ((HG9.out.1).on K8.out).on K9.out
            have htz := HTr.out
            refine step_store_row rfl 33 (.tmp 7) (.tmp 38) rfl rfl g9 CT rfl rfl (by rw [tables_size, HCT.out.1]) 33 Z bz9 (by rw [HZ.out, HCT.out.1]) HCT.out.2 ?_
            intro wz b9 k9
            have sq := Lib.hid (s0.out.trans (k9.below s0.out.size (fun i hi e => by have := HG9.out.2; omega)))
            have HR9 := Lib.hid (And.intro b9 (htz.kept k9 bz9 (fun _ e => e)))
            refine hKq.out _ _ sq fun _ => ?_
            clear hKq Kq s0 b9 k9 bz9 htz
            have s0 := sq
            clear sq
            refine take_to (i := 11) (v := .int .i64 ET) rfl (by kernel_rfl) (by kernel_rfl) (by kernel_rfl) (fun _ _ _ h => h) (Or.inl ⟨by rfl, fun w' hS => by go_simp⟩) s0 (some 8) rfl ?_
            try simp only [Act.put, List.setIfInBounds_toArray, List.set_cons_zero, List.set_cons_succ]
            refine wpAnyH_done (by kernel_rfl) ?_ _
            go_wp2_with fail
            go_meet
            exact ⟨g9, CT, ET, rfl, rfl, HR9.out.1, HCT.out.1, HCT.out.2, s0.out, HR9.out.2⟩
        · go_simp
          have bq : Below v0.heap.size v0 (v0.alloc (.cells Z 33)) := on_alloc _ _
          have bb : Box (v0.alloc (.cells Z 33)) v0.heap.size 33 Z := Box.made _ _ _
          obtain ⟨g9, hg10⟩ : ∃ g, g = v0.heap.size := ⟨_, rfl⟩
          obtain ⟨v10, hn10⟩ : ∃ x, x = v0.alloc (.cells Z 33) := ⟨_, rfl⟩
          simp only [← hg10, ← hn10] at bb ⊢
          rw [← hn10] at bq
          have HG9 := Lib.hid (And.intro bb (show w3.heap.size ≤ g9 by rw [hg10]; exact s0.out.size))
          clear bb hn10 hg10
          have K10 := Lib.hid bq
          have sq := Lib.hid (on_trans s0.out bq)
          refine hKq.out _ _ sq fun _ => ?_
          clear hKq Kq bq s0
          have s0 := sq
          clear sq
          refine wpAnyH_ready (rs := [2]) (by kernel_rfl) (by simp) ?_
          refine (AllReadyH.cons rfl (fun Kq hKq => ?_) AllReadyH.nil)
          go_simp
          refine Calls.mono (HOw.out _ (HW3.out.2.2.on s0.out)) ?_
          rintro e v11 ⟨A8, c8, L8, rfl, t8, bq⟩
          unfold tileV
          have HT8 := Lib.hid t8
          clear t8
          have K11 := Lib.hid bq
          have sq := Lib.hid (on_trans s0.out bq)
          refine hKq.out _ _ sq fun _ => ?_
          clear hKq Kq bq s0
          have s0 := sq
          clear sq
          refine wpAnyH_ready (rs := [3]) (by kernel_rfl) (by simp) ?_
          refine (AllReadyH.cons rfl (fun Kq hKq => ?_) AllReadyH.nil)
          go_simp
          have bq : Below v11.heap.size v11 (v11.alloc (.cells #[.slice A8 n c8] 36)) := on_alloc _ _
          have bb : Box (v11.alloc (.cells #[.slice A8 n c8] 36)) v11.heap.size 36 #[.slice A8 n c8] := Box.made _ _ _
          obtain ⟨gl, hg12⟩ : ∃ g, g = v11.heap.size := ⟨_, rfl⟩
          obtain ⟨v12, hn12⟩ : ∃ x, x = v11.alloc (.cells #[.slice A8 n c8] 36) := ⟨_, rfl⟩
          simp only [← hg12, ← hn12] at bb ⊢
          rw [← hn12] at bq
          have HGl := Lib.hid (And.intro bb (show w3.heap.size ≤ gl by rw [hg12]; exact s0.out.size))
          clear bb hn12 hg12
          have K12 := Lib.hid bq
          have sq := Lib.hid (on_trans s0.out bq)
          refine hKq.out _ _ sq fun _ => ?_
          clear hKq Kq bq s0
          have s0 := sq
          clear sq
          refine wpAnyH_ready (rs := [5]) (by kernel_rfl) (by simp) ?_
          refine (AllReadyH.cons rfl (fun Kq hKq => ?_) AllReadyH.nil)
          go_simp
          have ct8 : v12.cell? ⟨gl, 0, none⟩ = some (.slice A8 n c8) := (HGl.out.1).cell 0
          refine Calls.mono (HTn.out _ s0.out A8 c8 L8 gl ((HT8.out).on K12.out) (HGl.out.1).lt ct8) ?_
          rintro e v13 ⟨bq, CT, ET, rfl, hcs, hc1, htr⟩
          have HTr := Lib.hid htr
          have HCT := Lib.hid (And.intro hcs hc1)
          clear htr hcs hc1 ct8
          have K13 := Lib.hid bq
          have sq := Lib.hid (on_trans s0.out bq)
          refine hKq.out _ _ sq fun _ => ?_
          clear hKq Kq bq s0
          have s0 := sq
          clear sq
          refine take_to (i := 6) (v := .tuple #[.agg CT, .int .i64 ET]) rfl (by kernel_rfl) (by kernel_rfl) (by kernel_rfl) (fun _ _ _ h => h) (Or.inl ⟨by rfl, fun w' hS => by go_simp⟩) s0 (some 31) rfl ?_
          try simp only [Act.put, List.setIfInBounds_toArray, List.set_cons_zero, List.set_cons_succ]
          refine take_to (i := 7) (v := .agg CT) rfl (by kernel_rfl) (by kernel_rfl) (by kernel_rfl) (fun _ _ _ h => h) (Or.inl ⟨by rfl, fun w' hS => by go_simp⟩) s0 (some 38) rfl ?_
          try simp only [Act.put, List.setIfInBounds_toArray, List.set_cons_zero, List.set_cons_succ]
          refine take_to (i := 8) (v := .int .i64 ET) rfl (by kernel_rfl) (by kernel_rfl) (by kernel_rfl) (fun _ _ _ h => h) (Or.inl ⟨by rfl, fun w' hS => by go_simp⟩) s0 (some 39) rfl ?_
          try simp only [Act.put, List.setIfInBounds_toArray, List.set_cons_zero, List.set_cons_succ]
          refine wpAnyH_ready (rs := [10]) (by kernel_rfl) (by simp) ?_
          refine (AllReadyH.cons rfl (fun Kq hKq => ?_) AllReadyH.nil)
          have bz9 := (((HG9.out.1).on K11.out).on K12.out).on K13.out
          have htz := HTr.out
          refine step_store_row rfl 33 (.tmp 7) (.tmp 38) rfl rfl g9 CT rfl rfl (by rw [tables_size, HCT.out.1]) 33 Z bz9 (by rw [HZ.out, HCT.out.1]) HCT.out.2 ?_
          intro wz b9 k9
          have sq := Lib.hid (s0.out.trans (k9.below s0.out.size (fun i hi e => by have := HG9.out.2; omega)))
          have HR9 := Lib.hid (And.intro b9 (htz.kept k9 bz9 (fun _ e => e)))
          refine hKq.out _ _ sq fun _ => ?_
          clear hKq Kq s0 b9 k9 bz9 htz
          have s0 := sq
          clear sq
          refine take_to (i := 11) (v := .int .i64 ET) rfl (by kernel_rfl) (by kernel_rfl) (by kernel_rfl) (fun _ _ _ h => h) (Or.inl ⟨by rfl, fun w' hS => by go_simp⟩) s0 (some 8) rfl ?_
          try simp only [Act.put, List.setIfInBounds_toArray, List.set_cons_zero, List.set_cons_succ]
          refine wpAnyH_done (by kernel_rfl) ?_ _
          go_wp2_with fail
          go_meet
          exact ⟨g9, CT, ET, rfl, rfl, HR9.out.1, HCT.out.1, HCT.out.2, s0.out, HR9.out.2⟩
      case rest =>
        obtain ⟨g9, CT, E, rfl, rfl, b9, hcs, hc1, k9, htr⟩ := hcut
        obtain ⟨Tk, Xk, hCT, hTK, hEb, hEg⟩ := htr.know
        have kwc := on_trans H3.out.2.2.1 k9
        obtain ⟨Ek, hEk⟩ : ∃ Ek, Ek = (putR W H K R Tk tl).2 := ⟨_, rfl⟩
        obtain ⟨o, ho⟩ : ∃ o, o = (putR W H K R Tk tl).1 := ⟨_, rfl⟩
        have HW8 := Lib.hid (And.intro (H3.out.1.on k9) (And.intro (H3.out.2.1.on k9) (HA.out.2.on kwc)))
        have HL8 := Lib.hid (fun (w' : World) (k : Below wc.heap.size wc w') => (show (Instr.loadAt 33 (.pointer (some ⟨g9, 0, none⟩))).run Tryd.prog w' = .ok (.agg CT) w' by
          have hb := b9.on k
          rw [hCT] at hb ⊢
          exact hb.rng.load))
        have hput : ∀ w', Below wc.heap.size wc w' → ∀ A8 c8 L8, Ti w' A8 n L8 tl → Calls Tryd.prog 11 #[.agg #[.int .i64 W, .int .i64 H, .int .i64 K, .int .i64 R], .agg CT, .agg #[.slice A8 n c8]] w' fun e w'' => Below w'.heap.size w' w'' ∧ ∃ A' m c', e = .returned (.tuple #[.slice A' m c', .int .i64 Ek]) ∧ Sl w'' (fun b => w'.heap.size ≤ b) A' m c' o := fun w' k A8 c8 L8 h8 => by
          have := scanPut_one w' W H K R Tk Xk A8 n c8 L8 tl (HA.out.1.on (on_trans kwc k)) (hTK.xs.on k) hTK.wt hTK.few h8 HS.out.2.2.1
          rw [← hEk, ← ho] at this
          rw [hCT]
          exact this
        have HPu := Lib.hid hput
        have H8 := Lib.hid (And.intro kwc (And.intro hTK (And.intro hEb (And.intro hEg (And.intro hEk (And.intro ho hCT))))))
        clear b9 hcs hc1 k9 htr hCT hTK hEb hEg kwc hEk ho hput
        go_upto_region 4 with fail
        refine wp_region_held_drew (S := fun w' => Hid (Below wc.heap.size wc w')) (by kernel_rfl) (Lib.hid (on_drew wc)) fun s0 => ?_
        refine take_to (i := 0) (v := .agg #[.int .i64 W, .int .i64 H, .int .i64 K, .int .i64 R]) rfl (by kernel_rfl) (by kernel_rfl) (by kernel_rfl) (fun _ _ _ h => h) (yieldsIf_load7 (by rfl) 23 (.tmp 3) rfl (.pointer (some ⟨g1, 0, none⟩)) rfl (.agg #[.int .i64 W, .int .i64 H, .int .i64 K, .int .i64 R]) (fun w' hS => HL.out.1 w' (HW8.out.1.on hS.out))) s0 (some 41) rfl ?_
        try simp only [Act.put, List.setIfInBounds_toArray, List.set_cons_zero, List.set_cons_succ]
        refine take_to (i := 1) (v := .agg CT) rfl (by kernel_rfl) (by kernel_rfl) (by kernel_rfl) (fun _ _ _ h => h) (yieldsIf_load7 (by rfl) 33 (.tmp 7) rfl (.pointer (some ⟨g9, 0, none⟩)) rfl (.agg CT) (fun w' hS => HL8.out w' hS.out)) s0 (some 42) rfl ?_
        try simp only [Act.put, List.setIfInBounds_toArray, List.set_cons_zero, List.set_cons_succ]
        refine take_to (i := 2) (v := .agg #[.slice A n c]) rfl (by kernel_rfl) (by kernel_rfl) (by kernel_rfl) (fun _ _ _ h => h) (yieldsIf_load7 (by rfl) 36 (.tmp 4) rfl (.pointer (some ⟨g1 + 1, 0, none⟩)) rfl (.agg #[.slice A n c]) (fun w' hS => HL.out.2 w' (HW8.out.2.1.on hS.out))) s0 (some 43) rfl ?_
        try simp only [Act.put, List.setIfInBounds_toArray, List.set_cons_zero, List.set_cons_succ]
        refine wpAnyH_ready (rs := [3]) (by kernel_rfl) (by simp) ?_
        refine (AllReadyH.cons rfl (fun Kq hKq => ?_) AllReadyH.nil)
        go_simp
        refine Calls.mono (HOw.out _ (HW8.out.2.2.on s0.out)) ?_
        rintro e wq3 ⟨A8, c8, L8, rfl, t8, bq⟩
        have HT8 := Lib.hid t8
        clear t8
        unfold tileV
        have sq := Lib.hid (on_trans s0.out bq)
        refine hKq.out _ _ sq fun _ => ?_
        clear hKq Kq bq s0
        have s0 := sq
        clear sq
        refine wpAnyH_ready (rs := [4]) (by kernel_rfl) (by simp) ?_
        refine (AllReadyH.cons rfl (fun Kq hKq => ?_) AllReadyH.nil)
        go_simp
        refine Calls.mono (HPu.out _ s0.out A8 c8 L8 HT8.out) ?_
        rintro e wq4 ⟨bq, A1, m1, k1, rfl, sl1⟩
        have HS0 := Lib.hid sl1
        clear sl1
        have sq := Lib.hid (on_trans s0.out bq)
        refine hKq.out _ _ sq fun _ => ?_
        clear hKq Kq bq s0
        have s0 := sq
        clear sq
        refine take_to (i := 5) (v := .tuple #[.slice A1 m1 k1, .int .i64 Ek]) rfl (by kernel_rfl) (by kernel_rfl) (by kernel_rfl) (fun _ _ _ h => h) (Or.inl ⟨by rfl, fun w' hS => by go_simp⟩) s0 (some 40) rfl ?_
        try simp only [Act.put, List.setIfInBounds_toArray, List.set_cons_zero, List.set_cons_succ]
        refine take_to (i := 6) (v := .slice A1 m1 k1) rfl (by kernel_rfl) (by kernel_rfl) (by kernel_rfl) (fun _ _ _ h => h) (Or.inl ⟨by rfl, fun w' hS => by go_simp⟩) s0 (some 46) rfl ?_
        try simp only [Act.put, List.setIfInBounds_toArray, List.set_cons_zero, List.set_cons_succ]
        refine take_to (i := 7) (v := .int .i64 Ek) rfl (by kernel_rfl) (by kernel_rfl) (by kernel_rfl) (fun _ _ _ h => h) (Or.inl ⟨by rfl, fun w' hS => by go_simp⟩) s0 (some 47) rfl ?_
        try simp only [Act.put, List.setIfInBounds_toArray, List.set_cons_zero, List.set_cons_succ]
        refine take_to (i := 8) (v := .slice A1 m1 k1) rfl (by kernel_rfl) (by kernel_rfl) (by kernel_rfl) (fun _ _ _ h => h) (Or.inl ⟨by rfl, fun w' hS => by go_simp⟩) s0 (some 9) rfl ?_
        try simp only [Act.put, List.setIfInBounds_toArray, List.set_cons_zero, List.set_cons_succ]
        refine take_to (i := 9) (v := .int .i64 Ek) rfl (by kernel_rfl) (by kernel_rfl) (by kernel_rfl) (fun _ _ _ h => h) (Or.inl ⟨by rfl, fun w' hS => by go_simp⟩) s0 (some 10) rfl ?_
        try simp only [Act.put, List.setIfInBounds_toArray, List.set_cons_zero, List.set_cons_succ]
        refine wpAnyH_done (by kernel_rfl) ?_ _
        have hm1 := HS0.out.len
        have H9 := Lib.hid (And.intro (on_trans H8.out.1 s0.out) (HS0.out.mono (K' := fun _ => True) (fun _ _ _ => trivial)))
        have HW9 := Lib.hid (And.intro (HW8.out.1.on s0.out) (And.intro (HW8.out.2.1.on s0.out) (HW8.out.2.2.on s0.out)))
        have HL9 := Lib.hid (fun (w' : World) (k : Below wq4.heap.size wq4 w') => HL8.out w' (on_trans s0.out k))
        have HX9 := Lib.hid (H8.out.2.1.xs.on s0.out)
        clear s0 HT8 HS0 HPu HL8 HW8
        by_cases hR : RightT W H K R tl
        · have HR := Lib.hid hR
          obtain ⟨hE0, hok, hpe⟩ := H8.out.2.2.2.1 hR
          subst hE0
          have hEk0 : Ek = 0 := H8.out.2.2.2.2.1.trans (putR_ok hR hok hpe)
          have hEk1 := H8.out.2.2.2.2.1
          subst hEk0
          have hpo := (putR_zero hEk1.symm).2.2.2
          have ho : o = putOut W H K R Tk tl := H8.out.2.2.2.2.2.1.trans hpo
          have hnn : n = nP K := HA.out.2.len.symm.trans hR.2.1
          have hR1 := hR.1.2.2.2
          obtain ⟨r, rfl⟩ : ∃ r : Nat, R = (r : Int) := ⟨R.toNat, by omega⟩
          have hlen : o.length ≤ 40000 := by
            have hsm := HS.out.2.2.1 hR.1
            have hfb := few_bits (tl := tl) hR.1 hsm.1 hsm.2 hok (done := evTo (uW W K) K r (uW W K * uH H K)) (q := []) (List.append_nil _)
            have h1 := hfb.2.2.room
            have h2 := few_places hR.1 hsm.1 hsm.2
            have h3 := places_evTo (uW W K) K r (uW W K * uH H K)
            have h4 := rests_evTo (uW W K) K r (uW W K * uH H K)
            have h5 : (uW W K * uH H K - 1) / r ≤ uW W K * uH H K - 1 := Nat.div_le_self _ _
            have h6 := scan_len hfb.2.2.packs.scan
            rw [ho]
            unfold putOut
            rw [Int.toNat_natCast, List.length_append]
            split at h4 <;> omega
          have h64 : ∀ p a, p < nP K → a < (uW W K * uA K p) * (uH H K * uD K p) → (blkAt tl p a).length = 64 := by
            obtain ⟨ad, cc, _, hat⟩ := tile_ad HA.out.2 hR
            exact fun p a hp ha => (hat p a hp ha).1
          obtain ⟨ge, ga, gt⟩ := get_put hR hok hpe h64 []
          rw [List.append_nil, ← ho] at ge ga gt
          have hrr : ∀ q : Nat, q ≠ r → 0 < rests (evTo (uW W K) K r (uW W K * uH H K)) → (getG W H K (q : Int) Tk o).err ≠ 0 := fun q hq h => by
            rw [ho]
            exact rests_refused hok hpe h64 hq h
          obtain ⟨N9, hN9⟩ : ∃ N9, N9 = wq4.heap.size := ⟨_, rfl⟩
          have hget : ∀ w', Below wq4.heap.size wq4 w' → ∀ A7 c7, Sl w' (fun b => N9 ≤ b) A7 m1 c7 o → Calls Tryd.prog 16 #[.agg #[.int .i64 W, .int .i64 H, .int .i64 K, .int .i64 (r : Int)], .agg CT, .slice A7 m1 c7] w' fun e w'' => Below w'.heap.size w' w'' ∧ ∃ At ct bd, e = .returned (.tuple #[.agg #[.slice At (nP K) ct], .int .i64 (m1 : Int), .int .i64 0]) ∧ TlM w'' w'.heap.size W H K At bd tl := fun w' k A7 c7 h7 => by
            have hg := scanGet_any w' W H K (r : Int) Tk Xk _ A7 m1 c7 o (HA.out.1.on (on_trans H9.out.1 k)) (HX9.out.on k) H8.out.2.1.wt H8.out.2.1.few h7 (by omega)
            rw [H8.out.2.2.2.2.2.2]
            refine hg.mono ?_
            rintro e w'' h
            refine ⟨h.bel, ?_⟩
            obtain ⟨At, ct, bd, e1, e2⟩ := h.got hR.1 hok ge
            rw [ga, hm1] at e1
            rw [gt] at e2
            exact ⟨At, ct, bd, e1, e2⟩
          have HGt := Lib.hid hget
          have hFt : Fit o := H9.out.2.bts.fit
          have HFt := Lib.hid hFt
          have HS1 := Lib.hid H9.out.2
          have HK := Lib.hid (And.intro hnn (And.intro hok hrr))
          have hm40 : m1 ≤ 40000 := by omega
          have hz36 : ∀ w, (zeroValue 36).run Tryd.prog w = .ok (.agg #[.slice none 0 0]) w := fun w => by kernel_rfl
          clear hR hok hpe hpo hlen hFt h64 ge ga gt hget hrr hnn hR1 ho hEk1
          go_upto_region 7 with fail
          go_cut [11, 12, 13] from 64 to 73 (fun p q e wx => ∃ (g15 : Nat) (At : Option Addr) (ct : Nat) (bd : Nat → Nat), p = .pointer (some ⟨g15, 0, none⟩) ∧ q = .int .i64 (m1 : Int) ∧ e = .int .i64 0 ∧ Box wx g15 36 #[.slice At (nP K) ct] ∧ Ti wx At (nP K) (tlL W H K bd) tl ∧ Below wq4.heap.size wq4 wx)
          case first =>
            refine wp_region_held_drew (S := fun w' => Hid (Below wq4.heap.size wq4 w')) (by kernel_rfl) (Lib.hid (on_drew wq4)) fun s0 => ?_
            refine take_to (i := 0) (v := .agg #[.int .i64 W, .int .i64 H, .int .i64 K, .int .i64 (r : Int)]) rfl (by kernel_rfl) (by kernel_rfl) (by kernel_rfl) (fun _ _ _ h => h) (yieldsIf_load7 (by rfl) 23 (.tmp 3) rfl (.pointer (some ⟨g1, 0, none⟩)) rfl (.agg #[.int .i64 W, .int .i64 H, .int .i64 K, .int .i64 (r : Int)]) (fun w' hS => HL.out.1 w' (HW9.out.1.on hS.out))) s0 (some 65) rfl ?_
            try simp only [Act.put, List.setIfInBounds_toArray, List.set_cons_zero, List.set_cons_succ]
            refine take_to (i := 1) (v := .agg CT) rfl (by kernel_rfl) (by kernel_rfl) (by kernel_rfl) (fun _ _ _ h => h) (yieldsIf_load7 (by rfl) 33 (.tmp 7) rfl (.pointer (some ⟨g9, 0, none⟩)) rfl (.agg CT) (fun w' hS => HL9.out w' hS.out)) s0 (some 66) rfl ?_
            try simp only [Act.put, List.setIfInBounds_toArray, List.set_cons_zero, List.set_cons_succ]
            refine take_to (i := 3) (v := .slice A1 m1 k1) rfl (by kernel_rfl) (by kernel_rfl) (by kernel_rfl) (fun _ _ _ h => h) (Or.inl ⟨by rfl, fun w' hS => by go_simp⟩) s0 (some 68) rfl ?_
            try simp only [Act.put, List.setIfInBounds_toArray, List.set_cons_zero, List.set_cons_succ]
            obtain ⟨v0, hv0⟩ : ∃ v0, v0 = wq4.drew := ⟨_, rfl⟩
            rw [← hv0] at s0 ⊢
            clear hv0
            refine wpAnyH_ready (rs := [2, 10]) (by kernel_rfl) (by simp) ?_
            refine (AllReadyH.cons rfl (fun Kq hKq => ?_) (AllReadyH.cons rfl (fun Kq hKq => ?_) AllReadyH.nil))
            · go_simp
              have bq : Below v0.heap.size v0 (v0.alloc (.cells #[] 5)) := on_alloc _ _
              have bo : (v0.alloc (.cells #[] 5)).ownsRow N9 5 1 (.slice (some ⟨v0.heap.size, 0, none⟩) 0 0) 0 (cellsOf []) := World.ownsRow_made v0 #[] 0 (by have := s0.out.size; omega) (by unfold maxLen; omega) rfl
              obtain ⟨gb, hgb⟩ : ∃ gb, gb = v0.heap.size := ⟨_, rfl⟩
              obtain ⟨v14, hn14⟩ : ∃ x, x = v0.alloc (.cells #[] 5) := ⟨_, rfl⟩
              simp only [← hgb, ← hn14] at bo ⊢
              rw [← hn14] at bq
              have HO14 := Lib.hid bo
              clear bo hn14 hgb
              have K14 := Lib.hid bq
              have sq := Lib.hid (on_trans s0.out bq)
              refine hKq.out _ _ sq fun _ => ?_
              clear hKq Kq bq s0
              have s0 := sq
              clear sq
              refine wpAnyH_ready (rs := [4, 10]) (by kernel_rfl) (by simp) ?_
              refine (AllReadyH.cons rfl (fun Kq hKq => ?_) (AllReadyH.cons rfl (fun Kq hKq => ?_) AllReadyH.nil))
              · have bo := HO14.out
                refine step_append_sk rfl (.tmp 67) (.tmp 68) rfl N9 (.slice (some ⟨gb, 0, none⟩) 0 0) 0 [] rfl bo A1 m1 k1 o rfl ((HS1.out.on s0.out).mono (fun _ _ _ => trivial)) (by omega) (by have := s0.out.size; omega) (some 69) rfl ?_
                intro vv v15 hown kk
                rw [Nat.zero_add, List.nil_append] at hown
                obtain ⟨A4, c4, hv4⟩ := own_slice hown
                subst hv4
                try simp only [Act.put, List.setIfInBounds_toArray, List.set_cons_zero, List.set_cons_succ]
                have HO15 := Lib.hid hown
                have HK15 := Lib.hid (And.intro bo kk)
                clear hown kk bo
                have sq := Lib.hid (s0.out.trans (HK15.out.2.below s0.out.size (fun i hi e => by have := (own_block3 HK15.out.1 e).1; omega)))
                refine hKq.out _ _ sq fun _ => ?_
                clear hKq Kq s0
                have s0 := sq
                clear sq
                refine wpAnyH_ready (rs := [5, 10]) (by kernel_rfl) (by simp) ?_
                refine (AllReadyH.cons rfl (fun Kq hKq => ?_) (AllReadyH.cons rfl (fun Kq hKq => ?_) AllReadyH.nil))
                · obtain ⟨A7, c7, e7, hs7⟩ := sl_of_own (HO15.out) HFt.out
                  cases e7
                  have HS7 := Lib.hid hs7
                  clear hs7
                  go_simp
                  refine Calls.mono (HGt.out _ s0.out _ _ HS7.out) ?_
                  rintro e v16 ⟨bq, At, ct, bd, rfl, htm⟩
                  have HTm := Lib.hid htm
                  clear htm
                  have K16 := Lib.hid bq
                  have sq := Lib.hid (on_trans s0.out bq)
                  refine hKq.out _ _ sq fun _ => ?_
                  clear hKq Kq bq s0
                  have s0 := sq
                  clear sq
                  refine take_to (i := 6) (v := .tuple #[.agg #[.slice At (nP K) ct], .int .i64 (m1 : Int), .int .i64 0]) rfl (by kernel_rfl) (by kernel_rfl) (by kernel_rfl) (fun _ _ _ h => h) (Or.inl ⟨by rfl, fun w' hS => by go_simp⟩) s0 (some 64) rfl ?_
                  try simp only [Act.put, List.setIfInBounds_toArray, List.set_cons_zero, List.set_cons_succ]
                  refine take_to (i := 7) (v := .agg #[.slice At (nP K) ct]) rfl (by kernel_rfl) (by kernel_rfl) (by kernel_rfl) (fun _ _ _ h => h) (Or.inl ⟨by rfl, fun w' hS => by go_simp⟩) s0 (some 71) rfl ?_
                  try simp only [Act.put, List.setIfInBounds_toArray, List.set_cons_zero, List.set_cons_succ]
                  refine take_to (i := 8) (v := .int .i64 (m1 : Int)) rfl (by kernel_rfl) (by kernel_rfl) (by kernel_rfl) (fun _ _ _ h => h) (Or.inl ⟨by rfl, fun w' hS => by go_simp⟩) s0 (some 72) rfl ?_
                  try simp only [Act.put, List.setIfInBounds_toArray, List.set_cons_zero, List.set_cons_succ]
                  refine take_to (i := 9) (v := .int .i64 0) rfl (by kernel_rfl) (by kernel_rfl) (by kernel_rfl) (fun _ _ _ h => h) (Or.inl ⟨by rfl, fun w' hS => by go_simp⟩) s0 (some 73) rfl ?_
                  try simp only [Act.put, List.setIfInBounds_toArray, List.set_cons_zero, List.set_cons_succ]
                  refine wpAnyH_ready (rs := [10]) (by kernel_rfl) (by simp) ?_
                  refine (AllReadyH.cons rfl (fun Kq hKq => ?_) AllReadyH.nil)
                  go_simp
                  have bq : Below v16.heap.size v16 (v16.alloc (.cells #[.slice none 0 0] 36)) := on_alloc _ _
                  have bb : Box (v16.alloc (.cells #[.slice none 0 0] 36)) v16.heap.size 36 #[.slice none 0 0] := Box.made _ _ _
                  obtain ⟨g15, hg17⟩ : ∃ g, g = v16.heap.size := ⟨_, rfl⟩
                  obtain ⟨v17, hn17⟩ : ∃ x, x = v16.alloc (.cells #[.slice none 0 0] 36) := ⟨_, rfl⟩
                  simp only [← hg17, ← hn17] at bb ⊢
                  rw [← hn17] at bq
                  have HG15 := Lib.hid (And.intro bb (show wq4.heap.size ≤ g15 by rw [hg17]; exact s0.out.size))
                  clear bb hn17 hg17
                  have K17 := Lib.hid bq
                  have sq := Lib.hid (on_trans s0.out bq)
                  refine hKq.out _ _ sq fun _ => ?_
                  clear hKq Kq bq s0
                  have s0 := sq
                  clear sq
                  refine wpAnyH_ready (rs := [11]) (by kernel_rfl) (by simp) ?_
                  refine (AllReadyH.cons rfl (fun Kq hKq => ?_) AllReadyH.nil)
                  have b15 := HG15.out.1
                  have htz := (HTm.out).on K17.out
                  have r15 : v17.cell? ⟨g15, 0, none⟩ = some (.slice none 0 0) := b15.cell 0
                  have f15 : v17.frozen? ⟨g15, 0, none⟩ = false := b15.free 0
                  have HZ9 := Lib.hid (And.intro b15 htz)
                  clear b15 htz
                  go_simp
                  have k9 : Kept (fun i => i = g15) v17 (v17.setCell ⟨g15, 0, none⟩ (.slice At (nP K) ct)) := (Kept.refl (fun i => i = g15) v17).setCell (p := ⟨g15, 0, none⟩) (fun _ => rfl) _
                  have sq := Lib.hid (s0.out.trans (k9.below s0.out.size (fun i hi e => by have := HG15.out.2; omega)))
                  have HR9 := Lib.hid (And.intro (HZ9.out.1.put 0 (.slice At (nP K) ct)) (HZ9.out.2.kept k9 (fun g cs hb e => by subst e; exact hb.apart HZ9.out.1 (by decide) rfl) (fun p hp e => by
                    obtain ⟨cb', hcb⟩ := (HZ9.out.2.row p hp).1.box
                    exact hcb.apart HZ9.out.1 (by decide) e)))
                  refine hKq.out _ _ sq fun _ => ?_
                  clear hKq Kq s0 k9 r15 f15
                  have s0 := sq
                  clear sq
                  refine take_to (i := 12) (v := .int .i64 (m1 : Int)) rfl (by kernel_rfl) (by kernel_rfl) (by kernel_rfl) (fun _ _ _ h => h) (Or.inl ⟨by rfl, fun w' hS => by go_simp⟩) s0 (some 12) rfl ?_
                  try simp only [Act.put, List.setIfInBounds_toArray, List.set_cons_zero, List.set_cons_succ]
                  refine take_to (i := 13) (v := .int .i64 0) rfl (by kernel_rfl) (by kernel_rfl) (by kernel_rfl) (fun _ _ _ h => h) (Or.inl ⟨by rfl, fun w' hS => by go_simp⟩) s0 (some 13) rfl ?_
                  try simp only [Act.put, List.setIfInBounds_toArray, List.set_cons_zero, List.set_cons_succ]
                  refine wpAnyH_done (by kernel_rfl) ?_ _
                  go_wp2_with fail
                  go_meet
                  exact ⟨g15, At, ct, bd, rfl, rfl, rfl, HR9.out.1, HR9.out.2.ti (fun p hp => Nat.le_trans (nB_le HR.out.1 p) (by unfold maxLen; omega)), s0.out⟩
                · go_simp
                  have bq : Below v15.heap.size v15 (v15.alloc (.cells #[.slice none 0 0] 36)) := on_alloc _ _
                  have bb : Box (v15.alloc (.cells #[.slice none 0 0] 36)) v15.heap.size 36 #[.slice none 0 0] := Box.made _ _ _
                  obtain ⟨g15, hg18⟩ : ∃ g, g = v15.heap.size := ⟨_, rfl⟩
                  obtain ⟨v18, hn18⟩ : ∃ x, x = v15.alloc (.cells #[.slice none 0 0] 36) := ⟨_, rfl⟩
                  simp only [← hg18, ← hn18] at bb ⊢
                  rw [← hn18] at bq
                  have HG15 := Lib.hid (And.intro bb (show wq4.heap.size ≤ g15 by rw [hg18]; exact s0.out.size))
                  clear bb hn18 hg18
                  have K18 := Lib.hid bq
                  have sq := Lib.hid (on_trans s0.out bq)
                  refine hKq.out _ _ sq fun _ => ?_
                  clear hKq Kq bq s0
                  have s0 := sq
                  clear sq
                  refine wpAnyH_ready (rs := [5]) (by kernel_rfl) (by simp) ?_
                  refine (AllReadyH.cons rfl (fun Kq hKq => ?_) AllReadyH.nil)
                  obtain ⟨A7, c7, e7, hs7⟩ := sl_of_own ((own_on (HO15.out) K18.out)) HFt.out
                  cases e7
                  have HS7 := Lib.hid hs7
                  clear hs7
                  go_simp
                  refine Calls.mono (HGt.out _ s0.out _ _ HS7.out) ?_
                  rintro e v19 ⟨bq, At, ct, bd, rfl, htm⟩
                  have HTm := Lib.hid htm
                  clear htm
                  have K19 := Lib.hid bq
                  have sq := Lib.hid (on_trans s0.out bq)
                  refine hKq.out _ _ sq fun _ => ?_
                  clear hKq Kq bq s0
                  have s0 := sq
                  clear sq
                  refine take_to (i := 6) (v := .tuple #[.agg #[.slice At (nP K) ct], .int .i64 (m1 : Int), .int .i64 0]) rfl (by kernel_rfl) (by kernel_rfl) (by kernel_rfl) (fun _ _ _ h => h) (Or.inl ⟨by rfl, fun w' hS => by go_simp⟩) s0 (some 64) rfl ?_
                  try simp only [Act.put, List.setIfInBounds_toArray, List.set_cons_zero, List.set_cons_succ]
                  refine take_to (i := 7) (v := .agg #[.slice At (nP K) ct]) rfl (by kernel_rfl) (by kernel_rfl) (by kernel_rfl) (fun _ _ _ h => h) (Or.inl ⟨by rfl, fun w' hS => by go_simp⟩) s0 (some 71) rfl ?_
                  try simp only [Act.put, List.setIfInBounds_toArray, List.set_cons_zero, List.set_cons_succ]
                  refine take_to (i := 8) (v := .int .i64 (m1 : Int)) rfl (by kernel_rfl) (by kernel_rfl) (by kernel_rfl) (fun _ _ _ h => h) (Or.inl ⟨by rfl, fun w' hS => by go_simp⟩) s0 (some 72) rfl ?_
                  try simp only [Act.put, List.setIfInBounds_toArray, List.set_cons_zero, List.set_cons_succ]
                  refine take_to (i := 9) (v := .int .i64 0) rfl (by kernel_rfl) (by kernel_rfl) (by kernel_rfl) (fun _ _ _ h => h) (Or.inl ⟨by rfl, fun w' hS => by go_simp⟩) s0 (some 73) rfl ?_
                  try simp only [Act.put, List.setIfInBounds_toArray, List.set_cons_zero, List.set_cons_succ]
                  refine wpAnyH_ready (rs := [11]) (by kernel_rfl) (by simp) ?_
                  refine (AllReadyH.cons rfl (fun Kq hKq => ?_) AllReadyH.nil)
                  have b15 := (HG15.out.1).on K19.out
                  have htz := HTm.out
                  have r15 : v19.cell? ⟨g15, 0, none⟩ = some (.slice none 0 0) := b15.cell 0
                  have f15 : v19.frozen? ⟨g15, 0, none⟩ = false := b15.free 0
                  have HZ9 := Lib.hid (And.intro b15 htz)
                  clear b15 htz
                  go_simp
                  have k9 : Kept (fun i => i = g15) v19 (v19.setCell ⟨g15, 0, none⟩ (.slice At (nP K) ct)) := (Kept.refl (fun i => i = g15) v19).setCell (p := ⟨g15, 0, none⟩) (fun _ => rfl) _
                  have sq := Lib.hid (s0.out.trans (k9.below s0.out.size (fun i hi e => by have := HG15.out.2; omega)))
                  have HR9 := Lib.hid (And.intro (HZ9.out.1.put 0 (.slice At (nP K) ct)) (HZ9.out.2.kept k9 (fun g cs hb e => by subst e; exact hb.apart HZ9.out.1 (by decide) rfl) (fun p hp e => by
                    obtain ⟨cb', hcb⟩ := (HZ9.out.2.row p hp).1.box
                    exact hcb.apart HZ9.out.1 (by decide) e)))
                  refine hKq.out _ _ sq fun _ => ?_
                  clear hKq Kq s0 k9 r15 f15
                  have s0 := sq
                  clear sq
                  refine take_to (i := 12) (v := .int .i64 (m1 : Int)) rfl (by kernel_rfl) (by kernel_rfl) (by kernel_rfl) (fun _ _ _ h => h) (Or.inl ⟨by rfl, fun w' hS => by go_simp⟩) s0 (some 12) rfl ?_
                  try simp only [Act.put, List.setIfInBounds_toArray, List.set_cons_zero, List.set_cons_succ]
                  refine take_to (i := 13) (v := .int .i64 0) rfl (by kernel_rfl) (by kernel_rfl) (by kernel_rfl) (fun _ _ _ h => h) (Or.inl ⟨by rfl, fun w' hS => by go_simp⟩) s0 (some 13) rfl ?_
                  try simp only [Act.put, List.setIfInBounds_toArray, List.set_cons_zero, List.set_cons_succ]
                  refine wpAnyH_done (by kernel_rfl) ?_ _
                  go_wp2_with fail
                  go_meet
                  exact ⟨g15, At, ct, bd, rfl, rfl, rfl, HR9.out.1, HR9.out.2.ti (fun p hp => Nat.le_trans (nB_le HR.out.1 p) (by unfold maxLen; omega)), s0.out⟩
              · go_simp
                have bq : Below v14.heap.size v14 (v14.alloc (.cells #[.slice none 0 0] 36)) := on_alloc _ _
                have bb : Box (v14.alloc (.cells #[.slice none 0 0] 36)) v14.heap.size 36 #[.slice none 0 0] := Box.made _ _ _
                obtain ⟨g15, hg20⟩ : ∃ g, g = v14.heap.size := ⟨_, rfl⟩
                obtain ⟨v20, hn20⟩ : ∃ x, x = v14.alloc (.cells #[.slice none 0 0] 36) := ⟨_, rfl⟩
                simp only [← hg20, ← hn20] at bb ⊢
                rw [← hn20] at bq
                have HG15 := Lib.hid (And.intro bb (show wq4.heap.size ≤ g15 by rw [hg20]; exact s0.out.size))
                clear bb hn20 hg20
                have K20 := Lib.hid bq
                have sq := Lib.hid (on_trans s0.out bq)
                refine hKq.out _ _ sq fun _ => ?_
                clear hKq Kq bq s0
                have s0 := sq
                clear sq
                refine wpAnyH_ready (rs := [4]) (by kernel_rfl) (by simp) ?_
                refine (AllReadyH.cons rfl (fun Kq hKq => ?_) AllReadyH.nil)
                have bo := (own_on (HO14.out) K20.out)
                refine step_append_sk rfl (.tmp 67) (.tmp 68) rfl N9 (.slice (some ⟨gb, 0, none⟩) 0 0) 0 [] rfl bo A1 m1 k1 o rfl ((HS1.out.on s0.out).mono (fun _ _ _ => trivial)) (by omega) (by have := s0.out.size; omega) (some 69) rfl ?_
                intro vv v21 hown kk
                rw [Nat.zero_add, List.nil_append] at hown
                obtain ⟨A4, c4, hv4⟩ := own_slice hown
                subst hv4
                try simp only [Act.put, List.setIfInBounds_toArray, List.set_cons_zero, List.set_cons_succ]
                have HO21 := Lib.hid hown
                have HK21 := Lib.hid (And.intro bo kk)
                clear hown kk bo
                have sq := Lib.hid (s0.out.trans (HK21.out.2.below s0.out.size (fun i hi e => by have := (own_block3 HK21.out.1 e).1; omega)))
                refine hKq.out _ _ sq fun _ => ?_
                clear hKq Kq s0
                have s0 := sq
                clear sq
                refine wpAnyH_ready (rs := [5]) (by kernel_rfl) (by simp) ?_
                refine (AllReadyH.cons rfl (fun Kq hKq => ?_) AllReadyH.nil)
                obtain ⟨A7, c7, e7, hs7⟩ := sl_of_own (HO21.out) HFt.out
                cases e7
                have HS7 := Lib.hid hs7
                clear hs7
                go_simp
                refine Calls.mono (HGt.out _ s0.out _ _ HS7.out) ?_
                rintro e v22 ⟨bq, At, ct, bd, rfl, htm⟩
                have HTm := Lib.hid htm
                clear htm
                have K22 := Lib.hid bq
                have sq := Lib.hid (on_trans s0.out bq)
                refine hKq.out _ _ sq fun _ => ?_
                clear hKq Kq bq s0
                have s0 := sq
                clear sq
                refine take_to (i := 6) (v := .tuple #[.agg #[.slice At (nP K) ct], .int .i64 (m1 : Int), .int .i64 0]) rfl (by kernel_rfl) (by kernel_rfl) (by kernel_rfl) (fun _ _ _ h => h) (Or.inl ⟨by rfl, fun w' hS => by go_simp⟩) s0 (some 64) rfl ?_
                try simp only [Act.put, List.setIfInBounds_toArray, List.set_cons_zero, List.set_cons_succ]
                refine take_to (i := 7) (v := .agg #[.slice At (nP K) ct]) rfl (by kernel_rfl) (by kernel_rfl) (by kernel_rfl) (fun _ _ _ h => h) (Or.inl ⟨by rfl, fun w' hS => by go_simp⟩) s0 (some 71) rfl ?_
                try simp only [Act.put, List.setIfInBounds_toArray, List.set_cons_zero, List.set_cons_succ]
                refine take_to (i := 8) (v := .int .i64 (m1 : Int)) rfl (by kernel_rfl) (by kernel_rfl) (by kernel_rfl) (fun _ _ _ h => h) (Or.inl ⟨by rfl, fun w' hS => by go_simp⟩) s0 (some 72) rfl ?_
                try simp only [Act.put, List.setIfInBounds_toArray, List.set_cons_zero, List.set_cons_succ]
                refine take_to (i := 9) (v := .int .i64 0) rfl (by kernel_rfl) (by kernel_rfl) (by kernel_rfl) (fun _ _ _ h => h) (Or.inl ⟨by rfl, fun w' hS => by go_simp⟩) s0 (some 73) rfl ?_
                try simp only [Act.put, List.setIfInBounds_toArray, List.set_cons_zero, List.set_cons_succ]
                refine wpAnyH_ready (rs := [11]) (by kernel_rfl) (by simp) ?_
                refine (AllReadyH.cons rfl (fun Kq hKq => ?_) AllReadyH.nil)
                have b15 := ((own_box HK21.out.1 HK21.out.2 (HG15.out.1) (by decide))).on K22.out
                have htz := HTm.out
                have r15 : v22.cell? ⟨g15, 0, none⟩ = some (.slice none 0 0) := b15.cell 0
                have f15 : v22.frozen? ⟨g15, 0, none⟩ = false := b15.free 0
                have HZ9 := Lib.hid (And.intro b15 htz)
                clear b15 htz
                go_simp
                have k9 : Kept (fun i => i = g15) v22 (v22.setCell ⟨g15, 0, none⟩ (.slice At (nP K) ct)) := (Kept.refl (fun i => i = g15) v22).setCell (p := ⟨g15, 0, none⟩) (fun _ => rfl) _
                have sq := Lib.hid (s0.out.trans (k9.below s0.out.size (fun i hi e => by have := HG15.out.2; omega)))
                have HR9 := Lib.hid (And.intro (HZ9.out.1.put 0 (.slice At (nP K) ct)) (HZ9.out.2.kept k9 (fun g cs hb e => by subst e; exact hb.apart HZ9.out.1 (by decide) rfl) (fun p hp e => by
                  obtain ⟨cb', hcb⟩ := (HZ9.out.2.row p hp).1.box
                  exact hcb.apart HZ9.out.1 (by decide) e)))
                refine hKq.out _ _ sq fun _ => ?_
                clear hKq Kq s0 k9 r15 f15
                have s0 := sq
                clear sq
                refine take_to (i := 12) (v := .int .i64 (m1 : Int)) rfl (by kernel_rfl) (by kernel_rfl) (by kernel_rfl) (fun _ _ _ h => h) (Or.inl ⟨by rfl, fun w' hS => by go_simp⟩) s0 (some 12) rfl ?_
                try simp only [Act.put, List.setIfInBounds_toArray, List.set_cons_zero, List.set_cons_succ]
                refine take_to (i := 13) (v := .int .i64 0) rfl (by kernel_rfl) (by kernel_rfl) (by kernel_rfl) (fun _ _ _ h => h) (Or.inl ⟨by rfl, fun w' hS => by go_simp⟩) s0 (some 13) rfl ?_
                try simp only [Act.put, List.setIfInBounds_toArray, List.set_cons_zero, List.set_cons_succ]
                refine wpAnyH_done (by kernel_rfl) ?_ _
                go_wp2_with fail
                go_meet
                exact ⟨g15, At, ct, bd, rfl, rfl, rfl, HR9.out.1, HR9.out.2.ti (fun p hp => Nat.le_trans (nB_le HR.out.1 p) (by unfold maxLen; omega)), s0.out⟩
            · go_simp
              have bq : Below v0.heap.size v0 (v0.alloc (.cells #[.slice none 0 0] 36)) := on_alloc _ _
              have bb : Box (v0.alloc (.cells #[.slice none 0 0] 36)) v0.heap.size 36 #[.slice none 0 0] := Box.made _ _ _
              obtain ⟨g15, hg23⟩ : ∃ g, g = v0.heap.size := ⟨_, rfl⟩
              obtain ⟨v23, hn23⟩ : ∃ x, x = v0.alloc (.cells #[.slice none 0 0] 36) := ⟨_, rfl⟩
              simp only [← hg23, ← hn23] at bb ⊢
              rw [← hn23] at bq
              have HG15 := Lib.hid (And.intro bb (show wq4.heap.size ≤ g15 by rw [hg23]; exact s0.out.size))
              clear bb hn23 hg23
              have K23 := Lib.hid bq
              have sq := Lib.hid (on_trans s0.out bq)
              refine hKq.out _ _ sq fun _ => ?_
              clear hKq Kq bq s0
              have s0 := sq
              clear sq
              refine wpAnyH_ready (rs := [2]) (by kernel_rfl) (by simp) ?_
              refine (AllReadyH.cons rfl (fun Kq hKq => ?_) AllReadyH.nil)
              go_simp
              have bq : Below v23.heap.size v23 (v23.alloc (.cells #[] 5)) := on_alloc _ _
              have bo : (v23.alloc (.cells #[] 5)).ownsRow N9 5 1 (.slice (some ⟨v23.heap.size, 0, none⟩) 0 0) 0 (cellsOf []) := World.ownsRow_made v23 #[] 0 (by have := s0.out.size; omega) (by unfold maxLen; omega) rfl
              obtain ⟨gb, hgb⟩ : ∃ gb, gb = v23.heap.size := ⟨_, rfl⟩
              obtain ⟨v24, hn24⟩ : ∃ x, x = v23.alloc (.cells #[] 5) := ⟨_, rfl⟩
              simp only [← hgb, ← hn24] at bo ⊢
              rw [← hn24] at bq
              have HO24 := Lib.hid bo
              clear bo hn24 hgb
              have K24 := Lib.hid bq
              have sq := Lib.hid (on_trans s0.out bq)
              refine hKq.out _ _ sq fun _ => ?_
              clear hKq Kq bq s0
              have s0 := sq
              clear sq
              refine wpAnyH_ready (rs := [4]) (by kernel_rfl) (by simp) ?_
              refine (AllReadyH.cons rfl (fun Kq hKq => ?_) AllReadyH.nil)
              have bo := HO24.out
              refine step_append_sk rfl (.tmp 67) (.tmp 68) rfl N9 (.slice (some ⟨gb, 0, none⟩) 0 0) 0 [] rfl bo A1 m1 k1 o rfl ((HS1.out.on s0.out).mono (fun _ _ _ => trivial)) (by omega) (by have := s0.out.size; omega) (some 69) rfl ?_
              intro vv v25 hown kk
              rw [Nat.zero_add, List.nil_append] at hown
              obtain ⟨A4, c4, hv4⟩ := own_slice hown
              subst hv4
              try simp only [Act.put, List.setIfInBounds_toArray, List.set_cons_zero, List.set_cons_succ]
              have HO25 := Lib.hid hown
              have HK25 := Lib.hid (And.intro bo kk)
              clear hown kk bo
              have sq := Lib.hid (s0.out.trans (HK25.out.2.below s0.out.size (fun i hi e => by have := (own_block3 HK25.out.1 e).1; omega)))
              refine hKq.out _ _ sq fun _ => ?_
              clear hKq Kq s0
              have s0 := sq
              clear sq
              refine wpAnyH_ready (rs := [5]) (by kernel_rfl) (by simp) ?_
              refine (AllReadyH.cons rfl (fun Kq hKq => ?_) AllReadyH.nil)
              obtain ⟨A7, c7, e7, hs7⟩ := sl_of_own (HO25.out) HFt.out
              cases e7
              have HS7 := Lib.hid hs7
              clear hs7
              go_simp
              refine Calls.mono (HGt.out _ s0.out _ _ HS7.out) ?_
              rintro e v26 ⟨bq, At, ct, bd, rfl, htm⟩
              have HTm := Lib.hid htm
              clear htm
              have K26 := Lib.hid bq
              have sq := Lib.hid (on_trans s0.out bq)
              refine hKq.out _ _ sq fun _ => ?_
              clear hKq Kq bq s0
              have s0 := sq
              clear sq
              refine take_to (i := 6) (v := .tuple #[.agg #[.slice At (nP K) ct], .int .i64 (m1 : Int), .int .i64 0]) rfl (by kernel_rfl) (by kernel_rfl) (by kernel_rfl) (fun _ _ _ h => h) (Or.inl ⟨by rfl, fun w' hS => by go_simp⟩) s0 (some 64) rfl ?_
              try simp only [Act.put, List.setIfInBounds_toArray, List.set_cons_zero, List.set_cons_succ]
              refine take_to (i := 7) (v := .agg #[.slice At (nP K) ct]) rfl (by kernel_rfl) (by kernel_rfl) (by kernel_rfl) (fun _ _ _ h => h) (Or.inl ⟨by rfl, fun w' hS => by go_simp⟩) s0 (some 71) rfl ?_
              try simp only [Act.put, List.setIfInBounds_toArray, List.set_cons_zero, List.set_cons_succ]
              refine take_to (i := 8) (v := .int .i64 (m1 : Int)) rfl (by kernel_rfl) (by kernel_rfl) (by kernel_rfl) (fun _ _ _ h => h) (Or.inl ⟨by rfl, fun w' hS => by go_simp⟩) s0 (some 72) rfl ?_
              try simp only [Act.put, List.setIfInBounds_toArray, List.set_cons_zero, List.set_cons_succ]
              refine take_to (i := 9) (v := .int .i64 0) rfl (by kernel_rfl) (by kernel_rfl) (by kernel_rfl) (fun _ _ _ h => h) (Or.inl ⟨by rfl, fun w' hS => by go_simp⟩) s0 (some 73) rfl ?_
              try simp only [Act.put, List.setIfInBounds_toArray, List.set_cons_zero, List.set_cons_succ]
              refine wpAnyH_ready (rs := [11]) (by kernel_rfl) (by simp) ?_
              refine (AllReadyH.cons rfl (fun Kq hKq => ?_) AllReadyH.nil)
              have b15 := ((own_box HK25.out.1 HK25.out.2 ((HG15.out.1).on K24.out) (by decide))).on K26.out
              have htz := HTm.out
              have r15 : v26.cell? ⟨g15, 0, none⟩ = some (.slice none 0 0) := b15.cell 0
              have f15 : v26.frozen? ⟨g15, 0, none⟩ = false := b15.free 0
              have HZ9 := Lib.hid (And.intro b15 htz)
              clear b15 htz
              go_simp
              have k9 : Kept (fun i => i = g15) v26 (v26.setCell ⟨g15, 0, none⟩ (.slice At (nP K) ct)) := (Kept.refl (fun i => i = g15) v26).setCell (p := ⟨g15, 0, none⟩) (fun _ => rfl) _
              have sq := Lib.hid (s0.out.trans (k9.below s0.out.size (fun i hi e => by have := HG15.out.2; omega)))
              have HR9 := Lib.hid (And.intro (HZ9.out.1.put 0 (.slice At (nP K) ct)) (HZ9.out.2.kept k9 (fun g cs hb e => by subst e; exact hb.apart HZ9.out.1 (by decide) rfl) (fun p hp e => by
                obtain ⟨cb', hcb⟩ := (HZ9.out.2.row p hp).1.box
                exact hcb.apart HZ9.out.1 (by decide) e)))
              refine hKq.out _ _ sq fun _ => ?_
              clear hKq Kq s0 k9 r15 f15
              have s0 := sq
              clear sq
              refine take_to (i := 12) (v := .int .i64 (m1 : Int)) rfl (by kernel_rfl) (by kernel_rfl) (by kernel_rfl) (fun _ _ _ h => h) (Or.inl ⟨by rfl, fun w' hS => by go_simp⟩) s0 (some 12) rfl ?_
              try simp only [Act.put, List.setIfInBounds_toArray, List.set_cons_zero, List.set_cons_succ]
              refine take_to (i := 13) (v := .int .i64 0) rfl (by kernel_rfl) (by kernel_rfl) (by kernel_rfl) (fun _ _ _ h => h) (Or.inl ⟨by rfl, fun w' hS => by go_simp⟩) s0 (some 13) rfl ?_
              try simp only [Act.put, List.setIfInBounds_toArray, List.set_cons_zero, List.set_cons_succ]
              refine wpAnyH_done (by kernel_rfl) ?_ _
              go_wp2_with fail
              go_meet
              exact ⟨g15, At, ct, bd, rfl, rfl, rfl, HR9.out.1, HR9.out.2.ti (fun p hp => Nat.le_trans (nB_le HR.out.1 p) (by unfold maxLen; omega)), s0.out⟩
          case rest =>
            obtain ⟨g15, At, ct, bd, rfl, rfl, rfl, b15, t15, k15⟩ := hcut
            have r15 : wc.cell? ⟨g15, 0, none⟩ = some (.slice At (nP K) ct) := b15.cell 0
            have kk0 := on_trans H9.out.1 k15
            have r6 : wc.cell? ⟨g1 + 1, 0, none⟩ = some (.slice A n c) := (HW9.out.2.1.on k15).cell 0
            have hsame := same_any wc At A (nP K) ct c (tlL W H K bd) L tl t15 (by rw [← HK.out.1]; exact HA.out.2.on kk0) (by have := (nP_le K).2; omega) HS.out.2.1
            unfold tileV at hsame
            rw [← HK.out.1] at hsame r15
            have HSame := Lib.hid hsame
            have H15 := Lib.hid (And.intro k15 kk0)
            clear hsame b15 t15 k15 kk0
            go_wp2_with fail
            refine Calls.mono HSame.out ?_
            rintro e wd ⟨rfl, kd⟩
            have k4d := on_trans H15.out.1 kd
            have H16 := Lib.hid (And.intro k4d (And.intro (on_trans H15.out.2 kd) (HW9.out.1.on k4d)))
            have q0 : wd.cell? ⟨g1, 0, none⟩ = some (.int .i64 W) := H16.out.2.2.cell 0
            have q1 : wd.cell? ⟨g1, 1, none⟩ = some (.int .i64 H) := H16.out.2.2.cell 1
            have q2 : wd.cell? ⟨g1, 2, none⟩ = some (.int .i64 K) := H16.out.2.2.cell 2
            have q3 : wd.cell? ⟨g1, 3, none⟩ = some (.int .i64 (r : Int)) := H16.out.2.2.cell 3
            have hord := order14_any wd W H K r HR.out.1
            unfold scanV at hord
            have HOr := Lib.hid hord
            clear kd k4d r15 r6 HSame hord
            go_wp2_with fail
            refine Calls.mono HOr.out ?_
            rintro e we ⟨Ao, no, co, DL, rfl, hod, hev, ke, _⟩
            clear q0 q1 q2 q3 HOr
            have hsm := HS.out.2.2.1 HR.out.1
            have hno80 : no ≤ 80 := by
              have h1 := congrArg places hev
              rw [places_expD, places_evTo] at h1
              have h2 := (few_places HR.out.1 hsm.1 hsm.2).1
              have h3 := hod.len
              omega
            have hre : DL.countP (·.2.2) = rests (evTo (uW W K) K r (uW W K * uH H K)) := by rw [← rests_expD, hev]
            have HD := Lib.hid (And.intro hod hre)
            have HE := Lib.hid (And.intro (on_trans H16.out.1 ke) (And.intro (on_trans H16.out.2.1 ke) (H16.out.2.2.on ke)))
            clear hod hev ke hre hsm
            go_wp2_with fail
            go_loopw [14, 85] (fun v14 i wx => ∃ k : Nat, k ≤ no ∧ i = .int .i64 (k : Int) ∧ v14 = .int .i64 (((DL.take k).countP (·.2.2) : Nat) : Int) ∧ Below we.heap.size we wx) (fun _ i _ => no - (intOf i).toNat)
            case atStart => exact ⟨0, Nat.zero_le _, rfl, rfl, Below.refl _ _⟩
            case round =>
              obtain ⟨k, hk, rfl, rfl, hbx⟩ := hrel
              obtain ⟨m, hm⟩ : ∃ m, m = (DL.take k).countP (·.2.2) := ⟨_, rfl⟩
              have hmk : m ≤ 80 := by
                have h1 : (DL.take k).countP (·.2.2) ≤ (DL.take k).length := List.countP_le_length
                rw [List.length_take] at h1
                omega
              rw [← hm]
              by_cases hlt : k < no
              · have hki : (k : Int) < (no : Int) := by omega
                obtain ⟨x, hx⟩ : ∃ x, DL[k]? = some x := ⟨_, List.getElem?_eq_getElem (by rw [HD.out.1.len]; exact hlt)⟩
                obtain ⟨p, a, f⟩ := x
                obtain ⟨bo, e1, hbo, hcell⟩ := (HD.out.1.on hbx).at_ (by omega)
                obtain ⟨c0, c1, c2⟩ := hcell k _ hx
                subst e1
                dsimp only at c0 c1 c2
                have htk : (DL.take (k + 1)).countP (·.2.2) = m + (if f = true then 1 else 0) := by
                  rw [List.take_add_one, hx, List.countP_append, ← hm]
                  cases f <;> rfl
                have HTk := Lib.hid (And.intro htk hbx)
                have hz58 : ∀ w, (zeroValue 58).run Tryd.prog w = .ok (.agg #[.int .i64 0, .int .i64 0, .bool false]) w := fun w => by kernel_rfl
                obtain ⟨w6, hw6⟩ : ∃ w6, wr.alloc (.cells #[.int .i64 (p : Int), .int .i64 (a : Int), .bool f] 58) = w6 := ⟨_, rfl⟩
                obtain ⟨g6, hg6⟩ : ∃ g6, wr.heap.size = g6 := ⟨_, rfl⟩
                have b6 : Box w6 g6 58 #[.int .i64 (p : Int), .int .i64 (a : Int), .bool f] := by rw [← hw6, ← hg6]; exact Box.made _ _ _
                have k6 : Below wr.heap.size wr w6 := by rw [← hw6]; exact on_alloc _ _
                have f2 : w6.cell? ⟨g6, 2, none⟩ = some (.bool f) := b6.cell 2
                have z2 : w6.frozen? ⟨g6, 2, none⟩ = false := b6.free 2
                have HSt := Lib.hid (on_trans hbx (k6.trans (((Kept.refl (fun i => i = g6) w6).setCell (p := ⟨g6, 2, none⟩) (fun _ => rfl) (.bool false)).below k6.size (fun i hi e => by omega))))
                have HB6 := Lib.hid (on_trans hbx k6)
                clear b6 k6 hcell hx htk hbx hm
                cases f with
                | true =>
                  go_wp2_with fail
                  refine ⟨⟨k + 1, by omega, by go_num, by rw [HTk.out.1, if_pos rfl]; rfl, HB6.out⟩, by simp [intOf]; omega⟩
                | false =>
                  go_wp2_with fail
                  refine ⟨⟨k + 1, by omega, by go_num, by rw [HTk.out.1, if_neg (by decide)]; rfl, HSt.out⟩, by simp [intOf]; omega⟩
              · obtain rfl : k = no := by omega
                have hmr : m = rests (evTo (uW W K) K r (uW W K * uH H K)) := by
                  rw [hm, List.take_of_length_le (by rw [HD.out.1.len]; exact Nat.le_refl _)]
                  exact HD.out.2
                have HMr := Lib.hid hmr
                clear hmr
                have hb1 := HE.out.2.2.on hbx
                have q0 : wr.cell? ⟨g1, 0, none⟩ = some (.int .i64 W) := hb1.cell 0
                have q1 : wr.cell? ⟨g1, 1, none⟩ = some (.int .i64 H) := hb1.cell 1
                have q2 : wr.cell? ⟨g1, 2, none⟩ = some (.int .i64 K) := hb1.cell 2
                have q3 : wr.cell? ⟨g1, 3, none⟩ = some (.int .i64 (r : Int)) := hb1.cell 3
                have hz23 : ∀ w, (zeroValue 23).run Tryd.prog w = .ok (.agg #[.int .i64 0, .int .i64 0, .int .i64 0, .int .i64 0]) w := fun w => by kernel_rfl
                obtain ⟨g17, hg17⟩ : ∃ g17, wr.heap.size = g17 := ⟨_, rfl⟩
                obtain ⟨w17, hw17⟩ : ∃ w17, wr.alloc (.cells #[.int .i64 W, .int .i64 H, .int .i64 K, .int .i64 (r : Int)] 23) = w17 := ⟨_, rfl⟩
                have b17 : Box w17 g17 23 #[.int .i64 W, .int .i64 H, .int .i64 K, .int .i64 (r : Int)] := by rw [← hw17, ← hg17]; exact Box.made _ _ _
                have k17 : Below wr.heap.size wr w17 := by rw [← hw17]; exact on_alloc _ _
                have r17 : w17.cell? ⟨g17, 3, none⟩ = some (.int .i64 (r : Int)) := b17.cell 3
                have f17 : w17.frozen? ⟨g17, 3, none⟩ = false := b17.free 3
                obtain ⟨wo, hwo⟩ : ∃ wo, w17.setCell ⟨g17, 3, none⟩ (.int .i64 y) = wo := ⟨_, rfl⟩
                have bwo : Box wo g17 23 #[.int .i64 W, .int .i64 H, .int .i64 K, .int .i64 y] := by rw [← hwo]; exact b17.put 3 _
                have kwo : Below wr.heap.size wr wo := by
                  rw [← hwo]
                  exact k17.trans (((Kept.refl (fun i => i = g17) w17).setCell (p := ⟨g17, 3, none⟩) (fun _ => rfl) (.int .i64 y)).below k17.size (fun i hi e => by omega))
                have s3 : wo.cell? ⟨g1, 3, none⟩ = some (.int .i64 (r : Int)) := (hb1.on kwo).cell 3
                have keo := on_trans hbx kwo
                have HWo := Lib.hid bwo
                have HO := Lib.hid (And.intro (on_trans HE.out.1 keo) (on_trans HE.out.2.1 keo))
                clear hb1 b17 k17 bwo kwo hbx keo hm
                by_cases hy0 : y < 0
                · go_wp2_with fail
                  refine Calls.mono (awake_any _) ?_
                  rintro e wy ⟨rfl, by_⟩
                  have HY := Lib.hid (on_trans HO.out.2 by_)
                  clear by_
                  go_wp2_with fail
                  go_ret
                  exact ⟨rfl, HY.out⟩
                · have hy0b : decide (y < 0) = false := decide_eq_false hy0
                  by_cases hy1 : 65535 < y
                  · go_wp2_with fail
                    refine Calls.mono (awake_any _) ?_
                    rintro e wy ⟨rfl, by_⟩
                    have HY := Lib.hid (on_trans HO.out.2 by_)
                    clear by_
                    go_wp2_with fail
                    go_ret
                    exact ⟨rfl, HY.out⟩
                  · by_cases hyr : y = (r : Int)
                    · subst hyr
                      go_wp2_with fail
                      refine Calls.mono (awake_any _) ?_
                      rintro e wy ⟨rfl, by_⟩
                      have HY := Lib.hid (on_trans HO.out.2 by_)
                      clear by_
                      go_wp2_with fail
                      go_ret
                      exact ⟨rfl, HY.out⟩
                    · have hyb : (y == (r : Int)) = false := by simpa using hyr
                      by_cases hu : m = 0
                      · go_wp2_with fail
                        refine Calls.mono (awake_any _) ?_
                        rintro e wy ⟨rfl, by_⟩
                        have HY := Lib.hid (on_trans HO.out.2 by_)
                        clear by_
                        go_wp2_with fail
                        go_ret
                        exact ⟨rfl, HY.out⟩
                      · have hub : ((m : Int) == 0) = false := by simp; exact hu
                        obtain ⟨q, rfl⟩ : ∃ q : Nat, y = (q : Int) := ⟨y.toNat, by omega⟩
                        obtain ⟨E9, hE9d⟩ : ∃ E9, E9 = (getG W H K (q : Int) Tk o).err := ⟨_, rfl⟩
                        have hE9 : E9 ≠ 0 := by rw [hE9d]; exact HK.out.2.2 q (fun h => hyr (by rw [h])) (by have := HMr.out; omega)
                        have hRq : RightS W H K (q : Int) := ⟨HR.out.1.1, HR.out.1.2.1, HR.out.1.2.2.1, by omega, by omega⟩
                        obtain ⟨N9, hN9⟩ : ∃ N9, N9 = wo.heap.size := ⟨_, rfl⟩
                        have hgo : ∀ w', Below wo.heap.size wo w' → ∀ A7 c7, Sl w' (fun b => N9 ≤ b) A7 m1 c7 o → Calls Tryd.prog 16 #[.agg #[.int .i64 W, .int .i64 H, .int .i64 K, .int .i64 (q : Int)], .agg CT, .slice A7 m1 c7] w' fun e w'' => Below w'.heap.size w' w'' ∧ e = .returned (.tuple #[.agg #[.slice none 0 0], .int .i64 0, .int .i64 E9]) := fun w' k A7 c7 h7 => by
                          have hg := scanGet_any w' W H K (q : Int) Tk Xk _ A7 m1 c7 o (HA.out.1.on (on_trans HO.out.2 k)) ((HX9.out.on HO.out.1).on k) H8.out.2.1.wt H8.out.2.1.few h7 (by omega)
                          rw [H8.out.2.2.2.2.2.2]
                          refine hg.mono ?_
                          rintro e w'' h
                          refine ⟨h.bel, ?_⟩
                          have := h.err hRq HK.out.2.1 (by rw [← hE9d]; exact hE9)
                          rw [← hE9d] at this
                          exact this
                        have HGo := Lib.hid hgo
                        have HL9 := Lib.hid (fun (w' : World) (k : Below wo.heap.size wo w') => HL9.out w' (on_trans HO.out.1 k))
                        have HS1 := Lib.hid (HS1.out.on HO.out.1)
                        clear hgo hRq hE9d
                        go_upto_region 21 with fail
                        go_cut [18, 19, 20] from 114 to 123 (fun p _ e wx => ∃ (v : Value) (E : Int), p = v ∧ e = .int .i64 E ∧ E ≠ 0 ∧ Below wo.heap.size wo wx)
                        case first =>
                          refine wp_region_held_drew (S := fun w' => Hid (Below wo.heap.size wo w')) (by kernel_rfl) (Lib.hid (on_drew wo)) fun s0 => ?_
                          refine take_to (i := 0) (v := .agg #[.int .i64 W, .int .i64 H, .int .i64 K, .int .i64 (q : Int)]) rfl (by kernel_rfl) (by kernel_rfl) (by kernel_rfl) (fun _ _ _ h => h) (yieldsIf_load7 (by rfl) 23 (.tmp 17) rfl (.pointer (some ⟨g17, 0, none⟩)) rfl (.agg #[.int .i64 W, .int .i64 H, .int .i64 K, .int .i64 (q : Int)]) (fun w' hS => load_scan (HWo.out.on hS.out))) s0 (some 115) rfl ?_
                          try simp only [Act.put, List.setIfInBounds_toArray, List.set_cons_zero, List.set_cons_succ]
                          refine take_to (i := 1) (v := .agg CT) rfl (by kernel_rfl) (by kernel_rfl) (by kernel_rfl) (fun _ _ _ h => h) (yieldsIf_load7 (by rfl) 33 (.tmp 7) rfl (.pointer (some ⟨g9, 0, none⟩)) rfl (.agg CT) (fun w' hS => HL9.out w' hS.out)) s0 (some 116) rfl ?_
                          try simp only [Act.put, List.setIfInBounds_toArray, List.set_cons_zero, List.set_cons_succ]
                          refine take_to (i := 3) (v := .slice A1 m1 k1) rfl (by kernel_rfl) (by kernel_rfl) (by kernel_rfl) (fun _ _ _ h => h) (Or.inl ⟨by rfl, fun w' hS => by go_simp⟩) s0 (some 118) rfl ?_
                          try simp only [Act.put, List.setIfInBounds_toArray, List.set_cons_zero, List.set_cons_succ]
                          obtain ⟨v0, hv0⟩ : ∃ v0, v0 = wo.drew := ⟨_, rfl⟩
                          rw [← hv0] at s0 ⊢
                          clear hv0
                          refine wpAnyH_ready (rs := [2, 10]) (by kernel_rfl) (by simp) ?_
                          refine (AllReadyH.cons rfl (fun Kq hKq => ?_) (AllReadyH.cons rfl (fun Kq hKq => ?_) AllReadyH.nil))
                          · go_simp
                            have bq : Below v0.heap.size v0 (v0.alloc (.cells #[] 5)) := on_alloc _ _
                            have bo : (v0.alloc (.cells #[] 5)).ownsRow N9 5 1 (.slice (some ⟨v0.heap.size, 0, none⟩) 0 0) 0 (cellsOf []) := World.ownsRow_made v0 #[] 0 (by have := s0.out.size; omega) (by unfold maxLen; omega) rfl
                            obtain ⟨gb, hgb⟩ : ∃ gb, gb = v0.heap.size := ⟨_, rfl⟩
                            obtain ⟨v27, hn27⟩ : ∃ x, x = v0.alloc (.cells #[] 5) := ⟨_, rfl⟩
                            simp only [← hgb, ← hn27] at bo ⊢
                            rw [← hn27] at bq
                            have HO27 := Lib.hid bo
                            clear bo hn27 hgb
                            have K27 := Lib.hid bq
                            have sq := Lib.hid (on_trans s0.out bq)
                            refine hKq.out _ _ sq fun _ => ?_
                            clear hKq Kq bq s0
                            have s0 := sq
                            clear sq
                            refine wpAnyH_ready (rs := [4, 10]) (by kernel_rfl) (by simp) ?_
                            refine (AllReadyH.cons rfl (fun Kq hKq => ?_) (AllReadyH.cons rfl (fun Kq hKq => ?_) AllReadyH.nil))
                            · have bo := HO27.out
                              refine step_append_sk rfl (.tmp 117) (.tmp 118) rfl N9 (.slice (some ⟨gb, 0, none⟩) 0 0) 0 [] rfl bo A1 m1 k1 o rfl ((HS1.out.on s0.out).mono (fun _ _ _ => trivial)) (by omega) (by have := s0.out.size; omega) (some 119) rfl ?_
                              intro vv v28 hown kk
                              rw [Nat.zero_add, List.nil_append] at hown
                              obtain ⟨A4, c4, hv4⟩ := own_slice hown
                              subst hv4
                              try simp only [Act.put, List.setIfInBounds_toArray, List.set_cons_zero, List.set_cons_succ]
                              have HO28 := Lib.hid hown
                              have HK28 := Lib.hid (And.intro bo kk)
                              clear hown kk bo
                              have sq := Lib.hid (s0.out.trans (HK28.out.2.below s0.out.size (fun i hi e => by have := (own_block3 HK28.out.1 e).1; omega)))
                              refine hKq.out _ _ sq fun _ => ?_
                              clear hKq Kq s0
                              have s0 := sq
                              clear sq
                              refine wpAnyH_ready (rs := [5, 10]) (by kernel_rfl) (by simp) ?_
                              refine (AllReadyH.cons rfl (fun Kq hKq => ?_) (AllReadyH.cons rfl (fun Kq hKq => ?_) AllReadyH.nil))
                              · obtain ⟨A7, c7, e7, hs7⟩ := sl_of_own (HO28.out) HFt.out
                                cases e7
                                have HS7 := Lib.hid hs7
                                clear hs7
                                go_simp
                                refine Calls.mono (HGo.out _ s0.out _ _ HS7.out) ?_
                                rintro e v29 ⟨bq, rfl⟩
                                have K29 := Lib.hid bq
                                have sq := Lib.hid (on_trans s0.out bq)
                                refine hKq.out _ _ sq fun _ => ?_
                                clear hKq Kq bq s0
                                have s0 := sq
                                clear sq
                                refine take_to (i := 6) (v := .tuple #[.agg #[.slice none 0 0], .int .i64 0, .int .i64 E9]) rfl (by kernel_rfl) (by kernel_rfl) (by kernel_rfl) (fun _ _ _ h => h) (Or.inl ⟨by rfl, fun w' hS => by go_simp⟩) s0 (some 114) rfl ?_
                                try simp only [Act.put, List.setIfInBounds_toArray, List.set_cons_zero, List.set_cons_succ]
                                refine take_to (i := 7) (v := .agg #[.slice none 0 0]) rfl (by kernel_rfl) (by kernel_rfl) (by kernel_rfl) (fun _ _ _ h => h) (Or.inl ⟨by rfl, fun w' hS => by go_simp⟩) s0 (some 121) rfl ?_
                                try simp only [Act.put, List.setIfInBounds_toArray, List.set_cons_zero, List.set_cons_succ]
                                refine take_to (i := 8) (v := .int .i64 0) rfl (by kernel_rfl) (by kernel_rfl) (by kernel_rfl) (fun _ _ _ h => h) (Or.inl ⟨by rfl, fun w' hS => by go_simp⟩) s0 (some 122) rfl ?_
                                try simp only [Act.put, List.setIfInBounds_toArray, List.set_cons_zero, List.set_cons_succ]
                                refine take_to (i := 9) (v := .int .i64 E9) rfl (by kernel_rfl) (by kernel_rfl) (by kernel_rfl) (fun _ _ _ h => h) (Or.inl ⟨by rfl, fun w' hS => by go_simp⟩) s0 (some 123) rfl ?_
                                try simp only [Act.put, List.setIfInBounds_toArray, List.set_cons_zero, List.set_cons_succ]
                                refine wpAnyH_ready (rs := [10]) (by kernel_rfl) (by simp) ?_
                                refine (AllReadyH.cons rfl (fun Kq hKq => ?_) AllReadyH.nil)
                                go_simp
                                have bq : Below v29.heap.size v29 (v29.alloc (.cells #[.slice none 0 0] 36)) := on_alloc _ _
                                have bb : Box (v29.alloc (.cells #[.slice none 0 0] 36)) v29.heap.size 36 #[.slice none 0 0] := Box.made _ _ _
                                obtain ⟨g15, hg30⟩ : ∃ g, g = v29.heap.size := ⟨_, rfl⟩
                                obtain ⟨v30, hn30⟩ : ∃ x, x = v29.alloc (.cells #[.slice none 0 0] 36) := ⟨_, rfl⟩
                                simp only [← hg30, ← hn30] at bb ⊢
                                rw [← hn30] at bq
                                have HG15 := Lib.hid (And.intro bb (show wo.heap.size ≤ g15 by rw [hg30]; exact s0.out.size))
                                clear bb hn30 hg30
                                have K30 := Lib.hid bq
                                have sq := Lib.hid (on_trans s0.out bq)
                                refine hKq.out _ _ sq fun _ => ?_
                                clear hKq Kq bq s0
                                have s0 := sq
                                clear sq
                                refine wpAnyH_ready (rs := [11]) (by kernel_rfl) (by simp) ?_
                                refine (AllReadyH.cons rfl (fun Kq hKq => ?_) AllReadyH.nil)
                                have b15 := HG15.out.1
                                have r15 : v30.cell? ⟨g15, 0, none⟩ = some (.slice none 0 0) := b15.cell 0
                                have f15 : v30.frozen? ⟨g15, 0, none⟩ = false := b15.free 0
                                have HZ9 := Lib.hid (And.intro b15 True.intro)
                                clear b15
                                go_simp
                                have k9 : Kept (fun i => i = g15) v30 (v30.setCell ⟨g15, 0, none⟩ (.slice none 0 0)) := (Kept.refl (fun i => i = g15) v30).setCell (p := ⟨g15, 0, none⟩) (fun _ => rfl) _
                                have sq := Lib.hid (s0.out.trans (k9.below s0.out.size (fun i hi e => by have := HG15.out.2; omega)))
                                refine hKq.out _ _ sq fun _ => ?_
                                clear hKq Kq s0 k9 r15 f15
                                have s0 := sq
                                clear sq
                                refine take_to (i := 12) (v := .int .i64 0) rfl (by kernel_rfl) (by kernel_rfl) (by kernel_rfl) (fun _ _ _ h => h) (Or.inl ⟨by rfl, fun w' hS => by go_simp⟩) s0 (some 19) rfl ?_
                                try simp only [Act.put, List.setIfInBounds_toArray, List.set_cons_zero, List.set_cons_succ]
                                refine take_to (i := 13) (v := .int .i64 E9) rfl (by kernel_rfl) (by kernel_rfl) (by kernel_rfl) (fun _ _ _ h => h) (Or.inl ⟨by rfl, fun w' hS => by go_simp⟩) s0 (some 20) rfl ?_
                                try simp only [Act.put, List.setIfInBounds_toArray, List.set_cons_zero, List.set_cons_succ]
                                refine wpAnyH_done (by kernel_rfl) ?_ _
                                go_wp2_with fail
                                go_meet
                                exact ⟨_, E9, rfl, rfl, hE9, s0.out⟩
                              · go_simp
                                have bq : Below v28.heap.size v28 (v28.alloc (.cells #[.slice none 0 0] 36)) := on_alloc _ _
                                have bb : Box (v28.alloc (.cells #[.slice none 0 0] 36)) v28.heap.size 36 #[.slice none 0 0] := Box.made _ _ _
                                obtain ⟨g15, hg31⟩ : ∃ g, g = v28.heap.size := ⟨_, rfl⟩
                                obtain ⟨v31, hn31⟩ : ∃ x, x = v28.alloc (.cells #[.slice none 0 0] 36) := ⟨_, rfl⟩
                                simp only [← hg31, ← hn31] at bb ⊢
                                rw [← hn31] at bq
                                have HG15 := Lib.hid (And.intro bb (show wo.heap.size ≤ g15 by rw [hg31]; exact s0.out.size))
                                clear bb hn31 hg31
                                have K31 := Lib.hid bq
                                have sq := Lib.hid (on_trans s0.out bq)
                                refine hKq.out _ _ sq fun _ => ?_
                                clear hKq Kq bq s0
                                have s0 := sq
                                clear sq
                                refine wpAnyH_ready (rs := [5]) (by kernel_rfl) (by simp) ?_
                                refine (AllReadyH.cons rfl (fun Kq hKq => ?_) AllReadyH.nil)
                                obtain ⟨A7, c7, e7, hs7⟩ := sl_of_own ((own_on (HO28.out) K31.out)) HFt.out
                                cases e7
                                have HS7 := Lib.hid hs7
                                clear hs7
                                go_simp
                                refine Calls.mono (HGo.out _ s0.out _ _ HS7.out) ?_
                                rintro e v32 ⟨bq, rfl⟩
                                have K32 := Lib.hid bq
                                have sq := Lib.hid (on_trans s0.out bq)
                                refine hKq.out _ _ sq fun _ => ?_
                                clear hKq Kq bq s0
                                have s0 := sq
                                clear sq
                                refine take_to (i := 6) (v := .tuple #[.agg #[.slice none 0 0], .int .i64 0, .int .i64 E9]) rfl (by kernel_rfl) (by kernel_rfl) (by kernel_rfl) (fun _ _ _ h => h) (Or.inl ⟨by rfl, fun w' hS => by go_simp⟩) s0 (some 114) rfl ?_
                                try simp only [Act.put, List.setIfInBounds_toArray, List.set_cons_zero, List.set_cons_succ]
                                refine take_to (i := 7) (v := .agg #[.slice none 0 0]) rfl (by kernel_rfl) (by kernel_rfl) (by kernel_rfl) (fun _ _ _ h => h) (Or.inl ⟨by rfl, fun w' hS => by go_simp⟩) s0 (some 121) rfl ?_
                                try simp only [Act.put, List.setIfInBounds_toArray, List.set_cons_zero, List.set_cons_succ]
                                refine take_to (i := 8) (v := .int .i64 0) rfl (by kernel_rfl) (by kernel_rfl) (by kernel_rfl) (fun _ _ _ h => h) (Or.inl ⟨by rfl, fun w' hS => by go_simp⟩) s0 (some 122) rfl ?_
                                try simp only [Act.put, List.setIfInBounds_toArray, List.set_cons_zero, List.set_cons_succ]
                                refine take_to (i := 9) (v := .int .i64 E9) rfl (by kernel_rfl) (by kernel_rfl) (by kernel_rfl) (fun _ _ _ h => h) (Or.inl ⟨by rfl, fun w' hS => by go_simp⟩) s0 (some 123) rfl ?_
                                try simp only [Act.put, List.setIfInBounds_toArray, List.set_cons_zero, List.set_cons_succ]
                                refine wpAnyH_ready (rs := [11]) (by kernel_rfl) (by simp) ?_
                                refine (AllReadyH.cons rfl (fun Kq hKq => ?_) AllReadyH.nil)
                                have b15 := (HG15.out.1).on K32.out
                                have r15 : v32.cell? ⟨g15, 0, none⟩ = some (.slice none 0 0) := b15.cell 0
                                have f15 : v32.frozen? ⟨g15, 0, none⟩ = false := b15.free 0
                                have HZ9 := Lib.hid (And.intro b15 True.intro)
                                clear b15
                                go_simp
                                have k9 : Kept (fun i => i = g15) v32 (v32.setCell ⟨g15, 0, none⟩ (.slice none 0 0)) := (Kept.refl (fun i => i = g15) v32).setCell (p := ⟨g15, 0, none⟩) (fun _ => rfl) _
                                have sq := Lib.hid (s0.out.trans (k9.below s0.out.size (fun i hi e => by have := HG15.out.2; omega)))
                                refine hKq.out _ _ sq fun _ => ?_
                                clear hKq Kq s0 k9 r15 f15
                                have s0 := sq
                                clear sq
                                refine take_to (i := 12) (v := .int .i64 0) rfl (by kernel_rfl) (by kernel_rfl) (by kernel_rfl) (fun _ _ _ h => h) (Or.inl ⟨by rfl, fun w' hS => by go_simp⟩) s0 (some 19) rfl ?_
                                try simp only [Act.put, List.setIfInBounds_toArray, List.set_cons_zero, List.set_cons_succ]
                                refine take_to (i := 13) (v := .int .i64 E9) rfl (by kernel_rfl) (by kernel_rfl) (by kernel_rfl) (fun _ _ _ h => h) (Or.inl ⟨by rfl, fun w' hS => by go_simp⟩) s0 (some 20) rfl ?_
                                try simp only [Act.put, List.setIfInBounds_toArray, List.set_cons_zero, List.set_cons_succ]
                                refine wpAnyH_done (by kernel_rfl) ?_ _
                                go_wp2_with fail
                                go_meet
                                exact ⟨_, E9, rfl, rfl, hE9, s0.out⟩
                            · go_simp
                              have bq : Below v27.heap.size v27 (v27.alloc (.cells #[.slice none 0 0] 36)) := on_alloc _ _
                              have bb : Box (v27.alloc (.cells #[.slice none 0 0] 36)) v27.heap.size 36 #[.slice none 0 0] := Box.made _ _ _
                              obtain ⟨g15, hg33⟩ : ∃ g, g = v27.heap.size := ⟨_, rfl⟩
                              obtain ⟨v33, hn33⟩ : ∃ x, x = v27.alloc (.cells #[.slice none 0 0] 36) := ⟨_, rfl⟩
                              simp only [← hg33, ← hn33] at bb ⊢
                              rw [← hn33] at bq
                              have HG15 := Lib.hid (And.intro bb (show wo.heap.size ≤ g15 by rw [hg33]; exact s0.out.size))
                              clear bb hn33 hg33
                              have K33 := Lib.hid bq
                              have sq := Lib.hid (on_trans s0.out bq)
                              refine hKq.out _ _ sq fun _ => ?_
                              clear hKq Kq bq s0
                              have s0 := sq
                              clear sq
                              refine wpAnyH_ready (rs := [4]) (by kernel_rfl) (by simp) ?_
                              refine (AllReadyH.cons rfl (fun Kq hKq => ?_) AllReadyH.nil)
                              have bo := (own_on (HO27.out) K33.out)
                              refine step_append_sk rfl (.tmp 117) (.tmp 118) rfl N9 (.slice (some ⟨gb, 0, none⟩) 0 0) 0 [] rfl bo A1 m1 k1 o rfl ((HS1.out.on s0.out).mono (fun _ _ _ => trivial)) (by omega) (by have := s0.out.size; omega) (some 119) rfl ?_
                              intro vv v34 hown kk
                              rw [Nat.zero_add, List.nil_append] at hown
                              obtain ⟨A4, c4, hv4⟩ := own_slice hown
                              subst hv4
                              try simp only [Act.put, List.setIfInBounds_toArray, List.set_cons_zero, List.set_cons_succ]
                              have HO34 := Lib.hid hown
                              have HK34 := Lib.hid (And.intro bo kk)
                              clear hown kk bo
                              have sq := Lib.hid (s0.out.trans (HK34.out.2.below s0.out.size (fun i hi e => by have := (own_block3 HK34.out.1 e).1; omega)))
                              refine hKq.out _ _ sq fun _ => ?_
                              clear hKq Kq s0
                              have s0 := sq
                              clear sq
                              refine wpAnyH_ready (rs := [5]) (by kernel_rfl) (by simp) ?_
                              refine (AllReadyH.cons rfl (fun Kq hKq => ?_) AllReadyH.nil)
                              obtain ⟨A7, c7, e7, hs7⟩ := sl_of_own (HO34.out) HFt.out
                              cases e7
                              have HS7 := Lib.hid hs7
                              clear hs7
                              go_simp
                              refine Calls.mono (HGo.out _ s0.out _ _ HS7.out) ?_
                              rintro e v35 ⟨bq, rfl⟩
                              have K35 := Lib.hid bq
                              have sq := Lib.hid (on_trans s0.out bq)
                              refine hKq.out _ _ sq fun _ => ?_
                              clear hKq Kq bq s0
                              have s0 := sq
                              clear sq
                              refine take_to (i := 6) (v := .tuple #[.agg #[.slice none 0 0], .int .i64 0, .int .i64 E9]) rfl (by kernel_rfl) (by kernel_rfl) (by kernel_rfl) (fun _ _ _ h => h) (Or.inl ⟨by rfl, fun w' hS => by go_simp⟩) s0 (some 114) rfl ?_
                              try simp only [Act.put, List.setIfInBounds_toArray, List.set_cons_zero, List.set_cons_succ]
                              refine take_to (i := 7) (v := .agg #[.slice none 0 0]) rfl (by kernel_rfl) (by kernel_rfl) (by kernel_rfl) (fun _ _ _ h => h) (Or.inl ⟨by rfl, fun w' hS => by go_simp⟩) s0 (some 121) rfl ?_
                              try simp only [Act.put, List.setIfInBounds_toArray, List.set_cons_zero, List.set_cons_succ]
                              refine take_to (i := 8) (v := .int .i64 0) rfl (by kernel_rfl) (by kernel_rfl) (by kernel_rfl) (fun _ _ _ h => h) (Or.inl ⟨by rfl, fun w' hS => by go_simp⟩) s0 (some 122) rfl ?_
                              try simp only [Act.put, List.setIfInBounds_toArray, List.set_cons_zero, List.set_cons_succ]
                              refine take_to (i := 9) (v := .int .i64 E9) rfl (by kernel_rfl) (by kernel_rfl) (by kernel_rfl) (fun _ _ _ h => h) (Or.inl ⟨by rfl, fun w' hS => by go_simp⟩) s0 (some 123) rfl ?_
                              try simp only [Act.put, List.setIfInBounds_toArray, List.set_cons_zero, List.set_cons_succ]
                              refine wpAnyH_ready (rs := [11]) (by kernel_rfl) (by simp) ?_
                              refine (AllReadyH.cons rfl (fun Kq hKq => ?_) AllReadyH.nil)
                              have b15 := ((own_box HK34.out.1 HK34.out.2 (HG15.out.1) (by decide))).on K35.out
                              have r15 : v35.cell? ⟨g15, 0, none⟩ = some (.slice none 0 0) := b15.cell 0
                              have f15 : v35.frozen? ⟨g15, 0, none⟩ = false := b15.free 0
                              have HZ9 := Lib.hid (And.intro b15 True.intro)
                              clear b15
                              go_simp
                              have k9 : Kept (fun i => i = g15) v35 (v35.setCell ⟨g15, 0, none⟩ (.slice none 0 0)) := (Kept.refl (fun i => i = g15) v35).setCell (p := ⟨g15, 0, none⟩) (fun _ => rfl) _
                              have sq := Lib.hid (s0.out.trans (k9.below s0.out.size (fun i hi e => by have := HG15.out.2; omega)))
                              refine hKq.out _ _ sq fun _ => ?_
                              clear hKq Kq s0 k9 r15 f15
                              have s0 := sq
                              clear sq
                              refine take_to (i := 12) (v := .int .i64 0) rfl (by kernel_rfl) (by kernel_rfl) (by kernel_rfl) (fun _ _ _ h => h) (Or.inl ⟨by rfl, fun w' hS => by go_simp⟩) s0 (some 19) rfl ?_
                              try simp only [Act.put, List.setIfInBounds_toArray, List.set_cons_zero, List.set_cons_succ]
                              refine take_to (i := 13) (v := .int .i64 E9) rfl (by kernel_rfl) (by kernel_rfl) (by kernel_rfl) (fun _ _ _ h => h) (Or.inl ⟨by rfl, fun w' hS => by go_simp⟩) s0 (some 20) rfl ?_
                              try simp only [Act.put, List.setIfInBounds_toArray, List.set_cons_zero, List.set_cons_succ]
                              refine wpAnyH_done (by kernel_rfl) ?_ _
                              go_wp2_with fail
                              go_meet
                              exact ⟨_, E9, rfl, rfl, hE9, s0.out⟩
                          · go_simp
                            have bq : Below v0.heap.size v0 (v0.alloc (.cells #[.slice none 0 0] 36)) := on_alloc _ _
                            have bb : Box (v0.alloc (.cells #[.slice none 0 0] 36)) v0.heap.size 36 #[.slice none 0 0] := Box.made _ _ _
                            obtain ⟨g15, hg36⟩ : ∃ g, g = v0.heap.size := ⟨_, rfl⟩
                            obtain ⟨v36, hn36⟩ : ∃ x, x = v0.alloc (.cells #[.slice none 0 0] 36) := ⟨_, rfl⟩
                            simp only [← hg36, ← hn36] at bb ⊢
                            rw [← hn36] at bq
                            have HG15 := Lib.hid (And.intro bb (show wo.heap.size ≤ g15 by rw [hg36]; exact s0.out.size))
                            clear bb hn36 hg36
                            have K36 := Lib.hid bq
                            have sq := Lib.hid (on_trans s0.out bq)
                            refine hKq.out _ _ sq fun _ => ?_
                            clear hKq Kq bq s0
                            have s0 := sq
                            clear sq
                            refine wpAnyH_ready (rs := [2]) (by kernel_rfl) (by simp) ?_
                            refine (AllReadyH.cons rfl (fun Kq hKq => ?_) AllReadyH.nil)
                            go_simp
                            have bq : Below v36.heap.size v36 (v36.alloc (.cells #[] 5)) := on_alloc _ _
                            have bo : (v36.alloc (.cells #[] 5)).ownsRow N9 5 1 (.slice (some ⟨v36.heap.size, 0, none⟩) 0 0) 0 (cellsOf []) := World.ownsRow_made v36 #[] 0 (by have := s0.out.size; omega) (by unfold maxLen; omega) rfl
                            obtain ⟨gb, hgb⟩ : ∃ gb, gb = v36.heap.size := ⟨_, rfl⟩
                            obtain ⟨v37, hn37⟩ : ∃ x, x = v36.alloc (.cells #[] 5) := ⟨_, rfl⟩
                            simp only [← hgb, ← hn37] at bo ⊢
                            rw [← hn37] at bq
                            have HO37 := Lib.hid bo
                            clear bo hn37 hgb
                            have K37 := Lib.hid bq
                            have sq := Lib.hid (on_trans s0.out bq)
                            refine hKq.out _ _ sq fun _ => ?_
                            clear hKq Kq bq s0
                            have s0 := sq
                            clear sq
                            refine wpAnyH_ready (rs := [4]) (by kernel_rfl) (by simp) ?_
                            refine (AllReadyH.cons rfl (fun Kq hKq => ?_) AllReadyH.nil)
                            have bo := HO37.out
                            refine step_append_sk rfl (.tmp 117) (.tmp 118) rfl N9 (.slice (some ⟨gb, 0, none⟩) 0 0) 0 [] rfl bo A1 m1 k1 o rfl ((HS1.out.on s0.out).mono (fun _ _ _ => trivial)) (by omega) (by have := s0.out.size; omega) (some 119) rfl ?_
                            intro vv v38 hown kk
                            rw [Nat.zero_add, List.nil_append] at hown
                            obtain ⟨A4, c4, hv4⟩ := own_slice hown
                            subst hv4
                            try simp only [Act.put, List.setIfInBounds_toArray, List.set_cons_zero, List.set_cons_succ]
                            have HO38 := Lib.hid hown
                            have HK38 := Lib.hid (And.intro bo kk)
                            clear hown kk bo
                            have sq := Lib.hid (s0.out.trans (HK38.out.2.below s0.out.size (fun i hi e => by have := (own_block3 HK38.out.1 e).1; omega)))
                            refine hKq.out _ _ sq fun _ => ?_
                            clear hKq Kq s0
                            have s0 := sq
                            clear sq
                            refine wpAnyH_ready (rs := [5]) (by kernel_rfl) (by simp) ?_
                            refine (AllReadyH.cons rfl (fun Kq hKq => ?_) AllReadyH.nil)
                            obtain ⟨A7, c7, e7, hs7⟩ := sl_of_own (HO38.out) HFt.out
                            cases e7
                            have HS7 := Lib.hid hs7
                            clear hs7
                            go_simp
                            refine Calls.mono (HGo.out _ s0.out _ _ HS7.out) ?_
                            rintro e v39 ⟨bq, rfl⟩
                            have K39 := Lib.hid bq
                            have sq := Lib.hid (on_trans s0.out bq)
                            refine hKq.out _ _ sq fun _ => ?_
                            clear hKq Kq bq s0
                            have s0 := sq
                            clear sq
                            refine take_to (i := 6) (v := .tuple #[.agg #[.slice none 0 0], .int .i64 0, .int .i64 E9]) rfl (by kernel_rfl) (by kernel_rfl) (by kernel_rfl) (fun _ _ _ h => h) (Or.inl ⟨by rfl, fun w' hS => by go_simp⟩) s0 (some 114) rfl ?_
                            try simp only [Act.put, List.setIfInBounds_toArray, List.set_cons_zero, List.set_cons_succ]
                            refine take_to (i := 7) (v := .agg #[.slice none 0 0]) rfl (by kernel_rfl) (by kernel_rfl) (by kernel_rfl) (fun _ _ _ h => h) (Or.inl ⟨by rfl, fun w' hS => by go_simp⟩) s0 (some 121) rfl ?_
                            try simp only [Act.put, List.setIfInBounds_toArray, List.set_cons_zero, List.set_cons_succ]
                            refine take_to (i := 8) (v := .int .i64 0) rfl (by kernel_rfl) (by kernel_rfl) (by kernel_rfl) (fun _ _ _ h => h) (Or.inl ⟨by rfl, fun w' hS => by go_simp⟩) s0 (some 122) rfl ?_
                            try simp only [Act.put, List.setIfInBounds_toArray, List.set_cons_zero, List.set_cons_succ]
                            refine take_to (i := 9) (v := .int .i64 E9) rfl (by kernel_rfl) (by kernel_rfl) (by kernel_rfl) (fun _ _ _ h => h) (Or.inl ⟨by rfl, fun w' hS => by go_simp⟩) s0 (some 123) rfl ?_
                            try simp only [Act.put, List.setIfInBounds_toArray, List.set_cons_zero, List.set_cons_succ]
                            refine wpAnyH_ready (rs := [11]) (by kernel_rfl) (by simp) ?_
                            refine (AllReadyH.cons rfl (fun Kq hKq => ?_) AllReadyH.nil)
                            have b15 := ((own_box HK38.out.1 HK38.out.2 ((HG15.out.1).on K37.out) (by decide))).on K39.out
                            have r15 : v39.cell? ⟨g15, 0, none⟩ = some (.slice none 0 0) := b15.cell 0
                            have f15 : v39.frozen? ⟨g15, 0, none⟩ = false := b15.free 0
                            have HZ9 := Lib.hid (And.intro b15 True.intro)
                            clear b15
                            go_simp
                            have k9 : Kept (fun i => i = g15) v39 (v39.setCell ⟨g15, 0, none⟩ (.slice none 0 0)) := (Kept.refl (fun i => i = g15) v39).setCell (p := ⟨g15, 0, none⟩) (fun _ => rfl) _
                            have sq := Lib.hid (s0.out.trans (k9.below s0.out.size (fun i hi e => by have := HG15.out.2; omega)))
                            refine hKq.out _ _ sq fun _ => ?_
                            clear hKq Kq s0 k9 r15 f15
                            have s0 := sq
                            clear sq
                            refine take_to (i := 12) (v := .int .i64 0) rfl (by kernel_rfl) (by kernel_rfl) (by kernel_rfl) (fun _ _ _ h => h) (Or.inl ⟨by rfl, fun w' hS => by go_simp⟩) s0 (some 19) rfl ?_
                            try simp only [Act.put, List.setIfInBounds_toArray, List.set_cons_zero, List.set_cons_succ]
                            refine take_to (i := 13) (v := .int .i64 E9) rfl (by kernel_rfl) (by kernel_rfl) (by kernel_rfl) (fun _ _ _ h => h) (Or.inl ⟨by rfl, fun w' hS => by go_simp⟩) s0 (some 20) rfl ?_
                            try simp only [Act.put, List.setIfInBounds_toArray, List.set_cons_zero, List.set_cons_succ]
                            refine wpAnyH_done (by kernel_rfl) ?_ _
                            go_wp2_with fail
                            go_meet
                            exact ⟨_, E9, rfl, rfl, hE9, s0.out⟩
                        case rest =>
                          obtain ⟨v, E, rfl, rfl, hE, kx⟩ := hcut
                          have hEb : (E != 0) = true := by simpa using hE
                          have HX := Lib.hid (on_trans HO.out.2 kx)
                          clear kx
                          go_wp2_with fail
                          refine Calls.mono (awake_any _) ?_
                          rintro e wy ⟨rfl, by_⟩
                          have HY := Lib.hid (on_trans HX.out by_)
                          clear by_
                          go_wp2_with fail
                          go_ret
                          exact ⟨rfl, HY.out⟩
        · have hE1 := H8.out.2.2.1 hR
          subst hE1
          have hEk1 : Ek = 1 := H8.out.2.2.2.2.1.trans (putR_bad hR)
          subst hEk1
          go_wp2_with fail
          refine Calls.mono (awake_any _) ?_
          rintro e w6 ⟨rfl, b6⟩
          have H6 := Lib.hid (on_trans H9.out.1 b6)
          clear b6
          go_wp2_with fail
          go_ret
          exact ⟨rfl, H6.out⟩
end
end Go.Proofs.YtdnjnbfmmgkpjaaDoor
