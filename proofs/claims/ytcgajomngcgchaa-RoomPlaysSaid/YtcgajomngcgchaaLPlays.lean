/-
  RoomPlays: whatever is taken and given, what is told, and what is free behind it, are the document's, step by step.
-/
import Derived.Test.YtcgajomngcgchaaPlayMem
import Derived.Test.YtcgajomngcgchaaDo
namespace Go.Proofs.Ytcgajomngcgchaa
open Go.RowKit

set_option maxHeartbeats 3200000 in
set_option maxRecDepth 20000 in
theorem plays_calls (w : World) (m : Int) (A : Option Addr) (n c : Nat) (l : List X) (A' : Option Addr) (n' c' : Nat) (ds : List S3) (hw : I64 m) (hx : Xl (fun _ => True) w A n c l) (h64 : W64 l) (hd : Dl w A' n' c' ds) (hd64 : ∀ e ∈ ds, W3 e) :
    Calls Try.prog 4 #[.int .i64 m, .slice A n c, .slice A' n' c'] w (Law w) := by
  obtain ⟨hw0, hw1⟩ := hw
  have hmax := hx.max
  have hcap := hx.cap
  have hmax' := hd.max
  have hcap' := hd.cap
  unfold maxLen at hmax hmax'
  have HX := Lib.hid (And.intro hx (And.intro h64 hx.lenX))
  have HD := Lib.hid (And.intro hd hd64)
  clear hx h64 hd hd64
  by_cases hf : Few m n
  · have hdf : decide (Few m n) = true := decide_eq_true hf
    have hn : n ≤ 200 := hf.2
    clear hf
    by_cases hq : n' ≤ 200
    · obtain ⟨wz, hwz⟩ : ∃ wz : World, wz = w := ⟨_, rfl⟩
      go_enter Try.func4, Try.ntmps4
      go_wp2_with (first
        | (go_at_call 10
           refine Calls.mono (few_any m A n c w) ?_
           rintro e w1 ⟨rfl, rfl⟩)
        | ((with_reducible refine wpList_append_own2 (o := ⟨some 34, _, _, _, _, _⟩) el_ext rfl (.tmp 32) (.tmp 33) rfl w1.heap.size (.slice (some ⟨w1.heap.size, 0, none⟩) 0 0) 0 [] rfl (empty_own w1) (fun _ => True) A n c (cellsX l) rfl (HX.out.1.on (on_alloc _ _)) (cellsX_one _) (by omega) (by simp) ?_)
           intro v' w2 hown hk hnil
           obtain ⟨g, c2, hv, hx2, hg, b2⟩ := copy_own hown hk hnil
           subst hv
           have H2 := Lib.hid (And.intro hx2 (And.intro hg b2))
           clear hown hk hnil hx2 hg b2))
      by_cases h0 : newE m l = 0
      · have hF := (new_any w2 m _ _ n c2 l H2.out.1 HX.out.2.1 (by omega)).mono (R' := NewGood m l w2) fun r w' h => h.resolve_left fun h => h.1 h0
        refine Calls.mono hF ?_
        rintro e w3 ⟨_, g3, fs, A3, q, c3, rfl, hM, hfr, hg3, b3⟩
        have hm := newE_iff.1 h0
        have m0 : 1 ≤ m := hm.1.1
        have m1 : m ≤ 4096 := hm.1.2
        obtain ⟨u, hul, hcan, hus⟩ := frees_can hfr m0
        have b13 := on_trans H2.out.2.2 b3
        have H3 := Lib.hid (And.intro hM (And.intro b13 (And.intro hcan (And.intro hul (And.intro hus (Nat.le_trans H2.out.2.2.size hg3))))))
        have HR := (refNew_any w3 m _ A n c l (HX.out.1.on b13) (by omega)).mono (R' := RGood m l w3) fun r w' h => h.resolve_left fun h => h.1 h0
        have HRn := Lib.hid HR
        clear hF hM hfr hul hcan hus hm b3 h0 b13 HR
        go_wp2_with fail
        refine Calls.mono HRn.out ?_
        rintro e w4 ⟨_, Ar, nr, cr, u2, rfl, hx4, hus4, b4⟩
        obtain rfl : u2 = u := hus4.only H3.out.2.2.2.2.1
        obtain ⟨w5, hw5⟩ : ∃ w5, w4.alloc (.cells #[.slice Ar nr cr] 30) = w5 := ⟨_, rfl⟩
        have b5 : Below w4.heap.size w4 w5 := by rw [← hw5]; exact on_alloc _ _
        have bx5 : Box w5 w4.heap.size 30 #[.slice Ar nr cr] := by rw [← hw5]; exact Box.made _ _ _
        have b35 := on_trans b4 b5
        have HP5 := Lib.hid (show Pl w1 w5 g3 w4.heap.size m from ⟨fs, A3, q, c3, u2, Ar, nr, cr, ⟨on_trans H3.out.2.1 b35, H3.out.2.2.2.2.2, by have := H3.out.2.1.size; have := b4.size; omega, H3.out.1.on b35, bx5, (hx4.on b5).mono (fun _ _ _ => trivial)⟩, H3.out.2.2.1, H3.out.2.2.2.1⟩)
        clear hx4 hus4 b4 b5 bx5 b35 HRn
        go_wp2_with fail
        obtain ⟨gb, hgb⟩ : ∃ gb, w4.heap.size = gb := ⟨_, rfl⟩
        rw [hgb] at HP5 ⊢
        clear hgb hw5
        go_loopw [8, 10, 63] (fun _ _ i wr => ∃ k : Nat, k ≤ n' ∧ i = .int .i64 (k : Int) ∧ Pl w1 wr g3 gb m) (fun _ _ i _ => n' - (intOf i).toNat)
        case atStart => exact ⟨0, by omega, rfl, HP5.out⟩
        case round =>
          obtain ⟨k, hk, rfl, hP⟩ := hrel
          obtain ⟨wo, hwo⟩ : ∃ wo : World, wo = wr := ⟨_, rfl⟩
          have hPb : Below w1.heap.size w1 wr := by obtain ⟨⟨_, _, _, _, _, _, _, _, hp, _⟩⟩ := hP; exact hp.bel
          by_cases hkn : k < n'
          · obtain ⟨b, off, rfl, hbs, d0, d1, d2⟩ := (HD.out.1.on hPb).at_ k hkn
            have hmem : ds.getD k (false, 0, 0) ∈ ds := by
              have hl := HD.out.1.len
              rw [List.getD_eq_getElem?_getD, List.getElem?_eq_getElem (show k < ds.length by omega)]
              exact List.getElem_mem _
            have h64 := HD.out.2 _ hmem
            obtain ⟨gv, x, y, hxyz⟩ : ∃ (gv : Bool) (x y : Int), ds.getD k (false, 0, 0) = (gv, x, y) := ⟨_, _, _, rfl⟩
            rw [hxyz] at d0 d1 d2 h64
            simp only at d0 d1 d2
            obtain ⟨⟨x0, x1⟩, y0, y1⟩ := h64
            simp only at x0 x1 y0 y1
            obtain ⟨⟨fs0, A0, n0, c0, u0, Au, nu, cu, hP0, hC0, hul0⟩⟩ := hP
            have HQ := Lib.hid (And.intro hP0 (And.intro hC0 hul0))
            obtain ⟨w6, hw6⟩ : ∃ w6, wr.alloc (.cells #[.bool gv, .int .i64 x, .int .i64 y] 44) = w6 := ⟨_, rfl⟩
            have b6 : Below wr.heap.size wr w6 := by rw [← hw6]; exact on_alloc _ _
            have bx6 : Box w6 wr.heap.size 44 #[.bool gv, .int .i64 x, .int .i64 y] := by rw [← hw6]; exact Box.made _ _ _
            have e0 : w6.cell? ⟨wr.heap.size, 0, none⟩ = some (.bool gv) := bx6.cell 0
            have e1 : w6.cell? ⟨wr.heap.size, 1, none⟩ = some (.int .i64 x) := bx6.cell 1
            have e2 : w6.cell? ⟨wr.heap.size, 2, none⟩ = some (.int .i64 y) := bx6.cell 2
            have H6 := Lib.hid (And.intro b6 bx6)
            clear hP0 hC0 hul0 hmem hxyz b6 bx6 hwo wo hPb
            cases gv with
            | true =>
              have HG := Lib.hid (give_one w6 g3 m fs0 A0 n0 c0 (HQ.out.1.on H6.out.1).map u0 HQ.out.2.1 HQ.out.2.2 (by omega) x y (by omega))
              go_wp2_with fail
              refine Calls.mono HG.out ?_
              rintro e w7 ⟨zm, um, fs9, A9, n9, c9, rfl, hgv, M7, C7, k7⟩
              have HM := Lib.hid ((HQ.out.1.on H6.out.1).turn k7 M7)
              have bx7 := k7.box H6.out.2 (fun e => by have := HQ.out.1.map.box.lt; omega)
              have i1 : w7.cell? ⟨wr.heap.size, 1, none⟩ = some (.int .i64 x) := bx7.cell 1
              have i2 : w7.cell? ⟨wr.heap.size, 2, none⟩ = some (.int .i64 y) := bx7.cell 2
              have i3 : w7.cell? ⟨gb, 0, none⟩ = some (.slice Au nu cu) := HM.out.box.cell 0
              have HR0 := Lib.hid (refGive_one w7 _ Au nu cu u0 HM.out.row (by have := HQ.out.1.row.lenB; have := HQ.out.2.2; omega) x y)
              have HV := Lib.hid (And.intro hgv C7)
              clear M7 C7 k7 bx7 hgv
              go_wp2_with fail
              refine Calls.mono HR0.out ?_
              rintro e w8 ⟨z, u9, Au9, nu9, cu9, rfl, hgv', hx8, b8⟩
              obtain ⟨rfl, rfl⟩ := HV.out.1.only hgv'
              have j1 : w8.cell? ⟨gb, 0, none⟩ = some (.slice Au nu cu) := (HM.out.on b8).box.cell 0
              have j2 := (HM.out.on b8).box.free 0
              have HS := Lib.hid ((HM.out.on b8).put hx8)
              have HC := Lib.hid (And.intro HV.out.2 (hgv'.len ▸ HQ.out.2.2 : (u9.length : Int) = m))
              clear hgv' hx8 b8
              go_wp2_with fail
              obtain ⟨w9, hw9⟩ : ∃ w9, w8.setCell ⟨gb, 0, none⟩ (.slice Au9 nu9 cu9) = w9 := ⟨_, rfl⟩
              rw [hw9] at HS ⊢
              have hn9 : n9 ≤ 4096 := by have := can_len HC.out.1; have := HS.out.map.row.lenX; have := HC.out.2; omega
              have HF := Lib.hid (mfree_any w9 g3 m fs9 A9 n9 c9 HS.out.map (by omega))
              refine Calls.mono HF.out ?_
              rintro e w10 ⟨v10, rfl, hown, b10⟩
              obtain ⟨Af, cf, hvf, hxf⟩ := rd_of_own hown
              subst hvf
              have hlf : fs9.length = n9 := HS.out.map.row.lenX
              rw [hlf]
              rw [hlf] at hown hxf
              have HT := Lib.hid (HS.out.on b10)
              have HN := Lib.hid (And.intro hown (And.intro hxf (And.intro b10 HS.out.bel)))
              have hnu : nu9 ≤ 4096 := by have := HS.out.row.lenB; have := HC.out.2; omega
              have hr9 : Rise m 0 fs9 := by have := HC.out.1.rise; rw [HC.out.2] at this; exact this
              obtain ⟨S, hS⟩ : ∃ S, sumS fs9 = S := ⟨_, rfl⟩
              obtain ⟨E, hE⟩ : ∃ E, endF m fs9 = E := ⟨_, rfl⟩
              have HL := Lib.hid (fun (wq : World) (hb : Below w10.heap.size w10 wq) => show Calls Try.prog 24 #[.pointer (some ⟨g3, 0, none⟩)] wq fun r w' => r = .returned (.int .i64 S) ∧ Below wq.heap.size wq w' from by
                have := left_any wq g3 m fs9 A9 n9 c9 ((HT.out.on hb).map) hr9 (by omega)
                rw [hS] at this
                exact this)
              have HRL := Lib.hid (fun (wq : World) (hb : Below w10.heap.size w10 wq) => show Calls Try.prog 25 #[.agg #[.slice Au9 nu9 cu9]] wq fun r w' => r = .returned (.int .i64 S) ∧ Below wq.heap.size wq w' from by
                have := refLeft_sum wq _ Au9 nu9 cu9 u9 fs9 HC.out.1 ((HT.out.on hb).row) hnu
                rw [hS] at this
                exact this)
              have HE := Lib.hid (fun (wq : World) (hb : Below w10.heap.size w10 wq) => show Calls Try.prog 26 #[.pointer (some ⟨g3, 0, none⟩)] wq fun r w' => r = .returned (.int .i64 E) ∧ Below wq.heap.size wq w' from by
                have := end_map wq g3 m fs9 A9 n9 c9 ((HT.out.on hb).map) hr9 (by omega)
                rw [hE] at this
                exact this)
              have HRE := Lib.hid (fun (wq : World) (hb : Below w10.heap.size w10 wq) => show Calls Try.prog 27 #[.agg #[.slice Au9 nu9 cu9]] wq fun r w' => r = .returned (.int .i64 E) ∧ Below wq.heap.size wq w' from by
                have := refEnd_end wq _ Au9 nu9 cu9 u9 fs9 HC.out.1 ((HT.out.on hb).row) hnu (by have := HC.out.2; omega)
                rw [HC.out.2, hE] at this
                exact this)
              have HRF := Lib.hid (fun (wq : World) (hb : Below w10.heap.size w10 wq) => refFree_any wq _ Au9 nu9 cu9 u9 ((HT.out.on hb).row) hnu)
              clear hown hxf b10 hr9 hS hE HF
              go_wp2_with fail
              go_upto_region 19 with fail
              refine wp_region_held_drew (S := fun w' => Hid (Below w10.heap.size w10 w')) (by kernel_rfl) (Lib.hid (on_drew w10)) fun s0 => ?_
              refine take_to (i := 0) (v := .int .i64 z) rfl (by kernel_rfl) (by kernel_rfl) (by kernel_rfl) (fun _ _ _ h => h) (Or.inl ⟨by rfl, fun w' hS => by go_simp⟩) s0 (some 105) rfl ?_
              try simp only [Act.put, List.setIfInBounds_toArray, List.set_cons_zero, List.set_cons_succ]
              refine take_to (i := 1) (v := .int .i64 z) rfl (by kernel_rfl) (by kernel_rfl) (by kernel_rfl) (fun _ _ _ h => h) (Or.inl ⟨by rfl, fun w' hS => by go_simp⟩) s0 (some 106) rfl ?_
              try simp only [Act.put, List.setIfInBounds_toArray, List.set_cons_zero, List.set_cons_succ]
              refine take_to (i := 2) (v := .bool false) rfl (by kernel_rfl) (by kernel_rfl) (by kernel_rfl) (fun _ _ _ h => h) (Or.inl ⟨by rfl, fun w' hS => by go_simp⟩) s0 (some 107) rfl ?_
              try simp only [Act.put, List.setIfInBounds_toArray, List.set_cons_zero, List.set_cons_succ]
              refine take_to (i := 3) (v := .bool false) rfl (by kernel_rfl) (by kernel_rfl) (by kernel_rfl) (fun _ _ _ h => h) (Or.inl ⟨by rfl, fun w' hS => by go_simp⟩) s0 (some 108) rfl ?_
              try simp only [Act.put, List.setIfInBounds_toArray, List.set_cons_zero, List.set_cons_succ]
              refine take_to (i := 4) (v := .slice Af n9 cf) rfl (by kernel_rfl) (by kernel_rfl) (by kernel_rfl) (fun _ _ _ h => h) (Or.inl ⟨by rfl, fun w' hS => by go_simp⟩) s0 (some 109) rfl ?_
              try simp only [Act.put, List.setIfInBounds_toArray, List.set_cons_zero, List.set_cons_succ]
              refine take_to (i := 5) (v := .agg #[.slice Au9 nu9 cu9]) rfl (by kernel_rfl) (by kernel_rfl) (by kernel_rfl) (fun _ _ _ h => h) (Or.inl ⟨by rfl, fun w' hS => by have hc := (HT.out.on hS.out).box.cell 0; simp at hc; go_simp⟩) s0 (some 110) rfl ?_
              try simp only [Act.put, List.setIfInBounds_toArray, List.set_cons_zero, List.set_cons_succ]
              refine wpAnyH_ready (rs := [6]) (by kernel_rfl) (by simp) ?_
              refine AllReadyH.cons rfl (fun Kq hKq => ?_) AllReadyH.nil
              try refine if_then (by rfl) ?_
              go_simp
              refine Calls.mono (HRF.out _ s0.out) ?_
              rintro e wr1 ⟨Aq, nq, cq, fq, rfl, hxq, hcq, br⟩
              have s1 := Lib.hid (on_trans s0.out br)
              have hfq : fs9 = fq := HC.out.1.only hcq
              subst hfq
              have hnq : nq = n9 := by have := hxq.lenX; omega
              subst hnq
              have HSm := Lib.hid (same_any _ _ _ Af Aq nq cf cq fs9 (HN.out.2.1.on s1.out) hxq)
              clear hxq hcq
              refine hKq.out _ _ s1 fun _ => ?_
              clear hKq Kq br
              try simp only [Act.put, List.setIfInBounds_toArray, List.set_cons_zero, List.set_cons_succ]
              refine wpAnyH_ready (rs := [7]) (by kernel_rfl) (by simp) ?_
              refine AllReadyH.cons rfl (fun Kq hKq => ?_) AllReadyH.nil
              try refine if_then (by rfl) ?_
              go_simp
              refine Calls.mono (HSm.out) ?_
              rintro e wr2 ⟨rfl, br⟩
              have s2 := Lib.hid (on_trans s1.out br)

              refine hKq.out _ _ s2 fun _ => ?_
              clear hKq Kq br
              try simp only [Act.put, List.setIfInBounds_toArray, List.set_cons_zero, List.set_cons_succ]
              refine take_to (i := 8) (v := .bool false) rfl (by kernel_rfl) (by kernel_rfl) (by kernel_rfl) (fun _ _ _ h => h) (Or.inl ⟨by rfl, fun w' hS => by go_simp⟩) s2 (some 113) rfl ?_
              try simp only [Act.put, List.setIfInBounds_toArray, List.set_cons_zero, List.set_cons_succ]
              refine take_to (i := 9) (v := .bool false) rfl (by kernel_rfl) (by kernel_rfl) (by kernel_rfl) (fun _ _ _ h => h) (Or.inl ⟨by rfl, fun w' hS => by go_simp⟩) s2 (some 114) rfl ?_
              try simp only [Act.put, List.setIfInBounds_toArray, List.set_cons_zero, List.set_cons_succ]
              refine take_to (i := 10) (v := .bool false) rfl (by kernel_rfl) (by kernel_rfl) (by kernel_rfl) (fun _ _ _ h => h) (Or.inl ⟨by rfl, fun w' hS => by go_simp⟩) s2 (some 115) rfl ?_
              try simp only [Act.put, List.setIfInBounds_toArray, List.set_cons_zero, List.set_cons_succ]
              refine take_to (i := 11) (v := .pointer (some ⟨g3, 0, none⟩)) rfl (by kernel_rfl) (by kernel_rfl) (by kernel_rfl) (fun _ _ _ h => h) (Or.inl ⟨by rfl, fun w' hS => by go_simp⟩) s2 (some 116) rfl ?_
              try simp only [Act.put, List.setIfInBounds_toArray, List.set_cons_zero, List.set_cons_succ]
              refine take_to (i := 13) (v := .agg #[.slice Au9 nu9 cu9]) rfl (by kernel_rfl) (by kernel_rfl) (by kernel_rfl) (fun _ _ _ h => h) (Or.inl ⟨by rfl, fun w' hS => by have hc := (HT.out.on hS.out).box.cell 0; simp at hc; go_simp⟩) s2 (some 118) rfl ?_
              try simp only [Act.put, List.setIfInBounds_toArray, List.set_cons_zero, List.set_cons_succ]
              refine wpAnyH_ready (rs := [12]) (by kernel_rfl) (by simp) ?_
              refine AllReadyH.cons rfl (fun Kq hKq => ?_) AllReadyH.nil
              try refine if_then (by rfl) ?_
              go_simp
              refine Calls.mono (HL.out _ s2.out) ?_
              rintro e wr3 ⟨rfl, br⟩
              have s3 := Lib.hid (on_trans s2.out br)

              refine hKq.out _ _ s3 fun _ => ?_
              clear hKq Kq br
              try simp only [Act.put, List.setIfInBounds_toArray, List.set_cons_zero, List.set_cons_succ]
              refine wpAnyH_ready (rs := [14]) (by kernel_rfl) (by simp) ?_
              refine AllReadyH.cons rfl (fun Kq hKq => ?_) AllReadyH.nil
              try refine if_then (by rfl) ?_
              go_simp
              refine Calls.mono (HRL.out _ s3.out) ?_
              rintro e wr4 ⟨rfl, br⟩
              have s4 := Lib.hid (on_trans s3.out br)

              refine hKq.out _ _ s4 fun _ => ?_
              clear hKq Kq br
              try simp only [Act.put, List.setIfInBounds_toArray, List.set_cons_zero, List.set_cons_succ]
              refine take_to (i := 15) (v := .bool false) rfl (by kernel_rfl) (by kernel_rfl) (by kernel_rfl) (fun _ _ _ h => h) (Or.inl ⟨by rfl, fun w' hS => by go_simp⟩) s4 (some 120) rfl ?_
              try simp only [Act.put, List.setIfInBounds_toArray, List.set_cons_zero, List.set_cons_succ]
              refine take_to (i := 16) (v := .bool false) rfl (by kernel_rfl) (by kernel_rfl) (by kernel_rfl) (fun _ _ _ h => h) (Or.inl ⟨by rfl, fun w' hS => by go_simp⟩) s4 (some 121) rfl ?_
              try simp only [Act.put, List.setIfInBounds_toArray, List.set_cons_zero, List.set_cons_succ]
              refine take_to (i := 17) (v := .bool false) rfl (by kernel_rfl) (by kernel_rfl) (by kernel_rfl) (fun _ _ _ h => h) (Or.inl ⟨by rfl, fun w' hS => by go_simp⟩) s4 (some 122) rfl ?_
              try simp only [Act.put, List.setIfInBounds_toArray, List.set_cons_zero, List.set_cons_succ]
              refine take_to (i := 18) (v := .pointer (some ⟨g3, 0, none⟩)) rfl (by kernel_rfl) (by kernel_rfl) (by kernel_rfl) (fun _ _ _ h => h) (Or.inl ⟨by rfl, fun w' hS => by go_simp⟩) s4 (some 123) rfl ?_
              try simp only [Act.put, List.setIfInBounds_toArray, List.set_cons_zero, List.set_cons_succ]
              refine take_to (i := 20) (v := .agg #[.slice Au9 nu9 cu9]) rfl (by kernel_rfl) (by kernel_rfl) (by kernel_rfl) (fun _ _ _ h => h) (Or.inl ⟨by rfl, fun w' hS => by have hc := (HT.out.on hS.out).box.cell 0; simp at hc; go_simp⟩) s4 (some 125) rfl ?_
              try simp only [Act.put, List.setIfInBounds_toArray, List.set_cons_zero, List.set_cons_succ]
              refine wpAnyH_ready (rs := [19]) (by kernel_rfl) (by simp) ?_
              refine AllReadyH.cons rfl (fun Kq hKq => ?_) AllReadyH.nil
              try refine if_then (by rfl) ?_
              go_simp
              refine Calls.mono (HE.out _ s4.out) ?_
              rintro e wr5 ⟨rfl, br⟩
              have s5 := Lib.hid (on_trans s4.out br)

              refine hKq.out _ _ s5 fun _ => ?_
              clear hKq Kq br
              try simp only [Act.put, List.setIfInBounds_toArray, List.set_cons_zero, List.set_cons_succ]
              refine wpAnyH_ready (rs := [21]) (by kernel_rfl) (by simp) ?_
              refine AllReadyH.cons rfl (fun Kq hKq => ?_) AllReadyH.nil
              try refine if_then (by rfl) ?_
              go_simp
              refine Calls.mono (HRE.out _ s5.out) ?_
              rintro e wr6 ⟨rfl, br⟩
              have s6 := Lib.hid (on_trans s5.out br)

              refine hKq.out _ _ s6 fun _ => ?_
              clear hKq Kq br
              try simp only [Act.put, List.setIfInBounds_toArray, List.set_cons_zero, List.set_cons_succ]
              refine take_to (i := 22) (v := .bool false) rfl (by kernel_rfl) (by kernel_rfl) (by kernel_rfl) (fun _ _ _ h => h) (Or.inl ⟨by rfl, fun w' hS => by go_simp⟩) s6 (some 127) rfl ?_
              try simp only [Act.put, List.setIfInBounds_toArray, List.set_cons_zero, List.set_cons_succ]
              refine take_to (i := 23) (v := .bool false) rfl (by kernel_rfl) (by kernel_rfl) (by kernel_rfl) (fun _ _ _ h => h) (Or.inl ⟨by rfl, fun w' hS => by go_simp⟩) s6 (some 128) rfl ?_
              try simp only [Act.put, List.setIfInBounds_toArray, List.set_cons_zero, List.set_cons_succ]
              refine wpAnyH_done (by kernel_rfl) ?_ _
              have HZ := Lib.hid (HT.out.on s6.out)
              have hFr0 : ∃ gf, (0 < nq → Af = some ⟨gf, 0, none⟩) ∧ (0 < nq → Fr w9 wr6 gf nq cf 0 fs9) := by
                rcases Nat.eq_zero_or_pos nq with h | h
                · exact ⟨0, fun h2 => absurd h2 (by omega), fun h2 => absurd h2 (by omega)⟩
                · obtain ⟨gf, cf', hv, hg, hlt⟩ := ownsRow_some HN.out.1 (fun e => by have := Value.slice.inj e; omega)
                  have hvj := Value.slice.inj hv
                  obtain ⟨hA, _, hc⟩ := hvj
                  subst hA hc
                  exact ⟨gf, fun _ => rfl, fun _ => ⟨on_trans HN.out.2.2.1 s6.out, fs9, by have := HN.out.2.1.lenX; omega, fun _ _ => rfl, ownsRow_block HN.out.1 (fun g _ _ hh => s6.out.block g (Array.getElem?_eq_some_iff.1 hh).1)⟩⟩
              obtain ⟨gf, hAf, hFr⟩ := hFr0
              have HFr := Lib.hid (And.intro hAf hFr)
              have HB9 := Lib.hid (on_trans HN.out.2.2.1 s6.out)
              have hcf := HN.out.2.1.cap
              have hcf2 := HN.out.2.1.max
              unfold maxLen at hcf2
              clear hAf hFr
              go_wp2_with fail
              go_loopw [19, 131] (fun _ i wi => ∃ j : Nat, j ≤ nq ∧ i = .int .i64 (j : Int) ∧ Below w9.heap.size w9 wi ∧ (0 < nq → Fr w9 wi gf nq cf j fs9)) (fun _ i _ => nq - (intOf i).toNat)
              case atStart => exact ⟨0, by omega, rfl, HB9.out, HFr.out.2⟩
              case round =>
                obtain ⟨j, hj, rfl, hbi, hfi⟩ := hrel
                have HI := Lib.hid (And.intro hbi hfi)
                clear hbi hfi
                by_cases hjn : j < nq
                · have hA := HFr.out.1 (by omega)
                  subst hA
                  obtain ⟨f0, f1⟩ := (HI.out.2 (by omega)).get hjn
                  have hy9 := (show Rise m 0 fs9 from by have := HC.out.1.rise; rw [HC.out.2] at this; exact this).at_ _ (getD_mem (show j < fs9.length by rw [hlf]; exact hjn))
                  obtain ⟨xj, yj, hxy⟩ : ∃ xj yj : Int, fs9.getD j (0, 0) = (xj, yj) := ⟨_, _, rfl⟩
                  rw [hxy] at f0 hy9
                  simp only at f0 hy9
                  obtain ⟨p, hp⟩ : ∃ p, j * 2 = p := ⟨_, rfl⟩
                  have hst := (HI.out.2 (by omega)).step hjn (yj + 1)
                  rw [hp] at hst f0 f1
                  have HJ := Lib.hid hst
                  have hyb : 0 ≤ yj ∧ yj ≤ 4096 := by omega
                  clear hst hxy hy9
                  go_wp2_with fail
                  go_roundw
                  case rel => exact ⟨j + 1, by omega, by go_num, HJ.out.bel, fun _ => HJ.out⟩
                  case measure => simp [intOf]; omega
                · go_wp2_with fail
                  go_roundw
                  case rel => exact ⟨k + 1, by omega, by go_num, ⟨_, _, _, _, _, _, _, _, HS.out.on HI.out.1, HC.out.1, HC.out.2⟩⟩
                  case measure => simp [intOf]; omega
            | false =>
              have HG := Lib.hid (take_one w6 g3 m fs0 A0 n0 c0 (HQ.out.1.on H6.out.1).map u0 HQ.out.2.1 HQ.out.2.2 (by omega) y)
              go_wp2_with fail
              refine Calls.mono HG.out ?_
              rintro e w7 ⟨X, Y, zm, um, fs9, A9, n9, c9, rfl, hgv, M7, C7, k7⟩
              have HM := Lib.hid ((HQ.out.1.on H6.out.1).turn k7 M7)
              obtain ⟨v7, hv7⟩ : ∃ v7, w7.alloc (.cells #[.int .i64 X, .int .i64 Y] 42) = v7 := ⟨_, rfl⟩
              have bv7 : Below w7.heap.size w7 v7 := by rw [← hv7]; exact on_alloc _ _
              have px7 : Box v7 w7.heap.size 42 #[.int .i64 X, .int .i64 Y] := by rw [← hv7]; exact Box.made _ _ _
              have bx7 := (k7.box H6.out.2 (fun e => by have := HQ.out.1.map.box.lt; omega)).on bv7
              have i2 : v7.cell? ⟨wr.heap.size, 2, none⟩ = some (.int .i64 y) := bx7.cell 2
              have HM7 := Lib.hid (And.intro (HM.out.on bv7) px7)
              have i3 : v7.cell? ⟨gb, 0, none⟩ = some (.slice Au nu cu) := HM7.out.1.box.cell 0
              have HR0 := Lib.hid (refTake_one v7 _ Au nu cu u0 fs0 HQ.out.2.1 HM7.out.1.row (by have := HQ.out.1.row.lenB; have := HQ.out.2.2; omega) y)
              have HV := Lib.hid (And.intro hgv C7)
              clear M7 C7 k7 bx7 hgv bv7 px7
              go_wp2_with fail
              refine Calls.mono HR0.out ?_
              rintro e w8 ⟨X', Y', z, u9, Au9, nu9, cu9, rfl, hgv', hx8, b8⟩
              obtain ⟨hXY, rfl, rfl⟩ := HV.out.1.only hgv'
              obtain ⟨rfl, rfl⟩ := Prod.mk.inj hXY
              have HS8 := Lib.hid (And.intro (HM7.out.1.on b8) (And.intro (HM7.out.2.on b8) hx8))
              have HC := Lib.hid (And.intro HV.out.2 (hgv'.len ▸ HQ.out.2.2 : (u9.length : Int) = m))
              clear hgv' hx8 b8 hXY
              obtain ⟨wA, hwA⟩ : ∃ wA, (w8.alloc (.cells #[.slice Au9 nu9 cu9] 30)).alloc (.cells #[.int .i64 X', .int .i64 Y'] 42) = wA := ⟨_, rfl⟩
              have bA : Below w8.heap.size w8 wA := by rw [← hwA]; exact on_trans (on_alloc _ _) (on_alloc _ _)
              have p15 : Box wA w8.heap.size 30 #[.slice Au9 nu9 cu9] := by rw [← hwA]; exact (Box.made _ _ _).alloc _
              have p16 : Box wA (w8.heap.size + 1) 42 #[.int .i64 X', .int .i64 Y'] := by
                have := Box.made (w8.alloc (.cells #[.slice Au9 nu9 cu9] 30)) 42 #[.int .i64 X', .int .i64 Y']
                rw [hwA] at this
                simpa using this
              have HA := Lib.hid (And.intro (HS8.out.1.on bA) (And.intro (HS8.out.2.1.on bA) (And.intro (HS8.out.2.2.on bA) (And.intro p15 p16))))
              clear bA p15 p16
              go_upto_region 15 with fail
              refine wp_region_held_drew (S := fun w' => Hid (w'.cell? ⟨w8.heap.size, 0, none⟩ = some (.slice Au9 nu9 cu9))) (by kernel_rfl) (Lib.hid (show wA.drew.cell? ⟨w8.heap.size, 0, none⟩ = some (.slice Au9 nu9 cu9) from HA.out.2.2.2.1.cell 0)) fun s0 => ?_
              have hAd := HA.out.1.on (on_drew wA)
              have x4 : wA.drew.cell? ⟨gb, 0, none⟩ = some (.slice Au nu cu) := hAd.box.cell 0
              have y4 := hAd.box.free 0
              have HP := Lib.hid (hAd.put (HA.out.2.2.1.on (on_drew wA)))
              have HG9 := Lib.hid (show gb < w8.heap.size from HS8.out.1.box.lt)
              have HG8 := Lib.hid (show gb ≠ w7.heap.size from HS8.out.1.box.apart HS8.out.2.1 (by decide))
              clear hAd
              refine take_to (i := 0) (v := .int .i64 z) rfl (by kernel_rfl) (by kernel_rfl) (by kernel_rfl) (fun _ _ _ h => h) (Or.inl ⟨by rfl, fun w' hS => by go_simp⟩) s0 (some 97) rfl ?_
              try simp only [Act.put, List.setIfInBounds_toArray, List.set_cons_zero, List.set_cons_succ]
              refine take_to (i := 2) (v := .int .i64 z) rfl (by kernel_rfl) (by kernel_rfl) (by kernel_rfl) (fun _ _ _ h => h) (Or.inl ⟨by rfl, fun w' hS => by go_simp⟩) s0 (some 99) rfl ?_
              try simp only [Act.put, List.setIfInBounds_toArray, List.set_cons_zero, List.set_cons_succ]
              refine take_to (i := 1) (v := .agg #[.slice Au9 nu9 cu9]) rfl (by kernel_rfl) (by kernel_rfl) (by kernel_rfl) (fun _ _ _ h => h) (Or.inl ⟨by rfl, fun w' hS => by have hc := hS.out; go_simp⟩) s0 (some 98) rfl ?_
              try simp only [Act.put, List.setIfInBounds_toArray, List.set_cons_zero, List.set_cons_succ]
              refine take_to (i := 3) (v := .int .i64 z) rfl (by kernel_rfl) (by kernel_rfl) (by kernel_rfl) (fun _ _ _ h => h) (Or.inl ⟨by rfl, fun w' hS => by go_simp⟩) s0 (some 8) rfl ?_
              try simp only [Act.put, List.setIfInBounds_toArray, List.set_cons_zero, List.set_cons_succ]
              refine wpAnyH_ready (rs := [4]) (by kernel_rfl) (by simp) ?_
              refine AllReadyH.cons rfl (fun Kq hKq => ?_) AllReadyH.nil
              try refine if_then (by rfl) ?_
              go_simp
              obtain ⟨w9, hw8⟩ : ∃ w9, (wA.setCell ⟨gb, 0, none⟩ (.slice Au9 nu9 cu9)).drew = w9 := ⟨_, rfl⟩
              have hw9 : wA.drew.setCell ⟨gb, 0, none⟩ (.slice Au9 nu9 cu9) = w9 := by rw [← hw8]; rfl
              have s1 := Lib.hid (show w9.cell? ⟨w8.heap.size, 0, none⟩ = some (.slice Au9 nu9 cu9) from by
                rw [← hw9]
                exact ((HA.out.2.2.2.1.on (on_drew wA)).beside (p := ⟨gb, 0, none⟩) (by have := HG9.out; simp only; omega) _).cell 0)
              have HS := Lib.hid (show Pm w1 w9 g3 gb m fs9 A9 n9 c9 u9 Au9 nu9 cu9 from by rw [← hw9]; exact HP.out)
              have HB := Lib.hid (show Box w9 w7.heap.size 42 #[.int .i64 X', .int .i64 Y'] ∧ Box w9 (w8.heap.size + 1) 42 #[.int .i64 X', .int .i64 Y'] from by
                rw [← hw9]
                exact ⟨(HA.out.2.1.on (on_drew wA)).beside (p := ⟨gb, 0, none⟩) (fun e => HG8.out e.symm) _, (HA.out.2.2.2.2.on (on_drew wA)).beside (p := ⟨gb, 0, none⟩) (by have := HG9.out; simp only; omega) _⟩)
              rw [hw8]
              refine hKq.out _ _ s1 fun _ => ?_
              clear hKq Kq
              try simp only [Act.put, List.setIfInBounds_toArray, List.set_cons_zero, List.set_cons_succ]
              refine take_to (i := 5) (v := .int .i64 z) rfl (by kernel_rfl) (by kernel_rfl) (by kernel_rfl) (fun _ _ _ h => h) (Or.inl ⟨by rfl, fun w' hS => by go_simp⟩) s1 (some 10) rfl ?_
              try simp only [Act.put, List.setIfInBounds_toArray, List.set_cons_zero, List.set_cons_succ]
              refine wpAnyH_done (by kernel_rfl) ?_ _
              have q0 : w9.cell? ⟨w7.heap.size, 0, none⟩ = some (.int .i64 X') := HB.out.1.cell 0
              have q1 : w9.cell? ⟨w7.heap.size, 1, none⟩ = some (.int .i64 Y') := HB.out.1.cell 1
              have q2 : w9.cell? ⟨w8.heap.size + 1, 0, none⟩ = some (.int .i64 X') := HB.out.2.cell 0
              have q3 : w9.cell? ⟨w8.heap.size + 1, 1, none⟩ = some (.int .i64 Y') := HB.out.2.cell 1
              go_wp2_with fail
              have hn9 : n9 ≤ 4096 := by have := can_len HC.out.1; have := HS.out.map.row.lenX; have := HC.out.2; omega
              have HF := Lib.hid (mfree_any w9 g3 m fs9 A9 n9 c9 HS.out.map (by omega))
              refine Calls.mono HF.out ?_
              rintro e w10 ⟨v10, rfl, hown, b10⟩
              obtain ⟨Af, cf, hvf, hxf⟩ := rd_of_own hown
              subst hvf
              have hlf : fs9.length = n9 := HS.out.map.row.lenX
              rw [hlf]
              rw [hlf] at hown hxf
              have HT := Lib.hid (HS.out.on b10)
              have HN := Lib.hid (And.intro hown (And.intro hxf (And.intro b10 HS.out.bel)))
              have hnu : nu9 ≤ 4096 := by have := HS.out.row.lenB; have := HC.out.2; omega
              have hr9 : Rise m 0 fs9 := by have := HC.out.1.rise; rw [HC.out.2] at this; exact this
              obtain ⟨S, hS⟩ : ∃ S, sumS fs9 = S := ⟨_, rfl⟩
              obtain ⟨E, hE⟩ : ∃ E, endF m fs9 = E := ⟨_, rfl⟩
              have HL := Lib.hid (fun (wq : World) (hb : Below w10.heap.size w10 wq) => show Calls Try.prog 24 #[.pointer (some ⟨g3, 0, none⟩)] wq fun r w' => r = .returned (.int .i64 S) ∧ Below wq.heap.size wq w' from by
                have := left_any wq g3 m fs9 A9 n9 c9 ((HT.out.on hb).map) hr9 (by omega)
                rw [hS] at this
                exact this)
              have HRL := Lib.hid (fun (wq : World) (hb : Below w10.heap.size w10 wq) => show Calls Try.prog 25 #[.agg #[.slice Au9 nu9 cu9]] wq fun r w' => r = .returned (.int .i64 S) ∧ Below wq.heap.size wq w' from by
                have := refLeft_sum wq _ Au9 nu9 cu9 u9 fs9 HC.out.1 ((HT.out.on hb).row) hnu
                rw [hS] at this
                exact this)
              have HE := Lib.hid (fun (wq : World) (hb : Below w10.heap.size w10 wq) => show Calls Try.prog 26 #[.pointer (some ⟨g3, 0, none⟩)] wq fun r w' => r = .returned (.int .i64 E) ∧ Below wq.heap.size wq w' from by
                have := end_map wq g3 m fs9 A9 n9 c9 ((HT.out.on hb).map) hr9 (by omega)
                rw [hE] at this
                exact this)
              have HRE := Lib.hid (fun (wq : World) (hb : Below w10.heap.size w10 wq) => show Calls Try.prog 27 #[.agg #[.slice Au9 nu9 cu9]] wq fun r w' => r = .returned (.int .i64 E) ∧ Below wq.heap.size wq w' from by
                have := refEnd_end wq _ Au9 nu9 cu9 u9 fs9 HC.out.1 ((HT.out.on hb).row) hnu (by have := HC.out.2; omega)
                rw [HC.out.2, hE] at this
                exact this)
              have HRF := Lib.hid (fun (wq : World) (hb : Below w10.heap.size w10 wq) => refFree_any wq _ Au9 nu9 cu9 u9 ((HT.out.on hb).row) hnu)
              clear hown hxf b10 hr9 hS hE HF
              go_wp2_with fail
              go_upto_region 19 with fail
              refine wp_region_held_drew (S := fun w' => Hid (Below w10.heap.size w10 w')) (by kernel_rfl) (Lib.hid (on_drew w10)) fun s0 => ?_
              refine take_to (i := 0) (v := .int .i64 z) rfl (by kernel_rfl) (by kernel_rfl) (by kernel_rfl) (fun _ _ _ h => h) (Or.inl ⟨by rfl, fun w' hS => by go_simp⟩) s0 (some 105) rfl ?_
              try simp only [Act.put, List.setIfInBounds_toArray, List.set_cons_zero, List.set_cons_succ]
              refine take_to (i := 1) (v := .int .i64 z) rfl (by kernel_rfl) (by kernel_rfl) (by kernel_rfl) (fun _ _ _ h => h) (Or.inl ⟨by rfl, fun w' hS => by go_simp⟩) s0 (some 106) rfl ?_
              try simp only [Act.put, List.setIfInBounds_toArray, List.set_cons_zero, List.set_cons_succ]
              refine take_to (i := 2) (v := .bool false) rfl (by kernel_rfl) (by kernel_rfl) (by kernel_rfl) (fun _ _ _ h => h) (Or.inl ⟨by rfl, fun w' hS => by go_simp⟩) s0 (some 107) rfl ?_
              try simp only [Act.put, List.setIfInBounds_toArray, List.set_cons_zero, List.set_cons_succ]
              refine take_to (i := 3) (v := .bool false) rfl (by kernel_rfl) (by kernel_rfl) (by kernel_rfl) (fun _ _ _ h => h) (Or.inl ⟨by rfl, fun w' hS => by go_simp⟩) s0 (some 108) rfl ?_
              try simp only [Act.put, List.setIfInBounds_toArray, List.set_cons_zero, List.set_cons_succ]
              refine take_to (i := 4) (v := .slice Af n9 cf) rfl (by kernel_rfl) (by kernel_rfl) (by kernel_rfl) (fun _ _ _ h => h) (Or.inl ⟨by rfl, fun w' hS => by go_simp⟩) s0 (some 109) rfl ?_
              try simp only [Act.put, List.setIfInBounds_toArray, List.set_cons_zero, List.set_cons_succ]
              refine take_to (i := 5) (v := .agg #[.slice Au9 nu9 cu9]) rfl (by kernel_rfl) (by kernel_rfl) (by kernel_rfl) (fun _ _ _ h => h) (Or.inl ⟨by rfl, fun w' hS => by have hc := (HT.out.on hS.out).box.cell 0; simp at hc; go_simp⟩) s0 (some 110) rfl ?_
              try simp only [Act.put, List.setIfInBounds_toArray, List.set_cons_zero, List.set_cons_succ]
              refine wpAnyH_ready (rs := [6]) (by kernel_rfl) (by simp) ?_
              refine AllReadyH.cons rfl (fun Kq hKq => ?_) AllReadyH.nil
              try refine if_then (by rfl) ?_
              go_simp
              refine Calls.mono (HRF.out _ s0.out) ?_
              rintro e wr1 ⟨Aq, nq, cq, fq, rfl, hxq, hcq, br⟩
              have s1 := Lib.hid (on_trans s0.out br)
              have hfq : fs9 = fq := HC.out.1.only hcq
              subst hfq
              have hnq : nq = n9 := by have := hxq.lenX; omega
              subst hnq
              have HSm := Lib.hid (same_any _ _ _ Af Aq nq cf cq fs9 (HN.out.2.1.on s1.out) hxq)
              clear hxq hcq
              refine hKq.out _ _ s1 fun _ => ?_
              clear hKq Kq br
              try simp only [Act.put, List.setIfInBounds_toArray, List.set_cons_zero, List.set_cons_succ]
              refine wpAnyH_ready (rs := [7]) (by kernel_rfl) (by simp) ?_
              refine AllReadyH.cons rfl (fun Kq hKq => ?_) AllReadyH.nil
              try refine if_then (by rfl) ?_
              go_simp
              refine Calls.mono (HSm.out) ?_
              rintro e wr2 ⟨rfl, br⟩
              have s2 := Lib.hid (on_trans s1.out br)

              refine hKq.out _ _ s2 fun _ => ?_
              clear hKq Kq br
              try simp only [Act.put, List.setIfInBounds_toArray, List.set_cons_zero, List.set_cons_succ]
              refine take_to (i := 8) (v := .bool false) rfl (by kernel_rfl) (by kernel_rfl) (by kernel_rfl) (fun _ _ _ h => h) (Or.inl ⟨by rfl, fun w' hS => by go_simp⟩) s2 (some 113) rfl ?_
              try simp only [Act.put, List.setIfInBounds_toArray, List.set_cons_zero, List.set_cons_succ]
              refine take_to (i := 9) (v := .bool false) rfl (by kernel_rfl) (by kernel_rfl) (by kernel_rfl) (fun _ _ _ h => h) (Or.inl ⟨by rfl, fun w' hS => by go_simp⟩) s2 (some 114) rfl ?_
              try simp only [Act.put, List.setIfInBounds_toArray, List.set_cons_zero, List.set_cons_succ]
              refine take_to (i := 10) (v := .bool false) rfl (by kernel_rfl) (by kernel_rfl) (by kernel_rfl) (fun _ _ _ h => h) (Or.inl ⟨by rfl, fun w' hS => by go_simp⟩) s2 (some 115) rfl ?_
              try simp only [Act.put, List.setIfInBounds_toArray, List.set_cons_zero, List.set_cons_succ]
              refine take_to (i := 11) (v := .pointer (some ⟨g3, 0, none⟩)) rfl (by kernel_rfl) (by kernel_rfl) (by kernel_rfl) (fun _ _ _ h => h) (Or.inl ⟨by rfl, fun w' hS => by go_simp⟩) s2 (some 116) rfl ?_
              try simp only [Act.put, List.setIfInBounds_toArray, List.set_cons_zero, List.set_cons_succ]
              refine take_to (i := 13) (v := .agg #[.slice Au9 nu9 cu9]) rfl (by kernel_rfl) (by kernel_rfl) (by kernel_rfl) (fun _ _ _ h => h) (Or.inl ⟨by rfl, fun w' hS => by have hc := (HT.out.on hS.out).box.cell 0; simp at hc; go_simp⟩) s2 (some 118) rfl ?_
              try simp only [Act.put, List.setIfInBounds_toArray, List.set_cons_zero, List.set_cons_succ]
              refine wpAnyH_ready (rs := [12]) (by kernel_rfl) (by simp) ?_
              refine AllReadyH.cons rfl (fun Kq hKq => ?_) AllReadyH.nil
              try refine if_then (by rfl) ?_
              go_simp
              refine Calls.mono (HL.out _ s2.out) ?_
              rintro e wr3 ⟨rfl, br⟩
              have s3 := Lib.hid (on_trans s2.out br)

              refine hKq.out _ _ s3 fun _ => ?_
              clear hKq Kq br
              try simp only [Act.put, List.setIfInBounds_toArray, List.set_cons_zero, List.set_cons_succ]
              refine wpAnyH_ready (rs := [14]) (by kernel_rfl) (by simp) ?_
              refine AllReadyH.cons rfl (fun Kq hKq => ?_) AllReadyH.nil
              try refine if_then (by rfl) ?_
              go_simp
              refine Calls.mono (HRL.out _ s3.out) ?_
              rintro e wr4 ⟨rfl, br⟩
              have s4 := Lib.hid (on_trans s3.out br)

              refine hKq.out _ _ s4 fun _ => ?_
              clear hKq Kq br
              try simp only [Act.put, List.setIfInBounds_toArray, List.set_cons_zero, List.set_cons_succ]
              refine take_to (i := 15) (v := .bool false) rfl (by kernel_rfl) (by kernel_rfl) (by kernel_rfl) (fun _ _ _ h => h) (Or.inl ⟨by rfl, fun w' hS => by go_simp⟩) s4 (some 120) rfl ?_
              try simp only [Act.put, List.setIfInBounds_toArray, List.set_cons_zero, List.set_cons_succ]
              refine take_to (i := 16) (v := .bool false) rfl (by kernel_rfl) (by kernel_rfl) (by kernel_rfl) (fun _ _ _ h => h) (Or.inl ⟨by rfl, fun w' hS => by go_simp⟩) s4 (some 121) rfl ?_
              try simp only [Act.put, List.setIfInBounds_toArray, List.set_cons_zero, List.set_cons_succ]
              refine take_to (i := 17) (v := .bool false) rfl (by kernel_rfl) (by kernel_rfl) (by kernel_rfl) (fun _ _ _ h => h) (Or.inl ⟨by rfl, fun w' hS => by go_simp⟩) s4 (some 122) rfl ?_
              try simp only [Act.put, List.setIfInBounds_toArray, List.set_cons_zero, List.set_cons_succ]
              refine take_to (i := 18) (v := .pointer (some ⟨g3, 0, none⟩)) rfl (by kernel_rfl) (by kernel_rfl) (by kernel_rfl) (fun _ _ _ h => h) (Or.inl ⟨by rfl, fun w' hS => by go_simp⟩) s4 (some 123) rfl ?_
              try simp only [Act.put, List.setIfInBounds_toArray, List.set_cons_zero, List.set_cons_succ]
              refine take_to (i := 20) (v := .agg #[.slice Au9 nu9 cu9]) rfl (by kernel_rfl) (by kernel_rfl) (by kernel_rfl) (fun _ _ _ h => h) (Or.inl ⟨by rfl, fun w' hS => by have hc := (HT.out.on hS.out).box.cell 0; simp at hc; go_simp⟩) s4 (some 125) rfl ?_
              try simp only [Act.put, List.setIfInBounds_toArray, List.set_cons_zero, List.set_cons_succ]
              refine wpAnyH_ready (rs := [19]) (by kernel_rfl) (by simp) ?_
              refine AllReadyH.cons rfl (fun Kq hKq => ?_) AllReadyH.nil
              try refine if_then (by rfl) ?_
              go_simp
              refine Calls.mono (HE.out _ s4.out) ?_
              rintro e wr5 ⟨rfl, br⟩
              have s5 := Lib.hid (on_trans s4.out br)

              refine hKq.out _ _ s5 fun _ => ?_
              clear hKq Kq br
              try simp only [Act.put, List.setIfInBounds_toArray, List.set_cons_zero, List.set_cons_succ]
              refine wpAnyH_ready (rs := [21]) (by kernel_rfl) (by simp) ?_
              refine AllReadyH.cons rfl (fun Kq hKq => ?_) AllReadyH.nil
              try refine if_then (by rfl) ?_
              go_simp
              refine Calls.mono (HRE.out _ s5.out) ?_
              rintro e wr6 ⟨rfl, br⟩
              have s6 := Lib.hid (on_trans s5.out br)

              refine hKq.out _ _ s6 fun _ => ?_
              clear hKq Kq br
              try simp only [Act.put, List.setIfInBounds_toArray, List.set_cons_zero, List.set_cons_succ]
              refine take_to (i := 22) (v := .bool false) rfl (by kernel_rfl) (by kernel_rfl) (by kernel_rfl) (fun _ _ _ h => h) (Or.inl ⟨by rfl, fun w' hS => by go_simp⟩) s6 (some 127) rfl ?_
              try simp only [Act.put, List.setIfInBounds_toArray, List.set_cons_zero, List.set_cons_succ]
              refine take_to (i := 23) (v := .bool false) rfl (by kernel_rfl) (by kernel_rfl) (by kernel_rfl) (fun _ _ _ h => h) (Or.inl ⟨by rfl, fun w' hS => by go_simp⟩) s6 (some 128) rfl ?_
              try simp only [Act.put, List.setIfInBounds_toArray, List.set_cons_zero, List.set_cons_succ]
              refine wpAnyH_done (by kernel_rfl) ?_ _
              have HZ := Lib.hid (HT.out.on s6.out)
              have hFr0 : ∃ gf, (0 < nq → Af = some ⟨gf, 0, none⟩) ∧ (0 < nq → Fr w9 wr6 gf nq cf 0 fs9) := by
                rcases Nat.eq_zero_or_pos nq with h | h
                · exact ⟨0, fun h2 => absurd h2 (by omega), fun h2 => absurd h2 (by omega)⟩
                · obtain ⟨gf, cf', hv, hg, hlt⟩ := ownsRow_some HN.out.1 (fun e => by have := Value.slice.inj e; omega)
                  have hvj := Value.slice.inj hv
                  obtain ⟨hA, _, hc⟩ := hvj
                  subst hA hc
                  exact ⟨gf, fun _ => rfl, fun _ => ⟨on_trans HN.out.2.2.1 s6.out, fs9, by have := HN.out.2.1.lenX; omega, fun _ _ => rfl, ownsRow_block HN.out.1 (fun g _ _ hh => s6.out.block g (Array.getElem?_eq_some_iff.1 hh).1)⟩⟩
              obtain ⟨gf, hAf, hFr⟩ := hFr0
              have HFr := Lib.hid (And.intro hAf hFr)
              have HB9 := Lib.hid (on_trans HN.out.2.2.1 s6.out)
              have hcf := HN.out.2.1.cap
              have hcf2 := HN.out.2.1.max
              unfold maxLen at hcf2
              clear hAf hFr
              go_wp2_with fail
              go_loopw [19, 131] (fun _ i wi => ∃ j : Nat, j ≤ nq ∧ i = .int .i64 (j : Int) ∧ Below w9.heap.size w9 wi ∧ (0 < nq → Fr w9 wi gf nq cf j fs9)) (fun _ i _ => nq - (intOf i).toNat)
              case atStart => exact ⟨0, by omega, rfl, HB9.out, HFr.out.2⟩
              case round =>
                obtain ⟨j, hj, rfl, hbi, hfi⟩ := hrel
                have HI := Lib.hid (And.intro hbi hfi)
                clear hbi hfi
                by_cases hjn : j < nq
                · have hA := HFr.out.1 (by omega)
                  subst hA
                  obtain ⟨f0, f1⟩ := (HI.out.2 (by omega)).get hjn
                  have hy9 := (show Rise m 0 fs9 from by have := HC.out.1.rise; rw [HC.out.2] at this; exact this).at_ _ (getD_mem (show j < fs9.length by rw [hlf]; exact hjn))
                  obtain ⟨xj, yj, hxy⟩ : ∃ xj yj : Int, fs9.getD j (0, 0) = (xj, yj) := ⟨_, _, rfl⟩
                  rw [hxy] at f0 hy9
                  simp only at f0 hy9
                  obtain ⟨p, hp⟩ : ∃ p, j * 2 = p := ⟨_, rfl⟩
                  have hst := (HI.out.2 (by omega)).step hjn (yj + 1)
                  rw [hp] at hst f0 f1
                  have HJ := Lib.hid hst
                  have hyb : 0 ≤ yj ∧ yj ≤ 4096 := by omega
                  clear hst hxy hy9
                  go_wp2_with fail
                  go_roundw
                  case rel => exact ⟨j + 1, by omega, by go_num, HJ.out.bel, fun _ => HJ.out⟩
                  case measure => simp [intOf]; omega
                · go_wp2_with fail
                  go_roundw
                  case rel => exact ⟨k + 1, by omega, by go_num, ⟨_, _, _, _, _, _, _, _, HS.out.on HI.out.1, HC.out.1, HC.out.2⟩⟩
                  case measure => simp [intOf]; omega
          · have HE9 := Lib.hid hPb
            clear hPb hwo wo
            go_wp2_with (go_at_call 11
                         refine Calls.mono (awake_any _) ?_
                         rintro e wz9 ⟨rfl, bz9⟩
                         have HZ9 := Lib.hid bz9
                         clear bz9)
            go_ret
            exact ⟨rfl, on_trans HE9.out HZ9.out⟩
      · have hF := (new_any w2 m _ _ n c2 l H2.out.1 HX.out.2.1 (by omega)).mono (R' := NewBad m l w2) fun r w' h => h.resolve_right fun h => h0 h.1
        obtain ⟨z, hz⟩ : ∃ z, newE m l = z := ⟨_, rfl⟩
        have hp := newE_pos h0
        rw [hz] at hp
        have hzb : (z != 0) = true := by simp; omega
        refine Calls.mono hF ?_
        rintro e w3 ⟨_, rfl, b3⟩
        have HR := (refNew_any w3 m _ A n c l (HX.out.1.on (on_trans H2.out.2.2 b3)) (by omega)).mono (R' := RBad m l w3) fun r w' h => h.resolve_right fun h => h0 h.1
        have HRn := Lib.hid HR
        have H3 := Lib.hid (on_trans H2.out.2.2 b3)
        clear hF b3 h0 HR
        rw [hz]
        go_wp2_with fail
        refine Calls.mono HRn.out ?_
        rintro e w4 ⟨_, rfl, b4⟩
        have H4 := Lib.hid (on_trans H3.out b4)
        clear b4
        rw [hz]
        clear hz
        go_wp2_with (go_at_call 11
                     refine Calls.mono (awake_any _) ?_
                     rintro e wz9 ⟨rfl, bz9⟩
                     have HZ9 := Lib.hid bz9
                     clear bz9)
        go_ret
        exact ⟨rfl, on_trans (on_trans H4.out (on_alloc _ _)) HZ9.out⟩
    · go_enter Try.func4, Try.ntmps4
      go_wp2_with (first
        | (go_at_call 10
           refine Calls.mono (few_any m A n c w) ?_
           rintro e w1 ⟨rfl, rfl⟩)
        | (go_at_call 11
           refine Calls.mono (awake_any _) ?_
           rintro e wz9 ⟨rfl, bz9⟩
           have HZ9 := Lib.hid bz9
           clear bz9))
      go_ret
      exact ⟨rfl, HZ9.out⟩
  · have hdf : decide (Few m n) = false := decide_eq_false hf
    clear hf
    go_enter Try.func4, Try.ntmps4
    go_wp2_with (first
      | (go_at_call 10
         refine Calls.mono (few_any m A n c w) ?_
         rintro e w1 ⟨rfl, rfl⟩)
      | (go_at_call 11
         refine Calls.mono (awake_any _) ?_
         rintro e wz9 ⟨rfl, bz9⟩
         have HZ9 := Lib.hid bz9
         clear bz9))
    go_ret
    exact ⟨rfl, HZ9.out⟩
end Go.Proofs.Ytcgajomngcgchaa
