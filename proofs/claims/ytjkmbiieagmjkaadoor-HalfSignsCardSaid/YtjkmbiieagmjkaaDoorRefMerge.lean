/-
  The contract of the reference's Merge.
-/
import Derived.Test.YtjkmbiieagmjkaaDoorRefMath
namespace Go.Proofs.YtjkmbiieagmjkaaDoor
open Go.RowKit

set_option maxRecDepth 10000 in
set_option maxHeartbeats 6400000 in
theorem refMerge_any (w : World) (f : List Int) (hT : Tab w) (hf : f.length = 256) : Calls Tryd.prog 10 #[fourV f] w (Tells w (mrgF f)) := by
  obtain ⟨cs, Z, w2, hfv, hZV, hZs, hz', hmk, hw2, hk, hsz⟩ := fr_boxed w f hT hf
  have hbd : ∀ w, (Instr.build 23 #[]).run Tryd.prog w = .ok (.agg Z) w := fun w => by rw [← hZV]; exact build0 w
  have H := Lib.hid (And.intro hk (And.intro hT (And.intro hf (And.intro hw2 (And.intro hZV.symm (And.intro hZs hsz))))))
  have HX := Lib.hid (show Box (w2.alloc (.cells Z 23)) (w.heap.size + 1 + 1) 23 Z by rw [← hsz]; exact Box.made _ _ _)
  rw [← hw2] at HX
  rw [hfv]
  obtain ⟨F, hF⟩ : ∃ F, F = mrgF f := ⟨_, rfl⟩
  rw [← hF]
  have HF := Lib.hid hF
  clear hT hf hfv hZV hZs hmk hw2 hk hsz hF
  go_enter Tryd.func10, Tryd.ntmps10
  go_wp2_with (first
    | ((with_reducible refine wpList_store_blk (o := ⟨none, _, _, _, _, _⟩) rfl (.tmp 4) (.tmp 14) rfl rfl (w.heap.size + 1 + 1) zeros64 rfl ?hy Z HX.out H.out.2.2.2.2.2.1 zeros_len ?_)
       case hy => exact H.out.2.2.2.2.1
       intro w4 b4 k4
       rw [H.out.2.2.2.1] at k4
       have H4 := Lib.hid (show Know w w4 [.blk (w.heap.size + 1 + 1) zeros64, .blk (w.heap.size + 1) zeros64, .four w.heap.size f] by
         rw [← H.out.2.2.2.2.2.2] at b4 k4 ⊢
         exact H.out.1.laid b4 k4)
       clear b4 k4)
    | fail)
  clear HX
  go_loopw [5] (fun i wr => ∃ m : Nat, m ≤ 4 ∧ i = .int .i64 m ∧ Wm f m ∧ Know w wr [.blk (w.heap.size + 1 + 1) zeros64, .blk (w.heap.size + 1) zeros64, .four w.heap.size f]) (fun i _ => 4 - (intOf i).toNat)
  case atStart => exact ⟨0, by omega, rfl, fun k hk => absurd hk (by omega), H4.out⟩
  case round =>
    obtain ⟨m, hm, rfl, hW, hR⟩ := hrel
    have HR := Lib.hid hR
    have HW := Lib.hid hW
    clear hR hW
    by_cases hlt : m < 4
    · have HSL := Lib.hid (sub_len H.out.2.2.1 hlt)
      have HLB := HR.out.f2.loadb hlt
      obtain ⟨b, hb⟩ : ∃ b, b = sub f m := ⟨_, rfl⟩
      rw [← hb] at HLB HSL
      have HB := Lib.hid hb
      have HLB := Lib.hid HLB
      clear hb
      go_wp2_with (first
        | (with_reducible refine wpList_load_to (op := ⟨some 21, _, _, _, _, _⟩) rfl 23 (.tmp 20) rfl (.pointer (some ⟨w.heap.size, m * 64, none⟩)) rfl (blkV b) HLB.out ?_)
        | fail)
      refine (refIn_any wr b (-1048576) 1048576 HSL.out).mono ?_
      rintro e w5 ⟨rfl, b5⟩
      have H5 := Lib.hid (HR.out.on b5)
      clear b5 HLB
      by_cases hw : Wi b (-1048576) 1048576
      · rw [decide_eq_true hw]
        have HM := Lib.hid (show Wm f (m + 1) from HW.out.more (by rw [← HB.out]; exact hw))
        clear hw
        go_wp2_with fail
        go_roundw
        case rel => exact ⟨m + 1, by omega, by go_num, HM.out, H5.out⟩
        case measure => simp [intOf]; omega
      · rw [decide_eq_false hw]
        have hE : mrgF f = (zeros64, 2) := mrgF_out (fun h => hw (by rw [HB.out]; exact w4_sub.1 h m hlt))
        have HE := Lib.hid (HF.out.trans hE)
        clear hw hE
        go_wp2_with (first
          | (with_reducible refine wpList_load_to (op := ⟨some 24, _, _, _, _, _⟩) rfl 23 (.tmp 4) rfl (.pointer (some ⟨w.heap.size + 1 + 1, 0, none⟩)) rfl (blkV zeros64) H5.out.b0.load ?_)
          | ((with_reducible refine wpList_store_blk (o := ⟨none, _, _, _, _, _⟩) rfl (.tmp 2) (.tmp 24) rfl rfl (w.heap.size + 1) zeros64 rfl rfl _ H5.out.b1.box rfl zeros_len ?_)
             intro w9 b9 k9
             have H9 := Lib.hid (And.intro b9 (H5.out.done (Nat.le_succ _) k9))
             clear b9 k9)
          | fail)
        refine bodyPost_ret (v := .tuple #[blkV zeros64, .int .i64 2]) (results_ct (fn := Tryd.f10) Tryd.results10 _ _ (w.heap.size + 1) _ _ rfl rfl (loadVar_blk H9.out.1)) rfl ?_
        exact ⟨by rw [HE.out], H9.out.2⟩
    · obtain rfl : m = 4 := by omega
      have hwf : W4 f (-1048576) 1048576 := w4_sub.2 HW.out
      have HE := Lib.hid (And.intro (HF.out.trans (mrgF_in hwf)) hwf)
      clear hwf
      go_wp2_with fail
      refine (parts_any wr).mono ?_
      rintro e w5 ⟨A, n, rfl, hI, hfar, b5⟩
      have hMg : Mg w w5 f zeros64 A n := ⟨HR.out.on b5, hI, fun b off e => by have := hfar b off e; have := HR.out.b0.box.lt; omega⟩
      obtain ⟨a, off, hA, _, _⟩ := hI.at_ (by omega)
      subst hA
      have HM := Lib.hid hMg
      clear hMg hI hfar b5
      have hTl := mrgL_len f
      have hput := fun u v hu hv => mrgL_put (f := f) (u := u) (v := v) hu hv
      obtain ⟨R, hR⟩ : ∃ R, R = mrgL f := ⟨_, rfl⟩
      rw [← hR] at hTl hput HE
      have HRR := Lib.hid (And.intro hTl hput)
      clear hTl hput hR
      go_wp2_with fail
      go_loopw [7] (fun i wr => ∃ u : Nat, u ≤ 8 ∧ i = .int .i64 u ∧ Mg w wr f (mix (8 * u) R zeros64) (some ⟨a, off, none⟩) n) (fun i _ => 8 - (intOf i).toNat)
      case atStart => exact ⟨0, by omega, rfl, by rw [Nat.mul_zero, mix_zero]; exact HM.out⟩
      case round =>
        obtain ⟨u, hu, rfl, hR⟩ := hrel
        have HR := Lib.hid hR
        clear hR
        by_cases hu8 : u < 8
        · go_wp2_with fail
          rw [show decide ((u : Int) < 8) = true from decide_eq_true (by omega)]
          go_loopw [8] (fun i wr => ∃ v : Nat, v ≤ 8 ∧ i = .int .i64 v ∧ Mg w wr f (mix (8 * u + v) R zeros64) (some ⟨a, off, none⟩) n) (fun i _ => 8 - (intOf i).toNat)
          case atStart => exact ⟨0, by omega, rfl, HR.out⟩
          case round =>
            obtain ⟨v, hv', rfl, hR⟩ := hrel
            have HR := Lib.hid hR
            clear hR
            by_cases hv8 : v < 8
            · go_wp2_with fail
              go_loopw [9, 10] (fun s i wr => ∃ p : Nat, p ≤ 2 ∧ s = .int .i64 (pT f u v p) ∧ i = .int .i64 p ∧ Mg w wr f (mix (8 * u + v) R zeros64) (some ⟨a, off, none⟩) n) (fun _ i _ => 2 - (intOf i).toNat)
              case atStart => exact ⟨0, by omega, rfl, rfl, HR.out⟩
              case round =>
                obtain ⟨p, hp, rfl, rfl, hR⟩ := hrel
                have HR := Lib.hid hR
                clear hR
                have hs := pT_small HE.out.2 hu8 hv8 hp
                by_cases hp2 : p < 2
                · have hm := pT_more f u v p
                  obtain ⟨s, hs'⟩ : ∃ s, s = pT f u v p := ⟨_, rfl⟩
                  rw [← hs'] at hs hm
                  obtain ⟨s0, s1⟩ := hs
                  have HP := Lib.hid hm
                  rw [← hs']
                  clear hs' hm
                  go_wp2_with fail
                  go_loopw [9, 11] (fun s' i wr => ∃ q : Nat, q ≤ 2 ∧ s' = .int .i64 (s + qT f u v p q) ∧ i = .int .i64 q ∧ Mg w wr f (mix (8 * u + v) R zeros64) (some ⟨a, off, none⟩) n) (fun _ i _ => 2 - (intOf i).toNat)
                  case atStart => exact ⟨0, by omega, by show Value.int .i64 s = .int .i64 (s + 0); rw [Int.add_zero], rfl, HR.out⟩
                  case round =>
                    obtain ⟨q, hq, rfl, rfl, hR⟩ := hrel
                    have HR := Lib.hid hR
                    clear hR
                    have ht := qT_small HE.out.2 hu8 hv8 hp2 hq
                    by_cases hq2 : q < 2
                    · have hm := qT_more f u v p q
                      obtain ⟨t, ht'⟩ : ∃ t, t = qT f u v p q := ⟨_, rfl⟩
                      rw [← ht'] at ht hm
                      rw [← ht']
                      obtain ⟨r, hr⟩ : ∃ r, r = s + t := ⟨_, rfl⟩
                      rw [← hr]
                      obtain ⟨r0, r1⟩ : -844244541505536 ≤ r ∧ r ≤ 844244541505536 := by omega
                      have HQ := Lib.hid (And.intro hm hr)
                      clear ht' hm hr ht
                      go_wp2_with fail
                      go_loopw [9, 12] (fun s' i wr => ∃ k : Nat, k ≤ 4 ∧ s' = .int .i64 (r + iT f u v p q k) ∧ i = .int .i64 k ∧ Mg w wr f (mix (8 * u + v) R zeros64) (some ⟨a, off, none⟩) n) (fun _ i _ => 4 - (intOf i).toNat)
                      case atStart => exact ⟨0, by omega, by show Value.int .i64 r = .int .i64 (r + 0); rw [Int.add_zero], rfl, HR.out⟩
                      case round =>
                        obtain ⟨i, hi, rfl, rfl, hR⟩ := hrel
                        have HR := Lib.hid hR
                        clear hR
                        have hx := iT_small HE.out.2 hu8 hv8 hp2 hq2 hi
                        by_cases hi4 : i < 4
                        · have hm := iT_more f u v p q i
                          obtain ⟨x, hx'⟩ : ∃ x, x = iT f u v p q i := ⟨_, rfl⟩
                          rw [← hx'] at hx hm
                          rw [← hx']
                          obtain ⟨y, hy⟩ : ∃ y, y = r + x := ⟨_, rfl⟩
                          rw [← hy]
                          obtain ⟨y0, y1⟩ : -984951965089792 ≤ y ∧ y ≤ 984951965089792 := by omega
                          have HY := Lib.hid (And.intro hm hy)
                          clear hx' hm hy hx
                          go_wp2_with fail
                          go_loopw [9, 13] (fun s' i' wr => ∃ k : Nat, k ≤ 4 ∧ s' = .int .i64 (y + kT f u v p q i k) ∧ i' = .int .i64 k ∧ Mg w wr f (mix (8 * u + v) R zeros64) (some ⟨a, off, none⟩) n) (fun _ i' _ => 4 - (intOf i').toNat)
                          case atStart => exact ⟨0, by omega, by show Value.int .i64 y = .int .i64 (y + 0); rw [Int.add_zero], rfl, HR.out⟩
                          case round =>
                            obtain ⟨k, hk, rfl, rfl, hR⟩ := hrel
                            have HR := Lib.hid hR
                            clear hR
                            have hc := kT_small HE.out.2 hu8 hv8 hp2 hq2 hi4 hk
                            by_cases hk4 : k < 4
                            · have hcell := fun j (hj : j < 64) => il_cell HR.out.il hj
                              have c1 : wr.cell? ⟨a, off + (32 * p + 4 * u + i), none⟩ = some (.int .i64 (hv p u i)) := hcell _ (by omega)
                              have c2 : wr.cell? ⟨a, off + (32 * q + 4 * v + k), none⟩ = some (.int .i64 (hv q v k)) := hcell _ (by omega)
                              have c3 := HR.out.know.f2.cellF (m := 2 * p + q) (j := 8 * i + k) (by omega) (by omega)
                              have a1 := hv_small p hp2 u hu8 i hi4
                              have a2 := hv_small q hq2 v hv8 k hk4
                              have a3 := HE.out.2 (2 * p + q) (by omega) (8 * i + k) (by omega)
                              have hm := kT_more f u v p q i k
                              unfold trm at hm
                              obtain ⟨c, hc'⟩ : ∃ c, c = kT f u v p q i k := ⟨_, rfl⟩
                              obtain ⟨d1, hd1⟩ : ∃ d, d = hv p u i := ⟨_, rfl⟩
                              obtain ⟨d2, hd2⟩ : ∃ d, d = hv q v k := ⟨_, rfl⟩
                              obtain ⟨d3, hd3⟩ : ∃ d, d = fo f (2 * p + q) (8 * i + k) := ⟨_, rfl⟩
                              rw [← hc'] at hc hm
                              rw [← hd1] at c1 a1 hm
                              rw [← hd2] at c2 a2 hm
                              rw [← hd3] at c3 a3 hm
                              have e1 := prodHH a1.1 a1.2 a2.1 a2.2
                              obtain ⟨m1, hm1⟩ : ∃ m, m = d1 * d2 := ⟨_, rfl⟩
                              rw [← hm1] at e1 hm
                              have e2 := prod3_small e1.1 e1.2 a3.1 a3.2
                              obtain ⟨m2, hm2⟩ : ∃ m, m = m1 * d3 := ⟨_, rfl⟩
                              rw [← hm2] at e2 hm
                              have hdd := hm1.symm
                              have hmd := hm2.symm
                              rw [← hc']
                              obtain ⟨z, hzz⟩ : ∃ z, z = y + c := ⟨_, rfl⟩
                              rw [← hzz]
                              obtain ⟨z0, z1⟩ : -1020128820985856 ≤ z ∧ z ≤ 1020128820985856 := by omega
                              obtain ⟨g0, g1⟩ := e1
                              obtain ⟨g2, g3⟩ := e2
                              have HN := Lib.hid (And.intro hm hzz)
                              clear hcell hc' hd1 hd2 hd3 hm1 hm2 hm hzz a1 a2 a3 hc
                              go_wp2_with fail
                              go_region
                              go_wp2_with fail
                              go_roundw
                              case rel =>
                                refine ⟨k + 1, by omega, ?_, by go_num, HR.out.on (on_drew _)⟩
                                rw [HN.out.1, ← Int.add_assoc, ← HN.out.2]
                              case measure => simp [intOf]; omega
                            · obtain rfl : k = 4 := by omega
                              go_wp2_with fail
                              go_roundw
                              case rel =>
                                refine ⟨i + 1, by omega, ?_, by go_num, HR.out⟩
                                rw [HY.out.1, ← Int.add_assoc, ← HY.out.2]
                              case measure => simp [intOf]; omega
                        · obtain rfl : i = 4 := by omega
                          go_wp2_with fail
                          go_roundw
                          case rel =>
                            refine ⟨q + 1, by omega, ?_, by go_num, HR.out⟩
                            rw [HQ.out.1, ← Int.add_assoc, ← HQ.out.2]
                          case measure => simp [intOf]; omega
                    · obtain rfl : q = 2 := by omega
                      go_wp2_with fail
                      go_roundw
                      case rel =>
                        refine ⟨p + 1, by omega, ?_, by go_num, HR.out⟩
                        rw [HP.out]
                      case measure => simp [intOf]; omega
                · obtain rfl : p = 2 := by omega
                  have hm := HRR.out.2 u v hu8 hv8
                  rw [← pT_all] at hm
                  obtain ⟨s, hs'⟩ : ∃ s, s = pT f u v 2 := ⟨_, rfl⟩
                  rw [← hs'] at hs hm ⊢
                  obtain ⟨s0, s1⟩ := hs
                  have HS := Lib.hid hm
                  have c1 := HR.out.know.b0.cell (k := 8 * u + v) (by omega)
                  have hfr := HR.out.know.b0.free (8 * u + v)
                  obtain ⟨x, hx⟩ : ∃ x, x = (mix (8 * u + v) R zeros64).getD (8 * u + v) 0 := ⟨_, rfl⟩
                  rw [← hx] at c1
                  clear hs' hm hx
                  go_wp2_with fail
                  refine (refRound_any wr s 33554432 (by unfold isInt; omega) (by unfold isInt; omega)).mono ?_
                  rintro e w7 ⟨rfl, rfl⟩
                  obtain ⟨z, hzz⟩ : ∃ z, z = rnd s 33554432 := ⟨_, rfl⟩
                  rw [← hzz] at HS ⊢
                  clear hzz
                  go_wp2_with fail
                  go_roundw
                  case rel =>
                    refine ⟨v + 1, by omega, by go_num, ?_⟩
                    rw [← HS.out]
                    exact HR.out.put H.out.2.1 _ _
                  case measure => simp [intOf]; omega
            · obtain rfl : v = 8 := by omega
              have hR := HR.out
              rw [show 8 * u + 8 = 8 * (u + 1) by omega] at hR
              have HR := Lib.hid hR
              clear hR
              go_wp2_with fail
              go_roundw
              case rel => exact ⟨u + 1, by omega, by go_num, HR.out⟩
              case measure => simp [intOf]; omega
        · obtain rfl : u = 8 := by omega
          have hR := HR.out
          rw [show 8 * 8 = 64 from rfl, mix_all HRR.out.1 zeros_len] at hR
          have HR := Lib.hid hR
          clear hR
          go_wp2_with (first
            | (with_reducible refine wpList_load_to (op := ⟨some 92, _, _, _, _, _⟩) rfl 23 (.tmp 4) rfl (.pointer (some ⟨w.heap.size + 1 + 1, 0, none⟩)) rfl (blkV R) HR.out.know.b0.load ?_)
            | ((with_reducible refine wpList_store_blk (o := ⟨none, _, _, _, _, _⟩) rfl (.tmp 2) (.tmp 92) rfl rfl (w.heap.size + 1) R rfl rfl _ HR.out.know.b1.box rfl HRR.out.1 ?_)
               intro w9 b9 k9
               have H9 := Lib.hid (And.intro b9 (HR.out.know.done (Nat.le_succ _) k9))
               clear b9 k9)
            | fail)
          refine bodyPost_ret (v := .tuple #[blkV R, .int .i64 0]) (results_ct (fn := Tryd.f10) Tryd.results10 _ _ (w.heap.size + 1) _ _ rfl rfl (loadVar_blk H9.out.1)) rfl ?_
          exact ⟨by rw [HE.out.1], H9.out.2⟩
end Go.Proofs.YtjkmbiieagmjkaaDoor
