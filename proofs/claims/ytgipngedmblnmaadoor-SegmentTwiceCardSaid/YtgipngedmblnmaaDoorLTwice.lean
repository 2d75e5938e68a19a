/-
  SegmentTwice: tables that are read twice are known as when they were read once: the walk.
-/
import Derived.Test.YtgipngedmblnmaaDoorLOwn
import Derived.Test.YtgipngedmblnmaaDoorLSame
import Derived.Test.YtgipngedmblnmaaDoorLMath
namespace Go.Proofs.YtgipngedmblnmaaDoor
open Go.RowKit

theorem KnO.knr {lo : Nat} {w : World} {K : Kv} {X : Nat → Value} (h : KnO lo w K X) : KnR w K X := ⟨h.wt, h.one, fun j hj => by obtain ⟨A, n, c, e, hi, _⟩ := h.sl j hj; exact ⟨A, n, c, e, hi.ia⟩⟩
set_option maxRecDepth 10000 in
set_option maxHeartbeats 12800000 in
theorem twice_calls (w : World) (A : Option Addr) (n c : Nat) (l : List Int) (hT : Tab w) (hl : Sl w (fun _ => True) A n c l) : Calls Tryd.prog 6 #[.slice A n c] w (Law w) := by
  have hlen := hl.len
  have hpos0 : 0 < w.heap.size := hT.zero
  obtain ⟨Z, hZ⟩ : ∃ Z, Z = (kvC kz X0).toArray := ⟨_, rfl⟩
  have hz' : ∀ w, (zeroValue 46).run Tryd.prog w = .ok (.agg Z) w := fun w => by rw [hZ]; exact zero46 w
  have hbz : ∀ w, (Instr.build 46 #[]).run Tryd.prog w = .ok (.agg Z) w := fun w => by rw [hZ]; exact build46 w
  have HZ0 := Lib.hid hZ
  have HZ := Lib.hid (show Z.size = 210 by rw [hZ, kvC_size])
  have H0 := Lib.hid (And.intro hl hT)
  clear hl hT hZ
  by_cases hn : (4000 : Int) < (n : Int)
  · skip
    have HA := Lib.hid (awake_any w H0.out.2)
    go_enter Tryd.func6, Tryd.ntmps6
    go_wp2_with fail
    refine Calls.mono HA.out ?_
    rintro e w3 ⟨rfl, b3⟩
    have H3 := Lib.hid b3
    clear b3
    go_wp2_with fail
    go_ret
    exact ⟨rfl, H3.out⟩
  go_enter Tryd.func6, Tryd.ntmps6
  go_wp2_with (first
    | ((with_reducible refine wpList_append_z (o := ⟨some 14, _, _, _, _, _⟩) rfl (.tmp 12) (.tmp 13) rfl w.heap.size (.slice (some ⟨w.heap.size, 0, none⟩) 0 0) 0 [] rfl (World.ownsRow_made w #[] 0 (Nat.le_refl _) (Nat.zero_le _) rfl) _ A n c l rfl (H0.out.1.kept (Kept.of_below (on_alloc w (.cells #[] 5)) (fun _ => False)) (fun _ _ e => e)) ?h63 ?hba ?_)
       case h63 => omega
       case hba => simp
       intro v2 w2 g2
       obtain ⟨m2, hm2⟩ : ∃ m, m = 0 + n := ⟨_, rfl⟩
       rw [← hm2] at g2
       have Hm2 := Lib.hid hm2
       obtain ⟨A2, c2, hv2⟩ := g2.val
       subst hv2
       obtain ⟨A2', c2', e2, sl2⟩ := sl_of_own g2.own (by rw [List.nil_append]; exact H0.out.1.bts.fit)
       cases e2
       rw [List.nil_append] at sl2
       have b2 : Below w.heap.size w w2 := (on_alloc w (.cells #[] 5)).trans (g2.kep.below (by simp) (fun i hi e => by have : w.heap.size = i := by injection e
                                                                                                                       omega))
       have H2 := Lib.hid (And.intro sl2 b2)
       clear g2 sl2 b2 hm2)
    | fail)
  have hrd := read_any w2 _ A2 m2 c2 l kz X0 H2.out.1 (by have := Hm2.out; omega) (kz_kno 0 _).knr (fun j _ => Nat.zero_le _) (H0.out.2.on H2.out.2)
  obtain ⟨R, hR⟩ : ∃ R, R = readF l kz := ⟨_, rfl⟩
  rw [← hR, show kvV kz X0 = .agg Z by rw [HZ0.out]; rfl] at hrd
  have HRd := Lib.hid hrd
  have HR := Lib.hid hR
  have HTw := Lib.hid (show readF l R.1 = R by rw [hR]; exact readF_twice l)
  clear hrd hR
  refine Calls.mono HRd.out ?_
  rintro e w3 ⟨X1, rfl, kn3, b3⟩
  obtain ⟨VK1, hVK1⟩ : ∃ V, V = kvV R.1 X1 := ⟨_, rfl⟩
  rw [← hVK1]
  have HVK1 := Lib.hid hVK1
  have H3 := Lib.hid (And.intro kn3 (And.intro kn3.one b3))
  clear kn3 b3 hVK1 HRd
  obtain ⟨g3, hg3⟩ : ∃ g, g = w3.heap.size := ⟨_, rfl⟩
  go_upto_region 4 with (first
    | ((with_reducible refine wpList_store_kv (o := ⟨none, _, _, _, _, _⟩) rfl (.tmp 3) (.tmp 17) rfl rfl w3.heap.size R.1 X1 H3.out.2.1 rfl ?hy Z (Box.made _ _ _) HZ.out ?_)
       case hy => exact HVK1.out
       intro w5 b5 k5
       have H4 := Lib.hid (And.intro b5 k5)
       clear b5 k5)
    | fail)
  have b35 : Below w3.heap.size w3 w5 := (on_alloc w3 (.cells Z 46)).trans (H4.out.2.below (by simp) (fun i hi e => by omega))
  have b05 : Below w.heap.size w w5 := on_trans (on_trans H2.out.2 H3.out.2.2) b35
  have bx5 : Box w5 g3 46 (kvC R.1 X1).toArray := by rw [hg3]; exact H4.out.1
  have H5 := Lib.hid (And.intro (H0.out.1.kept (Kept.of_below b05 (fun _ => False)) (fun _ _ e => e)) (And.intro b05 (And.intro (H0.out.2.on b05) (And.intro (H3.out.1.knr.on b35) (And.intro bx5 (fun j (_ : j < 4) => show (R.1.tb.V j).length ≤ 100000 from by rw [HR.out]; exact readF_short l (by omega) j))))))
  rw [← hg3]
  have HLK := Lib.hid (fun (w' : World) (k : Below w5.heap.size w5 w') => (show (Instr.loadAt 46 (.pointer (some ⟨g3, 0, none⟩))).run Tryd.prog w' = .ok VK1 w' by rw [HVK1.out]; exact (bx5.on k).loadK))
  clear b35 b05 bx5 hg3 H4
  refine wp_region_held_drew (S := fun w' => Hid (Below w5.heap.size w5 w')) (by kernel_rfl) (Lib.hid (on_drew w5)) fun s0 => ?_
  refine take_to (i := 1) (v := .slice A n c) rfl (by kernel_rfl) (by kernel_rfl) (by kernel_rfl) (fun _ _ _ h => h) (Or.inl ⟨by rfl, fun w' hS => by go_simp⟩) s0 (some 21) rfl ?_
  simp only [Act.put, List.setIfInBounds_toArray, List.set_cons_zero, List.set_cons_succ]
  refine take_to (i := 3) rfl (by kernel_rfl) (by kernel_rfl) (by kernel_rfl) (fun _ _ _ h => h) (yieldsIf_load (by rfl) 46 _ rfl (.pointer (some ⟨g3, 0, none⟩)) rfl VK1 (fun w' hS => HLK.out w' hS.out)) s0 (some 23) rfl ?_
  simp only [Act.put, List.setIfInBounds_toArray, List.set_cons_zero, List.set_cons_succ]
  obtain ⟨wd, hwd⟩ : ∃ x : World, x = w5.drew := ⟨_, rfl⟩
  rw [← hwd] at s0 ⊢
  clear hwd
  have HSl := Lib.hid H5.out.1
  refine wpAnyH_ready (rs := [0, 8]) (by kernel_rfl) (by simp) ?_
  refine AllReadyH.cons rfl (fun Kq hKq => ?_) (AllReadyH.cons rfl (fun Kq hKq => ?_) AllReadyH.nil)
  · go_simp
    obtain ⟨gb, hgb⟩ : ∃ g, g = wd.heap.size := ⟨_, rfl⟩
    obtain ⟨wb, hwb⟩ : ∃ x, wd.alloc (.cells #[] 5) = x := ⟨_, rfl⟩
    have kb : Below wd.heap.size wd wb := by rw [← hwb]; exact on_alloc _ _
    have Ownb := Lib.hid (show wb.ownsRow gb 5 1 (.slice (some ⟨gb, 0, none⟩) 0 0) 0 (cellsOf []) by rw [← hwb, hgb]; exact World.ownsRow_made _ #[] 0 (Nat.le_refl _) (Nat.zero_le _) rfl)
    have hgw : w5.heap.size ≤ gb := by rw [hgb]; exact s0.out.size
    have hgwb : gb < wb.heap.size := by rw [← hwb, hgb]; simp
    have s1 := Lib.hid (on_trans s0.out kb)
    rw [hwb, ← hgb]
    clear hwb hgb kb
    refine hKq.out _ _ s1 fun _ => ?_
    clear hKq Kq s0
    have s0 := s1
    clear s1
    refine wpAnyH_ready (rs := [2, 8]) (by kernel_rfl) (by simp) ?_
    refine AllReadyH.cons rfl (fun Kq hKq => ?_) (AllReadyH.cons rfl (fun Kq hKq => ?_) AllReadyH.nil)
    · refine step_append_z rfl (.tmp 20) (.tmp 21) rfl gb (.slice (some ⟨gb, 0, none⟩) 0 0) 0 [] rfl Ownb.out _ A n c l rfl (HSl.out.kept (Kept.of_below s0.out (fun _ => False)) (fun _ _ e => e)) (by omega) (Nat.le_of_lt hgwb) (some 22) rfl ?_
      intro v6 w6 g6
      obtain ⟨m6, hm6⟩ : ∃ m, m = 0 + n := ⟨_, rfl⟩
      rw [← hm6] at g6
      have Hm6 := Lib.hid hm6
      obtain ⟨A6, c6, hv6⟩ := g6.val
      subst hv6
      obtain ⟨A6', c6', e6, sl6⟩ := sl_of_own g6.own (by rw [List.nil_append]; exact HSl.out.bts.fit)
      cases e6
      rw [List.nil_append] at sl6
      have b56 : Below w5.heap.size w5 w6 := s0.out.trans (g6.kep.below s0.out.size (fun i hi e => by
        have : gb = i := by injection e
        omega))
      have s1 := Lib.hid b56
      have H6 := Lib.hid sl6
      clear g6 sl6 b56 hm6
      refine hKq.out _ _ s1 fun _ => ?_
      clear hKq Kq s0
      have s0 := s1
      clear s1
      refine wpAnyH_ready (rs := [4, 8]) (by kernel_rfl) (by simp) ?_
      refine AllReadyH.cons rfl (fun Kq hKq => ?_) (AllReadyH.cons rfl (fun Kq hKq => ?_) AllReadyH.nil)
      · go_simp
        have hrd := read_any w6 _ A6 m6 c6 l R.1 X1 H6.out (by have := Hm6.out; omega) (H5.out.2.2.2.1.on s0.out) H5.out.2.2.2.2.2 (H5.out.2.2.1.on s0.out)
        rw [← HVK1.out, HTw.out] at hrd
        refine hrd.mono ?_
        rintro e w7 ⟨X2, rfl, kn7, b7⟩
        obtain ⟨VK2, hVK2⟩ : ∃ V, V = kvV R.1 X2 := ⟨_, rfl⟩
        rw [← hVK2]
        have H7 := Lib.hid (And.intro hVK2 (And.intro kn7 kn7.one))
        have s1 := Lib.hid (on_trans s0.out b7)
        clear hVK2 kn7 b7 hrd
        refine hKq.out _ _ s1 fun _ => ?_
        clear hKq Kq s0
        have s0 := s1
        clear s1
        refine take_to (i := 5) (v := .tuple #[VK2, .int .i64 R.2]) rfl (by kernel_rfl) (by kernel_rfl) (by kernel_rfl) (fun _ _ _ h => h) (Or.inl ⟨by rfl, fun w' hS => by go_simp⟩) s0 (some 19) rfl ?_
        simp only [Act.put, List.setIfInBounds_toArray, List.set_cons_zero, List.set_cons_succ]
        refine take_to (i := 6) (v := VK2) rfl (by kernel_rfl) (by kernel_rfl) (by kernel_rfl) (fun _ _ _ h => h) (Or.inl ⟨by rfl, fun w' hS => by go_simp⟩) s0 (some 25) rfl ?_
        simp only [Act.put, List.setIfInBounds_toArray, List.set_cons_zero, List.set_cons_succ]
        refine take_to (i := 7) (v := .int .i64 R.2) rfl (by kernel_rfl) (by kernel_rfl) (by kernel_rfl) (fun _ _ _ h => h) (Or.inl ⟨by rfl, fun w' hS => by go_simp⟩) s0 (some 26) rfl ?_
        simp only [Act.put, List.setIfInBounds_toArray, List.set_cons_zero, List.set_cons_succ]
        refine wpAnyH_ready (rs := [8]) (by kernel_rfl) (by simp) ?_
        refine AllReadyH.cons rfl (fun Kq hKq => ?_) AllReadyH.nil
        go_simp
        obtain ⟨g8, hg8⟩ : ∃ g, g = w7.heap.size := ⟨_, rfl⟩
        obtain ⟨wg, hwg⟩ : ∃ x, w7.alloc (.cells Z 46) = x := ⟨_, rfl⟩
        have kg : Below w7.heap.size w7 wg := by rw [← hwg]; exact on_alloc _ _
        have hg8w : w5.heap.size ≤ g8 := by rw [hg8]; exact s0.out.size
        have Hg8 := Lib.hid (show Box wg g8 46 Z by rw [← hwg, hg8]; exact Box.made _ _ _)
        replace H7 := Lib.hid (And.intro H7.out.1 (And.intro (H7.out.2.1.on kg) H7.out.2.2))
        have s1 := Lib.hid (on_trans s0.out kg)
        rw [hwg, ← hg8]
        clear hwg hg8 kg
        refine hKq.out _ _ s1 fun _ => ?_
        clear hKq Kq s0
        have s0 := s1
        clear s1
        refine wpAnyH_ready (rs := [9]) (by kernel_rfl) (by simp) ?_
        refine AllReadyH.cons rfl (fun Kq hKq => ?_) AllReadyH.nil
        rw [if_pos (by rfl)]
        refine wp_store_kv _ _ rfl rfl g8 R.1 X2 H7.out.2.2 rfl H7.out.1 Z Hg8.out HZ.out fun w8 b8 k8 => ?_
        have hg5 : w5.heap.size ≤ g8 := hg8w
        have kn8 := H7.out.2.1.kept k8 (fun i e cs hb => by subst e; exact Hg8.out.apart hb (by decide) rfl)
        have b58 : Below w5.heap.size w5 w8 := s0.out.trans (k8.below s0.out.size (fun i hi e => by omega))
        have s1 := Lib.hid b58
        have H8 := Lib.hid (And.intro b8 (And.intro kn8 (And.intro H7.out.1 b58)))
        clear b8 k8 kn8 b58 hg5
        refine hKq.out _ _ s1 fun _ => ?_
        clear hKq Kq s0
        have s0 := s1
        clear s1
        refine take_to (i := 10) (v := .int .i64 R.2) rfl (by kernel_rfl) (by kernel_rfl) (by kernel_rfl) (fun _ _ _ h => h) (Or.inl ⟨by rfl, fun w' hS => by go_simp⟩) s0 (some 6) rfl ?_
        simp only [Act.put, List.setIfInBounds_toArray, List.set_cons_zero, List.set_cons_succ]
        refine wpAnyH_done (by kernel_rfl) ?_ _
        have HLa := Lib.hid (show (Instr.loadAt 46 (.pointer (some ⟨g3, 0, none⟩))).run Tryd.prog w8 = .ok VK1 w8 from HLK.out w8 H8.out.2.2.2)
        have HLb := Lib.hid (show (Instr.loadAt 46 (.pointer (some ⟨g8, 0, none⟩))).run Tryd.prog w8 = .ok VK2 w8 by rw [H8.out.2.2.1]; exact H8.out.1.loadK)
        have HSm := Lib.hid (show Calls Tryd.prog 17 #[VK1, VK2] w8 (Law w8) by rw [HVK1.out, H8.out.2.2.1]; exact same_any w8 R.1 X1 X2 (H5.out.2.2.2.1.on H8.out.2.2.2) H8.out.2.1.knr)
        have H8b := Lib.hid (And.intro (on_trans H5.out.2.1 H8.out.2.2.2) (H5.out.2.2.1.on H8.out.2.2.2))
        go_wp2_with (first
          | (with_reducible refine wpList_load_to (op := ⟨some 27, _, _, _, _, _⟩) rfl 46 (.tmp 3) rfl (.pointer (some ⟨g3, 0, none⟩)) rfl VK1 HLa.out ?_)
          | (with_reducible refine wpList_load_to (op := ⟨some 28, _, _, _, _, _⟩) rfl 46 (.tmp 5) rfl (.pointer (some ⟨g8, 0, none⟩)) rfl VK2 HLb.out ?_)
          | fail)
        refine Calls.mono HSm.out ?_
        rintro e w9 ⟨rfl, b9⟩
        have HA := Lib.hid (awake_any w9 (H8b.out.2.on b9))
        have H9 := Lib.hid (on_trans H8b.out.1 b9)
        clear b9 HSm
        go_wp2_with fail
        refine Calls.mono HA.out ?_
        rintro e w10 ⟨rfl, b10⟩
        have H10 := Lib.hid (on_trans H9.out b10)
        clear b10 HA
        go_wp2_with fail
        go_ret
        exact ⟨rfl, H10.out⟩
      · go_simp
        obtain ⟨g8, hg8⟩ : ∃ g, g = w6.heap.size := ⟨_, rfl⟩
        obtain ⟨wg, hwg⟩ : ∃ x, w6.alloc (.cells Z 46) = x := ⟨_, rfl⟩
        have kg : Below w6.heap.size w6 wg := by rw [← hwg]; exact on_alloc _ _
        have hg8w : w5.heap.size ≤ g8 := by rw [hg8]; exact s0.out.size
        have Hg8 := Lib.hid (show Box wg g8 46 Z by rw [← hwg, hg8]; exact Box.made _ _ _)
        replace H6 := Lib.hid (H6.out.kept (Kept.of_below kg (fun _ => False)) (fun _ _ e => e))
        have s1 := Lib.hid (on_trans s0.out kg)
        rw [hwg, ← hg8]
        clear hwg hg8 kg
        refine hKq.out _ _ s1 fun _ => ?_
        clear hKq Kq s0
        have s0 := s1
        clear s1
        refine wpAnyH_ready (rs := [4]) (by kernel_rfl) (by simp) ?_
        refine AllReadyH.cons rfl (fun Kq hKq => ?_) AllReadyH.nil
        go_simp
        have hrd := read_any wg _ A6 m6 c6 l R.1 X1 H6.out (by have := Hm6.out; omega) (H5.out.2.2.2.1.on s0.out) H5.out.2.2.2.2.2 (H5.out.2.2.1.on s0.out)
        rw [← HVK1.out, HTw.out] at hrd
        refine hrd.mono ?_
        rintro e w7 ⟨X2, rfl, kn7, b7⟩
        obtain ⟨VK2, hVK2⟩ : ∃ V, V = kvV R.1 X2 := ⟨_, rfl⟩
        rw [← hVK2]
        have H7 := Lib.hid (And.intro hVK2 (And.intro kn7 kn7.one))
        replace Hg8 := Lib.hid (Hg8.out.on b7)
        have s1 := Lib.hid (on_trans s0.out b7)
        clear hVK2 kn7 b7 hrd
        refine hKq.out _ _ s1 fun _ => ?_
        clear hKq Kq s0
        have s0 := s1
        clear s1
        refine take_to (i := 5) (v := .tuple #[VK2, .int .i64 R.2]) rfl (by kernel_rfl) (by kernel_rfl) (by kernel_rfl) (fun _ _ _ h => h) (Or.inl ⟨by rfl, fun w' hS => by go_simp⟩) s0 (some 19) rfl ?_
        simp only [Act.put, List.setIfInBounds_toArray, List.set_cons_zero, List.set_cons_succ]
        refine take_to (i := 6) (v := VK2) rfl (by kernel_rfl) (by kernel_rfl) (by kernel_rfl) (fun _ _ _ h => h) (Or.inl ⟨by rfl, fun w' hS => by go_simp⟩) s0 (some 25) rfl ?_
        simp only [Act.put, List.setIfInBounds_toArray, List.set_cons_zero, List.set_cons_succ]
        refine take_to (i := 7) (v := .int .i64 R.2) rfl (by kernel_rfl) (by kernel_rfl) (by kernel_rfl) (fun _ _ _ h => h) (Or.inl ⟨by rfl, fun w' hS => by go_simp⟩) s0 (some 26) rfl ?_
        simp only [Act.put, List.setIfInBounds_toArray, List.set_cons_zero, List.set_cons_succ]
        refine wpAnyH_ready (rs := [9]) (by kernel_rfl) (by simp) ?_
        refine AllReadyH.cons rfl (fun Kq hKq => ?_) AllReadyH.nil
        rw [if_pos (by rfl)]
        refine wp_store_kv _ _ rfl rfl g8 R.1 X2 H7.out.2.2 rfl H7.out.1 Z Hg8.out HZ.out fun w8 b8 k8 => ?_
        have hg5 : w5.heap.size ≤ g8 := hg8w
        have kn8 := H7.out.2.1.kept k8 (fun i e cs hb => by subst e; exact Hg8.out.apart hb (by decide) rfl)
        have b58 : Below w5.heap.size w5 w8 := s0.out.trans (k8.below s0.out.size (fun i hi e => by omega))
        have s1 := Lib.hid b58
        have H8 := Lib.hid (And.intro b8 (And.intro kn8 (And.intro H7.out.1 b58)))
        clear b8 k8 kn8 b58 hg5
        refine hKq.out _ _ s1 fun _ => ?_
        clear hKq Kq s0
        have s0 := s1
        clear s1
        refine take_to (i := 10) (v := .int .i64 R.2) rfl (by kernel_rfl) (by kernel_rfl) (by kernel_rfl) (fun _ _ _ h => h) (Or.inl ⟨by rfl, fun w' hS => by go_simp⟩) s0 (some 6) rfl ?_
        simp only [Act.put, List.setIfInBounds_toArray, List.set_cons_zero, List.set_cons_succ]
        refine wpAnyH_done (by kernel_rfl) ?_ _
        have HLa := Lib.hid (show (Instr.loadAt 46 (.pointer (some ⟨g3, 0, none⟩))).run Tryd.prog w8 = .ok VK1 w8 from HLK.out w8 H8.out.2.2.2)
        have HLb := Lib.hid (show (Instr.loadAt 46 (.pointer (some ⟨g8, 0, none⟩))).run Tryd.prog w8 = .ok VK2 w8 by rw [H8.out.2.2.1]; exact H8.out.1.loadK)
        have HSm := Lib.hid (show Calls Tryd.prog 17 #[VK1, VK2] w8 (Law w8) by rw [HVK1.out, H8.out.2.2.1]; exact same_any w8 R.1 X1 X2 (H5.out.2.2.2.1.on H8.out.2.2.2) H8.out.2.1.knr)
        have H8b := Lib.hid (And.intro (on_trans H5.out.2.1 H8.out.2.2.2) (H5.out.2.2.1.on H8.out.2.2.2))
        go_wp2_with (first
          | (with_reducible refine wpList_load_to (op := ⟨some 27, _, _, _, _, _⟩) rfl 46 (.tmp 3) rfl (.pointer (some ⟨g3, 0, none⟩)) rfl VK1 HLa.out ?_)
          | (with_reducible refine wpList_load_to (op := ⟨some 28, _, _, _, _, _⟩) rfl 46 (.tmp 5) rfl (.pointer (some ⟨g8, 0, none⟩)) rfl VK2 HLb.out ?_)
          | fail)
        refine Calls.mono HSm.out ?_
        rintro e w9 ⟨rfl, b9⟩
        have HA := Lib.hid (awake_any w9 (H8b.out.2.on b9))
        have H9 := Lib.hid (on_trans H8b.out.1 b9)
        clear b9 HSm
        go_wp2_with fail
        refine Calls.mono HA.out ?_
        rintro e w10 ⟨rfl, b10⟩
        have H10 := Lib.hid (on_trans H9.out b10)
        clear b10 HA
        go_wp2_with fail
        go_ret
        exact ⟨rfl, H10.out⟩
    · go_simp
      obtain ⟨g8, hg8⟩ : ∃ g, g = wb.heap.size := ⟨_, rfl⟩
      obtain ⟨wg, hwg⟩ : ∃ x, wb.alloc (.cells Z 46) = x := ⟨_, rfl⟩
      have kg : Below wb.heap.size wb wg := by rw [← hwg]; exact on_alloc _ _
      have hg8w : w5.heap.size ≤ g8 := by rw [hg8]; exact s0.out.size
      have Hg8 := Lib.hid (show Box wg g8 46 Z by rw [← hwg, hg8]; exact Box.made _ _ _)
      have hne : gb ≠ g8 := by omega
      replace Ownb := Lib.hid (own_on Ownb.out kg)
      have hgwg : gb < wg.heap.size := Nat.lt_of_lt_of_le hgwb kg.size
      have s1 := Lib.hid (on_trans s0.out kg)
      rw [hwg, ← hg8]
      clear hwg hg8 kg
      refine hKq.out _ _ s1 fun _ => ?_
      clear hKq Kq s0
      have s0 := s1
      clear s1
      refine wpAnyH_ready (rs := [2]) (by kernel_rfl) (by simp) ?_
      refine AllReadyH.cons rfl (fun Kq hKq => ?_) AllReadyH.nil
      refine step_append_z rfl (.tmp 20) (.tmp 21) rfl gb (.slice (some ⟨gb, 0, none⟩) 0 0) 0 [] rfl Ownb.out _ A n c l rfl (HSl.out.kept (Kept.of_below s0.out (fun _ => False)) (fun _ _ e => e)) (by omega) (Nat.le_of_lt hgwg) (some 22) rfl ?_
      intro v6 w6 g6
      obtain ⟨m6, hm6⟩ : ∃ m, m = 0 + n := ⟨_, rfl⟩
      rw [← hm6] at g6
      have Hm6 := Lib.hid hm6
      obtain ⟨A6, c6, hv6⟩ := g6.val
      subst hv6
      obtain ⟨A6', c6', e6, sl6⟩ := sl_of_own g6.own (by rw [List.nil_append]; exact HSl.out.bts.fit)
      cases e6
      rw [List.nil_append] at sl6
      have b56 : Below w5.heap.size w5 w6 := s0.out.trans (g6.kep.below s0.out.size (fun i hi e => by
        have : gb = i := by injection e
        omega))
      replace Hg8 := Lib.hid (g6.kep.box Hg8.out (fun e => hne (by injection e)))
      have s1 := Lib.hid b56
      have H6 := Lib.hid sl6
      clear g6 sl6 b56 hm6
      refine hKq.out _ _ s1 fun _ => ?_
      clear hKq Kq s0
      have s0 := s1
      clear s1
      refine wpAnyH_ready (rs := [4]) (by kernel_rfl) (by simp) ?_
      refine AllReadyH.cons rfl (fun Kq hKq => ?_) AllReadyH.nil
      go_simp
      have hrd := read_any w6 _ A6 m6 c6 l R.1 X1 H6.out (by have := Hm6.out; omega) (H5.out.2.2.2.1.on s0.out) H5.out.2.2.2.2.2 (H5.out.2.2.1.on s0.out)
      rw [← HVK1.out, HTw.out] at hrd
      refine hrd.mono ?_
      rintro e w7 ⟨X2, rfl, kn7, b7⟩
      obtain ⟨VK2, hVK2⟩ : ∃ V, V = kvV R.1 X2 := ⟨_, rfl⟩
      rw [← hVK2]
      have H7 := Lib.hid (And.intro hVK2 (And.intro kn7 kn7.one))
      replace Hg8 := Lib.hid (Hg8.out.on b7)
      have s1 := Lib.hid (on_trans s0.out b7)
      clear hVK2 kn7 b7 hrd
      refine hKq.out _ _ s1 fun _ => ?_
      clear hKq Kq s0
      have s0 := s1
      clear s1
      refine take_to (i := 5) (v := .tuple #[VK2, .int .i64 R.2]) rfl (by kernel_rfl) (by kernel_rfl) (by kernel_rfl) (fun _ _ _ h => h) (Or.inl ⟨by rfl, fun w' hS => by go_simp⟩) s0 (some 19) rfl ?_
      simp only [Act.put, List.setIfInBounds_toArray, List.set_cons_zero, List.set_cons_succ]
      refine take_to (i := 6) (v := VK2) rfl (by kernel_rfl) (by kernel_rfl) (by kernel_rfl) (fun _ _ _ h => h) (Or.inl ⟨by rfl, fun w' hS => by go_simp⟩) s0 (some 25) rfl ?_
      simp only [Act.put, List.setIfInBounds_toArray, List.set_cons_zero, List.set_cons_succ]
      refine take_to (i := 7) (v := .int .i64 R.2) rfl (by kernel_rfl) (by kernel_rfl) (by kernel_rfl) (fun _ _ _ h => h) (Or.inl ⟨by rfl, fun w' hS => by go_simp⟩) s0 (some 26) rfl ?_
      simp only [Act.put, List.setIfInBounds_toArray, List.set_cons_zero, List.set_cons_succ]
      refine wpAnyH_ready (rs := [9]) (by kernel_rfl) (by simp) ?_
      refine AllReadyH.cons rfl (fun Kq hKq => ?_) AllReadyH.nil
      rw [if_pos (by rfl)]
      refine wp_store_kv _ _ rfl rfl g8 R.1 X2 H7.out.2.2 rfl H7.out.1 Z Hg8.out HZ.out fun w8 b8 k8 => ?_
      have hg5 : w5.heap.size ≤ g8 := hg8w
      have kn8 := H7.out.2.1.kept k8 (fun i e cs hb => by subst e; exact Hg8.out.apart hb (by decide) rfl)
      have b58 : Below w5.heap.size w5 w8 := s0.out.trans (k8.below s0.out.size (fun i hi e => by omega))
      have s1 := Lib.hid b58
      have H8 := Lib.hid (And.intro b8 (And.intro kn8 (And.intro H7.out.1 b58)))
      clear b8 k8 kn8 b58 hg5
      refine hKq.out _ _ s1 fun _ => ?_
      clear hKq Kq s0
      have s0 := s1
      clear s1
      refine take_to (i := 10) (v := .int .i64 R.2) rfl (by kernel_rfl) (by kernel_rfl) (by kernel_rfl) (fun _ _ _ h => h) (Or.inl ⟨by rfl, fun w' hS => by go_simp⟩) s0 (some 6) rfl ?_
      simp only [Act.put, List.setIfInBounds_toArray, List.set_cons_zero, List.set_cons_succ]
      refine wpAnyH_done (by kernel_rfl) ?_ _
      have HLa := Lib.hid (show (Instr.loadAt 46 (.pointer (some ⟨g3, 0, none⟩))).run Tryd.prog w8 = .ok VK1 w8 from HLK.out w8 H8.out.2.2.2)
      have HLb := Lib.hid (show (Instr.loadAt 46 (.pointer (some ⟨g8, 0, none⟩))).run Tryd.prog w8 = .ok VK2 w8 by rw [H8.out.2.2.1]; exact H8.out.1.loadK)
      have HSm := Lib.hid (show Calls Tryd.prog 17 #[VK1, VK2] w8 (Law w8) by rw [HVK1.out, H8.out.2.2.1]; exact same_any w8 R.1 X1 X2 (H5.out.2.2.2.1.on H8.out.2.2.2) H8.out.2.1.knr)
      have H8b := Lib.hid (And.intro (on_trans H5.out.2.1 H8.out.2.2.2) (H5.out.2.2.1.on H8.out.2.2.2))
      go_wp2_with (first
        | (with_reducible refine wpList_load_to (op := ⟨some 27, _, _, _, _, _⟩) rfl 46 (.tmp 3) rfl (.pointer (some ⟨g3, 0, none⟩)) rfl VK1 HLa.out ?_)
        | (with_reducible refine wpList_load_to (op := ⟨some 28, _, _, _, _, _⟩) rfl 46 (.tmp 5) rfl (.pointer (some ⟨g8, 0, none⟩)) rfl VK2 HLb.out ?_)
        | fail)
      refine Calls.mono HSm.out ?_
      rintro e w9 ⟨rfl, b9⟩
      have HA := Lib.hid (awake_any w9 (H8b.out.2.on b9))
      have H9 := Lib.hid (on_trans H8b.out.1 b9)
      clear b9 HSm
      go_wp2_with fail
      refine Calls.mono HA.out ?_
      rintro e w10 ⟨rfl, b10⟩
      have H10 := Lib.hid (on_trans H9.out b10)
      clear b10 HA
      go_wp2_with fail
      go_ret
      exact ⟨rfl, H10.out⟩
  · go_simp
    obtain ⟨g8, hg8⟩ : ∃ g, g = wd.heap.size := ⟨_, rfl⟩
    obtain ⟨wg, hwg⟩ : ∃ x, wd.alloc (.cells Z 46) = x := ⟨_, rfl⟩
    have kg : Below wd.heap.size wd wg := by rw [← hwg]; exact on_alloc _ _
    have hg8w : w5.heap.size ≤ g8 := by rw [hg8]; exact s0.out.size
    have Hg8 := Lib.hid (show Box wg g8 46 Z by rw [← hwg, hg8]; exact Box.made _ _ _)
    have s1 := Lib.hid (on_trans s0.out kg)
    rw [hwg, ← hg8]
    clear hwg hg8 kg
    refine hKq.out _ _ s1 fun _ => ?_
    clear hKq Kq s0
    have s0 := s1
    clear s1
    refine wpAnyH_ready (rs := [0]) (by kernel_rfl) (by simp) ?_
    refine AllReadyH.cons rfl (fun Kq hKq => ?_) AllReadyH.nil
    go_simp
    obtain ⟨gb, hgb⟩ : ∃ g, g = wg.heap.size := ⟨_, rfl⟩
    obtain ⟨wb, hwb⟩ : ∃ x, wg.alloc (.cells #[] 5) = x := ⟨_, rfl⟩
    have kb : Below wg.heap.size wg wb := by rw [← hwb]; exact on_alloc _ _
    have Ownb := Lib.hid (show wb.ownsRow gb 5 1 (.slice (some ⟨gb, 0, none⟩) 0 0) 0 (cellsOf []) by rw [← hwb, hgb]; exact World.ownsRow_made _ #[] 0 (Nat.le_refl _) (Nat.zero_le _) rfl)
    have hgw : w5.heap.size ≤ gb := by rw [hgb]; exact s0.out.size
    have hgwb : gb < wb.heap.size := by rw [← hwb, hgb]; simp
    have hne : gb ≠ g8 := by have := Hg8.out.lt; omega
    replace Hg8 := Lib.hid (Hg8.out.on kb)
    have s1 := Lib.hid (on_trans s0.out kb)
    rw [hwb, ← hgb]
    clear hwb hgb kb
    refine hKq.out _ _ s1 fun _ => ?_
    clear hKq Kq s0
    have s0 := s1
    clear s1
    refine wpAnyH_ready (rs := [2]) (by kernel_rfl) (by simp) ?_
    refine AllReadyH.cons rfl (fun Kq hKq => ?_) AllReadyH.nil
    refine step_append_z rfl (.tmp 20) (.tmp 21) rfl gb (.slice (some ⟨gb, 0, none⟩) 0 0) 0 [] rfl Ownb.out _ A n c l rfl (HSl.out.kept (Kept.of_below s0.out (fun _ => False)) (fun _ _ e => e)) (by omega) (Nat.le_of_lt hgwb) (some 22) rfl ?_
    intro v6 w6 g6
    obtain ⟨m6, hm6⟩ : ∃ m, m = 0 + n := ⟨_, rfl⟩
    rw [← hm6] at g6
    have Hm6 := Lib.hid hm6
    obtain ⟨A6, c6, hv6⟩ := g6.val
    subst hv6
    obtain ⟨A6', c6', e6, sl6⟩ := sl_of_own g6.own (by rw [List.nil_append]; exact HSl.out.bts.fit)
    cases e6
    rw [List.nil_append] at sl6
    have b56 : Below w5.heap.size w5 w6 := s0.out.trans (g6.kep.below s0.out.size (fun i hi e => by
      have : gb = i := by injection e
      omega))
    replace Hg8 := Lib.hid (g6.kep.box Hg8.out (fun e => hne (by injection e)))
    have s1 := Lib.hid b56
    have H6 := Lib.hid sl6
    clear g6 sl6 b56 hm6
    refine hKq.out _ _ s1 fun _ => ?_
    clear hKq Kq s0
    have s0 := s1
    clear s1
    refine wpAnyH_ready (rs := [4]) (by kernel_rfl) (by simp) ?_
    refine AllReadyH.cons rfl (fun Kq hKq => ?_) AllReadyH.nil
    go_simp
    have hrd := read_any w6 _ A6 m6 c6 l R.1 X1 H6.out (by have := Hm6.out; omega) (H5.out.2.2.2.1.on s0.out) H5.out.2.2.2.2.2 (H5.out.2.2.1.on s0.out)
    rw [← HVK1.out, HTw.out] at hrd
    refine hrd.mono ?_
    rintro e w7 ⟨X2, rfl, kn7, b7⟩
    obtain ⟨VK2, hVK2⟩ : ∃ V, V = kvV R.1 X2 := ⟨_, rfl⟩
    rw [← hVK2]
    have H7 := Lib.hid (And.intro hVK2 (And.intro kn7 kn7.one))
    replace Hg8 := Lib.hid (Hg8.out.on b7)
    have s1 := Lib.hid (on_trans s0.out b7)
    clear hVK2 kn7 b7 hrd
    refine hKq.out _ _ s1 fun _ => ?_
    clear hKq Kq s0
    have s0 := s1
    clear s1
    refine take_to (i := 5) (v := .tuple #[VK2, .int .i64 R.2]) rfl (by kernel_rfl) (by kernel_rfl) (by kernel_rfl) (fun _ _ _ h => h) (Or.inl ⟨by rfl, fun w' hS => by go_simp⟩) s0 (some 19) rfl ?_
    simp only [Act.put, List.setIfInBounds_toArray, List.set_cons_zero, List.set_cons_succ]
    refine take_to (i := 6) (v := VK2) rfl (by kernel_rfl) (by kernel_rfl) (by kernel_rfl) (fun _ _ _ h => h) (Or.inl ⟨by rfl, fun w' hS => by go_simp⟩) s0 (some 25) rfl ?_
    simp only [Act.put, List.setIfInBounds_toArray, List.set_cons_zero, List.set_cons_succ]
    refine take_to (i := 7) (v := .int .i64 R.2) rfl (by kernel_rfl) (by kernel_rfl) (by kernel_rfl) (fun _ _ _ h => h) (Or.inl ⟨by rfl, fun w' hS => by go_simp⟩) s0 (some 26) rfl ?_
    simp only [Act.put, List.setIfInBounds_toArray, List.set_cons_zero, List.set_cons_succ]
    refine wpAnyH_ready (rs := [9]) (by kernel_rfl) (by simp) ?_
    refine AllReadyH.cons rfl (fun Kq hKq => ?_) AllReadyH.nil
    rw [if_pos (by rfl)]
    refine wp_store_kv _ _ rfl rfl g8 R.1 X2 H7.out.2.2 rfl H7.out.1 Z Hg8.out HZ.out fun w8 b8 k8 => ?_
    have hg5 : w5.heap.size ≤ g8 := hg8w
    have kn8 := H7.out.2.1.kept k8 (fun i e cs hb => by subst e; exact Hg8.out.apart hb (by decide) rfl)
    have b58 : Below w5.heap.size w5 w8 := s0.out.trans (k8.below s0.out.size (fun i hi e => by omega))
    have s1 := Lib.hid b58
    have H8 := Lib.hid (And.intro b8 (And.intro kn8 (And.intro H7.out.1 b58)))
    clear b8 k8 kn8 b58 hg5
    refine hKq.out _ _ s1 fun _ => ?_
    clear hKq Kq s0
    have s0 := s1
    clear s1
    refine take_to (i := 10) (v := .int .i64 R.2) rfl (by kernel_rfl) (by kernel_rfl) (by kernel_rfl) (fun _ _ _ h => h) (Or.inl ⟨by rfl, fun w' hS => by go_simp⟩) s0 (some 6) rfl ?_
    simp only [Act.put, List.setIfInBounds_toArray, List.set_cons_zero, List.set_cons_succ]
    refine wpAnyH_done (by kernel_rfl) ?_ _
    have HLa := Lib.hid (show (Instr.loadAt 46 (.pointer (some ⟨g3, 0, none⟩))).run Tryd.prog w8 = .ok VK1 w8 from HLK.out w8 H8.out.2.2.2)
    have HLb := Lib.hid (show (Instr.loadAt 46 (.pointer (some ⟨g8, 0, none⟩))).run Tryd.prog w8 = .ok VK2 w8 by rw [H8.out.2.2.1]; exact H8.out.1.loadK)
    have HSm := Lib.hid (show Calls Tryd.prog 17 #[VK1, VK2] w8 (Law w8) by rw [HVK1.out, H8.out.2.2.1]; exact same_any w8 R.1 X1 X2 (H5.out.2.2.2.1.on H8.out.2.2.2) H8.out.2.1.knr)
    have H8b := Lib.hid (And.intro (on_trans H5.out.2.1 H8.out.2.2.2) (H5.out.2.2.1.on H8.out.2.2.2))
    go_wp2_with (first
      | (with_reducible refine wpList_load_to (op := ⟨some 27, _, _, _, _, _⟩) rfl 46 (.tmp 3) rfl (.pointer (some ⟨g3, 0, none⟩)) rfl VK1 HLa.out ?_)
      | (with_reducible refine wpList_load_to (op := ⟨some 28, _, _, _, _, _⟩) rfl 46 (.tmp 5) rfl (.pointer (some ⟨g8, 0, none⟩)) rfl VK2 HLb.out ?_)
      | fail)
    refine Calls.mono HSm.out ?_
    rintro e w9 ⟨rfl, b9⟩
    have HA := Lib.hid (awake_any w9 (H8b.out.2.on b9))
    have H9 := Lib.hid (on_trans H8b.out.1 b9)
    clear b9 HSm
    go_wp2_with fail
    refine Calls.mono HA.out ?_
    rintro e w10 ⟨rfl, b10⟩
    have H10 := Lib.hid (on_trans H9.out b10)
    clear b10 HA
    go_wp2_with fail
    go_ret
    exact ⟨rfl, H10.out⟩
end Go.Proofs.YtgipngedmblnmaaDoor
