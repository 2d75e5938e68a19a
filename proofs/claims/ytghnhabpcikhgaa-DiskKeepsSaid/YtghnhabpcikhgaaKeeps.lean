/-
  DiskKeeps: the walk.
-/
import Derived.Test.YtghnhabpcikhgaaKeepBase
namespace Go.Proofs.Ytghnhabpcikhgaa
open Go.RowKit Go.Maps
variable {N : Nat}

theorem wrap_end {i : Nat} {T : Int} (hi : i < 1000) (h : ((i : Int) + 1) * 128 ≤ T) : wrap64 (wrap64 ((i : Int) + 1) * 128) ≤ T := by
  have e1 : wrap64 ((i : Int) + 1) = (i : Int) + 1 := by unfold wrap64; omega
  have e2 : wrap64 (((i : Int) + 1) * 128) = ((i : Int) + 1) * 128 := by unfold wrap64; omega
  rw [e1, e2]
  exact h
theorem keep_asks {g b : Nat} {w w' : World} {cg : Array Value} {vb i x kp : Int} {sh : Bool} (k : Kept (fun i => i = g) w w') (hg : Box w g 5 cg) (hb : Box w b 38 #[.int .i64 vb, .int .i64 i, .int .u8 x, .bool sh, .int .u64 kp]) : Asks b i x w' := by
  have := (keep_other k hg).1 _ _ _ hb (by decide)
  exact ⟨this.cell 1, this.cell 2⟩

set_option maxRecDepth 10000 in
set_option maxHeartbeats 12800000 in
theorem keeps_any (w : World) (cnt n c n2 c2 keep : Nat) (A A2 : Option Addr) (ks ks2 : List Step) (h : Dos w A n ks) (h' : Dos w A2 n2 ks2) (hn : n ≤ 100) (hn2 : n2 ≤ 100) (h1 : 1 ≤ cnt) (h2 : cnt ≤ 50) (hk : keep < 18446744073709551616) :
    Calls Try.prog 4 #[.int .i64 (cnt : Int), .slice A n c, .slice A2 n2 c2, .int .u64 (keep : Int)] w (Law w) := by
  obtain ⟨i0, hi0, hz0, hz1, hz2⟩ := info_parts info38
  have HD := Lib.hid h
  have HD2 := Lib.hid h'
  clear h h'
  go_enter Try.func4, Try.ntmps4
  go_wp2_with fail
  refine (new_some (X := fun _ => False) (N := 0) w cnt h1 (by omega)).mono ?_
  rintro e w1 ⟨d, rfl, hd1, hc1, b1⟩
  have H1 := Lib.hid (Going.mk (hc1.own w.heap.size) b1 hd1)
  clear hd1 hc1 b1
  go_wp2
  go_loopw [45] (fun i wr => ∃ k : Nat, k ≤ n ∧ i = .int .i64 k ∧ Going 0 w wr d cnt (fun _ => zeros) (wrs cnt (ks.take k))) (fun i _ => n - (intOf i).toNat)
  case atStart => exact ⟨0, Nat.zero_le _, rfl, H1.out⟩
  case round =>
    obtain ⟨k, hkn, rfl, hG⟩ := hrel
    by_cases hlt : k < n
    · obtain ⟨b, off, s, rfl, hs, hx0, hx1, hcells⟩ := HD.out.get hlt
      obtain ⟨q0, q1, q2, q3, q4⟩ := hcells wr hG.bel
      have hpl : (wrs cnt (ks.take k)).length < 1000 := by
        have := wrs_len cnt (ks.take k)
        rw [List.length_take] at this
        omega
      have hmore : wrs cnt (ks.take (k + 1)) = wrs cnt (ks.take k) ++ wrOf cnt s := by
        have hk2 := (List.getElem?_eq_some_iff.1 hs).1
        rw [wrs_more cnt ks k hk2, (List.getElem?_eq_some_iff.1 hs).2]
      have HG := Lib.hid (And.intro hG (And.intro hpl (And.intro hmore (And.intro hx0 hx1))))
      clear hG hpl hmore hx0 hx1 hcells hs
      go_wp2_with fail
      obtain ⟨g, hg⟩ : ∃ g, g = wr.heap.size := ⟨_, rfl⟩
      obtain ⟨wa, hwa⟩ : ∃ wa, wa = wr.alloc (.cells #[.int .i64 s.vb, .int .i64 s.i, .int .u8 s.x, .bool s.sh, .int .u64 s.kp] 38) := ⟨_, rfl⟩
      have hbox := Box.made wr 38 #[.int .i64 s.vb, .int .i64 s.i, .int .u8 s.x, .bool s.sh, .int .u64 s.kp]
      have ba : Below wr.heap.size wr wa := by rw [hwa]; exact on_alloc _ _
      rw [← hwa, ← hg] at hbox ⊢
      have HB := Lib.hid (And.intro hbox ba)
      have K1 := Lib.hid (show Asks g s.i s.x wa.drew from ⟨hbox.cell 1, hbox.cell 2⟩)
      clear hwa hg hbox ba q0 q1 q2 q3 q4
      go_region_held3 (fun w' => w'.cell? ⟨g, 1, none⟩ = some (.int .i64 s.i) ∧ w'.cell? ⟨g, 2, none⟩ = some (.int .u8 s.x))
        (first
          | exact K1.out
          | exact K2.out
          | exact K3.out.2)
        (first
          | (go_at_call 14
             refine (full_any wa.drew s.x).mono ?_
             rintro e w2 ⟨rfl, hb2, b2⟩
             have K2 := Lib.hid (K1.out.on b2)
             have H2 := Lib.hid (And.intro hb2 (on_trans (on_drew wa) b2))
             clear hb2 b2)
          | (go_at_call 13
             refine (write_step (s := s) ((HG.out.1.own.on HB.out.2).on H2.out.2) (Nat.le_trans HG.out.1.bel.size (Nat.le_trans HB.out.2.size H2.out.2.size)) HG.out.2.1 H2.out.1 HG.out.2.2.2.1 HG.out.2.2.2.2 (fun _ _ h => h)).mono ?_
             rintro e w3 ⟨rfl, o3, f3⟩
             have K3 := Lib.hid (HG.out.1.wrote HB.out.2 H2.out.2 o3 f3 ⟨_, HB.out.1, rfl, rfl⟩)
             clear o3 f3))
      all_goals
        (go_wp2
         go_roundw
         case rel =>
           refine ⟨k + 1, by omega, by go_num, ?_⟩
           rw [HG.out.2.2.1]
           exact K3.out.1
         case measure => simp [intOf]; omega)
    · have ek : ks.take k = ks := List.take_of_length_le (by have := HD.out.len; omega)
      rw [ek] at hG
      obtain ⟨P, hP⟩ : ∃ P, P = wrs cnt ks := ⟨_, rfl⟩
      obtain ⟨F, hF⟩ : ∃ F, F = after (fun _ => zeros) P := ⟨_, rfl⟩
      rw [← hP] at hG
      have hgd : Good cnt F := by rw [hF]; exact good_after hG.own.good.1 hG.own.good.2.1
      have HG := Lib.hid (And.intro hG (And.intro hF hgd))
      clear hG hP hF ek hgd HD H1
      go_wp2_with fail
      refine (sync_any HG.out.1.own (by omega)).mono ?_
      rintro e w2 ⟨rfl, c2', o2⟩
      rw [← HG.out.2.1] at c2'
      have H2 := Lib.hid (And.intro c2' (HG.out.1.bel.trans (o2.below HG.out.1.bel.size (fun i hi e => by have := HG.out.1.new; omega))))
      clear c2' o2
      go_wp2_with fail
      refine (copy_any H2.out.1.disk).mono ?_
      rintro e w3 ⟨od, rfl, ho3, d3, b3⟩
      have H3 := Lib.hid (And.intro (H2.out.1.on b3) (And.intro d3 (And.intro (on_trans H2.out.2 b3) (And.intro HG.out.1.new (show od ≠ d by have := H2.out.1.lt; omega)))))
      clear ho3 d3 b3 H2
      go_wp2
      go_loopw [13, 64] (fun v i wr => ∃ (k : Nat) (vs : List Step), k ≤ n2 ∧ vs.length ≤ k ∧ i = .int .i64 k ∧ Keep2 w3 wr d cnt F v vs) (fun _ i _ => n2 - (intOf i).toNat)
      case atStart => exact ⟨0, [], Nat.zero_le _, Nat.le_refl _, rfl, H3.out.1.own _, Kept.refl _ _, ⟨rfl, .inl ⟨rfl, rfl⟩⟩, (fun s hs => by cases hs), Nat.zero_le _⟩
      case round =>
        obtain ⟨k2, vs, hkn2, hvs, rfl, hK⟩ := hrel
        by_cases hlt2 : k2 < n2
        · obtain ⟨b, off, s, rfl, hs, hx0, hx1, hcells⟩ := HD2.out.get hlt2
          have hbw : Below w.heap.size w wr := H3.out.2.2.1.trans (hK.fr.below H3.out.2.2.1.size H3.out.2.2.1.size H3.out.2.2.2.1)
          obtain ⟨q0, q1, q2, q3, q4⟩ := hcells wr hbw
          have hpl : (vs.map Step.wr).length < 1000 := by rw [List.length_map]; omega
          have HX := Lib.hid (And.intro hpl (And.intro hx0 hx1))
          obtain ⟨m, hm⟩ : ∃ m, m = vs.length := ⟨_, rfl⟩
          have HK := Lib.hid (And.intro hK hm)
          clear hK hpl hx0 hx1 hcells hs hbw hm
          by_cases hv : 0 ≤ s.i ∧ s.i < (cnt : Int)
          · have hE : wrE cnt s = 0 := by simp [wrE, hv]
            have hO : wrOf cnt s = [s.wr] := by simp [wrOf, hv, Step.wr]
            have HV := Lib.hid (And.intro hv (And.intro hE hO))
            clear hv hE hO
            go_wp2_with fail
            obtain ⟨g, hg⟩ : ∃ g, g = wr.heap.size := ⟨_, rfl⟩
            obtain ⟨wa, hwa⟩ : ∃ wa, wa = wr.alloc (.cells #[.int .i64 s.vb, .int .i64 s.i, .int .u8 s.x, .bool s.sh, .int .u64 s.kp] 38) := ⟨_, rfl⟩
            have hbox := Box.made wr 38 #[.int .i64 s.vb, .int .i64 s.i, .int .u8 s.x, .bool s.sh, .int .u64 s.kp]
            have ba : Below wr.heap.size wr wa := by rw [hwa]; exact on_alloc _ _
            rw [← hwa, ← hg] at hbox ⊢
            have HB := Lib.hid (And.intro (show Box wa g 38 s.cells.toArray from hbox) ba)
            have K1 := Lib.hid (show Asks g s.i s.x wa.drew from ⟨hbox.cell 1, hbox.cell 2⟩)
            clear hwa hg hbox ba q0 q1 q2 q3 q4
            go_region_held3 (fun w' => w'.cell? ⟨g, 1, none⟩ = some (.int .i64 s.i) ∧ w'.cell? ⟨g, 2, none⟩ = some (.int .u8 s.x))
              (first
                | exact K1.out
                | exact K2.out
                | exact Keep2.asks K3.out)
              (first
                | (go_at_call 14
                   refine (full_any wa.drew s.x).mono ?_
                   rintro e w4 ⟨rfl, hb4, b4⟩
                   have K2 := Lib.hid (K1.out.on b4)
                   have H4 := Lib.hid (And.intro hb4 (on_trans (on_drew wa) b4))
                   clear hb4 b4)
                | (go_at_call 13
                   have WS := write_step (s := s) ((HK.out.1.own.on HB.out.2).on H4.out.2) (Nat.le_trans HK.out.1.fr.size (Nat.le_trans HB.out.2.size H4.out.2.size)) HX.out.1 H4.out.1 HX.out.2.1 HX.out.2.2 (fun _ _ h => h)
                   rw [HV.out.2.1, HV.out.2.2] at WS
                   refine WS.mono ?_
                   clear WS
                   rintro e w5 ⟨rfl, o5, f5⟩
                   have K3 := Lib.hid (HK.out.1.wrote HB.out.2 H4.out.2 o5 f5 HB.out.1)
                   clear o5 f5))
            all_goals
              (have r0 : w5.cell? ⟨g, 0, none⟩ = some (.int .i64 s.vb) := K3.out.2.2.2.cell 0
               have r1 : w5.cell? ⟨g, 1, none⟩ = some (.int .i64 s.i) := K3.out.2.2.2.cell 1
               have r2 : w5.cell? ⟨g, 2, none⟩ = some (.int .u8 s.x) := K3.out.2.2.2.cell 2
               have r3 : w5.cell? ⟨g, 3, none⟩ = some (.bool s.sh) := K3.out.2.2.2.cell 3
               have r4 : w5.cell? ⟨g, 4, none⟩ = some (.int .u64 s.kp) := K3.out.2.2.2.cell 4
               have hrow : w5.ownsRow w3.heap.size 38 5 u13 m (cellsS vs) := by rw [HK.out.2]; exact K3.out.2.2.1
               have HROW := Lib.hid (And.intro hrow (Nat.le_trans (show w3.heap.size ≤ w5.heap.size from K3.out.2.1.size) (Nat.le_refl _)))
               have hm : m ≤ 100 := by have := HK.out.2; have := HK.out.1.few; omega
               clear hrow
               go_wp2_with (first | fail | (at_builtin; refine wpList_append_own _ rfl (.tmp 76) (.tmp 78) 35 rfl w3.heap.size 38 i0 _ 5 32 Try.underlying35 hi0 hz0 hz1 hz2 rfl (by omega) u13 m (cellsS vs) rfl (HROW.out.1.alloc _) ⟨w5.heap.size, 0, none⟩ 1 1 s.cells rfl rfl (World.news_of_block (cs := s.cells.toArray) (t := 38) (fr := (0, 0)) (heap_alloc_new w5 _)) (by simp [Step.cells, Value.oneCell']) (by unfold maxLen; omega) (by omega) (by simp; have := HROW.out.2; omega) ?_; intro v6 w6 hown6 hgrow6 _; have H6 := Lib.hid (And.intro hown6 hgrow6); clear hown6 hgrow6))
               go_roundw
               case rel => exact ⟨k2 + 1, vs ++ [s], by omega, by rw [List.length_append]; simpa using hvs, by go_num, Keep2.appended HK.out.1.ok (by omega) HV.out.1 HX.out.2 K3.out.1 K3.out.2.1 K3.out.2.2.1 (by have := H6.out.1; rwa [HK.out.2] at this) H6.out.2⟩
               case measure => simp [intOf]; omega)
          · have hE : wrE cnt s = 11 := by simp only [wrE, if_neg hv]
            have hO : wrOf cnt s = [] := by simp only [wrOf, if_neg hv]
            have HV := Lib.hid (And.intro hE hO)
            clear hv hE hO
            go_wp2_with fail
            obtain ⟨g, hg⟩ : ∃ g, g = wr.heap.size := ⟨_, rfl⟩
            obtain ⟨wa, hwa⟩ : ∃ wa, wa = wr.alloc (.cells #[.int .i64 s.vb, .int .i64 s.i, .int .u8 s.x, .bool s.sh, .int .u64 s.kp] 38) := ⟨_, rfl⟩
            have hbox := Box.made wr 38 #[.int .i64 s.vb, .int .i64 s.i, .int .u8 s.x, .bool s.sh, .int .u64 s.kp]
            have ba : Below wr.heap.size wr wa := by rw [hwa]; exact on_alloc _ _
            rw [← hwa, ← hg] at hbox ⊢
            have HB := Lib.hid (And.intro (show Box wa g 38 s.cells.toArray from hbox) ba)
            have K1 := Lib.hid (show Asks g s.i s.x wa.drew from ⟨hbox.cell 1, hbox.cell 2⟩)
            clear hwa hg hbox ba q0 q1 q2 q3 q4
            go_region_held3 (fun w' => w'.cell? ⟨g, 1, none⟩ = some (.int .i64 s.i) ∧ w'.cell? ⟨g, 2, none⟩ = some (.int .u8 s.x))
              (first
                | exact K1.out
                | exact K2.out
                | exact Keep2.asks K3.out)
              (first
                | (go_at_call 14
                   refine (full_any wa.drew s.x).mono ?_
                   rintro e w4 ⟨rfl, hb4, b4⟩
                   have K2 := Lib.hid (K1.out.on b4)
                   have H4 := Lib.hid (And.intro hb4 (on_trans (on_drew wa) b4))
                   clear hb4 b4)
                | (go_at_call 13
                   have WS := write_step (s := s) ((HK.out.1.own.on HB.out.2).on H4.out.2) (Nat.le_trans HK.out.1.fr.size (Nat.le_trans HB.out.2.size H4.out.2.size)) HX.out.1 H4.out.1 HX.out.2.1 HX.out.2.2 (fun _ _ h => h)
                   rw [HV.out.1, HV.out.2, List.append_nil] at WS
                   refine WS.mono ?_
                   clear WS
                   rintro e w5 ⟨rfl, o5, f5⟩
                   have K3 := Lib.hid (HK.out.1.wrote HB.out.2 H4.out.2 o5 f5 HB.out.1)
                   clear o5 f5))
            all_goals
              (go_wp2
               go_roundw
               case rel => exact ⟨k2 + 1, vs, by omega, by omega, by go_num, K3.out.1, K3.out.2.1, K3.out.2.2.1, HK.out.1.ok, HK.out.1.few⟩
               case measure => simp [intOf]; omega)
        · obtain ⟨hd3, do3, bw3, hdn, hne⟩ := H3.out
          obtain ⟨p, hp⟩ : ∃ p, p = vs.map Step.wr := ⟨_, rfl⟩
          obtain ⟨G, hG⟩ : ∃ G, G = after F p := ⟨_, rfl⟩
          obtain ⟨T, hT⟩ : ∃ T, T = cnt * 128 := ⟨_, rfl⟩
          obtain ⟨m, hm⟩ : ∃ m, m = vs.length := ⟨_, rfl⟩
          have bwr : Below w.heap.size w wr := bw3.trans (hK.fr.below bw3.size bw3.size hdn)
          have dor : Disk (fun _ => False) 1000 wr od cnt F [] false := do3.beside2 hK.fr hd3.box.choose_spec hne (Nat.le_refl _)
          have hol : od < w3.heap.size := do3.lt
          have hol2 : w3.heap.size ≤ wr.heap.size := hK.fr.size
          have ddr := hK.own.disk
          rw [← hp] at ddr
          obtain ⟨A13, c13, e13, hrow⟩ : ∃ A c, u13 = .slice A m c ∧ SRow wr u13 vs := by
            have := srow_of_own hK.row
            obtain ⟨A, c, e, h⟩ := this
            exact ⟨A, c, by rw [hm]; exact e, ⟨A, c, e, h⟩⟩
          subst e13
          have HE := Lib.hid (And.intro ddr (And.intro dor (And.intro bwr (And.intro hrow (And.intro hdn (And.intro hne (And.intro hK.ok (And.intro hp (And.intro hG (And.intro hT (And.intro hm hol)))))))))))
          have hol3 : od < wr.heap.size := by omega
          clear hd3 do3 bw3 hdn hne bwr dor hol ddr hrow hp hG hT hm hK hol2 H3 HD2
          go_wp2_with fail
          refine (copy_any HE.out.1).mono ?_
          rintro e w5 ⟨da, rfl, ha5, d5, b5⟩
          have H5 := Lib.hid (And.intro ha5 (And.intro d5 b5))
          clear ha5 d5 b5
          go_wp2_with fail
          refine (copy_any (HE.out.1.on H5.out.2.2)).mono ?_
          rintro e w6 ⟨dn, rfl, hn6, d6, b6⟩
          have H6 := Lib.hid (show D4 (fun _ => False) 1000 w6 d da dn od cnt F F F F p p p false false false ∧ Below wr.heap.size wr w6 ∧ w.heap.size ≤ da ∧ w.heap.size ≤ dn from by
            obtain ⟨ha5, d5, b5⟩ := H5.out
            have l1 := HE.out.1.lt
            have l2 := d5.lt
            have hne := HE.out.2.2.2.2.2.1
            exact ⟨⟨(HE.out.1.on b5).on b6, d5.on b6, d6, (HE.out.2.1.on b5).on b6, by omega, by have := b5.size; omega, fun e => hne e.symm, by omega, by omega, by have := b5.size; omega⟩, on_trans b5 b6, Nat.le_trans HE.out.2.2.1.size ha5, Nat.le_trans (Nat.le_trans HE.out.2.2.1.size b5.size) hn6⟩)
          clear hn6 d6 b6 H5
          go_wp2_with fail
          refine (bytes_any H6.out.1.kd).mono ?_
          rintro e w7 ⟨gn, rfl, _, hb7, b7⟩
          rw [← HE.out.2.2.2.2.2.2.2.2.1] at hb7
          rw [← HE.out.2.2.2.2.2.2.2.2.2.1]
          have H7 := Lib.hid (And.intro (H6.out.1.on b7) (And.intro hb7 (And.intro (on_trans H6.out.2.1 b7) H6.out.2.2)))
          clear hb7 b7 H6
          go_wp2_with fail
          refine (crash_any (keep := 18446744073709551615) H7.out.1.ka (by omega) (by omega)).mono ?_
          rintro e w8 ⟨rfl, d8, o8⟩
          rw [keeps_all, ← HE.out.2.2.2.2.2.2.2.2.1] at d8
          have H8 := Lib.hid (And.intro (H7.out.1.crashA d8 o8) (And.intro (o8.box H7.out.1.ka.box.choose_spec H7.out.2.1 (by decide)) o8))
          clear d8 o8
          go_wp2_with fail
          refine (crash_any (keep := 0) H8.out.1.kn (by omega) (by omega)).mono ?_
          rintro e w9 ⟨rfl, d9, o9⟩
          rw [keeps_none] at d9
          have H9 := Lib.hid (And.intro (H8.out.1.crashN d9 o9) (And.intro (o9.box H8.out.1.kn.box.choose_spec H8.out.2.1 (by decide)) o9))
          clear d9 o9
          go_wp2_with fail
          refine (crash_any (keep := keep) H9.out.1.kd hk (by omega)).mono ?_
          rintro e w10 ⟨rfl, d10, o10⟩
          have H10 := Lib.hid (And.intro (H9.out.1.crashD d10 o10) (And.intro (o10.box H9.out.1.kd.box.choose_spec H9.out.2.1 (by decide)) o10))
          clear d10 o10
          go_wp2_with fail
          refine (bytes_any H10.out.1.ko).mono ?_
          rintro e w11 ⟨g, rfl, hg11, hb11, b11⟩
          rw [after_nil] at hb11
          rw [← HE.out.2.2.2.2.2.2.2.2.2.1]
          have H11 := Lib.hid (show Keep3 w w11 d da dn od cnt g gn (keeps keep F p) G F G (runTo (bitOf keep) F p 0) (.slice A13 m c13) vs from by
            obtain ⟨ddr, dor, bwr, hrow, hdn, hne, _⟩ := HE.out
            obtain ⟨f7, n7, b7, hda, hdn2⟩ := H7.out
            obtain ⟨f8, n8, o8⟩ := H8.out
            obtain ⟨f9, n9, o9⟩ := H9.out
            obtain ⟨f10, n10, o10⟩ := H10.out
            have bb7 := on_trans bwr b7
            have bb8 := bb7.trans (o8.below bb7.size fun i hi e => by omega)
            have bb9 := bb8.trans (o9.below bb8.size fun i hi e => by omega)
            have bb10 := bb9.trans (o10.below bb9.size fun i hi e => by omega)
            have r7 := hrow.keep fun _ _ hb => hb.on b7
            have r8 := r7.keep fun _ _ hb => o8.box f7.ka.box.choose_spec hb (by decide)
            have r9 := r8.keep fun _ _ hb => o9.box f8.kn.box.choose_spec hb (by decide)
            have r10 := r9.keep fun _ _ hb => o10.box f9.kd.box.choose_spec hb (by decide)
            exact ⟨(f10.avoid hg11).on b11, on_trans bb10 b11, hb11, n10.on b11, by have := n10.lt; omega, Nat.le_trans bb10.size hg11, r10.keep fun _ _ hb => hb.on b11⟩)
          clear hg11 hb11 b11 H7 H8 H9 H10
          have hT1 : (T : Int) = (cnt : Int) * 128 := by have := HE.out.2.2.2.2.2.2.2.2.2.1; omega
          go_wp2
          go_loopw [98] (fun i wr => ∃ k : Nat, k ≤ m ∧ i = .int .i64 k ∧ Keep3 w wr d da dn od cnt g gn (keeps keep F p) G F G (runTo (bitOf keep) F p k) (.slice A13 m c13) vs) (fun i _ => m - (intOf i).toNat)
          case atStart => exact ⟨0, Nat.zero_le _, rfl, H11.out⟩
          case round =>
            obtain ⟨k3, hkn3, rfl, hK⟩ := hrel
            by_cases hlt3 : k3 < m
            · obtain ⟨ddr, dor, bwr, hrow, hdn, hne, hok, hp, hG, hT, hm, hol⟩ := HE.out
              have hkv : k3 < vs.length := by omega
              obtain ⟨s, hs0⟩ : ∃ s, s = vs[k3] := ⟨_, rfl⟩
              have hs : vs[k3]? = some s := by rw [hs0]; exact List.getElem?_eq_getElem hkv
              obtain ⟨ok0, ok1, ok2, ok3⟩ := hok s (List.mem_of_getElem? hs)
              obtain ⟨gr, c', e3, q0, q1, q2, q3, q4⟩ := hK.row.get hs
              have hpk : p.getD k3 (0, []) = s.wr := by
                rw [hp, List.getD_eq_getElem?_getD, List.getElem?_map, hs]
                rfl
              simp at e3
              obtain ⟨rfl, hx3, rfl⟩ := e3
              clear hx3
              obtain ⟨vb, si, x, sh, kp⟩ := s
              obtain ⟨i, rfl⟩ : ∃ i : Nat, si = (i : Int) := ⟨si.toNat, by simp at ok0; omega⟩
              simp only at ok0 ok1 ok2 ok3 q0 q1 q2 q3 q4
              have hic : i < cnt := by omega
              have hpk2 : p.getD k3 (0, []) = (i, ful x) := by rw [hpk]; simp [Step.wr]
              have hgw : Good cnt (runTo (bitOf keep) F p k3) := good_runTo HG.out.2.2 (ddr.good.2.1) k3 (by rw [hp, List.length_map]; omega)
              obtain ⟨r, hr⟩ : ∃ r, r = k3 % 64 := ⟨_, rfl⟩
              have hr1 : (k3 : Int) % 64 = (r : Int) := by omega
              have hr2 : (k3 : Int).tmod 64 = (r : Int) := by rw [Int.tmod_eq_emod_of_nonneg (by omega)]; exact hr1
              have hr3 : r < 64 := by omega
              have hq := bit_and keep r hk
              have hm100 : m ≤ 1000 := by have := ddr.good.2.2.1; rw [hp, List.length_map] at this; omega
              clear ddr dor bwr hrow hdn hne hok hp hG hm hol hs0 hs hpk hkv
              by_cases hb : keep / 2 ^ r % 2 = 1
              · rw [hb] at hq
                have hbit : bitOf keep k3 = true := by simp [bitOf, ← hr, hb]
                have hi50 : i ≤ 50 := by omega
                have hT50 : T ≤ 6400 := by omega
                have ho7 : ((i : Int) + 1) * 128 ≤ (T : Int) := by omega
                have HQ := Lib.hid (And.intro hK (And.intro hgw (And.intro hpk2 (And.intro hbit (And.intro hic (And.intro hT (And.intro ok2 ok3)))))))
                clear hK hgw hpk2 hbit hic hT ok0 ok1 ok2 ok3 hb hr hT1
                go_wp2_with fail
                have hic := HQ.out.2.2.2.2.1
                have hT := HQ.out.2.2.2.2.2.1
                obtain ⟨o, ho⟩ : ∃ o, o = i * 128 := ⟨_, rfl⟩
                have ho1 : (i : Int) * 128 = (o : Int) := by omega
                have ho2 : o < T := by omega
                have ho3 : (0 : Int) ≤ (o : Int) := by omega
                have ho4 : (o : Int) ≤ (T : Int) := by omega
                have ho5 : IntKind.i64.wrap (o : Int) = (o : Int) := by simp [IntKind.wrap, IntKind.bits, IntKind.signed]; omega
                have ho6 : ¬ T = o := by omega
                have ho8 : (0 : Int) ≤ (i : Int) := by omega
                have HO := Lib.hid ho
                clear hic hT ho
                obtain ⟨b, hb⟩ : ∃ b, b = wr.heap.size := ⟨_, rfl⟩
                obtain ⟨wa, hwa⟩ : ∃ wa, wa = wr.alloc (.cells #[.int .i64 vb, .int .i64 (i : Int), .int .u8 x, .bool sh, .int .u64 kp] 38) := ⟨_, rfl⟩
                have hbox := Box.made wr 38 #[.int .i64 vb, .int .i64 (i : Int), .int .u8 x, .bool sh, .int .u64 kp]
                have ba : Below wr.heap.size wr wa := by rw [hwa]; exact on_alloc _ _
                rw [← hwa, ← hb] at hbox ⊢
                have HB := Lib.hid (And.intro hbox ba)
                have K1 := Lib.hid (show Asks b i x wa.drew from ⟨hbox.cell 1, hbox.cell 2⟩)
                clear hwa hb hbox ba q0 q1 q2 q3 q4
                go_region_held3 (fun w' => w'.cell? ⟨b, 1, none⟩ = some (.int .i64 (i : Int)) ∧ w'.cell? ⟨b, 2, none⟩ = some (.int .u8 x))
                  (first
                    | exact K1.out
                    | exact K2.out
                    | exact K3.out)
                  (first
                    | (go_at_call 14
                       refine (full_any wa.drew x).mono ?_
                       rintro e w5 ⟨rfl, hb5, b5⟩
                       have K2 := Lib.hid (K1.out.on b5)
                       have H5 := Lib.hid (And.intro (HQ.out.1.on (on_trans HB.out.2 (on_trans (on_drew wa) b5))) (And.intro (put_step hb5 HQ.out.2.2.2.2.2.2 HQ.out.2.1 HQ.out.2.2.2.2.1 HQ.out.2.2.2.2.2.1 HO.out) (HB.out.1.on (on_trans (on_drew wa) b5))))
                       clear hb5 b5)
                    | (refine step_copy_only rfl (.tmp 127) (.tmp 130) rfl g o (T - o) (T - o) 128 128 ⟨wa.heap.size, 0, none⟩ rfl rfl (flat cnt (runTo (bitOf keep) F p k3)) (ful x) H5.out.1.want H5.out.2.1.1 H5.out.2.1.2.1 H5.out.2.1.2.2.1 ?_
                       intro w6 hb6 k6
                       have K3 := Lib.hid (keep_asks k6 H5.out.1.want H5.out.2.2)
                       have H6 := Lib.hid (And.intro hb6 k6)
                       clear hb6 k6))
                all_goals
                  (go_wp2
                   go_roundw
                   case rel =>
                     refine ⟨k3 + 1, by omega, by go_num, H5.out.1.copied ?_ H6.out.2⟩
                     have := H6.out.1
                     rw [H5.out.2.1.2.2.2] at this
                     rw [runTo_succ, if_pos HQ.out.2.2.2.1, HQ.out.2.2.1]
                     exact this
                   case measure => simp [intOf]; omega)
              · have hb0 : keep / 2 ^ r % 2 = 0 := by omega
                rw [hb0] at hq
                have hbit : bitOf keep k3 = false := by simp [bitOf, ← hr, hb]
                have hK2 : Keep3 w wr d da dn od cnt g gn (keeps keep F p) G F G (runTo (bitOf keep) F p (k3 + 1)) (.slice (some ⟨gr, 0, none⟩) m c13) vs := by
                  rw [runTo_succ, if_neg (by rw [hbit]; decide)]
                  exact hK
                have HQ := Lib.hid hK2
                clear hK hK2 hgw hpk2 hbit hic hT ok0 ok1 ok2 ok3 hb hb0 hr hT1
                go_wp2
                go_roundw
                case rel => exact ⟨k3 + 1, by omega, by go_num, HQ.out.on (on_alloc _ _)⟩
                case measure => simp [intOf]; omega
            · obtain ⟨ddr, dor, bwr, hrow, hdn, hne, hok, hp, hG, hT, hm, hol⟩ := HE.out
              obtain ⟨W, hW⟩ : ∃ W, W = keeps keep F p := ⟨_, rfl⟩
              obtain ⟨S1, hS1⟩ : ∃ S, S = strOfNums (flat cnt W) := ⟨_, rfl⟩
              obtain ⟨S2, hS2⟩ : ∃ S, S = strOfNums (flat cnt G) := ⟨_, rfl⟩
              obtain ⟨S3, hS3⟩ : ∃ S, S = strOfNums (flat cnt F) := ⟨_, rfl⟩
              have ek : runTo (bitOf keep) F p k3 = W := by
                rw [hW, keeps, hp, List.length_map, ← hm]
                congr 1
                omega
              rw [ek, ← hW] at hK
              have gW : Good cnt W := by rw [hW]; exact good_keeps HG.out.2.2 ddr.good.2.1
              have gG : Good cnt G := by rw [hG]; exact good_after HG.out.2.2 ddr.good.2.1
              have hc4 : cnt ≤ 4096 := by omega
              have SK : ∀ w' : World, Keep3 w w' d da dn od cnt g gn W G F G W (.slice A13 m c13) vs → (convert 22 9 (.slice (some ⟨g, 0, none⟩) T T)).run Try.prog w' = .ok (.string S1) w' ∧ (convert 22 9 (.slice (some ⟨gn, 0, none⟩) T T)).run Try.prog w' = .ok (.string S2) w' := fun w' h => by
                rw [hS1, hS2, hT]
                exact ⟨sl_str (flat_sl (K := fun _ => True) h.want gW hc4 trivial), sl_str (flat_sl (K := fun _ => True) h.was gG hc4 trivial)⟩
              have CV : ∀ (w' : World) (b : Nat) (L : Nat → List Int) (S : ByteArray), Good cnt L → S = strOfNums (flat cnt L) → Box w' b 5 (cellsOf (flat cnt L)).toArray → (convert 22 9 (.slice (some ⟨b, 0, none⟩) T T)).run Try.prog w' = .ok (.string S) w' := fun w' b L S hg e hb => by
                rw [e, hT]
                exact sl_str (flat_sl (K := fun _ => True) hb hg hc4 trivial)
              have HS := Lib.hid (And.intro SK (And.intro CV (And.intro gW (And.intro gG (And.intro HG.out.2.2 (And.intro hS1 (And.intro hS2 (And.intro hS3 hT))))))))
              have KA := Lib.hid (show Keep3 w wr.drew d da dn od cnt g gn W G F G W (.slice A13 m c13) vs from hK.on (on_drew wr))
              clear ddr dor bwr hrow hdn hne hok hp hG hT hm hol hW hS1 hS2 hS3 ek hK gW gG SK CV HE hT1 H11
              go_wp2_with fail
              go_region_held (fun w' => (convert 22 9 (.slice (some ⟨g, 0, none⟩) T T)).run Try.prog w' = .ok (.string S1) w' ∧ (convert 22 9 (.slice (some ⟨gn, 0, none⟩) T T)).run Try.prog w' = .ok (.string S2) w')
                (first
                  | exact HS.out.1 _ KA.out
                  | exact HS.out.1 _ KB.out
                  | exact HS.out.1 _ KC.out
                  | exact HS.out.1 _ KD.out
                  | exact HS.out.1 _ KE.out
                  | exact HS.out.1 _ KF.out)
                (first
                  | (go_at_call 17
                     with_reducible refine (bytes_any KA.out.four.kd).mono ?_
                     rintro e wB ⟨gB, rfl, _, hbB, bB⟩
                     rw [after_nil] at hbB
                     rw [← HS.out.2.2.2.2.2.2.2.2]
                     have cvB := HS.out.2.1 wB gB W S1 HS.out.2.2.1 HS.out.2.2.2.2.2.1 hbB
                     have KB := Lib.hid (KA.out.on bB)
                     clear hbB bB)
                  | (go_at_call 17
                     with_reducible refine (bytes_any KB.out.four.ka).mono ?_
                     rintro e wC ⟨gC, rfl, _, hbC, bC⟩
                     rw [after_nil] at hbC
                     rw [← HS.out.2.2.2.2.2.2.2.2]
                     have cvC := HS.out.2.1 wC gC G S2 HS.out.2.2.2.1 HS.out.2.2.2.2.2.2.1 hbC
                     have KC := Lib.hid (KB.out.on bC)
                     clear hbC bC)
                  | (go_at_call 17
                     with_reducible refine (bytes_any KC.out.four.kn).mono ?_
                     rintro e wD ⟨gD, rfl, _, hbD, bD⟩
                     rw [after_nil] at hbD
                     rw [← HS.out.2.2.2.2.2.2.2.2]
                     have cvD := HS.out.2.1 wD gD F S3 HS.out.2.2.2.2.1 HS.out.2.2.2.2.2.2.2.1 hbD
                     have HbD := Lib.hid hbD
                     have KD := Lib.hid (KC.out.on bD)
                     clear hbD bD)
                  | (go_at_call 17
                     with_reducible refine (bytes_any KC.out.four.ko).mono ?_
                     rintro e wD ⟨gD, rfl, _, hbD, bD⟩
                     rw [after_nil] at hbD
                     rw [← HS.out.2.2.2.2.2.2.2.2]
                     have cvD := HS.out.2.1 wD gD F S3 HS.out.2.2.2.2.1 HS.out.2.2.2.2.2.2.2.1 hbD
                     have HbD := Lib.hid hbD
                     have KD := Lib.hid (KC.out.on bD)
                     clear hbD bD)
                  | (go_at_call 17
                     with_reducible refine (bytes_any KD.out.four.ko).mono ?_
                     rintro e wE ⟨gE, rfl, _, hbE, bE⟩
                     rw [after_nil] at hbE
                     rw [← HS.out.2.2.2.2.2.2.2.2]
                     have cvE := HS.out.2.1 wE gE F S3 HS.out.2.2.2.2.1 HS.out.2.2.2.2.2.2.2.1 hbE
                     have cvE2 := HS.out.2.1 wE gD F S3 HS.out.2.2.2.2.1 HS.out.2.2.2.2.2.2.2.1 (HbD.out.on bE)
                     have KE := Lib.hid (KD.out.on bE)
                     clear hbE bE)
                  | (go_at_call 17
                     with_reducible refine (bytes_any KD.out.four.kn).mono ?_
                     rintro e wE ⟨gE, rfl, _, hbE, bE⟩
                     rw [after_nil] at hbE
                     rw [← HS.out.2.2.2.2.2.2.2.2]
                     have cvE := HS.out.2.1 wE gE F S3 HS.out.2.2.2.2.1 HS.out.2.2.2.2.2.2.2.1 hbE
                     have cvE2 := HS.out.2.1 wE gD F S3 HS.out.2.2.2.2.1 HS.out.2.2.2.2.2.2.2.1 (HbD.out.on bE)
                     have KE := Lib.hid (KD.out.on bE)
                     clear hbE bE)
                  | (go_at_call 19
                     with_reducible refine (dead_any KE.out.four.kd).mono ?_
                     rintro e w' ⟨rfl, rfl⟩)
                  | (go_at_call 8
                     with_reducible refine (awake_any wE).mono ?_
                     rintro e wF ⟨rfl, bF⟩
                     have KF := Lib.hid (KE.out.on bF)
                     clear bF))
              all_goals
                go_wp2
                go_ret
                exact ⟨rfl, KF.out.bel⟩

end Go.Proofs.Ytghnhabpcikhgaa
