/-
  DiskWrites: the walk, where there is such a sector; and the law.
-/
import Derived.Test.YtghnhabpcikhgaaWritesOff
namespace Go.Proofs.Ytghnhabpcikhgaa
open Go.RowKit Go.Maps
variable {N : Nat}

set_option maxRecDepth 10000 in
set_option maxHeartbeats 6400000 in
theorem writes_in (w : World) (cnt n c i : Nat) (x : Int) (A : Option Addr) (ks : List Step) (h : Dos w A n ks) (hn : n ≤ 100) (h1 : 1 ≤ cnt) (h2 : cnt ≤ 50) (hi : i < cnt) (hx : 0 ≤ x ∧ x ≤ 255) :
    Calls Try.prog 6 #[.int .i64 (cnt : Int), .slice A n c, .int .i64 (i : Int), .int .u8 x] w (Law w) := by
  have HD := Lib.hid h
  have HX := Lib.hid hx
  clear h hx
  go_enter Try.func6, Try.ntmps6
  go_wp2_with fail
  refine (new_some (X := fun _ => False) (N := 0) w cnt h1 (by omega)).mono ?_
  rintro e w1 ⟨d, rfl, hd1, hc1, b1⟩
  have H1 := Lib.hid (Going.mk (hc1.own w.heap.size) b1 hd1)
  clear hd1 hc1 b1
  go_wp2
  go_loopw [34] (fun i wr => ∃ k : Nat, k ≤ n ∧ i = .int .i64 k ∧ Going 0 w wr d cnt (fun _ => zeros) (wrs cnt (ks.take k))) (fun i _ => n - (intOf i).toNat)
  case atStart => exact ⟨0, Nat.zero_le _, rfl, H1.out⟩
  case round =>
    obtain ⟨k, hkn, rfl, hG⟩ := hrel
    by_cases hlt : k < n
    · obtain ⟨b, off, s, rfl, hs, hx0, hx1, hcells⟩ := HD.out.get hlt
      obtain ⟨q0, q1, q2, q3, q4⟩ := hcells wr hG.bel
      have hpl : (wrs cnt (ks.take k)).length < 1000 := by
        have := wrs_len cnt (ks.take k)
        rw [List.length_take] at this
        omega
      have hmore : wrs cnt (ks.take (k + 1)) = wrs cnt (ks.take k) ++ wrOf cnt s := by
        have hk2 := (List.getElem?_eq_some_iff.1 hs).1
        rw [wrs_more cnt ks k hk2, (List.getElem?_eq_some_iff.1 hs).2]
      have HG := Lib.hid (And.intro hG (And.intro hpl (And.intro hmore (And.intro hx0 hx1))))
      clear hG hpl hmore hx0 hx1 hcells hs
      go_wp2_with fail
      obtain ⟨g, hg⟩ : ∃ g, g = wr.heap.size := ⟨_, rfl⟩
      obtain ⟨wa, hwa⟩ : ∃ wa, wa = wr.alloc (.cells #[.int .i64 s.vb, .int .i64 s.i, .int .u8 s.x, .bool s.sh, .int .u64 s.kp] 38) := ⟨_, rfl⟩
      have hbox := Box.made wr 38 #[.int .i64 s.vb, .int .i64 s.i, .int .u8 s.x, .bool s.sh, .int .u64 s.kp]
      have ba : Below wr.heap.size wr wa := by rw [hwa]; exact on_alloc _ _
      rw [← hwa, ← hg] at hbox ⊢
      have HB := Lib.hid (And.intro hbox ba)
      have K1 := Lib.hid (show Asks g s.i s.x wa.drew from ⟨hbox.cell 1, hbox.cell 2⟩)
      clear hwa hg hbox ba q0 q1 q2 q3 q4
      go_region_held3 (fun w' => w'.cell? ⟨g, 1, none⟩ = some (.int .i64 s.i) ∧ w'.cell? ⟨g, 2, none⟩ = some (.int .u8 s.x))
        (first
          | exact K1.out
          | exact K2.out
          | exact K3.out.2)
        (first
          | (go_at_call 14
             refine (full_any wa.drew s.x).mono ?_
             rintro e w2 ⟨rfl, hb2, b2⟩
             have K2 := Lib.hid (K1.out.on b2)
             have H2 := Lib.hid (And.intro hb2 (on_trans (on_drew wa) b2))
             clear hb2 b2)
          | (go_at_call 13
             refine (write_step (s := s) ((HG.out.1.own.on HB.out.2).on H2.out.2) (Nat.le_trans HG.out.1.bel.size (Nat.le_trans HB.out.2.size H2.out.2.size)) HG.out.2.1 H2.out.1 HG.out.2.2.2.1 HG.out.2.2.2.2 (fun _ _ h => h)).mono ?_
             rintro e w3 ⟨rfl, o3, f3⟩
             have K3 := Lib.hid (HG.out.1.wrote HB.out.2 H2.out.2 o3 f3 ⟨_, HB.out.1, rfl, rfl⟩)
             clear o3 f3))
      all_goals
        (go_wp2
         go_roundw
         case rel =>
           refine ⟨k + 1, by omega, by go_num, ?_⟩
           rw [HG.out.2.2.1]
           exact K3.out.1
         case measure => simp [intOf]; omega)
    · have ek : ks.take k = ks := List.take_of_length_le (by have := HD.out.len; omega)
      rw [ek] at hG
      obtain ⟨P, hP⟩ : ∃ P, P = wrs cnt ks := ⟨_, rfl⟩
      obtain ⟨F, hF⟩ : ∃ F, F = after (fun _ => zeros) P := ⟨_, rfl⟩
      obtain ⟨T, hT⟩ : ∃ T, T = cnt * 128 := ⟨_, rfl⟩
      obtain ⟨S, hS⟩ : ∃ S, S = strOfNums (flat cnt F) := ⟨_, rfl⟩
      rw [← hP] at hG
      have hgd : Good cnt F := by rw [hF]; exact good_after hG.own.good.1 hG.own.good.2.1
      have hpl : P.length < 1000 := by
        have := wrs_len cnt ks
        have := HD.out.len
        rw [← hP] at *
        omega
      have HG := Lib.hid (And.intro hG (And.intro hF (And.intro hT (And.intro hS (And.intro hgd hpl)))))
      clear hG hP hF ek hT hS hgd hpl HD H1
      go_wp2_with fail
      refine (bytes_any HG.out.1.own.disk).mono ?_
      rintro e w2 ⟨g, rfl, hg2, hb2, b2⟩
      rw [← HG.out.2.1] at hb2
      rw [← HG.out.2.2.1]
      have H2 := Lib.hid (And.intro hg2 (And.intro hb2 b2))
      clear hg2 hb2 b2
      go_wp2_with fail
      refine (full_any w2 x).mono ?_
      rintro e w3 ⟨rfl, hb3, b3⟩
      have H3 := Lib.hid (And.intro hb3 b3)
      clear hb3 b3
      go_wp2_with fail
      refine (write_ok (i := i) (((HG.out.1.own.avoid H2.out.1).on H2.out.2.2).on H3.out.2) (Nat.le_trans HG.out.1.bel.size (Nat.le_trans H2.out.2.2.size H3.out.2.size)) HG.out.2.2.2.2.2 (ful_str (K := fun _ => True) H3.out.1 (ful_len x) (ful_fit HX.out.1 HX.out.2) trivial) hi (fun k hk e => by have := H2.out.2.1.lt; have := H3.out.2.size; omega)).mono ?_
      rintro e w4 ⟨rfl, o4, f4⟩
      have H4 := Lib.hid (WritesAt.mk o4 (Below.trans (on_trans (on_trans HG.out.1.bel H2.out.2.2) H3.out.2) (f4.below (Nat.le_trans HG.out.1.bel.size (Nat.le_trans H2.out.2.2.size H3.out.2.size)) (Nat.le_refl _) HG.out.1.new)) HG.out.1.new (Nat.le_trans HG.out.1.bel.size H2.out.1) (f4.box5 (((HG.out.1.own.on H2.out.2.2).on H3.out.2).box.choose_spec) (H2.out.2.1.on H3.out.2)) hi HX.out HG.out.2.2.2.2.1)
      clear o4 f4 H2 H3
      have hT1 : (cnt : Int) * 128 = (T : Int) := by have := HG.out.2.2.1; omega
      have hT2 : T ≤ 6400 := by have := HG.out.2.2.1; omega
      obtain ⟨o, ho⟩ : ∃ o, o = i * 128 := ⟨_, rfl⟩
      have ho1 : (i : Int) * 128 = (o : Int) := by omega
      have ho2 : o < T := by omega
      have ho3 : (0 : Int) ≤ (o : Int) := by omega
      have ho4 : (o : Int) ≤ (T : Int) := by omega
      have ho5 : IntKind.i64.wrap (o : Int) = (o : Int) := by simp [IntKind.wrap, IntKind.bits, IntKind.signed]; omega
      have ho6 : ¬ T = o := by omega
      have hi0 : ¬ (i : Int) < 0 := by omega
      have hi1 : ¬ (cnt : Int) ≤ (i : Int) := by omega
      have HO := Lib.hid ho
      clear ho
      go_wp2_with fail
      go_region_held3 (fun _ => True) (exact trivial)
        (first
          | (go_at_call 14
             refine (full_any w4.drew x).mono ?_
             rintro e w5 ⟨rfl, hb5, b5⟩
             have H5 := Lib.hid (And.intro (H4.out.on (on_trans (on_drew w4) b5)) (put_step hb5 H4.out.fit H4.out.good H4.out.lt HG.out.2.2.1 HO.out))
             clear hb5 b5)
          | (refine step_copy_only rfl (.tmp 81) (.tmp 83) rfl g o (T - o) (T - o) 128 128 ⟨w4.heap.size, 0, none⟩ rfl rfl (flat cnt F) (ful x) H5.out.1.was H5.out.2.1 H5.out.2.2.1 H5.out.2.2.2.1 ?_
             intro w6 hb6 k6
             have H6 := Lib.hid (And.intro hb6 k6)
             clear hb6 k6))
      obtain ⟨G, hG⟩ : ∃ G, G = upd F i (ful x) := ⟨_, rfl⟩
      obtain ⟨S2, hS2⟩ : ∃ S, S = strOfNums (flat cnt G) := ⟨_, rfl⟩
      have hGd : Good cnt G := by rw [hG]; exact good_upd HG.out.2.2.2.2.1 (ful_len x) (ful_fit HX.out.1 HX.out.2)
      have hAf : after (fun _ => zeros) (P ++ [(i, ful x)]) = G := by rw [after_snoc, ← HG.out.2.1, hG]
      have hw6 : Box w6 g 5 (cellsOf (flat cnt G)).toArray := by
        have := H6.out.1
        rw [H5.out.2.2.2.2, ← hG] at this
        exact this
      have H7 := Lib.hid (And.intro (H5.out.1.own.spared H6.out.2 H5.out.1.was) (And.intro hw6 (And.intro (H5.out.1.bel.trans (H6.out.2.below H5.out.1.bel.size (fun j hj e => by have := H5.out.1.neg; omega))) (And.intro hGd (And.intro hAf hS2)))))
      clear hG hS2 hGd hAf hw6 H6
      go_wp2_with fail
      refine (bytes_any H7.out.1.disk).mono ?_
      rintro e w7 ⟨g7, rfl, hg7, hb7, b7⟩
      rw [H7.out.2.2.2.2.1] at hb7
      rw [← HG.out.2.2.1]
      have H8 := Lib.hid (And.intro hb7 b7)
      clear hg7 hb7 b7
      go_wp2_with fail
      refine (sync_any (H7.out.1.on H8.out.2) (by omega)).mono ?_
      rintro e w8 ⟨rfl, c8, o8⟩
      rw [H7.out.2.2.2.2.1] at c8
      have hd7 := ((H7.out.1.on H8.out.2).box).choose_spec
      have H9 := Lib.hid (And.intro c8.disk (And.intro (flat_sl (K := fun _ => True) (o8.box hd7 (H7.out.2.1.on H8.out.2) (by decide)) H7.out.2.2.2.1 (by omega) trivial) (And.intro (flat_sl (K := fun _ => True) (o8.box hd7 H8.out.1 (by decide)) H7.out.2.2.2.1 (by omega) trivial) ((on_trans H7.out.2.2.1 H8.out.2).trans (o8.below (on_trans H7.out.2.2.1 H8.out.2).size (fun j hj e => by have := HG.out.1.new; omega))))))
      clear c8 o8 hd7 H8
      have cv0 := sl_str H9.out.2.1.drew
      have cw0 := sl_str H9.out.2.2.1.drew
      rw [← H7.out.2.2.2.2.2, ← HG.out.2.2.1] at cv0 cw0
      have K8 := Lib.hid (And.intro cv0 cw0)
      clear cv0 cw0
      go_wp2_with fail
      go_region_held (fun w' => (convert 22 9 (.slice (some ⟨g, 0, none⟩) T T)).run Try.prog w' = .ok (.string S2) w' ∧ (convert 22 9 (.slice (some ⟨g7, 0, none⟩) T T)).run Try.prog w' = .ok (.string S2) w')
        (first
          | exact K8.out
          | exact K9.out
          | exact K10.out)
        (first
          | (go_at_call 17
             refine (bytes_any (H9.out.1.on (on_drew w8))).mono ?_
             rintro e w9 ⟨g9, rfl, _, hb9, b9⟩
             rw [after_nil] at hb9
             have cv1 := sl_str (flat_sl (K := fun _ => True) hb9 H7.out.2.2.2.1 (by omega) trivial)
             have cv2 := sl_str (H9.out.2.1.drew.on b9)
             have cv3 := sl_str (H9.out.2.2.1.drew.on b9)
             rw [← H7.out.2.2.2.2.2, ← HG.out.2.2.1] at cv1 cv2 cv3
             rw [← HG.out.2.2.1]
             have K9 := Lib.hid (And.intro cv2 cv3)
             have H10 := Lib.hid (And.intro (H9.out.1.on (on_trans (on_drew w8) b9)) (And.intro (H9.out.2.1.drew.on b9) (And.intro (H9.out.2.2.1.drew.on b9) (on_trans H9.out.2.2.2 (on_trans (on_drew w8) b9)))))
             clear hb9 b9 cv2 cv3)
          | (go_at_call 24
             refine (pending_any H10.out.1).mono ?_
             rintro e w' ⟨rfl, rfl⟩)
          | (go_at_call 8
             refine (awake_any w9).mono ?_
             rintro e w10 ⟨rfl, b10⟩
             have cv4 := sl_str (H10.out.2.1.on b10)
             have cv5 := sl_str (H10.out.2.2.1.on b10)
             rw [← H7.out.2.2.2.2.2, ← HG.out.2.2.1] at cv4 cv5
             have K10 := Lib.hid (And.intro cv4 cv5)
             have H11 := Lib.hid (on_trans H10.out.2.2.2 b10)
             clear b10 cv4 cv5))
      all_goals
        go_wp2
        go_ret
        exact ⟨rfl, H11.out⟩

set_option maxHeartbeats 400000 in
theorem writes_else (w : World) (m at_ x : Int) (n c : Nat) (A : Option Addr) (h : 100 < n ∨ m < 1 ∨ 50 < m) :
    Calls Try.prog 6 #[.int .i64 m, .slice A n c, .int .i64 at_, .int .u8 x] w (Law w) := by
  have hc : ((100 : Int) < (n : Int)) ∨ (¬ (100 : Int) < (n : Int) ∧ m < 1) ∨ (¬ (100 : Int) < (n : Int) ∧ ¬ m < 1 ∧ 50 < m) := by omega
  rcases hc with a1 | ⟨a1, a2⟩ | ⟨a1, a2, a3⟩
  all_goals
    go_enter Try.func6, Try.ntmps6
    go_wp2_with fail
    refine (awake_any w).mono ?_
    rintro e w8 ⟨rfl, b8⟩
    have F8 := Lib.hid b8
    clear b8
    go_wp2
    go_ret
    exact ⟨rfl, F8.out⟩

theorem diskWrites_calls (w : World) (m : Int) (n c : Nat) (A : Option Addr) (ks : List Step) (at_ x : Int) (h : Dos w A n ks) (hx : 0 ≤ x ∧ x ≤ 255) :
    Calls Try.prog 6 #[.int .i64 m, .slice A n c, .int .i64 at_, .int .u8 x] w (Law w) := by
  by_cases hb : 100 < n ∨ m < 1 ∨ 50 < m
  · exact writes_else w m at_ x n c A hb
  · obtain ⟨cnt, rfl⟩ : ∃ k : Nat, m = (k : Int) := ⟨m.toNat, by omega⟩
    by_cases hi : 0 ≤ at_ ∧ at_ < (cnt : Int)
    · obtain ⟨i, rfl⟩ : ∃ k : Nat, at_ = (k : Int) := ⟨at_.toNat, by omega⟩
      exact writes_in w cnt n c i x A ks h (by omega) (by omega) (by omega) (by omega) hx
    · exact writes_off w cnt n c at_ x A ks h (by omega) (by omega) (by omega) (by omega)

end Go.Proofs.Ytghnhabpcikhgaa
