/-
  DiskWrites: the walk.
-/
import Derived.Test.YtghnhabpcikhgaaSynced
namespace Go.Proofs.Ytghnhabpcikhgaa
open Go.RowKit Go.Maps
variable {N : Nat}

/-- what DiskWrites stands on behind its last write -/
structure WritesAt (w wr : World) (d cnt g i : Nat) (x : Int) (P : List Wr) (F : Nat → List Int) : Prop where
  own : Own (fun k => k = g) 0 w.heap.size wr d cnt (fun _ => zeros) (P ++ [(i, ful x)]) false
  bel : Below w.heap.size w wr
  new : w.heap.size ≤ d
  neg : w.heap.size ≤ g
  was : Box wr g 5 (cellsOf (flat cnt F)).toArray
  lt : i < cnt
  fit : 0 ≤ x ∧ x ≤ 255
  good : Good cnt F
theorem WritesAt.on {w wr w2 : World} {d cnt g i : Nat} {x : Int} {P : List Wr} {F : Nat → List Int} (h : WritesAt w wr d cnt g i x P F) (b : Below wr.heap.size wr w2) : WritesAt w w2 d cnt g i x P F :=
  ⟨h.own.on b, on_trans h.bel b, h.new, h.neg, h.was.on b, h.lt, h.fit, h.good⟩
/-- what a copy of a new sector to its place asks -/
theorem put_step {w : World} {cnt i b : Nat} {F : Nat → List Int} {x : Int} (hb : Box w b 5 (cellsOf (ful x)).toArray) (hx : 0 ≤ x ∧ x ≤ 255) (hg : Good cnt F) (hi : i < cnt) {T o : Nat} (hT : T = cnt * 128) (ho : o = i * 128) :
    (ful x).length = Nat.min 128 (T - o) ∧ (∀ j v, (cellsOf (ful x))[j]? = some v → w.cell? ((⟨b, 0, none⟩ : Addr).add j) = some v) ∧ o + (ful x).length ≤ (flat cnt F).length ∧ splice (flat cnt F) o (ful x) = flat cnt (upd F i (ful x)) := by
  refine ⟨?_, (ful_str (K := fun _ => True) hb (ful_len x) (ful_fit hx.1 hx.2) trivial).bts.read, ?_, ?_⟩
  · rw [ful_len]
    exact (Nat.min_eq_left (by omega)).symm
  · rw [ful_len, flat_len hg]
    omega
  · rw [ho]
    exact splice_flat hg hi (ful_len x)

set_option maxRecDepth 10000 in
set_option maxHeartbeats 6400000 in
theorem writes_off (w : World) (cnt n c : Nat) (at_ x : Int) (A : Option Addr) (ks : List Step) (h : Dos w A n ks) (hn : n ≤ 100) (h1 : 1 ≤ cnt) (h2 : cnt ≤ 50) (hat : at_ < 0 ∨ (¬ at_ < 0 ∧ (cnt : Int) ≤ at_)) :
    Calls Try.prog 6 #[.int .i64 (cnt : Int), .slice A n c, .int .i64 at_, .int .u8 x] w (Law w) := by
  have HD := Lib.hid h
  have HAT := Lib.hid hat
  clear h hat
  go_enter Try.func6, Try.ntmps6
  go_wp2_with fail
  refine (new_some (X := fun _ => False) (N := 0) w cnt h1 (by omega)).mono ?_
  rintro e w1 ⟨d, rfl, hd1, hc1, b1⟩
  have H1 := Lib.hid (Going.mk (hc1.own w.heap.size) b1 hd1)
  clear hd1 hc1 b1
  go_wp2
  go_loopw [34] (fun i wr => ∃ k : Nat, k ≤ n ∧ i = .int .i64 k ∧ Going 0 w wr d cnt (fun _ => zeros) (wrs cnt (ks.take k))) (fun i _ => n - (intOf i).toNat)
  case atStart => exact ⟨0, Nat.zero_le _, rfl, H1.out⟩
  case round =>
    obtain ⟨k, hkn, rfl, hG⟩ := hrel
    by_cases hlt : k < n
    · obtain ⟨b, off, s, rfl, hs, hx0, hx1, hcells⟩ := HD.out.get hlt
      obtain ⟨q0, q1, q2, q3, q4⟩ := hcells wr hG.bel
      have hpl : (wrs cnt (ks.take k)).length < 1000 := by
        have := wrs_len cnt (ks.take k)
        rw [List.length_take] at this
        omega
      have hmore : wrs cnt (ks.take (k + 1)) = wrs cnt (ks.take k) ++ wrOf cnt s := by
        have hk2 := (List.getElem?_eq_some_iff.1 hs).1
        rw [wrs_more cnt ks k hk2, (List.getElem?_eq_some_iff.1 hs).2]
      have HG := Lib.hid (And.intro hG (And.intro hpl (And.intro hmore (And.intro hx0 hx1))))
      clear hG hpl hmore hx0 hx1 hcells hs
      go_wp2_with fail
      obtain ⟨g, hg⟩ : ∃ g, g = wr.heap.size := ⟨_, rfl⟩
      obtain ⟨wa, hwa⟩ : ∃ wa, wa = wr.alloc (.cells #[.int .i64 s.vb, .int .i64 s.i, .int .u8 s.x, .bool s.sh, .int .u64 s.kp] 38) := ⟨_, rfl⟩
      have hbox := Box.made wr 38 #[.int .i64 s.vb, .int .i64 s.i, .int .u8 s.x, .bool s.sh, .int .u64 s.kp]
      have ba : Below wr.heap.size wr wa := by rw [hwa]; exact on_alloc _ _
      rw [← hwa, ← hg] at hbox ⊢
      have HB := Lib.hid (And.intro hbox ba)
      have K1 := Lib.hid (show Asks g s.i s.x wa.drew from ⟨hbox.cell 1, hbox.cell 2⟩)
      clear hwa hg hbox ba q0 q1 q2 q3 q4
      go_region_held3 (fun w' => w'.cell? ⟨g, 1, none⟩ = some (.int .i64 s.i) ∧ w'.cell? ⟨g, 2, none⟩ = some (.int .u8 s.x))
        (first
          | exact K1.out
          | exact K2.out
          | exact K3.out.2)
        (first
          | (go_at_call 14
             refine (full_any wa.drew s.x).mono ?_
             rintro e w2 ⟨rfl, hb2, b2⟩
             have K2 := Lib.hid (K1.out.on b2)
             have H2 := Lib.hid (And.intro hb2 (on_trans (on_drew wa) b2))
             clear hb2 b2)
          | (go_at_call 13
             refine (write_step (s := s) ((HG.out.1.own.on HB.out.2).on H2.out.2) (Nat.le_trans HG.out.1.bel.size (Nat.le_trans HB.out.2.size H2.out.2.size)) HG.out.2.1 H2.out.1 HG.out.2.2.2.1 HG.out.2.2.2.2 (fun _ _ h => h)).mono ?_
             rintro e w3 ⟨rfl, o3, f3⟩
             have K3 := Lib.hid (HG.out.1.wrote HB.out.2 H2.out.2 o3 f3 ⟨_, HB.out.1, rfl, rfl⟩)
             clear o3 f3))
      all_goals
        (go_wp2
         go_roundw
         case rel =>
           refine ⟨k + 1, by omega, by go_num, ?_⟩
           rw [HG.out.2.2.1]
           exact K3.out.1
         case measure => simp [intOf]; omega)
    · have ek : ks.take k = ks := List.take_of_length_le (by have := HD.out.len; omega)
      rw [ek] at hG
      obtain ⟨P, hP⟩ : ∃ P, P = wrs cnt ks := ⟨_, rfl⟩
      obtain ⟨F, hF⟩ : ∃ F, F = after (fun _ => zeros) P := ⟨_, rfl⟩
      obtain ⟨T, hT⟩ : ∃ T, T = cnt * 128 := ⟨_, rfl⟩
      obtain ⟨S, hS⟩ : ∃ S, S = strOfNums (flat cnt F) := ⟨_, rfl⟩
      rw [← hP] at hG
      have hgd : Good cnt F := by rw [hF]; exact good_after hG.own.good.1 hG.own.good.2.1
      have hpl : P.length < 1000 := by
        have := wrs_len cnt ks
        have := HD.out.len
        rw [← hP] at *
        omega
      have HG := Lib.hid (And.intro hG (And.intro hF (And.intro hT (And.intro hS (And.intro hgd hpl)))))
      clear hG hP hF ek hT hS hgd hpl HD H1
      go_wp2_with fail
      refine (bytes_any HG.out.1.own.disk).mono ?_
      rintro e w2 ⟨g, rfl, hg2, hb2, b2⟩
      rw [← HG.out.2.1] at hb2
      rw [← HG.out.2.2.1]
      have H2 := Lib.hid (And.intro hg2 (And.intro hb2 b2))
      clear hg2 hb2 b2
      go_wp2_with fail
      refine (full_any w2 x).mono ?_
      rintro e w3 ⟨rfl, hb3, b3⟩
      have H3 := Lib.hid (And.intro hb3 b3)
      clear hb3 b3
      go_wp2_with fail
      refine (write_off ((HG.out.1.own.on H2.out.2.2).on H3.out.2) (by have := HAT.out; omega)).mono ?_
      rintro e w' ⟨rfl, rfl⟩
      have H4 := Lib.hid (And.intro ((HG.out.1.own.on H2.out.2.2).on H3.out.2).disk (And.intro (flat_sl (K := fun _ => True) (H2.out.2.1.on H3.out.2) HG.out.2.2.2.2.1 (by omega) trivial) (on_trans (on_trans HG.out.1.bel H2.out.2.2) H3.out.2)))
      have cv0 := sl_str H4.out.2.1.drew
      rw [← HG.out.2.2.2.1, ← HG.out.2.2.1] at cv0
      have K4 := Lib.hid cv0
      clear cv0 H2 H3
      rcases HAT.out with a1 | ⟨a1, a2⟩
      all_goals
        (go_wp2_with fail
         go_region_held (fun w' => (convert 22 9 (.slice (some ⟨g, 0, none⟩) T T)).run Try.prog w' = .ok (.string S) w')
           (first
             | exact K4.out
             | exact K5.out
             | exact K6.out)
           (first
             | (go_at_call 17
                refine (bytes_any (H4.out.1.on (on_drew w3))).mono ?_
                rintro e w5 ⟨g5, rfl, _, hb5, b5⟩
                rw [← HG.out.2.1] at hb5
                have cv1 := sl_str (flat_sl (K := fun _ => True) hb5 HG.out.2.2.2.2.1 (by omega) trivial)
                have cv2 := sl_str (H4.out.2.1.drew.on b5)
                rw [← HG.out.2.2.2.1, ← HG.out.2.2.1] at cv1 cv2
                rw [← HG.out.2.2.1]
                have K5 := Lib.hid cv2
                have H5 := Lib.hid (And.intro (H4.out.2.1.drew.on b5) (on_trans H4.out.2.2 (on_trans (on_drew w3) b5)))
                clear hb5 b5 cv2)
             | (go_at_call 8
                refine (awake_any w5).mono ?_
                rintro e w6 ⟨rfl, b6⟩
                have cv3 := sl_str (H5.out.1.on b6)
                rw [← HG.out.2.2.2.1, ← HG.out.2.2.1] at cv3
                have K6 := Lib.hid cv3
                have H6 := Lib.hid (on_trans H5.out.2 b6)
                clear b6 cv3))
         all_goals
           (go_wp2
            go_ret
            exact ⟨rfl, H6.out⟩))

end Go.Proofs.Ytghnhabpcikhgaa
