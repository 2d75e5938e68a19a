/-
  DiskSynced: the walk.
-/
import Derived.Test.YtghnhabpcikhgaaPlay
namespace Go.Proofs.Ytghnhabpcikhgaa
open Go.RowKit Go.Maps
variable {N : Nat}

/-- a disk that the law has made, and all that was there is as it was -/
structure Going (N : Nat) (w wr : World) (d cnt : Nat) (f : Nat → List Int) (p : List Wr) : Prop where
  own : Own (fun _ => False) N w.heap.size wr d cnt f p false
  bel : Below w.heap.size w wr
  new : w.heap.size ≤ d
/-- a step's cells -/
def Asks (b : Nat) (i x : Int) (w : World) : Prop := w.cell? ⟨b, 1, none⟩ = some (.int .i64 i) ∧ w.cell? ⟨b, 2, none⟩ = some (.int .u8 x)
theorem Asks.on {b : Nat} {i x : Int} {w w' : World} (h : Asks b i x w) (k : Below w.heap.size w w') : Asks b i x w' :=
  ⟨(k.cell (p := ⟨b, 1, none⟩) (World.block_lt_of_cell? w _ h.1)).trans h.1, (k.cell (p := ⟨b, 2, none⟩) (World.block_lt_of_cell? w _ h.2)).trans h.2⟩
/-- all bytes of a disk, in a block of their own -/
theorem flat_sl {w : World} {g cnt : Nat} {f : Nat → List Int} {K : Nat → Prop} (hb : Box w g 5 (cellsOf (flat cnt f)).toArray) (hg : Good cnt f) (hc : cnt ≤ 4096) (hK : K g) : Sl w K (some ⟨g, 0, none⟩) (cnt * 128) (cnt * 128) (flat cnt f) :=
  sl_of_box hb (flat_fit hg) (flat_len hg) (by unfold maxLen; omega) hK
/-- what is asked of the cells of a step, and the step's write -/
theorem Going.wrote {w wr w1 w2 w3 : World} {d cnt b : Nat} {f : Nat → List Int} {p q : List Wr} {i x : Int} (h : Going N w wr d cnt f p) (b1 : Below wr.heap.size wr w1) (b2 : Below w1.heap.size w1 w2) (o3 : Own (fun _ => False) N w.heap.size w3 d cnt f q false) (f3 : Fr w.heap.size d w2 w3)
    (ha : ∃ cs, Box w1 b 38 cs ∧ cs[1]? = some (.int .i64 i) ∧ cs[2]? = some (.int .u8 x)) : Going N w w3 d cnt f q ∧ Asks b i x w3 := by
  obtain ⟨cs, hb, h1, h2⟩ := ha
  obtain ⟨cd, hd⟩ := h.own.box
  have hd2 := (hd.on b1).on b2
  have hb3 := f3.boxT hd2 (hb.on b2) (by decide) (by decide) (by decide)
  refine ⟨⟨o3, (h.bel.trans (b1.mono h.bel.size)).trans ((b2.mono (Nat.le_trans h.bel.size b1.size)).trans (f3.below (Nat.le_trans h.bel.size (Nat.le_trans b1.size b2.size)) (Nat.le_refl _) h.new)), h.new⟩, ?_, ?_⟩
  · rw [hb3.cell 1, h1]
  · rw [hb3.cell 2, h2]
theorem Dos.get {w : World} {A : Option Addr} {n : Nat} {ks : List Step} (h : Dos w A n ks) {k : Nat} (hk : k < n) : ∃ b off s, A = some ⟨b, off, none⟩ ∧ ks[k]? = some s ∧ 0 ≤ s.x ∧ s.x ≤ 255 ∧ ∀ w' : World, Below w.heap.size w w' → w'.cell? ⟨b, off + k * 5, none⟩ = some (.int .i64 s.vb) ∧ w'.cell? ⟨b, off + k * 5 + 1, none⟩ = some (.int .i64 s.i) ∧
    w'.cell? ⟨b, off + k * 5 + 2, none⟩ = some (.int .u8 s.x) ∧ w'.cell? ⟨b, off + k * 5 + 3, none⟩ = some (.bool s.sh) ∧ w'.cell? ⟨b, off + k * 5 + 4, none⟩ = some (.int .u64 s.kp) := by
  obtain ⟨b, off, e, hb, hc⟩ := h.at_ (by omega)
  have hk2 : k < ks.length := by have := h.len; omega
  have hx := h.fit ks[k] (List.getElem_mem hk2)
  refine ⟨b, off, ks[k], e, List.getElem?_eq_getElem hk2, hx.1, hx.2, fun w' hw => ?_⟩
  obtain ⟨h0, h1, h2, h3, h4⟩ := hc k hk2
  exact ⟨(hw.cell (p := ⟨b, off + k * 5, none⟩) hb).trans h0, (hw.cell (p := ⟨b, off + k * 5 + 1, none⟩) hb).trans h1, (hw.cell (p := ⟨b, off + k * 5 + 2, none⟩) hb).trans h2, (hw.cell (p := ⟨b, off + k * 5 + 3, none⟩) hb).trans h3, (hw.cell (p := ⟨b, off + k * 5 + 4, none⟩) hb).trans h4⟩

set_option maxRecDepth 10000 in
set_option maxHeartbeats 3200000 in
theorem synced_any (w : World) (cnt n c keep : Nat) (A : Option Addr) (ks : List Step) (h : Dos w A n ks) (hn : n ≤ 100) (h1 : 1 ≤ cnt) (h2 : cnt ≤ 50) (hk : keep < 18446744073709551616) :
    Calls Try.prog 7 #[.int .i64 (cnt : Int), .slice A n c, .int .u64 (keep : Int)] w (Law w) := by
  have HD := Lib.hid h
  clear h
  go_enter Try.func7, Try.ntmps7
  go_wp2_with fail
  refine (new_some (X := fun _ => False) (N := 0) w cnt h1 (by omega)).mono ?_
  rintro e w1 ⟨d, rfl, hd1, hc1, b1⟩
  have H1 := Lib.hid (Going.mk (hc1.own w.heap.size) b1 hd1)
  clear hd1 hc1 b1
  go_wp2
  go_loopw [30] (fun i wr => ∃ k : Nat, k ≤ n ∧ i = .int .i64 k ∧ Going 0 w wr d cnt (fun _ => zeros) (wrs cnt (ks.take k))) (fun i _ => n - (intOf i).toNat)
  case atStart => exact ⟨0, Nat.zero_le _, rfl, H1.out⟩
  case round =>
    obtain ⟨k, hkn, rfl, hG⟩ := hrel
    by_cases hlt : k < n
    · obtain ⟨b, off, s, rfl, hs, hx0, hx1, hcells⟩ := HD.out.get hlt
      obtain ⟨q0, q1, q2, q3, q4⟩ := hcells wr hG.bel
      have hpl : (wrs cnt (ks.take k)).length < 1000 := by
        have := wrs_len cnt (ks.take k)
        rw [List.length_take] at this
        omega
      have hmore : wrs cnt (ks.take (k + 1)) = wrs cnt (ks.take k) ++ wrOf cnt s := by
        have hk2 := (List.getElem?_eq_some_iff.1 hs).1
        rw [wrs_more cnt ks k hk2, (List.getElem?_eq_some_iff.1 hs).2]
      have HG := Lib.hid (And.intro hG (And.intro hpl (And.intro hmore (And.intro hx0 hx1))))
      clear hG hpl hmore hx0 hx1 hcells hs
      go_wp2_with fail
      obtain ⟨g, hg⟩ : ∃ g, g = wr.heap.size := ⟨_, rfl⟩
      obtain ⟨wa, hwa⟩ : ∃ wa, wa = wr.alloc (.cells #[.int .i64 s.vb, .int .i64 s.i, .int .u8 s.x, .bool s.sh, .int .u64 s.kp] 38) := ⟨_, rfl⟩
      have hbox := Box.made wr 38 #[.int .i64 s.vb, .int .i64 s.i, .int .u8 s.x, .bool s.sh, .int .u64 s.kp]
      have ba : Below wr.heap.size wr wa := by rw [hwa]; exact on_alloc _ _
      rw [← hwa, ← hg] at hbox ⊢
      have HB := Lib.hid (And.intro hbox ba)
      have K1 := Lib.hid (show Asks g s.i s.x wa.drew from ⟨hbox.cell 1, hbox.cell 2⟩)
      clear hwa hg hbox ba q0 q1 q2 q3 q4
      go_region_held3 (fun w' => w'.cell? ⟨g, 1, none⟩ = some (.int .i64 s.i) ∧ w'.cell? ⟨g, 2, none⟩ = some (.int .u8 s.x))
        (first
          | exact K1.out
          | exact K2.out
          | exact K3.out.2)
        (first
          | (go_at_call 14
             refine (full_any wa.drew s.x).mono ?_
             rintro e w2 ⟨rfl, hb2, b2⟩
             have K2 := Lib.hid (K1.out.on b2)
             have H2 := Lib.hid (And.intro hb2 (on_trans (on_drew wa) b2))
             clear hb2 b2)
          | (go_at_call 13
             refine (write_step (s := s) ((HG.out.1.own.on HB.out.2).on H2.out.2) (Nat.le_trans HG.out.1.bel.size (Nat.le_trans HB.out.2.size H2.out.2.size)) HG.out.2.1 H2.out.1 HG.out.2.2.2.1 HG.out.2.2.2.2 (fun _ _ h => h)).mono ?_
             rintro e w3 ⟨rfl, o3, f3⟩
             have K3 := Lib.hid (HG.out.1.wrote HB.out.2 H2.out.2 o3 f3 ⟨_, HB.out.1, rfl, rfl⟩)
             clear o3 f3))
      all_goals
        (go_wp2
         go_roundw
         case rel =>
           refine ⟨k + 1, by omega, by go_num, ?_⟩
           rw [HG.out.2.2.1]
           exact K3.out.1
         case measure => simp [intOf]; omega)
    · have ek : ks.take k = ks := List.take_of_length_le (by have := HD.out.len; omega)
      rw [ek] at hG
      obtain ⟨P, hP⟩ : ∃ P, P = wrs cnt ks := ⟨_, rfl⟩
      obtain ⟨F, hF⟩ : ∃ F, F = after (fun _ => zeros) P := ⟨_, rfl⟩
      obtain ⟨T, hT⟩ : ∃ T, T = cnt * 128 := ⟨_, rfl⟩
      obtain ⟨S, hS⟩ : ∃ S, S = strOfNums (flat cnt F) := ⟨_, rfl⟩
      rw [← hP] at hG
      have hgd : Good cnt F := by rw [hF]; exact good_after hG.own.good.1 hG.own.good.2.1
      have HG := Lib.hid (And.intro hG (And.intro hF (And.intro hT (And.intro hS hgd))))
      clear hG hP hF ek hT hS hgd HD H1
      go_wp2_with fail
      refine (sync_any HG.out.1.own (by omega)).mono ?_
      rintro e w2 ⟨rfl, c2, o2⟩
      rw [← HG.out.2.1] at c2
      have H2 := Lib.hid (And.intro c2 (HG.out.1.bel.trans (o2.below HG.out.1.bel.size (fun i hi e => by have := HG.out.1.new; omega))))
      clear c2 o2
      go_wp2_with fail
      refine (bytes_any H2.out.1.disk).mono ?_
      rintro e w3 ⟨g, rfl, _, hb3, b3⟩
      rw [after_nil] at hb3
      rw [← HG.out.2.2.1]
      have H3 := Lib.hid (And.intro (H2.out.1.disk.on b3) (And.intro hb3 (on_trans H2.out.2 b3)))
      clear hb3 b3 H2
      go_wp2_with fail
      refine (crash_any (keep := keep) H3.out.1 hk (by omega)).mono ?_
      rintro e w4 ⟨rfl, d4, o4⟩
      have H4 := Lib.hid (And.intro (show Disk _ _ w4 d cnt F [] true from d4) (And.intro (o4.box H3.out.1.box.choose_spec H3.out.2.1 (by decide)) (H3.out.2.2.trans (o4.below H3.out.2.2.size (fun i hi e => by have := HG.out.1.new; omega)))))
      clear d4 o4 H3
      go_wp2_with fail
      refine (revive_any H4.out.1).mono ?_
      rintro e w5 ⟨rfl, d5, o5⟩
      have H5 := Lib.hid (And.intro d5 (And.intro (flat_sl (K := fun _ => True) (o5.box H4.out.1.box.choose_spec H4.out.2.1 (by decide)) HG.out.2.2.2.2 (by omega) trivial) (H4.out.2.2.trans (o5.below H4.out.2.2.size (fun i hi e => by have := HG.out.1.new; omega)))))
      clear d5 o5 H4
      have cv0 := sl_str H5.out.2.1.drew
      rw [← HG.out.2.2.2.1, ← HG.out.2.2.1] at cv0
      have K5 := Lib.hid cv0
      clear cv0
      go_wp2_with fail
      go_region_held (fun w' => (convert 22 9 (.slice (some ⟨g, 0, none⟩) T T)).run Try.prog w' = .ok (.string S) w')
        (first
          | exact K5.out
          | exact K6.out
          | exact K7.out)
        (first
          | (go_at_call 17
             refine (bytes_any (H5.out.1.on (on_drew w5))).mono ?_
             rintro e w6 ⟨g6, rfl, _, hb6, b6⟩
             rw [after_nil] at hb6
             have cv1 := sl_str (flat_sl (K := fun _ => True) hb6 HG.out.2.2.2.2 (by omega) trivial)
             have cv2 := sl_str (H5.out.2.1.drew.on b6)
             rw [← HG.out.2.2.2.1, ← HG.out.2.2.1] at cv1 cv2
             rw [← HG.out.2.2.1]
             have K6 := Lib.hid cv2
             have H6 := Lib.hid (And.intro (H5.out.1.on (on_trans (on_drew w5) b6)) (And.intro (H5.out.2.1.drew.on b6) (on_trans H5.out.2.2 (on_trans (on_drew w5) b6))))
             clear hb6 b6 cv2)
          | (go_at_call 19
             refine (dead_any H6.out.1).mono ?_
             rintro e w' ⟨rfl, rfl⟩)
          | (go_at_call 8
             refine (awake_any w6).mono ?_
             rintro e w7 ⟨rfl, b7⟩
             have cv3 := sl_str (H6.out.2.1.on b7)
             rw [← HG.out.2.2.2.1, ← HG.out.2.2.1] at cv3
             have K7 := Lib.hid cv3
             have H7 := Lib.hid (on_trans H6.out.2.2 b7)
             clear b7 cv3))
      all_goals
        go_wp2
        go_ret
        exact ⟨rfl, H7.out⟩

set_option maxHeartbeats 400000 in
theorem synced_else (w : World) (m keep : Int) (n c : Nat) (A : Option Addr) (h : 100 < n ∨ m < 1 ∨ 50 < m) :
    Calls Try.prog 7 #[.int .i64 m, .slice A n c, .int .u64 keep] w (Law w) := by
  have hc : ((100 : Int) < (n : Int)) ∨ (¬ (100 : Int) < (n : Int) ∧ m < 1) ∨ (¬ (100 : Int) < (n : Int) ∧ ¬ m < 1 ∧ 50 < m) := by omega
  rcases hc with a1 | ⟨a1, a2⟩ | ⟨a1, a2, a3⟩
  all_goals
    go_enter Try.func7, Try.ntmps7
    go_wp2_with fail
    refine (awake_any w).mono ?_
    rintro e w8 ⟨rfl, b8⟩
    have F8 := Lib.hid b8
    clear b8
    go_wp2
    go_ret
    exact ⟨rfl, F8.out⟩

theorem diskSynced_calls (w : World) (m : Int) (n c : Nat) (A : Option Addr) (ks : List Step) (keep : Int) (h : Dos w A n ks) (h0 : 0 ≤ keep) (h1 : keep ≤ 18446744073709551615) :
    Calls Try.prog 7 #[.int .i64 m, .slice A n c, .int .u64 keep] w (Law w) := by
  by_cases hb : 100 < n ∨ m < 1 ∨ 50 < m
  · exact synced_else w m keep n c A hb
  · obtain ⟨cnt, rfl⟩ : ∃ k : Nat, m = (k : Int) := ⟨m.toNat, by omega⟩
    obtain ⟨kp, rfl⟩ : ∃ k : Nat, keep = (k : Int) := ⟨keep.toNat, by omega⟩
    exact synced_any w cnt n c kp A ks h (by omega) (by omega) (by omega) (by omega)

end Go.Proofs.Ytghnhabpcikhgaa
