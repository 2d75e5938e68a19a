/-
  RoomFirst: what is taken was free, is not free any more, and no free extent of enough sectors begins ahead of it.
-/
import Derived.Test.YtcgajomngcgchaaLBase
namespace Go.Proofs.Ytcgajomngcgchaa
open Go.RowKit

theorem take_lt {fs : List X} {size : Int} {j : Nat} (hj : j < takeI fs size) (hl : j < fs.length) : (fs.getD j (0, 0)).2 < size := by
  have h := (findIdx_split (fun f => decide (size ≤ f.2)) fs).1
  have hm : fs.getD j (0, 0) ∈ fs.take (takeI fs size) := by
    rw [List.getD_eq_getElem?_getD, List.getElem?_eq_getElem hl]
    have : (fs.take (takeI fs size))[j]? = some fs[j] := by rw [List.getElem?_take_of_lt hj, List.getElem?_eq_getElem hl]
    exact List.mem_of_getElem? this
  have := of_decide_eq_false (h _ hm)
  omega
theorem rise_lt {hi lo : Int} {fs : List X} (h : Rise hi lo fs) {i j : Nat} (hij : i < j) (hj : j < fs.length) : (fs.getD i (0, 0)).1 + (fs.getD i (0, 0)).2 + 1 ≤ (fs.getD j (0, 0)).1 := by
  have hs := split_at (l := fs) (k := j) hj
  rw [hs] at h
  refine h.ahead.1 _ ?_
  have hl : i < fs.length := by omega
  rw [List.getD_eq_getElem?_getD, List.getElem?_eq_getElem hl]
  have : (fs.take j)[i]? = some fs[i] := by rw [List.getElem?_take_of_lt hij, List.getElem?_eq_getElem hl]
  exact List.mem_of_getElem? this
theorem can_gone {u : List Bool} {fs : List X} (h : Can u fs) {size : Int} (h1 : 1 ≤ size) (hi : takeI fs size < fs.length) :
    ∀ f ∈ takeL fs size, ¬ Meets ((fs.getD (takeI fs size) (0, 0)).1, size) f := by
  obtain ⟨hle, hc⟩ := can_take h h1 hi
  have hr := h.rise.at_ _ (getD_mem hi)
  intro f hf hmt
  have hf2 := hc.rise.at_ f hf
  rw [mark_len] at hf2
  unfold Meets at hmt
  simp only at hmt
  have hk := (hc.mem (max f.1 (fs.getD (takeI fs size) (0, 0)).1).toNat (by rw [mark_len]; omega)).2 ⟨f, hf, by omega, by omega⟩
  rw [mark_at _ _ _ _ (by omega), if_pos (by simp only; omega)] at hk
  cases hk

set_option maxHeartbeats 3200000 in
set_option maxRecDepth 20000 in
theorem first_calls (w : World) (m : Int) (A : Option Addr) (n c : Nat) (l : List X) (size : Int) (hw : I64 m) (hx : Xl (fun _ => True) w A n c l) (h64 : W64 l) (hz : I64 size) : Calls Try.prog 5 #[.int .i64 m, .slice A n c, .int .i64 size] w (Law w) := by
  obtain ⟨hw0, hw1⟩ := hw
  obtain ⟨hz0, hz1⟩ := hz
  have hmax := hx.max
  have hcap := hx.cap
  unfold maxLen at hmax
  have HX := Lib.hid (And.intro hx (And.intro h64 hx.lenX))
  clear hx h64
  by_cases hf : Few m n
  · have hd : decide (Few m n) = true := decide_eq_true hf
    have hn : n ≤ 200 := hf.2
    clear hf
    go_enter Try.func5, Try.ntmps5
    go_wp2_with (first
      | (go_at_call 10
         refine Calls.mono (few_any m A n c w) ?_
         rintro e w1 ⟨rfl, rfl⟩)
      | ((with_reducible refine wpList_append_own2 (o := ⟨some 28, _, _, _, _, _⟩) el_ext rfl (.tmp 26) (.tmp 27) rfl w1.heap.size (.slice (some ⟨w1.heap.size, 0, none⟩) 0 0) 0 [] rfl (empty_own w1) (fun _ => True) A n c (cellsX l) rfl (HX.out.1.on (on_alloc _ _)) (cellsX_one _) (by omega) (by simp) ?_)
         intro v' w2 hown hk hnil
         obtain ⟨g, c2, hv, hx2, hg, b2⟩ := copy_own hown hk hnil
         subst hv
         have H2 := Lib.hid (And.intro hx2 (And.intro hg b2))
         clear hown hk hnil hx2 hg b2))
    by_cases h0 : newE m l = 0
    · have hF := (new_any w2 m _ _ n c2 l H2.out.1 HX.out.2.1 (by omega)).mono (R' := NewGood m l w2) fun r w' h => h.resolve_left fun h => h.1 h0
      refine Calls.mono hF ?_
      rintro e w3 ⟨_, g3, fs, A3, q, c3, rfl, hM, hfr, hg3, b3⟩
      have hm := newE_iff.1 h0
      have m0 : 1 ≤ m := hm.1.1
      have m1 : m ≤ 4096 := hm.1.2
      obtain ⟨u, hul, hcan, hus⟩ := frees_can hfr m0
      have hql : q ≤ 4096 := by have := can_len hcan; have := hM.row.lenX; omega
      have H3 := Lib.hid (And.intro hM (And.intro hfr (And.intro (on_trans H2.out.2.2 b3) (And.intro hcan (And.intro hul (And.intro hm.2.1 (Nat.le_trans H2.out.2.2.size hg3)))))))
      clear hF hM hfr hul hcan hus hm b3 h0
      have HF := Lib.hid (mfree_any w3 g3 m fs A3 q c3 H3.out.1 (by omega))
      go_wp2_with fail
      refine Calls.mono HF.out ?_
      rintro e w4 ⟨v4, rfl, hown4, b4⟩
      obtain ⟨Aw, cw, hv4, hx4⟩ := rd_of_own hown4
      subst hv4
      have hqf : fs.length = q := H3.out.1.row.lenX
      rw [hqf]
      rw [hqf] at hx4
      have HW := Lib.hid (And.intro hx4 (And.intro (Nat.le_refl w3.heap.size) (on_trans H3.out.2.2.1 b4)))
      have HM4 := Lib.hid (H3.out.1.on b4)
      have hcw := hx4.max
      have hcw2 := hx4.cap
      unfold maxLen at hcw
      have HT := Lib.hid (take_all w4 g3 m fs A3 q c3 HM4.out H3.out.2.1.rise (by omega) (by omega) size)
      have HQF := Lib.hid hqf
      clear hown4 hx4 b4 hqf
      go_wp2_with fail
      refine Calls.mono HT.out ?_
      intro e w5 hy
      rcases hy with ⟨hlt, hy⟩ | ⟨hge, hi, hy⟩ | ⟨hge, hi, hy⟩
      · obtain ⟨rfl, b5⟩ := hy
        obtain ⟨wz, hwz⟩ : ∃ wz, w5.alloc (.cells #[.int .i64 0, .int .i64 0] 42) = wz := ⟨_, rfl⟩
        have bz : Box wz w5.heap.size 42 #[.int .i64 0, .int .i64 0] := by rw [← hwz]; exact Box.made _ _ _
        have kz : Below w5.heap.size w5 wz := by rw [← hwz]; exact on_alloc _ _
        have z0 : wz.cell? ⟨w5.heap.size, 0, none⟩ = some (.int .i64 0) := bz.cell 0
        have z1 : wz.cell? ⟨w5.heap.size, 1, none⟩ = some (.int .i64 0) := bz.cell 1
        have z2 := bz.free 0
        have z3 := bz.free 1
        obtain ⟨w6, hw6⟩ : ∃ w6, (wz.setCell ⟨w5.heap.size, 0, none⟩ (.int .i64 0)).setCell ⟨w5.heap.size, 1, none⟩ (.int .i64 0) = w6 := ⟨_, rfl⟩
        have b6 : Below w5.heap.size w5 w6 := by
          rw [← hw6]
          exact Below.setCell (p := ⟨w5.heap.size, 1, none⟩) (Below.setCell (p := ⟨w5.heap.size, 0, none⟩) kz (Nat.le_refl _) _) (Nat.le_refl _) _
        clear bz kz
        have wx6 := (HW.out.1.on b5).on b6
        have H6 := Lib.hid (And.intro wx6 (And.intro ((HM4.out.on b5).on b6) (on_trans (on_trans HW.out.2.2 b5) b6)))
        clear wx6 b5 b6
        go_wp2_with fail
        go_loopw [13, 47] (fun _ i wr => ∃ (k : Nat), k ≤ q ∧ i = .int .i64 (k : Int) ∧ Below w6.heap.size w6 wr) (fun _ i _ => q - (intOf i).toNat)
        case atStart => exact ⟨0, by omega, rfl, Below.refl _ _⟩
        case round =>
          obtain ⟨k, hk, rfl, hb⟩ := hrel
          have HB := Lib.hid hb
          clear hb
          by_cases hkn : k < q
          · obtain ⟨b, off, hA, hbs, hK, d0, d1⟩ := (H6.out.1.on HB.out).getX hkn
            subst hA
            obtain ⟨x, y, hxy⟩ : ∃ x y : Int, fs.getD k (0, 0) = (x, y) := ⟨_, _, rfl⟩
            rw [hxy] at d0 d1
            have hd5 : decide (1 ≤ size) = false := decide_eq_false (by omega)
            obtain ⟨w7, hw7⟩ : ∃ w7, wr.alloc (.cells #[.int .i64 x, .int .i64 y] 42) = w7 := ⟨_, rfl⟩
            have b7 : Below wr.heap.size wr w7 := by rw [← hw7]; exact on_alloc _ _
            have q1 : w7.cell? ⟨wr.heap.size, 1, none⟩ = some (.int .i64 y) := by rw [← hw7]; exact (Box.made _ _ _).cell 1
            have H7 := Lib.hid (on_trans HB.out b7)
            clear b7 hxy
            go_wp2_with fail
            go_roundw
            case rel => exact ⟨k + 1, by omega, by go_num, H7.out⟩
            case measure => simp [intOf]; omega
          · have HF9 := Lib.hid (mfree_any wr g3 m fs A3 q c3 (H6.out.2.1.on HB.out) (by omega))
            go_wp2_with fail
            refine Calls.mono HF9.out ?_
            rintro e w9 ⟨v9, rfl, hown9, b9⟩
            obtain ⟨A9, c9, hv9, hx9⟩ := rd_of_own hown9
            subst hv9
            rw [HQF.out]
            rw [HQF.out] at hx9
            have HS9 := Lib.hid (same_any w9 _ _ A9 Aw q c9 cw fs hx9 ((H6.out.1.on HB.out).on b9))
            have H9 := Lib.hid b9
            clear hown9 hx9 b9
            go_wp2_with (first
              | (go_at_call 16
                 refine Calls.mono HS9.out ?_
                 rintro e w10 ⟨rfl, b10⟩
                 have H10 := Lib.hid b10
                 clear b10)
              | (go_at_call 11
                 refine Calls.mono (awake_any _) ?_
                 rintro e w11 ⟨rfl, b11⟩
                 have H11 := Lib.hid b11
                 clear b11))
            go_ret
            exact ⟨rfl, on_trans (on_trans (on_trans (on_trans H6.out.2.2 HB.out) H9.out) H10.out) H11.out⟩
      · obtain ⟨rfl, b5⟩ := hy
        obtain ⟨wz, hwz⟩ : ∃ wz, w5.alloc (.cells #[.int .i64 0, .int .i64 0] 42) = wz := ⟨_, rfl⟩
        have bz : Box wz w5.heap.size 42 #[.int .i64 0, .int .i64 0] := by rw [← hwz]; exact Box.made _ _ _
        have kz : Below w5.heap.size w5 wz := by rw [← hwz]; exact on_alloc _ _
        have z0 : wz.cell? ⟨w5.heap.size, 0, none⟩ = some (.int .i64 0) := bz.cell 0
        have z1 : wz.cell? ⟨w5.heap.size, 1, none⟩ = some (.int .i64 0) := bz.cell 1
        have z2 := bz.free 0
        have z3 := bz.free 1
        obtain ⟨w6, hw6⟩ : ∃ w6, (wz.setCell ⟨w5.heap.size, 0, none⟩ (.int .i64 0)).setCell ⟨w5.heap.size, 1, none⟩ (.int .i64 0) = w6 := ⟨_, rfl⟩
        have b6 : Below w5.heap.size w5 w6 := by
          rw [← hw6]
          exact Below.setCell (p := ⟨w5.heap.size, 1, none⟩) (Below.setCell (p := ⟨w5.heap.size, 0, none⟩) kz (Nat.le_refl _) _) (Nat.le_refl _) _
        clear bz kz
        have wx6 := (HW.out.1.on b5).on b6
        have H6 := Lib.hid (And.intro wx6 (And.intro ((HM4.out.on b5).on b6) (on_trans (on_trans HW.out.2.2 b5) b6)))
        clear wx6 b5 b6
        have HI := Lib.hid hi
        clear hi
        go_wp2_with fail
        go_loopw [13, 47] (fun _ i wr => ∃ (k : Nat), k ≤ q ∧ i = .int .i64 (k : Int) ∧ Below w6.heap.size w6 wr) (fun _ i _ => q - (intOf i).toNat)
        case atStart => exact ⟨0, by omega, rfl, Below.refl _ _⟩
        case round =>
          obtain ⟨k, hk, rfl, hb⟩ := hrel
          have HB := Lib.hid hb
          clear hb
          by_cases hkn : k < q
          · obtain ⟨b, off, hA, hbs, hK, d0, d1⟩ := (H6.out.1.on HB.out).getX hkn
            subst hA
            have hys := take_lt (fs := fs) (size := size) (j := k) (by rw [HI.out, HQF.out]; exact hkn) (by rw [HQF.out]; exact hkn)
            obtain ⟨x, y, hxy⟩ : ∃ x y : Int, fs.getD k (0, 0) = (x, y) := ⟨_, _, rfl⟩
            rw [hxy] at d0 d1
            rw [hxy] at hys
            simp only at hys
            have hd5 : decide (size ≤ y) = false := decide_eq_false (by omega)
            obtain ⟨w7, hw7⟩ : ∃ w7, wr.alloc (.cells #[.int .i64 x, .int .i64 y] 42) = w7 := ⟨_, rfl⟩
            have b7 : Below wr.heap.size wr w7 := by rw [← hw7]; exact on_alloc _ _
            have q1 : w7.cell? ⟨wr.heap.size, 1, none⟩ = some (.int .i64 y) := by rw [← hw7]; exact (Box.made _ _ _).cell 1
            have H7 := Lib.hid (on_trans HB.out b7)
            clear b7 hxy
            go_wp2_with fail
            go_roundw
            case rel => exact ⟨k + 1, by omega, by go_num, H7.out⟩
            case measure => simp [intOf]; omega
          · have HF9 := Lib.hid (mfree_any wr g3 m fs A3 q c3 (H6.out.2.1.on HB.out) (by omega))
            go_wp2_with fail
            refine Calls.mono HF9.out ?_
            rintro e w9 ⟨v9, rfl, hown9, b9⟩
            obtain ⟨A9, c9, hv9, hx9⟩ := rd_of_own hown9
            subst hv9
            rw [HQF.out]
            rw [HQF.out] at hx9
            have HS9 := Lib.hid (same_any w9 _ _ A9 Aw q c9 cw fs hx9 ((H6.out.1.on HB.out).on b9))
            have H9 := Lib.hid b9
            clear hown9 hx9 b9
            go_wp2_with (first
              | (go_at_call 16
                 refine Calls.mono HS9.out ?_
                 rintro e w10 ⟨rfl, b10⟩
                 have H10 := Lib.hid b10
                 clear b10)
              | (go_at_call 11
                 refine Calls.mono (awake_any _) ?_
                 rintro e w11 ⟨rfl, b11⟩
                 have H11 := Lib.hid b11
                 clear b11))
            go_ret
            exact ⟨rfl, on_trans (on_trans (on_trans (on_trans H6.out.2.2 HB.out) H9.out) H10.out) H11.out⟩
      · obtain ⟨rfl, hm5, k5⟩ := hy
        obtain ⟨A5, q5, c5, M5⟩ := hm5
        have hgo := can_gone H3.out.2.2.2.1 hge hi
        have hct := can_take H3.out.2.2.2.1 hge hi
        have hrz := H3.out.2.1.rise.at_ _ (getD_mem hi)
        obtain ⟨I, hI⟩ : ∃ I, takeI fs size = I := ⟨_, rfl⟩
        rw [hI] at hi
        have hlt2 : ∀ j, j < I → (fs.getD j (0, 0)).2 < size := fun j hj => take_lt (by rw [hI]; exact hj) (by omega)
        obtain ⟨X0, X1, hxy⟩ : ∃ x y : Int, fs.getD (takeI fs size) (0, 0) = (x, y) := ⟨_, _, rfl⟩
        rw [hxy] at hgo hct hrz ⊢
        simp only at hgo hct hrz ⊢
        rw [hI] at hxy
        obtain ⟨fs', hfs'⟩ : ∃ fs', takeL fs size = fs' := ⟨_, rfl⟩
        rw [hfs'] at hgo hct M5
        have x0 : 0 ≤ X0 := hrz.1
        have x1 : X0 + X1 ≤ m := hrz.2.2
        have x2 : size ≤ X1 := hct.1
        have hrise := hct.2.rise
        have hIq : I < q := by have := HQF.out; omega
        have HK := Lib.hid (And.intro hgo (And.intro hlt2 (And.intro hxy (And.intro hrise (And.intro M5 (by have := can_len hct.2; rw [mark_len] at this; have := M5.row.lenX; have := H3.out.2.2.2.2.1; omega : q5 ≤ 9000))))))
        clear hgo hct hrz hxy hfs' hi hI hlt2 hrise M5
        obtain ⟨w6, hw6⟩ : ∃ w6, w5.alloc (.cells #[.int .i64 X0, .int .i64 size] 42) = w6 := ⟨_, rfl⟩
        have b6 : Below w5.heap.size w5 w6 := by rw [← hw6]; exact on_alloc _ _
        have bx6 : Box w6 w5.heap.size 42 #[.int .i64 X0, .int .i64 size] := by rw [← hw6]; exact Box.made _ _ _
        have wx6 := (HW.out.1.kept k5 (fun b hb e => by have := H3.out.1.box.lt; omega)).on b6
        have hlo4 : w1.heap.size ≤ w4.heap.size := HW.out.2.2.size
        have H6 := Lib.hid (And.intro wx6 (And.intro bx6 (show Below w1.heap.size w1 w6 from (HW.out.2.2.trans (k5.below hlo4 (fun i hi e => by have := H3.out.2.2.2.2.2.2; omega))).trans (b6.mono (Nat.le_trans hlo4 k5.size)))))
        have HM6 := Lib.hid (HK.out.2.2.2.2.1.on b6)
        clear wx6 bx6 b6 hlo4
        go_wp2_with fail
        go_loopw [14, 16, 69] (fun f _ i wr => ∃ (k : Nat), k ≤ q ∧ i = .int .i64 (k : Int) ∧ f = .bool (decide (I < k)) ∧ Below w6.heap.size w6 wr) (fun _ _ i _ => q - (intOf i).toNat)
        case atStart => exact ⟨0, by omega, rfl, by simp, Below.refl _ _⟩
        case round =>
          obtain ⟨k, hk, rfl, rfl, hb⟩ := hrel
          have HB := Lib.hid hb
          clear hb
          by_cases hkn : k < q
          · obtain ⟨b, off, hA, hbs, hK, d0, d1⟩ := (H6.out.1.on HB.out).getX hkn
            subst hA
            have hri := H3.out.2.1.rise
            have r1 := fun (h : k < I) => rise_lt hri h (by rw [HQF.out]; exact hIq)
            have r2 := fun (h : I < k) => rise_lt hri h (by rw [HQF.out]; exact hkn)
            have r3 := fun (h : k < I) => HK.out.2.1 k h
            have r4 := (hri.at_ _ (getD_mem (l := fs) (k := k) (by rw [HQF.out]; exact hkn)))
            obtain ⟨x, y, hxy⟩ : ∃ x y : Int, fs.getD k (0, 0) = (x, y) := ⟨_, _, rfl⟩
            rw [HK.out.2.2.1] at r1 r2
            rw [hxy] at d0 d1 r1 r2 r3 r4
            simp only at r1 r2 r3 r4
            obtain ⟨r5, r6, r7⟩ := r4
            have hbx := H6.out.2.1.on HB.out
            obtain ⟨w7, hw7⟩ : ∃ w7, wr.alloc (.cells #[.int .i64 x, .int .i64 y] 42) = w7 := ⟨_, rfl⟩
            have b7 : Below wr.heap.size wr w7 := by rw [← hw7]; exact on_alloc _ _
            have q0 : w7.cell? ⟨wr.heap.size, 0, none⟩ = some (.int .i64 x) := by rw [← hw7]; exact (Box.made _ _ _).cell 0
            have q1 : w7.cell? ⟨wr.heap.size, 1, none⟩ = some (.int .i64 y) := by rw [← hw7]; exact (Box.made _ _ _).cell 1
            have q2 : w7.cell? ⟨w5.heap.size, 0, none⟩ = some (.int .i64 X0) := (hbx.on b7).cell 0
            have q3 : w7.cell? ⟨w5.heap.size, 1, none⟩ = some (.int .i64 size) := (hbx.on b7).cell 1
            have H7 := Lib.hid (on_trans HB.out b7)
            rcases Nat.lt_trichotomy k I with hlt | heq | hgt
            · have s1 := r1 hlt
              have s2 := r3 hlt
              have hdf : decide (I < k) = false := decide_eq_false (by omega)
              have hdn : decide (I < k + 1) = false := decide_eq_false (by omega)
              have e1 : decide (x < X0) = true := decide_eq_true (by omega)
              have e2 : decide (size ≤ y) = false := decide_eq_false (by omega)
              have e3 : (x == X0) = false := by simp; omega
              have HD := Lib.hid hdn
              clear r1 r2 r3 hri hxy hbx b7 hdn
              rw [hdf]
              go_wp2_with fail
              go_roundw
              case rel => exact ⟨k + 1, by omega, by go_num, by rw [HD.out], H7.out⟩
              case measure => simp [intOf]; omega
            · have hx9 : x = X0 ∧ y = X1 := by have h := HK.out.2.2.1; rw [← heq, hxy] at h; cases h; exact ⟨rfl, rfl⟩
              obtain ⟨hx8, hx9⟩ := hx9
              have hdf : decide (I < k) = false := decide_eq_false (by omega)
              have hdn : decide (I < k + 1) = true := decide_eq_true (by omega)
              have HD := Lib.hid (And.intro hdn heq)
              clear r1 r2 r3 hri hxy hbx b7 hdn heq
              subst hx8
              subst hx9
              have e1 : decide (x < x) = false := decide_eq_false (by omega)
              have e2 : decide (size ≤ y) = true := decide_eq_true (by omega)
              rw [hdf]
              go_wp2_with fail
              go_roundw
              case rel => exact ⟨k + 1, by omega, by go_num, by rw [HD.out.1], H7.out⟩
              case measure => simp [intOf]; omega
            · have s1 := r2 hgt
              have hdf : decide (I < k) = true := decide_eq_true (by omega)
              have hdn : decide (I < k + 1) = true := decide_eq_true (by omega)
              have e1 : decide (x < X0) = false := decide_eq_false (by omega)
              have HD := Lib.hid hdn
              clear r1 r2 r3 hri hxy hbx b7 hdn
              rw [hdf]
              go_wp2_with fail
              go_roundw
              case rel => exact ⟨k + 1, by omega, by go_num, by rw [HD.out], H7.out⟩
              case measure => simp [intOf]; omega
          · have hkq : k = q := by omega
            have hdf : decide (I < k) = true := decide_eq_true (by omega)
            rw [hdf]
            have HKQ := Lib.hid hkq
            clear hkq hdf
            have HF9 := Lib.hid (mfree_any wr g3 m fs' A5 q5 c5 (HM6.out.on HB.out) (by have := HK.out.2.2.2.2.2; omega))
            go_wp2_with fail
            refine Calls.mono HF9.out ?_
            rintro e w9 ⟨v9, rfl, hown9, b9⟩
            obtain ⟨A9, c9, hv9, hx9⟩ := rd_of_own hown9
            subst hv9
            obtain ⟨p, hp⟩ : ∃ p, fs'.length = p := ⟨_, rfl⟩
            rw [hp]
            rw [hp] at hx9
            have hc9 := hx9.max
            have hc8 := hx9.cap
            unfold maxLen at hc9
            have H9 := Lib.hid (And.intro hx9 (And.intro (on_trans (on_trans H6.out.2.2 HB.out) b9) (And.intro ((H6.out.2.1.on HB.out).on b9) hp)))
            clear hown9 hx9 b9 hp
            go_wp2_with fail
            go_loopw [18, 103] (fun _ i w2' => ∃ (j : Nat), j ≤ p ∧ i = .int .i64 (j : Int) ∧ Below w9.heap.size w9 w2') (fun _ i _ => p - (intOf i).toNat)
            case atStart => exact ⟨0, by omega, rfl, Below.refl _ _⟩
            case round =>
              obtain ⟨j, hj, rfl, hb⟩ := hrel
              have HJ := Lib.hid hb
              clear hb
              by_cases hjn : j < p
              · obtain ⟨b, off, hA, hbs, hK, d0, d1⟩ := (H9.out.1.on HJ.out).getX hjn
                subst hA
                have hmem := getD_mem (l := fs') (k := j) (by rw [H9.out.2.2.2]; exact hjn)
                have r8 := HK.out.1 _ hmem
                have r4 := HK.out.2.2.2.1.at_ _ hmem
                rw [mark_len] at r4
                have hul := H3.out.2.2.2.2.1
                obtain ⟨x, y, hxy⟩ : ∃ x y : Int, fs'.getD j (0, 0) = (x, y) := ⟨_, _, rfl⟩
                rw [hxy] at d0 d1 r8 r4
                unfold Meets at r8
                simp only at r8 r4
                obtain ⟨r5, r6, r7⟩ := r4
                rw [hul] at r7
                have hbx := H9.out.2.2.1.on HJ.out
                obtain ⟨w7, hw7⟩ : ∃ w7, wr.alloc (.cells #[.int .i64 x, .int .i64 y] 42) = w7 := ⟨_, rfl⟩
                have b7 : Below wr.heap.size wr w7 := by rw [← hw7]; exact on_alloc _ _
                have q0 : w7.cell? ⟨wr.heap.size, 0, none⟩ = some (.int .i64 x) := by rw [← hw7]; exact (Box.made _ _ _).cell 0
                have q1 : w7.cell? ⟨wr.heap.size, 1, none⟩ = some (.int .i64 y) := by rw [← hw7]; exact (Box.made _ _ _).cell 1
                have q2 : w7.cell? ⟨w5.heap.size, 0, none⟩ = some (.int .i64 X0) := (hbx.on b7).cell 0
                have q3 : w7.cell? ⟨w5.heap.size, 1, none⟩ = some (.int .i64 size) := (hbx.on b7).cell 1
                have H7 := Lib.hid (on_trans HJ.out b7)
                by_cases hc : x < X0 + size
                · have e1 : decide (x < X0 + size) = true := decide_eq_true hc
                  have e2 : decide (X0 < x + y) = false := decide_eq_false (fun h => r8 ⟨hc, h⟩)
                  clear r8 hul hbx b7 hmem hxy
                  go_wp2_with fail
                  go_roundw
                  case rel => exact ⟨j + 1, by omega, by go_num, H7.out⟩
                  case measure => simp [intOf]; omega
                · have e1 : decide (x < X0 + size) = false := decide_eq_false hc
                  have hc2 : X0 + size ≤ x := by omega
                  clear r8 hul hbx b7 hmem hxy hc
                  go_wp2_with fail
                  go_roundw
                  case rel => exact ⟨j + 1, by omega, by go_num, H7.out⟩
                  case measure => simp [intOf]; omega
              · have hbx := H9.out.2.2.1.on HJ.out
                have q3 : wr.cell? ⟨w5.heap.size, 1, none⟩ = some (.int .i64 size) := hbx.cell 1
                clear hbx
                go_wp2_with (go_at_call 11
                             refine Calls.mono (awake_any _) ?_
                             rintro e w11 ⟨rfl, b11⟩
                             have H11 := Lib.hid b11
                             clear b11)
                go_ret
                exact ⟨rfl, on_trans (on_trans H9.out.2.1 HJ.out) H11.out⟩
    · have hF := (new_any w2 m _ _ n c2 l H2.out.1 HX.out.2.1 (by omega)).mono (R' := NewBad m l w2) fun r w' h => h.resolve_right fun h => h0 h.1
      obtain ⟨z, hz⟩ : ∃ z, newE m l = z := ⟨_, rfl⟩
      have hp := newE_pos h0
      rw [hz] at hp
      have hzb : (z != 0) = true := by simp; omega
      refine Calls.mono hF ?_
      rintro e w3 ⟨_, rfl, b3⟩
      have H3 := Lib.hid (on_trans H2.out.2.2 b3)
      clear hF b3 h0
      rw [hz]
      clear hz
      go_wp2_with (go_at_call 11
                   refine Calls.mono (awake_any _) ?_
                   rintro e w5 ⟨rfl, b5⟩
                   have H5 := Lib.hid b5
                   clear b5)
      go_ret
      exact ⟨rfl, on_trans H3.out H5.out⟩
  · have hd : decide (Few m n) = false := decide_eq_false hf
    clear hf
    go_enter Try.func5, Try.ntmps5
    go_wp2_with (first
      | (go_at_call 10
         refine Calls.mono (few_any m A n c w) ?_
         rintro e w1 ⟨rfl, rfl⟩)
      | (go_at_call 11
         refine Calls.mono (awake_any _) ?_
         rintro e w2 ⟨rfl, b2⟩
         have H2 := Lib.hid b2
         clear b2))
    go_ret
    exact ⟨rfl, H2.out⟩
end Go.Proofs.Ytcgajomngcgchaa
