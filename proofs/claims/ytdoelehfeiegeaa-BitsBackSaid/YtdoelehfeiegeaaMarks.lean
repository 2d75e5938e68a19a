/-
  BitsMarks: the walk.
-/
import Derived.Test.YtdoelehfeiegeaaScanMath
import Derived.Test.YtdoelehfeiegeaaPuts
import Derived.Test.YtdoelehfeiegeaaBit
namespace Go.Proofs.Ytdoelehfeiegeaa
open Go.RowKit

/-- a writer behind k pieces -/
structure WrAt (w wr : World) (d k : Nat) (L : List Int) : Prop where
  wri : Wr wr d L
  new : w.heap.size ≤ d
  bel : Below w.heap.size w wr
  few : L.length ≤ 24 * k
theorem WrAt.on {w wr w' : World} {d k : Nat} {L : List Int} (h : WrAt w wr d k L) (b : Below wr.heap.size wr w') : WrAt w w' d k L := ⟨h.wri.on b, h.new, on_trans h.bel b, h.few⟩
theorem WrAt.put {w wr w' : World} {d k : Nat} {L L' : List Int} (h : WrAt w wr d k L) (b : Kept (fun i => i = d) wr w') (hw : Wr w' d L') (hl : L'.length ≤ L.length + 24) : WrAt w w' d (k + 1) L' :=
  ⟨hw, h.new, h.bel.trans (b.below h.bel.size (fun i hi e => by have := h.new; omega)), by have := h.few; omega⟩

/-- what the scan bytes of L are made of -/
theorem Scan.full {L l : List Int} (h : Scan L l) : ∃ F : List Int, Fit F ∧ l = stuff F ∧ ∃ j, j < 8 ∧ by8 F = L ++ List.replicate j 1 ∧ 8 * F.length = L.length + j ∧ j = (8 - L.length % 8) % 8 := by
  obtain ⟨B, v, c, h1, h2, h3, h4, h5⟩ := h
  have e := by8_filledUp B (v := v) h2
  rw [← h4] at e
  have hl := congrArg List.length e
  rw [by8_len, List.length_append, List.length_replicate] at hl
  have hL := congrArg List.length h4
  rw [List.length_append, by8_len, dig_len] at hL
  exact ⟨filledUp B v c, fit_filledUp h1 h2 h3, h5, (8 - c) % 8, by omega, e, hl, by omega⟩

/-- a new block of two bytes -/
theorem sl_two (w : World) (y z : Int) (hy : 0 ≤ y ∧ y ≤ 255) (hz : 0 ≤ z ∧ z ≤ 255) : Sl (w.alloc (.cells #[.int .u8 y, .int .u8 z] 5)) (fun _ => True) (some ⟨w.heap.size, 0, none⟩) 2 2 [y, z] :=
  sl_of_box (l := [y, z]) (Box.made w 5 #[.int .u8 y, .int .u8 z]) (fun x hx => by simp at hx; omega) rfl (by unfold maxLen; omega) trivial

/-- how things stand when k bits have been read -/
structure MarkAt (w wr : World) (d r g : Nat) (L l : List Int) (F : List Int) (k : Nat) : Prop where
  wri : Wr wr d L
  rd : Rd wr r g l (stAt F k)
  apart : d ≠ r
  new : w.heap.size ≤ r
  bel : Below w.heap.size w wr
theorem MarkAt.on {w wr w' : World} {d r g k : Nat} {L l F : List Int} (h : MarkAt w wr d r g L l F k) (b : Below wr.heap.size wr w') : MarkAt w w' d r g L l F k := ⟨h.wri.on b, h.rd.on b, h.apart, h.new, on_trans h.bel b⟩

/-- the marker behind the scan bytes is found -/
theorem mark_found (F : List Int) (k m : Nat) (h1 : k ≤ 8 * F.length) (h2 : 8 * F.length < k + 8) (hm : m < 254) : markF (stuff F ++ [255, (m : Int) + 1]) (stAt F k) = (⟨(stuff F).length + 2, 0, 0⟩, m + 1, 0) := by
  have ha := (stAt_end F k h1 h2).1
  obtain ⟨S, hS⟩ : ∃ S, S = stuff F := ⟨_, rfl⟩
  rw [← hS] at ha ⊢
  have g0 : (S ++ [255, (m : Int) + 1]).getD S.length 0 = 255 := by simp [List.getD_eq_getElem?_getD]
  have g1 : (S ++ [255, (m : Int) + 1]).getD (S.length + 1) 0 = (m : Int) + 1 := by
    rw [List.getD_eq_getElem?_getD, List.getElem?_append_right (by omega)]
    simp
  have hE : markE (S ++ [255, (m : Int) + 1]) S.length = 0 := by
    unfold markE
    rw [if_neg (by simp), g0, g1, if_pos ⟨rfl, by omega, by omega⟩]
  unfold markF
  rw [ha, if_pos hE, g1]
  rfl

set_option maxRecDepth 10000 in
set_option maxHeartbeats 3200000 in
theorem marks_some (w : World) (A : Option Addr) (n c : Nat) (ks : List (Int × Int)) (mk : Int) (h : Pl w (fun _ => True) A n ks) (hm : 0 ≤ mk ∧ mk ≤ 255) (hn : n ≤ 60) : Calls Try.prog 6 #[.slice A n c, .int .u8 mk] w (Law w) := by
  have hPl := Lib.hid (h.mono (K' := fun b => b < w.heap.size) (fun _ hb _ => hb))
  obtain ⟨mk0, rfl⟩ := Int.eq_ofNat_of_zero_le hm.1
  obtain ⟨mm, hmm⟩ : ∃ mm, mm = mk0 % 254 := ⟨_, rfl⟩
  have hmm1 : (mk0 : Int) % 254 = (mm : Int) := by omega
  have hmm2 : mm < 254 := by omega
  have hmk2 : mk0 ≤ 255 := by omega
  clear h hm hmm
  go_enter Try.func6, Try.ntmps6
  go_wp2_with fail
  refine (newWriter_wr w).mono ?_
  rintro e w1 ⟨d, rfl, hd, hw1, b1⟩
  have H1 := Lib.hid (WrAt.mk (w := w) (k := 0) hw1 hd b1 (by simp))
  clear hw1 b1 hd
  go_wp2
  go_loopw [25] (fun i wr => ∃ k L, k ≤ n ∧ i = .int .i64 ((k : Nat) : Int) ∧ WrAt w wr d k L) (fun i _ => n - (intOf i).toNat)
  case atStart => exact ⟨0, [], Nat.zero_le _, rfl, H1.out⟩
  case round =>
    obtain ⟨k, L, hk, rfl, hP⟩ := hrel
    have HP := Lib.hid hP
    clear hP
    by_cases hlt : k < n
    · obtain ⟨bl, ol, rfl, q0, q1⟩ := (hPl.out.below HP.out.bel (fun _ _ h => h)).get hlt
      obtain ⟨v, hv⟩ : ∃ v, v = (ks.getD k (0, 0)).1 := ⟨_, rfl⟩
      obtain ⟨m, hm⟩ : ∃ m, m = (ks.getD k (0, 0)).2 := ⟨_, rfl⟩
      rw [← hv] at q0
      rw [← hm] at q1
      clear hv hm
      obtain ⟨p, hp⟩ : ∃ p, p = wr.heap.size := ⟨_, rfl⟩
      obtain ⟨w3, hw3⟩ : ∃ w3, w3 = wr.alloc (.cells #[.int .i64 v, .int .i64 m] 28) := ⟨_, rfl⟩
      have hbp : Box w3 p 28 #[.int .i64 v, .int .i64 m] := by rw [hw3, hp]; exact Box.made _ _ _
      have b3 : Below wr.heap.size wr w3 := by rw [hw3]; exact on_alloc _ _
      have HB := Lib.hid (And.intro (HP.out.on b3) (And.intro hw3 hp))
      have r0 : w3.cell? ⟨p, 0, none⟩ = some (.int .i64 v) := hbp.cell 0
      have r1 : w3.cell? ⟨p, 1, none⟩ = some (.int .i64 m) := hbp.cell 1
      clear hbp b3 hw3 hp
      go_wp2_with fail
      rw [← HB.out.2.1, ← HB.out.2.2]
      go_wp2_with fail
      refine (put_any w3 d L v m HB.out.1.wri (by have := HB.out.1.few; omega)).mono ?_
      rintro e w4 ⟨rfl, hw4, k4⟩
      have H4 := Lib.hid (HB.out.1.put k4 hw4 (putL_len L v m))
      clear hw4 k4 r0 r1 q0 q1
      go_wp2
      go_roundw
      case rel => exact ⟨k + 1, _, by omega, by go_num, H4.out⟩
      case measure => simp [intOf]; omega
    · go_wp2_with fail
      refine (bytes_any wr d L HP.out.wri).mono ?_
      rintro e w5 ⟨A5, m5, c5, l5, rfl, hs5, hsl5, b5⟩
      obtain ⟨F, hF, rfl, j, hj8, hFL, hFl, hjL⟩ := hs5.full
      have hm5 : m5 = (stuff F).length := hsl5.len.symm
      have hm5b : m5 ≤ 400 := by
        have := stuff_len F
        have := HP.out.few
        omega
      have H5 := Lib.hid (And.intro (HP.out.on b5) (And.intro hsl5 (And.intro hF (And.intro hFL (And.intro hFl hm5)))))
      have HJ := Lib.hid hj8
      clear b5 hs5 hsl5 hF hFL hFl hjL hm5 hj8
      go_wp2
      go_loopw [40] (fun i wr => ∃ i0, i0 ≤ m5 ∧ i = .int .i64 ((i0 : Nat) : Int) ∧ wr = w5) (fun i _ => m5 - (intOf i).toNat)
      case atStart => exact ⟨0, Nat.zero_le _, rfl, rfl⟩
      case round =>
        obtain ⟨i0, hi0, rfl, rfl⟩ := hrel
        by_cases hi : i0 < m5
        · obtain ⟨b, off, rfl, hc⟩ := H5.out.2.1.get hi
          obtain ⟨z, hz⟩ : ∃ z, z = (stuff F).getD i0 0 := ⟨_, rfl⟩
          rw [← hz] at hc
          have hm5s := H5.out.2.2.2.2.2
          by_cases h255 : z = 255
          · obtain ⟨g1, g2⟩ := stuff_marks F i0 (by omega) (by rw [← hz]; exact h255)
            obtain ⟨t, ht⟩ : ∃ t, t = i0 + 1 := ⟨_, rfl⟩
            have ht1 : (i0 : Int) + 1 = (t : Int) := by omega
            have ht2 : t < m5 := by omega
            have ht3 : ¬ (m5 : Int) ≤ (t : Int) := by omega
            have hc2 : wr.cell? ⟨b, off + t, none⟩ = some (.int .u8 0) := by
              obtain ⟨b', off', e, h2⟩ := H5.out.2.1.get ht2
              cases e
              rw [ht, g2, ← ht] at h2
              exact h2
            subst h255
            have HT := Lib.hid ht
            clear hz hm5s g1 g2 ht
            go_wp2
            go_roundw
            case rel => exact ⟨t, by omega, rfl, trivial⟩
            case measure =>
              have := HT.out
              simp [intOf]
              omega
          · have g2 : (z == 255) = false := by simp; exact h255
            clear hz hm5s
            go_wp2
            go_roundw
            case rel => exact ⟨i0 + 1, by omega, by go_num, trivial⟩
            case measure => simp [intOf]; omega
        · have hb63 : m5 + 2 ≤ 140737488351232 := by omega
          go_wp2_with (first
            | (at_builtin; refine wpList_append_sl rfl (.tmp 67) (.tmp 68) rfl wr.heap.size (.slice (some ⟨wr.heap.size, 0, none⟩) 0 0) 0 [] rfl (World.ownsRow_made (base := wr.heap.size) (e := 5) (size := 1) wr #[] 0 (Nat.le_refl _) (Nat.zero_le _) rfl) _ A5 m5 c5 (stuff F) rfl (H5.out.2.1.alloc _) (by omega) (by simp) ?_; intro v6 w6 hown6 b6; rw [Nat.zero_add, List.nil_append] at hown6; have H6 := Lib.hid (And.intro hown6 ((on_alloc wr _).trans b6)); clear hown6 b6)
            | (at_builtin; refine wpList_append_sl rfl (.tmp 69) (.tmp 72) rfl wr.heap.size v6 m5 (stuff F) rfl (H6.out.1.alloc _) _ (some ⟨w6.heap.size, 0, none⟩) 2 2 [255, (mm : Int) + 1] rfl (sl_two w6 255 _ (by omega) (by omega)) hb63 (by have := H6.out.2.size; simp; omega) ?_; intro v7 w7 hown7 b7; have hb7 := (H6.out.2.trans ((on_alloc w6 _).mono H6.out.2.size)).trans b7; obtain ⟨A7, c7, rfl, hs7⟩ := sl_of_own hown7 ((H5.out.2.1.bts.fit).app (fun y hy => by simp at hy; omega)); have H7 := Lib.hid (And.intro hs7 hb7); clear hown7 b7 hb7 hs7)
            | fail)
          refine (newReader_any w7 _ A7 (m5 + 2) c7 _ H7.out.1 (by omega)).mono ?_
          rintro e w8 ⟨r, g, rfl, hr, hg, hrd, b8⟩
          have hb8 := H7.out.2.trans (b8.mono H7.out.2.size)
          have hw8 := H5.out.1.wri.on hb8
          have H8 := Lib.hid (MarkAt.mk (w := w) (k := 0) (F := F) (L := L) hw8 (by rw [stAt_zero]; exact hrd) (by have := H5.out.1.wri.lt; have := H7.out.2.size; omega) (Nat.le_trans H5.out.1.bel.size (Nat.le_trans H7.out.2.size hr)) (on_trans H5.out.1.bel hb8))
          obtain ⟨l8, hl8⟩ : ∃ l8, l8 = stuff F ++ [255, (mm : Int) + 1] := ⟨_, rfl⟩
          rw [← hl8] at H8
          have HL8 := Lib.hid hl8
          have hLl : L.length ≤ 1440 := by have := H5.out.1.few; omega
          clear hr hg hrd b8 hb8 hw8 hl8
          go_wp2
          go_loopw [13] (fun i wr => ∃ q, q ≤ L.length ∧ i = .int .i64 ((q : Nat) : Int) ∧ MarkAt w wr d r g L l8 F q) (fun i _ => L.length - (intOf i).toNat)
          case atStart => exact ⟨0, Nat.zero_le _, rfl, H8.out⟩
          case round =>
            obtain ⟨q, hq, rfl, hM⟩ := hrel
            have HM := Lib.hid hM
            clear hM
            have HC := Lib.hid (count_wr wr d L HM.out.wri)
            obtain ⟨N, hN⟩ : ∃ N, N = L.length := ⟨_, rfl⟩
            rw [← hN] at HC hq hLl
            have HN := Lib.hid hN
            clear hN
            by_cases hqn : q < N
            · have hqn1 : (q : Int) < N := by omega
              obtain ⟨b, hb, he, hst⟩ := stAt_step F [255, (mm : Int) + 1] H5.out.2.2.1 q (by have := H5.out.2.2.2.2.1; have := HN.out; omega)
              rw [← HL8.out] at hst
              have HB := Lib.hid hst
              clear he hst
              go_wp2_with fail
              refine HC.out.mono ?_
              rintro e w9 ⟨rfl, b9⟩
              have H9 := Lib.hid (HM.out.on b9)
              clear b9
              go_wp2_with fail
              refine (bit_any w9 r g l8 (stAt F q) H9.out.rd).mono ?_
              rw [HB.out]
              rintro e w10 ⟨rfl, hr10, k10⟩
              have H10 := Lib.hid (MarkAt.mk (w := w) (F := F) (k := q + 1) (H9.out.wri.kept k10 H9.out.apart) hr10 H9.out.apart H9.out.new (H9.out.bel.trans (k10.below H9.out.bel.size (fun i hi e => by have := H9.out.new; omega))))
              clear hr10 k10
              go_wp2
              go_roundw
              case rel => exact ⟨q + 1, by have := HN.out; omega, by go_num, H10.out⟩
              case measure =>
                have := HN.out
                simp [intOf]
                omega
            · have hqn1 : ¬ (q : Int) < N := by omega
              have hmk := mark_found F q mm (by have := H5.out.2.2.2.2.1; have := HN.out; omega) (by have := H5.out.2.2.2.2.1; have := HN.out; have := HJ.out; omega) hmm2
              rw [← HL8.out, ← H5.out.2.2.2.2.2] at hmk
              have HB := Lib.hid hmk
              clear hmk
              go_wp2_with fail
              refine HC.out.mono ?_
              rintro e w9 ⟨rfl, b9⟩
              have H9 := Lib.hid (HM.out.on b9)
              clear b9
              go_wp2_with fail
              refine (marker_any w9 r g l8 (stAt F q) H9.out.rd).mono ?_
              rw [HB.out]
              rintro e w10 ⟨rfl, hr10, k10⟩
              have H10 := Lib.hid (And.intro hr10 (H9.out.bel.trans (k10.below H9.out.bel.size (fun i hi e => by have := H9.out.new; omega))))
              clear hr10 k10
              go_wp2_with fail
              refine (at_any w10 r g l8 _ H10.out.1).mono ?_
              rintro e w11 ⟨rfl, b11⟩
              have H11 := Lib.hid (on_trans H10.out.2 b11)
              clear b11
              go_wp2_with fail
              refine (awake_any w11).mono ?_
              rintro e w12 ⟨rfl, b12⟩
              have F12 := Lib.hid (on_trans H11.out b12)
              clear b12
              go_wp2
              go_ret
              exact ⟨rfl, F12.out⟩

theorem marks_calls (w : World) (A : Option Addr) (n c : Nat) (ks : List (Int × Int)) (mk : Int) (h : Pl w (fun _ => True) A n ks) (hm : 0 ≤ mk ∧ mk ≤ 255) : Calls Try.prog 6 #[.slice A n c, .int .u8 mk] w (Law w) := by
  by_cases hn : n ≤ 60
  · exact marks_some w A n c ks mk h hm hn
  · have a1 : (60 : Int) < n := by omega
    clear h hn hm
    go_enter Try.func6, Try.ntmps6
    go_wp2_with fail
    refine (awake_any w).mono ?_
    rintro e w8 ⟨rfl, b8⟩
    have F8 := Lib.hid b8
    clear b8
    go_wp2
    go_ret
    exact ⟨rfl, F8.out⟩
end Go.Proofs.Ytdoelehfeiegeaa
