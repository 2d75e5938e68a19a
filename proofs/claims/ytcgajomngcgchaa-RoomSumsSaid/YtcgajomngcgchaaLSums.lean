/-
  RoomSums: what is free and what is used are all sectors; what is taken makes so many fewer free.
-/
import Derived.Test.YtcgajomngcgchaaLBase
namespace Go.Proofs.Ytcgajomngcgchaa
open Go.RowKit

set_option maxHeartbeats 3200000 in
set_option maxRecDepth 20000 in
theorem sums_calls (w : World) (m : Int) (A : Option Addr) (n c : Nat) (l : List X) (size : Int) (hw : I64 m) (hx : Xl (fun _ => True) w A n c l) (h64 : W64 l) (hz : I64 size) : Calls Try.prog 8 #[.int .i64 m, .slice A n c, .int .i64 size] w (Law w) := by
  obtain ⟨hw0, hw1⟩ := hw
  obtain ⟨hz0, hz1⟩ := hz
  have hmax := hx.max
  have hcap := hx.cap
  unfold maxLen at hmax
  have HX := Lib.hid (And.intro hx (And.intro h64 hx.lenX))
  clear hx h64
  by_cases hf : Few m n
  · have hd : decide (Few m n) = true := decide_eq_true hf
    have hn : n ≤ 200 := hf.2
    clear hf
    go_enter Try.func8, Try.ntmps8
    go_wp2_with (first
      | (go_at_call 10
         refine Calls.mono (few_any m A n c w) ?_
         rintro e w1 ⟨rfl, rfl⟩)
      | ((with_reducible refine wpList_append_own2 (o := ⟨some 24, _, _, _, _, _⟩) el_ext rfl (.tmp 22) (.tmp 23) rfl w1.heap.size (.slice (some ⟨w1.heap.size, 0, none⟩) 0 0) 0 [] rfl (empty_own w1) (fun _ => True) A n c (cellsX l) rfl (HX.out.1.on (on_alloc _ _)) (cellsX_one _) (by omega) (by simp) ?_)
         intro v' w2 hown hk hnil
         obtain ⟨g, c2, hv, hx2, hg, b2⟩ := copy_own hown hk hnil
         subst hv
         have H2 := Lib.hid (And.intro hx2 (And.intro hg b2))
         clear hown hk hnil hx2 hg b2))
    by_cases h0 : newE m l = 0
    · have hF := (new_any w2 m _ _ n c2 l H2.out.1 HX.out.2.1 (by omega)).mono (R' := NewGood m l w2) fun r w' h => h.resolve_left fun h => h.1 h0
      refine Calls.mono hF ?_
      rintro e w3 ⟨_, g3, fs, A3, q, c3, rfl, hM, hfr, hg3, b3⟩
      have hm := newE_iff.1 h0
      have m0 : 1 ≤ m := hm.1.1
      have m1 : m ≤ 4096 := hm.1.2
      obtain ⟨u, hul, hcan, hus⟩ := frees_can hfr m0
      have hql : q ≤ 4096 := by have := can_len hcan; have := hM.row.lenX; omega
      have H3 := Lib.hid (And.intro hM (And.intro hfr (And.intro (on_trans H2.out.2.2 b3) (And.intro hcan (And.intro hul (And.intro hm.2.1 (Nat.le_trans H2.out.2.2.size hg3)))))))
      clear hF hM hfr hul hcan hus hm b3 h0
      go_wp2_with fail
      go_loopw [9, 11, 33] (fun s _ i wr => ∃ (k : Nat), k ≤ n ∧ i = .int .i64 (k : Int) ∧ s = .int .i64 (sumS (l.take k)) ∧ Below w3.heap.size w3 wr) (fun _ _ i _ => n - (intOf i).toNat)
      case atStart => exact ⟨0, by omega, rfl, rfl, Below.refl _ _⟩
      case round =>
        obtain ⟨k, hk, rfl, rfl, hb⟩ := hrel
        have HB := Lib.hid hb
        clear hb
        have hall : ∀ (l : List X), (∀ e ∈ l, Ok m e) → 0 ≤ sumS l := by
          intro l
          induction l with
          | nil => intro _; exact Int.le_refl _
          | cons e t ih => intro h; have := ih (fun x hx => h x (by simp [hx])); have := (h e (by simp)).2.1; simp only [sumS]; omega
        have hsum := H3.out.2.1.sum
        have hS0 := sumS_pos H3.out.2.1.rise
        obtain ⟨S, hS⟩ : ∃ S, sumS fs = S := ⟨_, rfl⟩
        rw [hS] at hsum hS0
        by_cases hkn : k < n
        · obtain ⟨b, off, hA, hbs, hK, d0, d1⟩ := (HX.out.1.on (on_trans H3.out.2.2.1 HB.out)).getX hkn
          subst hA
          have hl : l.length = n := HX.out.2.2
          have hsp := split_at (l := l) (k := k) (by omega)
          have htk := take_moreX l k (by omega)
          have hok := H3.out.2.2.2.2.2.1
          have t1 := hall (l.take k) (fun e he => hok e (List.mem_of_mem_take he))
          have t2 := hall (l.drop (k + 1)) (fun e he => hok e (List.mem_of_mem_drop he))
          have t3 := (hok _ (getD_mem (l := l) (k := k) (by omega))).2.1
          rw [hsp, sumS_app] at hsum
          simp only [sumS] at hsum
          obtain ⟨x, y, hxy⟩ : ∃ x y : Int, l.getD k (0, 0) = (x, y) := ⟨_, _, rfl⟩
          rw [hxy] at d0 d1 htk t3 hsum
          simp only at d0 d1 t3 hsum
          obtain ⟨s, hs⟩ : ∃ s, sumS (l.take k) = s := ⟨_, rfl⟩
          have hN : sumS (l.take (k + 1)) = s + y := by rw [htk, sumS_app, hs]; simp [sumS]
          rw [hs] at hsum t1 ⊢
          have t4 : s + y ≤ 4096 := by omega
          have t5 : y ≤ 4096 := by omega
          obtain ⟨w4, hw4⟩ : ∃ w4, wr.alloc (.cells #[.int .i64 x, .int .i64 y] 42) = w4 := ⟨_, rfl⟩
          have b4 : Below wr.heap.size wr w4 := by rw [← hw4]; exact on_alloc _ _
          have q1 : w4.cell? ⟨wr.heap.size, 1, none⟩ = some (.int .i64 y) := by rw [← hw4]; exact (Box.made _ _ _).cell 1
          have HN := Lib.hid (And.intro hN (on_trans HB.out b4))
          clear hall hS hsum hS0 hl hsp htk hok t2 hxy hs hN b4
          go_wp2_with fail
          go_roundw
          case rel => exact ⟨k + 1, by omega, by go_num, by rw [HN.out.1], HN.out.2⟩
          case measure => simp [intOf]; omega
        · obtain rfl : k = n := by omega
          have hlk : l.take k = l := List.take_of_length_le (by have := HX.out.2.2; omega)
          rw [hlk]
          have hn0 := hall l H3.out.2.2.2.2.2.1
          obtain ⟨N, hN⟩ : ∃ N, sumS l = N := ⟨_, rfl⟩
          rw [hN] at hsum hn0 ⊢
          have hsN : N = m - S := by omega
          subst hsN
          have hL := left_any wr g3 m fs A3 q c3 (H3.out.1.on HB.out) H3.out.2.1.rise (by omega)
          rw [hS] at hL
          have HL := Lib.hid hL
          have hs5 : S ≤ m := by omega
          have hs6 : S + (m - S) = m := by omega
          clear hL hall hsum hlk hN
          have HS := Lib.hid hS
          clear hS
          go_wp2_with fail
          refine Calls.mono HL.out ?_
          rintro e w4 ⟨rfl, b4⟩
          have H4 := Lib.hid b4
          have hL := left_any w4 g3 m fs A3 q c3 ((H3.out.1.on HB.out).on b4) H3.out.2.1.rise (by omega)
          rw [HS.out] at hL
          have HL := Lib.hid hL
          clear b4 hL
          go_wp2_with fail
          refine Calls.mono HL.out ?_
          rintro e w4' ⟨rfl, b4⟩
          have H4' := Lib.hid (on_trans H4.out b4)
          clear H4 b4
          have H4 := H4'
          clear H4'
          go_wp2_with fail
          clear hs6
          have hS := HS.out
          have hT := take_all w4' g3 m fs A3 q c3 ((H3.out.1.on HB.out).on H4.out) H3.out.2.1.rise (by omega) (by omega) size
          refine Calls.mono hT ?_
          intro e w5 hy
          clear hT
          rcases hy with ⟨hlt, hy⟩ | ⟨hge, hi, hy⟩ | ⟨hge, hi, hy⟩
          · obtain ⟨rfl, b5⟩ := hy
            have HB5 := Lib.hid (show Below w1.heap.size w1 w5 from on_trans (on_trans (on_trans H3.out.2.2.1 HB.out) H4.out) b5)
            have HM4 := Lib.hid (show ∃ A n c, Mm w5 g3 m fs A n c from ⟨_, _, _, (((H3.out.1.on HB.out).on H4.out).on b5)⟩)
            have HU := Lib.hid (And.intro H3.out.2.2.2.1 H3.out.2.2.2.2.1)
            have HSum := Lib.hid hS
            clear b5
            obtain ⟨A5, q5, c5, M5⟩ := HM4.out
            obtain ⟨wz, hwz⟩ : ∃ wz, w5.alloc (.cells #[.int .i64 0, .int .i64 0] 42) = wz := ⟨_, rfl⟩
            have bz : Box wz w5.heap.size 42 #[.int .i64 0, .int .i64 0] := by rw [← hwz]; exact Box.made _ _ _
            have kz : Below w5.heap.size w5 wz := by rw [← hwz]; exact on_alloc _ _
            have z0 : wz.cell? ⟨w5.heap.size, 0, none⟩ = some (.int .i64 0) := bz.cell 0
            have z1 : wz.cell? ⟨w5.heap.size, 1, none⟩ = some (.int .i64 0) := bz.cell 1
            have z2 := bz.free 0
            have z3 := bz.free 1
            obtain ⟨w6, hw6⟩ : ∃ w6, (wz.setCell ⟨w5.heap.size, 0, none⟩ (.int .i64 0)).setCell ⟨w5.heap.size, 1, none⟩ (.int .i64 0) = w6 := ⟨_, rfl⟩
            have b6 : Below w5.heap.size w5 w6 := by
              rw [← hw6]
              exact Below.setCell (p := ⟨w5.heap.size, 1, none⟩) (Below.setCell (p := ⟨w5.heap.size, 0, none⟩) kz (Nat.le_refl _) _) (Nat.le_refl _) _
            clear bz kz
            have M6 := M5.on b6
            have HL6 := Lib.hid (left_any w6 g3 m fs A5 q5 c5 M6 (by rw [← HU.out.2]; exact HU.out.1.rise) (by omega))
            have hE := can_endF HU.out.1 (by have := HU.out.2; omega)
            rw [HU.out.2] at hE
            obtain ⟨E, hEq⟩ : ∃ E, endF m fs = E := ⟨_, rfl⟩
            rw [hEq, HSum.out] at hE
            have HEnd := Lib.hid (fun (wq : World) (hb : Below w6.heap.size w6 wq) => show Calls Try.prog 26 #[.pointer (some ⟨g3, 0, none⟩)] wq fun r w' => r = .returned (.int .i64 E) ∧ Below wq.heap.size wq w' from by
              have := end_map wq g3 m fs A5 q5 c5 (M6.on hb) (by rw [← HU.out.2]; exact HU.out.1.rise) (by omega)
              rw [hEq] at this
              exact this)
            have e1 : E ≤ m := hE.2.2.1
            have e2 : m - S ≤ E := hE.2.2.2
            have e3 : 0 ≤ E := hE.2.1
            have hL6 := HL6.out
            rw [HSum.out] at hL6
            have HL7 := Lib.hid hL6
            have H6 := Lib.hid (on_trans HB5.out b6)
            clear M5 M6 b6 hE hEq hL6 HL6
            go_wp2_with fail
            refine Calls.mono HL7.out ?_
            rintro e w7 ⟨rfl, b7⟩
            have H7 := Lib.hid b7
            clear b7
            go_wp2_with fail
            refine Calls.mono (HEnd.out w7 H7.out) ?_
            rintro e w8 ⟨rfl, b8⟩
            have H8 := Lib.hid (on_trans H7.out b8)
            clear b8
            go_wp2_with fail
            refine Calls.mono (HEnd.out w8 H8.out) ?_
            rintro e w9 ⟨rfl, b9⟩
            have H9 := Lib.hid (on_trans H8.out b9)
            clear b9
            go_wp2_with (go_at_call 11
                         refine Calls.mono (awake_any _) ?_
                         rintro e w10 ⟨rfl, b10⟩
                         have H10 := Lib.hid b10
                         clear b10)
            go_ret
            exact ⟨rfl, on_trans (on_trans H6.out H9.out) H10.out⟩
          · clear hi
            obtain ⟨rfl, b5⟩ := hy
            have HB5 := Lib.hid (show Below w1.heap.size w1 w5 from on_trans (on_trans (on_trans H3.out.2.2.1 HB.out) H4.out) b5)
            have HM4 := Lib.hid (show ∃ A n c, Mm w5 g3 m fs A n c from ⟨_, _, _, (((H3.out.1.on HB.out).on H4.out).on b5)⟩)
            have HU := Lib.hid (And.intro H3.out.2.2.2.1 H3.out.2.2.2.2.1)
            have HSum := Lib.hid hS
            clear b5
            obtain ⟨A5, q5, c5, M5⟩ := HM4.out
            obtain ⟨wz, hwz⟩ : ∃ wz, w5.alloc (.cells #[.int .i64 0, .int .i64 0] 42) = wz := ⟨_, rfl⟩
            have bz : Box wz w5.heap.size 42 #[.int .i64 0, .int .i64 0] := by rw [← hwz]; exact Box.made _ _ _
            have kz : Below w5.heap.size w5 wz := by rw [← hwz]; exact on_alloc _ _
            have z0 : wz.cell? ⟨w5.heap.size, 0, none⟩ = some (.int .i64 0) := bz.cell 0
            have z1 : wz.cell? ⟨w5.heap.size, 1, none⟩ = some (.int .i64 0) := bz.cell 1
            have z2 := bz.free 0
            have z3 := bz.free 1
            obtain ⟨w6, hw6⟩ : ∃ w6, (wz.setCell ⟨w5.heap.size, 0, none⟩ (.int .i64 0)).setCell ⟨w5.heap.size, 1, none⟩ (.int .i64 0) = w6 := ⟨_, rfl⟩
            have b6 : Below w5.heap.size w5 w6 := by
              rw [← hw6]
              exact Below.setCell (p := ⟨w5.heap.size, 1, none⟩) (Below.setCell (p := ⟨w5.heap.size, 0, none⟩) kz (Nat.le_refl _) _) (Nat.le_refl _) _
            clear bz kz
            have M6 := M5.on b6
            have HL6 := Lib.hid (left_any w6 g3 m fs A5 q5 c5 M6 (by rw [← HU.out.2]; exact HU.out.1.rise) (by omega))
            have hE := can_endF HU.out.1 (by have := HU.out.2; omega)
            rw [HU.out.2] at hE
            obtain ⟨E, hEq⟩ : ∃ E, endF m fs = E := ⟨_, rfl⟩
            rw [hEq, HSum.out] at hE
            have HEnd := Lib.hid (fun (wq : World) (hb : Below w6.heap.size w6 wq) => show Calls Try.prog 26 #[.pointer (some ⟨g3, 0, none⟩)] wq fun r w' => r = .returned (.int .i64 E) ∧ Below wq.heap.size wq w' from by
              have := end_map wq g3 m fs A5 q5 c5 (M6.on hb) (by rw [← HU.out.2]; exact HU.out.1.rise) (by omega)
              rw [hEq] at this
              exact this)
            have e1 : E ≤ m := hE.2.2.1
            have e2 : m - S ≤ E := hE.2.2.2
            have e3 : 0 ≤ E := hE.2.1
            have hL6 := HL6.out
            rw [HSum.out] at hL6
            have HL7 := Lib.hid hL6
            have H6 := Lib.hid (on_trans HB5.out b6)
            clear M5 M6 b6 hE hEq hL6 HL6
            go_wp2_with fail
            refine Calls.mono HL7.out ?_
            rintro e w7 ⟨rfl, b7⟩
            have H7 := Lib.hid b7
            clear b7
            go_wp2_with fail
            refine Calls.mono (HEnd.out w7 H7.out) ?_
            rintro e w8 ⟨rfl, b8⟩
            have H8 := Lib.hid (on_trans H7.out b8)
            clear b8
            go_wp2_with fail
            refine Calls.mono (HEnd.out w8 H8.out) ?_
            rintro e w9 ⟨rfl, b9⟩
            have H9 := Lib.hid (on_trans H8.out b9)
            clear b9
            go_wp2_with (go_at_call 11
                         refine Calls.mono (awake_any _) ?_
                         rintro e w10 ⟨rfl, b10⟩
                         have H10 := Lib.hid b10
                         clear b10)
            go_ret
            exact ⟨rfl, on_trans (on_trans H6.out H9.out) H10.out⟩
          · obtain ⟨rfl, hm5, k5⟩ := hy
            have hlo := (on_trans (on_trans H3.out.2.2.1 HB.out) H4.out)
            have HB5 := Lib.hid (show Below w1.heap.size w1 w5 from hlo.trans (k5.below hlo.size (fun i hi e => by have := H3.out.2.2.2.2.2.2; omega)))
            have HM4 := Lib.hid hm5
            obtain ⟨t1, t2⟩ := can_take H3.out.2.2.2.1 hge hi
            have hsp := split_at hi
            have hTL : takeL fs size = fs.take (takeI fs size) ++ (if size < (fs.getD (takeI fs size) (0, 0)).2 then [((fs.getD (takeI fs size) (0, 0)).1 + size, (fs.getD (takeI fs size) (0, 0)).2 - size)] else []) ++ fs.drop (takeI fs size + 1) := rfl
            obtain ⟨X0, X1, hxy⟩ : ∃ x y : Int, fs.getD (takeI fs size) (0, 0) = (x, y) := ⟨_, _, rfl⟩
            rw [hxy] at t1 t2 hsp hTL ⊢
            simp only at t1 ⊢
            have hSum : sumS (takeL fs size) = S - size := by
              rw [hTL, sumS_app, sumS_app]
              rw [hsp, sumS_app] at hS
              simp only [sumS] at hS
              by_cases hlt : size < X1
              · rw [if_pos hlt]; simp only [sumS]; omega
              · rw [if_neg hlt]; simp only [sumS]; omega
            obtain ⟨fs', hfs'⟩ : ∃ fs', takeL fs size = fs' := ⟨_, rfl⟩
            rw [hfs'] at hSum t2 HM4
            have HU := Lib.hid (show Can (mark u (X0, size) true) fs' ∧ ((mark u (X0, size) true).length : Int) = m from ⟨t2, by rw [mark_len]; exact H3.out.2.2.2.2.1⟩)
            have hs8 : 0 ≤ S - size := by have := sumS_pos t2.rise; omega
            obtain ⟨S', hS'⟩ : ∃ S', S - size = S' := ⟨_, rfl⟩
            rw [hS'] at hSum
            have HSum := Lib.hid hSum
            clear hm5 k5 hlo t1 t2 hsp hTL hxy hSum hfs' hi hS
            obtain ⟨A5, q5, c5, M5⟩ := HM4.out
            obtain ⟨w6, hw6⟩ : ∃ w6, w5.alloc (.cells #[.int .i64 X0, .int .i64 size] 42) = w6 := ⟨_, rfl⟩
            have b6 : Below w5.heap.size w5 w6 := by rw [← hw6]; exact on_alloc _ _
            have M6 := M5.on b6
            have HL6 := Lib.hid (left_any w6 g3 m fs' A5 q5 c5 M6 (by rw [← HU.out.2]; exact HU.out.1.rise) (by omega))
            have hE := can_endF HU.out.1 (by have := HU.out.2; omega)
            rw [HU.out.2] at hE
            obtain ⟨E, hEq⟩ : ∃ E, endF m fs' = E := ⟨_, rfl⟩
            rw [hEq, HSum.out] at hE
            have HEnd := Lib.hid (fun (wq : World) (hb : Below w6.heap.size w6 wq) => show Calls Try.prog 26 #[.pointer (some ⟨g3, 0, none⟩)] wq fun r w' => r = .returned (.int .i64 E) ∧ Below wq.heap.size wq w' from by
              have := end_map wq g3 m fs' A5 q5 c5 (M6.on hb) (by rw [← HU.out.2]; exact HU.out.1.rise) (by omega)
              rw [hEq] at this
              exact this)
            have e1 : E ≤ m := hE.2.2.1
            have e2 : m - S' ≤ E := hE.2.2.2
            have e3 : 0 ≤ E := hE.2.1
            have hL6 := HL6.out
            rw [HSum.out] at hL6
            have HL7 := Lib.hid hL6
            have H6 := Lib.hid (on_trans HB5.out b6)
            clear M5 M6 b6 hE hEq hL6 HL6
            go_wp2_with fail
            refine Calls.mono HL7.out ?_
            rintro e w7 ⟨rfl, b7⟩
            have H7 := Lib.hid b7
            clear b7
            go_wp2_with fail
            refine Calls.mono (HEnd.out w7 H7.out) ?_
            rintro e w8 ⟨rfl, b8⟩
            have H8 := Lib.hid (on_trans H7.out b8)
            clear b8
            go_wp2_with fail
            refine Calls.mono (HEnd.out w8 H8.out) ?_
            rintro e w9 ⟨rfl, b9⟩
            have H9 := Lib.hid (on_trans H8.out b9)
            clear b9
            go_wp2_with (go_at_call 11
                         refine Calls.mono (awake_any _) ?_
                         rintro e w10 ⟨rfl, b10⟩
                         have H10 := Lib.hid b10
                         clear b10)
            go_ret
            exact ⟨rfl, on_trans (on_trans H6.out H9.out) H10.out⟩
    · have hF := (new_any w2 m _ _ n c2 l H2.out.1 HX.out.2.1 (by omega)).mono (R' := NewBad m l w2) fun r w' h => h.resolve_right fun h => h0 h.1
      obtain ⟨z, hz⟩ : ∃ z, newE m l = z := ⟨_, rfl⟩
      have hp := newE_pos h0
      rw [hz] at hp
      have hzb : (z != 0) = true := by simp; omega
      refine Calls.mono hF ?_
      rintro e w3 ⟨_, rfl, b3⟩
      have H3 := Lib.hid (on_trans H2.out.2.2 b3)
      clear hF b3 h0
      rw [hz]
      clear hz
      go_wp2_with (go_at_call 11
                   refine Calls.mono (awake_any _) ?_
                   rintro e w5 ⟨rfl, b5⟩
                   have H5 := Lib.hid b5
                   clear b5)
      go_ret
      exact ⟨rfl, on_trans H3.out H5.out⟩
  · have hd : decide (Few m n) = false := decide_eq_false hf
    clear hf
    go_enter Try.func8, Try.ntmps8
    go_wp2_with (first
      | (go_at_call 10
         refine Calls.mono (few_any m A n c w) ?_
         rintro e w1 ⟨rfl, rfl⟩)
      | (go_at_call 11
         refine Calls.mono (awake_any _) ?_
         rintro e w2 ⟨rfl, b2⟩
         have H2 := Lib.hid b2
         clear b2))
    go_ret
    exact ⟨rfl, H2.out⟩
end Go.Proofs.Ytcgajomngcgchaa
