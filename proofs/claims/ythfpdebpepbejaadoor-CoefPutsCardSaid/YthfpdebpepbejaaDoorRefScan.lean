/-
  The contract of the reference's Bytes.
-/
import Derived.Test.YthfpdebpepbejaaDoorRefBytes
namespace Go.Proofs.YthfpdebpepbejaaDoor
open Go.RowKit

set_option maxHeartbeats 1600000 in
theorem refBytes_any (w : World) (A : Option Addr) (n c : Nat) (B : List Int) (v0 c0 : Nat) (h : Il w A n c (by8 B ++ dig v0 c0)) (hf : Fit B) (hc : c0 < 8) (hv : v0 < 2 ^ c0) (hn : n ≤ 2000) :
    Calls Tryd.prog 27 #[.slice A n c] w fun e w' => ∃ A' c', e = .returned (.slice A' (stuff (filledUp B v0 c0)).length c') ∧ Sl w' (fun _ => True) A' (stuff (filledUp B v0 c0)).length c' (stuff (filledUp B v0 c0)) ∧ Below w.heap.size w w' := by
  obtain ⟨L, hL⟩ : ∃ L, L = by8 B ++ dig v0 c0 := ⟨_, rfl⟩
  obtain ⟨F, hF⟩ : ∃ F, F = filledUp B v0 c0 := ⟨_, rfl⟩
  obtain ⟨r, hr⟩ : ∃ r, r = (8 - c0) % 8 := ⟨_, rfl⟩
  have hFL : by8 F = L ++ List.replicate r 1 := by rw [hF, hL, hr]; exact by8_filledUp B hc
  have hFf : Fit F := by rw [hF]; exact fit_filledUp hf hc hv
  rw [← hL] at h
  rw [← hF]
  have hln : L.length = n := h.len
  have hn8 : n = 8 * B.length + c0 := by rw [← hln, hL, List.length_append, by8_len, dig_len]
  have hF8 : 8 * F.length = n + r := by rw [← by8_len, hFL, List.length_append, List.length_replicate, hln]
  have hr8 : r < 8 := by omega
  have hrm : (n + r) % 8 = 0 := by omega
  have hrz : ∀ j, j < r → (n + j) % 8 ≠ 0 := fun j hj => by omega
  have HH := Lib.hid (And.intro h (And.intro hFL (And.intro hFf (And.intro hF8 (And.intro hrm hrz)))))
  clear h hFL hFf hF8 hrm hrz hr hL hF hf hv hn8
  go_enter Tryd.func27, Tryd.ntmps27
  go_wp2_with (first
    | (at_builtin; refine wpList_append_il rfl (.tmp 8) (.tmp 9) rfl w.heap.size (.slice (some ⟨w.heap.size, 0, none⟩) 0 0) 0 [] rfl (World.ownsRow_made (base := w.heap.size) (e := 3) (size := 1) w #[] 0 (Nat.le_refl _) (Nat.zero_le _) rfl) A n c L rfl (HH.out.1.on (on_alloc _ _)) (by omega) (by simp) ?_; intro v1 w1 hown1 b1; rw [Nat.zero_add, List.nil_append] at hown1; have H1 := Lib.hid (IRow.mk hown1 ((on_alloc w _).trans b1)); clear hown1 b1)
    | fail)
  go_loopw [3] (fun v wr => ∃ j, j ≤ r ∧ IRow w wr v (n + j) (L ++ List.replicate j 1)) (fun v _ => n + 8 - lenOf v)
  case atStart => exact ⟨0, Nat.zero_le _, by simpa using H1.out⟩
  case round =>
    obtain ⟨j, hj, hR⟩ := hrel
    obtain ⟨A1, c1, rfl, hI, hA1⟩ := il_of_own hR.own
    have HR := Lib.hid (And.intro hR (And.intro hI hA1))
    clear hR hI hA1
    by_cases hlt : j < r
    · have hz := HH.out.2.2.2.2.2 j hlt
      have hz1 : ¬ ((n : Int) + j) % 8 = 0 := by omega
      go_wp2_with (first
        | (at_builtin; refine wpList_append_il rfl (.tmp 15) (.tmp 16) rfl w.heap.size (.slice A1 (n + j) c1) (n + j) (L ++ List.replicate j 1) rfl (HR.out.1.own.alloc _) (some ⟨wr.heap.size, 0, none⟩) 1 1 [1] rfl (il_one wr 1) (by omega) (by have := HR.out.1.bel.size; simp; omega) ?_; intro v3 w3 hown3 b3; obtain ⟨A3, c3, rfl, _, _⟩ := il_of_own hown3; have H3 := Lib.hid (IRow.mk hown3 ((HR.out.1.bel.trans ((on_alloc _ _).mono HR.out.1.bel.size)).trans b3)); clear hown3 b3)
        | fail)
      refine ⟨⟨j + 1, by omega, ?_⟩, by simp [lenOf]; omega⟩
      have := H3.out
      rw [List.append_assoc, ← List.replicate_succ'] at this
      exact this
    · obtain rfl : j = r := by omega
      obtain ⟨N, hN⟩ : ∃ N, N = n + j := ⟨_, rfl⟩
      have hN1 : (n : Int) + j = N := by omega
      have hN2 : (N : Int) % 8 = 0 := by have := HH.out.2.2.2.2.1; omega
      have hN3 : 8 * F.length = N := by have := HH.out.2.2.2.1; omega
      have hI : Il wr A1 N c1 (by8 F) := by
        have := HR.out.2.1
        rw [← HH.out.2.1, ← hN] at this
        exact this
      obtain ⟨w1, hw1⟩ : ∃ w1, wr = w1 := ⟨_, rfl⟩
      have HI := Lib.hid (And.intro hI (And.intro HR.out.1.bel hN3))
      rw [hw1] at HI ⊢
      rw [← hN]
      have hN4 : N ≤ 2007 := by omega
      clear hN hN1 hN3 hI HR hw1
      go_wp2
      go_loopw [4, 5] (fun u i w2 => ∃ k, k ≤ F.length ∧ i = .int .i64 ((8 * k : Nat) : Int) ∧ RB w w1 w2 u k F) (fun _ i _ => N - (intOf i).toNat)
      case atStart => exact ⟨0, Nat.zero_le _, rfl, ⟨⟨rfl, .inl ⟨rfl, rfl⟩⟩, Below.refl _ _⟩⟩
      case round =>
        obtain ⟨k, hk, rfl, hB⟩ := hrel
        have HB := Lib.hid hB
        clear hB
        by_cases hlt : k < F.length
        · have ha : 8 * k + 8 ≤ N := by have := HI.out.2.2; omega
          obtain ⟨b, off, rfl, _, hcell⟩ := HI.out.1.at_ (by omega)
          obtain ⟨i, hi⟩ : ∃ i, i = 8 * k := ⟨_, rfl⟩
          rw [← hi] at ha ⊢
          obtain ⟨q, hq⟩ : ∃ q, q = (F.getD k 0).toNat := ⟨_, rfl⟩
          have hq8 : q < 256 := by have := HH.out.2.2.1.getD k; omega
          have HK := Lib.hid (And.intro hi (And.intro hq (And.intro hk hcell)))
          clear hi hq hk hcell
          have ha2 : (i : Int) < N := by omega
          go_wp2
          go_loop [6, 7] (fun x y => ∃ j2, j2 ≤ 8 ∧ x = .int .i64 ((q / 2 ^ (8 - j2) : Nat) : Int) ∧ y = .int .i64 ((j2 : Nat) : Int)) (fun _ y => 8 - (intOf y).toNat)
          case atStart => exact ⟨0, by omega, by rw [show q / 2 ^ (8 - 0) = 0 by omega]; rfl, rfl⟩
          case round =>
            obtain ⟨j2, hj2, rfl, rfl⟩ := hrel
            obtain ⟨x0, hx0⟩ : ∃ x0, x0 = q / 2 ^ (8 - j2) := ⟨_, rfl⟩
            have hx1 : x0 ≤ 255 := by
              have : x0 ≤ q := by rw [hx0]; exact Nat.div_le_self _ _
              omega
            rw [← hx0]
            have HX := Lib.hid hx0
            clear hx0
            by_cases hj8 : j2 < 8
            · obtain ⟨t, ht⟩ : ∃ t, t = i + j2 := ⟨_, rfl⟩
              have ht1 : (i : Int) + j2 = (t : Int) := by omega
              have ht2 : t < N := by omega
              obtain ⟨y0, hy0⟩ : ∃ y0, y0 = q / 2 ^ (7 - j2) % 2 := ⟨_, rfl⟩
              have hy1 : y0 ≤ 1 := by omega
              have hc : wr.cell? ⟨b, off + t, none⟩ = some (.int .i64 (y0 : Int)) := by
                have h1 := HK.out.2.2.2 t ht2
                have h2 := by8_at F k j2 hlt hj8
                rw [← HK.out.1, ← HK.out.2.1, ← hy0, ← ht] at h2
                rw [h2] at h1
                exact (HB.out.bel.cell (p := ⟨b, off + t, none⟩) (World.block_lt_of_cell? _ _ h1)).trans h1
              have HY := Lib.hid (And.intro hy0 ht)
              clear hy0 ht
              go_wp2
              refine ⟨⟨j2 + 1, by omega, ?_, by go_num⟩, by simp [intOf]; omega⟩
              rw [← more_bit q j2 hj8, ← HX.out, ← HY.out.1]
              rfl
            · obtain rfl : j2 = 8 := by omega
              have hxq : x0 = q := by rw [HX.out]; simp
              subst hxq
              clear HX
              obtain ⟨m, hm⟩ : ∃ m, m = (stuff (F.take k)).length := ⟨_, rfl⟩
              have hm1 : m ≤ 4014 := by
                have := stuff_len (F.take k)
                rw [List.length_take] at this
                have := HI.out.2.2
                omega
              have hmore := stuff_more (l := F) (k := k) hlt
              have hzq : F.getD k 0 = (x0 : Int) := by
                have := HH.out.2.2.1.getD k
                have := HK.out.2.1
                omega
              rw [hzq] at hmore
              have hrow := HB.out.row
              rw [← hm] at hrow
              have HM := Lib.hid (And.intro hm (And.intro hmore hrow))
              clear hm hmore hzq hrow
              by_cases h255 : x0 = 255
              · subst h255
                go_wp2_with (first
                  | (at_builtin; refine wpList_append_sl rfl (.tmp 37) (.tmp 40) rfl w1.heap.size u4 m (stuff (F.take k)) rfl (HM.out.2.2.alloc _) _ (some ⟨wr.heap.size, 0, none⟩) 1 1 [255] rfl (sl_byte wr 255 (by omega) (by omega)) (by omega) (by have := HB.out.bel.size; simp; omega) ?_; intro v3 w3 hown3 b3; have H3 := Lib.hid (Row.mk hown3 ((HB.out.bel.trans ((on_alloc _ _).mono HB.out.bel.size)).trans b3)); clear hown3 b3)
                  | (at_builtin; refine wpList_append_sl rfl (.tmp 44) (.tmp 45) rfl w1.heap.size v3 (m + 1) _ rfl (H3.out.own.alloc _) _ (some ⟨w3.heap.size, 0, none⟩) 1 1 [0] rfl (sl_byte w3 0 (by omega) (by omega)) (by omega) (by have := H3.out.bel.size; simp; omega) ?_; intro v4 w4 hown4 b4; have H4 := Lib.hid (Row.mk hown4 ((H3.out.bel.trans ((on_alloc _ _).mono H3.out.bel.size)).trans b4)); clear hown4 b4))
                refine ⟨⟨k + 1, by omega, ?_, ?_⟩, ?_⟩
                · have := HK.out.1
                  go_num
                · have := H4.out
                  rw [List.append_assoc] at this
                  have e : (stuff (F.take (k + 1))).length = m + 1 + 1 := by rw [HM.out.2.1, List.length_append, ← HM.out.1]; rfl
                  refine ⟨?_, this.bel⟩
                  rw [e, HM.out.2.1]
                  exact this.own
                · simp [intOf]
                  omega
              · go_wp2_with (first
                  | (at_builtin; refine wpList_append_sl rfl (.tmp 37) (.tmp 40) rfl w1.heap.size u4 m (stuff (F.take k)) rfl (HM.out.2.2.alloc _) _ (some ⟨wr.heap.size, 0, none⟩) 1 1 [(x0 : Int)] rfl (sl_byte wr x0 (by omega) (by omega)) (by omega) (by have := HB.out.bel.size; simp; omega) ?_; intro v3 w3 hown3 b3; have H3 := Lib.hid (Row.mk hown3 ((HB.out.bel.trans ((on_alloc _ _).mono HB.out.bel.size)).trans b3)); clear hown3 b3)
                  | fail)
                refine ⟨⟨k + 1, by omega, ?_, ?_⟩, ?_⟩
                · have := HK.out.1
                  go_num
                · have := H3.out
                  have e0 : ¬ ((x0 : Int) = 255) := by omega
                  have e : (stuff (F.take (k + 1))).length = m + 1 := by rw [HM.out.2.1, if_neg e0, List.length_append, ← HM.out.1]; rfl
                  refine ⟨?_, this.bel⟩
                  rw [e, HM.out.2.1, if_neg e0]
                  exact this.own
                · simp [intOf]
                  omega
        · obtain rfl : k = F.length := by omega
          have hkN : ¬ ((8 * F.length : Nat) : Int) < N := by have := HI.out.2.2; omega
          obtain ⟨t, ht⟩ : ∃ t, t = 8 * F.length := ⟨_, rfl⟩
          rw [← ht] at hkN ⊢
          clear ht
          go_wp2
          go_ret
          have hrow := HB.out.row
          rw [List.take_length] at hrow
          obtain ⟨A', c', rfl, hs⟩ := sl_of_own hrow (stuff_fit HH.out.2.2.1)
          exact ⟨A', c', rfl, hs.mono (fun _ _ _ => trivial), on_trans HI.out.2.1 HB.out.bel⟩

theorem refBytes_scan (w : World) (A : Option Addr) (n c : Nat) (L : List Int) (h : Il w A n c L) (hp : ∃ B v c, Fit B ∧ c < 8 ∧ v < 2 ^ c ∧ L = by8 B ++ dig v c) (hn : n ≤ 2000) :
    Calls Tryd.prog 27 #[.slice A n c] w (Tells w L) := by
  obtain ⟨B, v0, c0, h1, h2, h3, rfl⟩ := hp
  refine (refBytes_any w A n c B v0 c0 h h1 h2 h3 hn).mono ?_
  rintro e w' ⟨A', c', rfl, hs, hb⟩
  exact ⟨A', _, c', _, rfl, ⟨B, v0, c0, h1, h2, h3, rfl, rfl⟩, hs, hb⟩
end Go.Proofs.YthfpdebpepbejaaDoor
