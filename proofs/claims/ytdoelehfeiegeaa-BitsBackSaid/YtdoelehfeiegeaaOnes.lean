/-
  BitsOnes: the walk.
-/
import Derived.Test.YtdoelehfeiegeaaPuts
namespace Go.Proofs.Ytdoelehfeiegeaa
open Go.RowKit

/-- two writers of the same bits, behind k pieces -/
structure OnesAt (w wr : World) (d g k : Nat) (L M : List Int) : Prop where
  one : Wr wr d L
  two : Wr wr g M
  apart : d ≠ g
  newD : w.heap.size ≤ d
  newG : w.heap.size ≤ g
  bel : Below w.heap.size w wr
  few : L.length ≤ 24 * k
  less : M.length ≤ 24 * k

theorem OnesAt.on {w wr w' : World} {d g k : Nat} {L M : List Int} (h : OnesAt w wr d g k L M) (b : Below wr.heap.size wr w') : OnesAt w w' d g k L M :=
  ⟨h.one.on b, h.two.on b, h.apart, h.newD, h.newG, on_trans h.bel b, h.few, h.less⟩
theorem OnesAt.putD {w wr w' : World} {d g k : Nat} {L L' M : List Int} (h : OnesAt w wr d g k L M) (b : Kept (fun i => i = d) wr w') (hw : Wr w' d L') (hl : L'.length ≤ L.length + 24) : OnesAt w w' d g (k + 1) L' M :=
  ⟨hw, h.two.kept b (fun e => h.apart e.symm), h.apart, h.newD, h.newG, h.bel.trans (b.below h.bel.size (fun i hi e => by have := h.newD; omega)), by have := h.few; omega, by have := h.less; omega⟩
theorem OnesAt.putG {w wr w' : World} {d g k : Nat} {L M M' : List Int} (h : OnesAt w wr d g k L M) (b : Kept (fun i => i = g) wr w') (hw : Wr w' g M') (hl : M'.length ≤ 24 * k) : OnesAt w w' d g k L M' :=
  ⟨h.one.kept b h.apart, hw, h.apart, h.newD, h.newG, h.bel.trans (b.below h.bel.size (fun i hi e => by have := h.newG; omega)), h.few, hl⟩

theorem put_bit (x t : Nat) : putE ((x / 2 ^ t % 2 : Nat) : Int) 1 = 0 ∧ ∀ L, putL L ((x / 2 ^ t % 2 : Nat) : Int) 1 = L ++ [((x / 2 ^ t % 2 : Nat) : Int)] := by
  obtain ⟨y, hy⟩ : ∃ y, y = x / 2 ^ t % 2 := ⟨_, rfl⟩
  have hy2 : y < 2 := by omega
  rw [← hy]
  have hm : mayPut (y : Int) 1 := ⟨by omega, by omega, by omega, by show (y : Int) < 2; omega⟩
  refine ⟨by rw [putE, if_pos hm], fun L => ?_⟩
  rw [putL, if_pos hm, Int.toNat_natCast]
  show L ++ ([] ++ [((y % 2 : Nat) : Int)]) = _
  rw [List.nil_append, Nat.mod_eq_of_lt hy2]

theorem dig_down (x c t : Nat) (ht : t < c) : dig (x / 2 ^ t) (c - t) = dig (x / 2 ^ (t + 1)) (c - (t + 1)) ++ [((x / 2 ^ t % 2 : Nat) : Int)] := by
  rw [show c - t = (c - (t + 1)) + 1 by omega]
  show dig (x / 2 ^ t / 2) (c - (t + 1)) ++ _ = _
  rw [Nat.div_div_eq_div_mul, Nat.pow_succ]

theorem putL_ok {v m : Int} (h : mayPut v m) : ∃ x c : Nat, v = x ∧ m = c ∧ x < 2 ^ c ∧ c ≤ 24 ∧ ∀ L, putL L v m = L ++ dig x c := by
  have h' := h
  obtain ⟨m0, m1, m2, m3⟩ := h
  obtain ⟨x, rfl⟩ := Int.eq_ofNat_of_zero_le m2
  obtain ⟨k, rfl⟩ := Int.eq_ofNat_of_zero_le m0
  rw [Int.toNat_natCast] at m3
  have e : ((2 : Int) ^ k) = ((2 ^ k : Nat) : Int) := by simp
  rw [e] at m3
  exact ⟨x, k, rfl, rfl, Int.ofNat_lt.1 m3, by omega, fun L => by rw [putL, if_pos h', Int.toNat_natCast, Int.toNat_natCast]⟩

set_option maxRecDepth 10000 in
set_option maxHeartbeats 3200000 in
theorem ones_some (w : World) (A : Option Addr) (n c : Nat) (ks : List (Int × Int)) (h : Pl w (fun _ => True) A n ks) (hn : n ≤ 60) : Calls Try.prog 8 #[.slice A n c] w (Law w) := by
  have hPl := Lib.hid (h.mono (K' := fun b => b < w.heap.size) (fun _ hb _ => hb))
  clear h
  go_enter Try.func8, Try.ntmps8
  go_wp2_with fail
  refine (newWriter_wr w).mono ?_
  rintro e w1 ⟨d, rfl, hd, hw1, b1⟩
  have H1 := Lib.hid (And.intro hw1 (And.intro hd b1))
  clear hw1 b1 hd
  go_wp2_with fail
  refine (newWriter_wr w1).mono ?_
  rintro e w2 ⟨g, rfl, hg, hw2, b2⟩
  have H2 := Lib.hid (OnesAt.mk (w := w) (k := 0) (H1.out.1.on b2) hw2 (by have := H1.out.1.lt; omega) H1.out.2.1 (Nat.le_trans H1.out.2.2.size hg) (on_trans H1.out.2.2 b2) (by simp) (by simp))
  clear hw2 b2 hg
  go_wp2
  go_loopw [16] (fun i wr => ∃ k L, k ≤ n ∧ i = .int .i64 (k : Int) ∧ OnesAt w wr d g k L L) (fun i _ => n - (intOf i).toNat)
  case atStart => exact ⟨0, [], Nat.zero_le _, rfl, H2.out⟩
  case round =>
    obtain ⟨k, L, hk, rfl, hP⟩ := hrel
    have HP := Lib.hid hP
    clear hP
    by_cases hlt : k < n
    · obtain ⟨bl, ol, rfl, q0, q1⟩ := (hPl.out.below HP.out.bel (fun _ _ h => h)).get hlt
      obtain ⟨v, hv⟩ : ∃ v, v = (ks.getD k (0, 0)).1 := ⟨_, rfl⟩
      obtain ⟨m, hm⟩ : ∃ m, m = (ks.getD k (0, 0)).2 := ⟨_, rfl⟩
      rw [← hv] at q0
      rw [← hm] at q1
      clear hv hm
      obtain ⟨p, hp⟩ : ∃ p, p = wr.heap.size := ⟨_, rfl⟩
      obtain ⟨w3, hw3⟩ : ∃ w3, w3 = wr.alloc (.cells #[.int .i64 v, .int .i64 m] 28) := ⟨_, rfl⟩
      have hbp : Box w3 p 28 #[.int .i64 v, .int .i64 m] := by rw [hw3, hp]; exact Box.made _ _ _
      have b3 : Below wr.heap.size wr w3 := by rw [hw3]; exact on_alloc _ _
      have hpd : p ≠ d := by have := HP.out.one.lt; omega
      have hpg : p ≠ g := by have := HP.out.two.lt; omega
      have HB := Lib.hid (And.intro hbp (And.intro (HP.out.on b3) (And.intro hw3 (And.intro hp (And.intro hpd hpg)))))
      have r0 : w3.cell? ⟨p, 0, none⟩ = some (.int .i64 v) := hbp.cell 0
      have r1 : w3.cell? ⟨p, 1, none⟩ = some (.int .i64 m) := hbp.cell 1
      clear hbp b3 hw3 hp hpd hpg
      go_wp2_with fail
      rw [← HB.out.2.2.1, ← HB.out.2.2.2.1]
      go_wp2_with fail
      refine (put_any w3 d L v m HB.out.2.1.one (by have := HB.out.2.1.few; omega)).mono ?_
      rintro e w4 ⟨rfl, hw4, k4⟩
      have hbp4 := k4.box HB.out.1 HB.out.2.2.2.2.1
      have H4 := Lib.hid (And.intro (HB.out.2.1.putD k4 hw4 (putL_len L v m)) hbp4)
      have s1 : w4.cell? ⟨p, 1, none⟩ = some (.int .i64 m) := hbp4.cell 1
      clear hw4 k4 hbp4 r0 r1 q0 q1
      by_cases hm : mayPut v m
      · have hE : putE v m = 0 := by rw [putE, if_pos hm]
        obtain ⟨x, cc, rfl, rfl, hx, hcc, hL⟩ := putL_ok hm
        rw [hE]
        have HX := Lib.hid (And.intro hx (hL L))
        have hx1 : x ≤ 16777216 := by
          have : 2 ^ cc ≤ 16777216 := Nat.le_trans (Nat.pow_le_pow_right (by omega) hcc) (by decide)
          omega
        clear hE hm hx hL
        go_wp2_with fail
        go_loopw [7] (fun i wr => ∃ t, t ≤ cc ∧ i = .int .i64 ((t : Int) - 1) ∧ OnesAt w wr d g (k + 1) (L ++ dig x cc) (L ++ dig (x / 2 ^ t) (cc - t)) ∧ Box wr p 28 #[.int .i64 (x : Int), .int .i64 (cc : Int)]) (fun i _ => (intOf i + 1).toNat)
        case atStart =>
          refine ⟨cc, Nat.le_refl _, rfl, ?_, H4.out.2⟩
          rw [Nat.sub_self]
          have := H4.out.1
          rw [HX.out.2] at this
          simpa [dig] using this
        case round =>
          obtain ⟨t, ht, rfl, hO, hbx⟩ := hrel
          have t0 : wr.cell? ⟨p, 0, none⟩ = some (.int .i64 (x : Int)) := hbx.cell 0
          have HO := Lib.hid (And.intro hO hbx)
          clear hO hbx
          by_cases h0 : t = 0
          · subst h0
            go_wp2
            refine ⟨⟨k + 1, L ++ dig x cc, by omega, by go_num, ?_⟩, by simp [intOf]; omega⟩
            have := HO.out.1
            rw [Nat.pow_zero, Nat.div_one, Nat.sub_zero] at this
            exact this
          · obtain ⟨s, rfl⟩ : ∃ s, t = s + 1 := ⟨t - 1, by omega⟩
            rw [show ((s + 1 : Nat) : Int) - 1 = (s : Int) by omega]
            obtain ⟨y, hy⟩ : ∃ y, y = x / 2 ^ s := ⟨_, rfl⟩
            have hy1 : (x : Int) / 2 ^ s = (y : Int) := by rw [hy]; simp
            obtain ⟨b, hb⟩ : ∃ b, b = y % 2 := ⟨_, rfl⟩
            have hyx : y ≤ x := by rw [hy]; exact Nat.div_le_self _ _
            have hand : bits .and .i64 (y : Int) 1 = (b : Int) := by
              have := and_i64 y 1 (by omega) (by omega)
              rw [Nat.and_one_is_mod, ← hb] at this
              exact this
            have hpb := put_bit x s
            rw [← hy, ← hb] at hpb
            have hdn := dig_down x cc s (by omega)
            rw [← hy, ← hb] at hdn
            have hs40 : s ≤ 24 := by omega
            have HY := Lib.hid (And.intro hpb (And.intro hdn hy))
            clear hpb hdn hy hb
            go_wp2_with fail
            refine (put_any wr g (L ++ dig (x / 2 ^ (s + 1)) (cc - (s + 1))) (b : Int) 1 HO.out.1.two (by have := HO.out.1.less; omega)).mono ?_
            rw [HY.out.1.1, HY.out.1.2]
            rintro e w5 ⟨rfl, hw5, k5⟩
            have hbx5 := k5.box HO.out.2 HB.out.2.2.2.2.2
            have hM : (L ++ dig (x / 2 ^ (s + 1)) (cc - (s + 1)) ++ [(b : Int)]) = L ++ dig (x / 2 ^ s) (cc - s) := by rw [List.append_assoc, ← HY.out.2.1, HY.out.2.2]
            rw [hM] at hw5
            have hle : (L ++ dig (x / 2 ^ s) (cc - s)).length ≤ 24 * (k + 1) := by
              have := HP.out.few
              rw [List.length_append, dig_len]
              omega
            have H5 := Lib.hid (And.intro (HO.out.1.putG k5 hw5 hle) hbx5)
            clear hw5 k5 hbx5 hM hle t0
            go_wp2
            go_roundw
            case rel => exact ⟨s, by omega, rfl, H5.out.1, H5.out.2⟩
            case measure => simp [intOf]
      · have hE : putE v m = 2 := by rw [putE, if_neg hm]
        have hL : putL L v m = L := by rw [putL, if_neg hm]
        rw [hE]
        have HX := Lib.hid hL
        clear hE hm hL
        go_wp2
        go_roundw
        case rel =>
          refine ⟨k + 1, L, by omega, by go_num, ?_⟩
          have := H4.out.1
          rw [HX.out] at this
          exact this
        case measure => simp [intOf]; omega
    · have HD := Lib.hid (HP.out.on (on_drew wr))
      have HC := Lib.hid (count_wr wr.drew d L HD.out.one)
      go_wp2_with fail
      go_region_held (fun _ => True) (exact trivial)
        (first
          | (go_at_call 14
             with_reducible refine HC.out.mono ?_
             rintro e w5 ⟨rfl, b5⟩
             have H5 := Lib.hid (HD.out.on b5)
             clear b5)
          | (go_at_call 14
             with_reducible refine (count_wr w5 g L H5.out.two).mono ?_
             rintro e w6 ⟨rfl, b6⟩
             have H6 := Lib.hid (H5.out.on b6)
             clear b6)
          | (go_at_call 15
             with_reducible refine (bytes_any w6 d L H6.out.one).mono ?_
             rintro e w7 ⟨A7, m7, c7, l7, rfl, hs7, hsl7, b7⟩
             have cv1 := sl_str hsl7
             have H7 := Lib.hid (And.intro (H6.out.on b7) (And.intro hs7 hsl7))
             clear b7 hs7 hsl7)
          | (go_at_call 15
             with_reducible refine (bytes_any w7 g L H7.out.1.two).mono ?_
             rintro e w8 ⟨A8, m8, c8, l8, rfl, hs8, hsl8, b8⟩
             have e8 := H7.out.2.1.same hs8
             rw [← e8] at hsl8
             have cv2 := sl_str hsl8
             have cv3 := sl_str (H7.out.2.2.on b8)
             have H8 := Lib.hid (on_trans H7.out.1.bel b8)
             clear b8 hs8 hsl8 e8)
          | (go_at_call 10
             with_reducible refine (awake_any w8).mono ?_
             rintro e w9 ⟨rfl, b9⟩
             have H9 := Lib.hid (on_trans H8.out b9)
             clear b9))
      all_goals
        (go_wp2
         go_ret
         exact ⟨rfl, H9.out⟩)

theorem ones_calls (w : World) (A : Option Addr) (n c : Nat) (ks : List (Int × Int)) (h : Pl w (fun _ => True) A n ks) : Calls Try.prog 8 #[.slice A n c] w (Law w) := by
  by_cases hn : n ≤ 60
  · exact ones_some w A n c ks h hn
  · have a1 : (60 : Int) < n := by omega
    clear h hn
    go_enter Try.func8, Try.ntmps8
    go_wp2_with fail
    refine (awake_any w).mono ?_
    rintro e w8 ⟨rfl, b8⟩
    have F8 := Lib.hid b8
    clear b8
    go_wp2
    go_ret
    exact ⟨rfl, F8.out⟩
end Go.Proofs.Ytdoelehfeiegeaa
