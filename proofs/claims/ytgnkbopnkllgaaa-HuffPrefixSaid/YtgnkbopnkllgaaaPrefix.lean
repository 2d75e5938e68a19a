/-
  HuffPrefix: the walk.
-/
import Derived.Test.YtgnkbopnkllgaaaRises
namespace Go.Proofs.Ytgnkbopnkllgaaa
open Go.RowKit

theorem later_at {c : Nat → Nat} {i j : Nat} {x y : Nat × Nat} (hi : (pre c 16)[i]? = some x) (hj : (pre c 16)[j]? = some y) (hlt : j < i) : Later y x := by
  obtain ⟨h1, e1⟩ := List.getElem?_eq_some_iff.1 hi
  obtain ⟨h2, e2⟩ := List.getElem?_eq_some_iff.1 hj
  have := List.pairwise_iff_getElem.1 (pre_later (c := c) 16) j i h2 h1 hlt
  rw [e1, e2] at this
  exact this
theorem later_cut {x y : Nat × Nat} (h : Later y x) : x.1 / 2 ^ (x.2 - y.2) ≠ y.1 := by
  have h2 : y.1 + 1 ≤ x.1 / 2 ^ (x.2 - y.2) := (Nat.le_div_iff_mul_le (pow_pos' _)).2 h.2
  omega

set_option maxRecDepth 20000 in
set_option maxHeartbeats 1600000 in
theorem prefix_calls (w : World) (B V : List Int) (A : Option Addr) (n c : Nat) (hB : B.length = 16) (h : Ia w A n c V) : Calls Try.prog 5 #[specV B (.slice A n c)] w (Law w) := by
  obtain ⟨C, hC⟩ : ∃ C, C = specC B (.slice A n c) := ⟨_, rfl⟩
  have eV : specV B (.slice A n c) = .agg C := by rw [hC]; rfl
  rw [eV]
  obtain ⟨g, hg⟩ : ∃ g, g = w.heap.size := ⟨_, rfl⟩
  obtain ⟨w1, hw1⟩ : ∃ w1, w1 = w.alloc (.cells C 25) := ⟨_, rfl⟩
  have hb := boxed_made (w1 := w1) (g := g) hB h (by rw [hw1, hC]) hg
  have c16 := hb.slice
  rw [hw1, hg] at c16
  have HB := Lib.hid (And.intro hb (And.intro hw1 (And.intro hg h.len)))
  clear hb hw1 hg hC eV h hB
  by_cases hn : 300 < n
  · go_enter Try.func5, Try.ntmps5
    go_wp2_with fail
    rw [← HB.out.2.1]
    refine (awake5_any w1).mono ?_
    rintro e w2 ⟨rfl, b2⟩
    have H2 := Lib.hid (on_trans HB.out.1.bel b2)
    clear b2
    go_wp2
    go_ret
    exact ⟨rfl, H2.out⟩
  have hn3 : ¬ (300 : Int) < (n : Int) := by omega
  have HL := Lib.hid (load_spec HB.out.1.box HB.out.1.len)
  go_enter Try.func5, Try.ntmps5
  go_wp2_with (first
    | (refine wpList_load_to (op := ⟨some 21, _, _, _, _, _⟩) rfl 25 (.tmp 1) rfl (.pointer (some ⟨w.heap.size, 0, none⟩)) rfl (specV B (.slice A n c)) (by rw [← HB.out.2.1, ← HB.out.2.2.1]; exact HL.out) ?_)
    | fail)
  rw [← HB.out.2.1, ← HB.out.2.2.1]
  clear c16
  refine (own_any w1 B V A n c HB.out.1.len HB.out.1.vals (by omega)).mono ?_
  rintro e w2 ⟨A2, c2, rfl, hi2, _, b2⟩
  have H2 := Lib.hid (And.intro hi2 (HB.out.1.on b2))
  clear hi2 b2
  go_wp2_with fail
  refine (new_any w2 B V A2 n c2 HB.out.1.len H2.out.1 (by omega)).mono ?_
  rintro e w3 ⟨b3, ⟨hv, rfl⟩ | ⟨hv, t, rfl, hT⟩⟩
  · have H3 := Lib.hid (H2.out.2.on b3)
    clear b3 hv
    go_wp2_with fail
    refine (awake5_any w3).mono ?_
    rintro e w4 ⟨rfl, b4⟩
    have H4 := Lib.hid (H3.out.on b4)
    clear b4
    go_wp2
    go_ret
    exact ⟨rfl, H4.out.bel⟩
  · have HV := Lib.hid hv
    have hK : Looking w w3 g w2.heap.size w3.heap.size t B V A n c := ⟨H2.out.2.on b3, hT⟩
    generalize w2.heap.size = lo at hK
    generalize w3.heap.size = hi at hK
    have HK := Lib.hid hK
    clear b3 hv hT hK
    have hpos := HV.out.pos
    have hlen := HB.out.2.2.2
    obtain ⟨b, off, hA, _, _⟩ := HK.out.box.vals.at_ (by omega)
    subst hA
    have hcap := HK.out.box.vals.cap
    have d16 := HK.out.box.slice
    go_wp2
    clear d16
    go_loopw [36] (fun i wr => ∃ k : Nat, k ≤ n ∧ i = .int .i64 k ∧ Looking w wr g lo hi t B V (some ⟨b, off, none⟩) n c) (fun i _ => n - (intOf i).toNat)
    case atStart => exact ⟨0, Nat.zero_le _, rfl, HK.out⟩
    case round =>
      obtain ⟨i, hi1, rfl, hR⟩ := hrel
      have HR := Lib.hid hR
      by_cases hlt : i < n
      · have c0 := hR.box.vals.get hlt
        obtain ⟨x, hx1, hx2⟩ := code_at HV.out (p := i) (by omega)
        obtain ⟨v, hv⟩ : ∃ v, v = V.getD i 0 := ⟨_, rfl⟩
        rw [← hv] at c0 hx2
        have hxb := mem_pre (List.mem_of_getElem? hx1)
        have hxf := HV.out.fits (x.2 - 1) (by omega)
        rw [show x.2 - 1 + 1 = x.2 by omega] at hxf
        obtain ⟨P, hP⟩ : ∃ P : Nat, P = 2 ^ x.2 := ⟨_, rfl⟩
        have hP1 : P ≤ 65536 := by rw [hP]; exact pow16 hxb.2.1
        have hP2 : (2 : Int) ^ x.2 = (P : Int) := by rw [hP]; simp
        rw [← hP] at hxf
        have hxP : x.1 + 1 < P := by omega
        have hx16 : x.2 ≤ 16 := hxb.2.1
        have hx0 : 1 ≤ x.2 := hxb.1
        have HX := Lib.hid (And.intro hx1 hx2)
        clear hR hx1 hx2 hv hxb hxf hP
        go_wp2_with fail
        refine (code_in wr lo hi t B V i x v HR.out.tab HV.out HX.out.1 HX.out.2).mono ?_
        rintro e w4 ⟨rfl, b4⟩
        have hR4 := HR.out.on b4
        have d16 := hR4.box.slice
        have H4 := Lib.hid hR4
        clear b4 hR4 c0
        have hxi := HX.out.1
        obtain ⟨x1, x2⟩ := x
        dsimp only at hxP hx16 hx0 hP2 ⊢
        have HXI := Lib.hid hxi
        clear hxi
        have g1 : ¬ ((x2 : Int) < 1) := by omega
        have g2 : ¬ (16 : Int) < (x2 : Int) := by omega
        have g3 : ¬ ((x1 : Int) < 0) := by omega
        have g4 : ¬ ((P : Int) - 1 ≤ (x1 : Int)) := by omega
        have g5 : (i : Int) ≤ (c : Int) := by omega
        go_wp2
        clear d16 g1 g2 g3 g4
        go_loopw [74] (fun j w6 => ∃ k : Nat, k ≤ i ∧ j = .int .i64 k ∧ Looking w w6 g lo hi t B V (some ⟨b, off, none⟩) n c) (fun j _ => i - (intOf j).toNat)
        case atStart => exact ⟨0, Nat.zero_le _, rfl, H4.out⟩
        case round =>
          obtain ⟨j, hj1, rfl, hR⟩ := hrel
          have HJ := Lib.hid hR
          by_cases hjl : j < i
          · have c0 := hR.box.vals.get (show j < n by omega)
            obtain ⟨y, hy1, hy2⟩ := code_at HV.out (p := j) (by omega)
            obtain ⟨u, hu⟩ : ∃ u, u = V.getD j 0 := ⟨_, rfl⟩
            rw [← hu] at c0 hy2
            have hL := later_at HXI.out hy1 hjl
            have hcut := later_cut hL
            have hyb := (mem_pre (List.mem_of_getElem? hy1)).1
            have hle := hL.1
            have HY := Lib.hid (And.intro hy1 hy2)
            have HZ := Lib.hid (And.intro hcut (And.intro hyb hle))
            clear hR hy1 hy2 hu hL hcut hyb hle
            go_wp2_with fail
            refine (code_in wr lo hi t B V j y u HJ.out.tab HV.out HY.out.1 HY.out.2).mono ?_
            rintro e w7 ⟨rfl, b7⟩
            have H7 := Lib.hid (HJ.out.on b7)
            clear b7 c0
            obtain ⟨hcut, hyb, hle⟩ := HZ.out
            obtain ⟨y1, y2⟩ := y
            dsimp only at hcut hyb hle ⊢
            obtain ⟨k, hk⟩ : ∃ k, k = x2 - y2 := ⟨_, rfl⟩
            rw [← hk] at hcut
            obtain ⟨q, hq⟩ : ∃ q, q = x1 / 2 ^ k := ⟨_, rfl⟩
            have e1 : (x2 : Int) - (y2 : Int) = (k : Int) := by omega
            have e2 : (x1 : Int) / 2 ^ k = (q : Int) := by rw [hq]; simp
            rw [← hq] at hcut
            have e3 : ((q : Int) == (y1 : Int)) = false := by simp; omega
            have e4 : ¬ (q : Int) = (y1 : Int) := by omega
            have e5 : ¬ (x2 : Int) < (y2 : Int) := by omega
            have e6 : ¬ ((y2 : Int) < 1) := by omega
            have hk16 : k ≤ 16 := by omega
            clear hk hq hcut HZ
            go_wp2
            go_roundw
            case rel => exact ⟨j + 1, by omega, by go_num, H7.out⟩
            case measure => simp [intOf]; omega
          · clear hR
            go_wp2
            go_roundw
            case rel => exact ⟨i + 1, by omega, by go_num, HJ.out⟩
            case measure => simp [intOf]; omega
      · clear hR
        go_wp2_with fail
        refine (awake5_any wr).mono ?_
        rintro e w8 ⟨rfl, b8⟩
        have H8 := Lib.hid (HR.out.on b8)
        clear b8
        go_wp2
        go_ret
        exact ⟨rfl, H8.out.box.bel⟩
end Go.Proofs.Ytgnkbopnkllgaaa
