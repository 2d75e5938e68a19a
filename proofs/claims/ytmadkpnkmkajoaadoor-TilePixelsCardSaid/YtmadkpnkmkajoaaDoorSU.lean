/-
  Tiles that may be: the reference's Right.
-/
import Derived.Test.YtmadkpnkmkajoaaDoorST
namespace Go.Proofs.YtmadkpnkmkajoaaDoor
open Go.RowKit

section
variable (w : World) (W H K R : Int) (A : Option Addr) (n c : Nat) (L : List (Option Addr × Nat × Nat)) (T : List (List (List Int)))
set_option maxHeartbeats 3200000 in
theorem refRightT_any (hT : Ti w A n L T) : Calls Tryd.prog 71 #[scanV W H K R, tileV A n c] w (RightY w W H K R T) := by
  obtain ⟨w1, hw1⟩ : ∃ w1, (w.alloc (.cells #[.int .i64 W, .int .i64 H, .int .i64 K, .int .i64 R] 26)).alloc (.cells #[.slice A n c] 35) = w1 := ⟨_, rfl⟩
  have b1 : Box w1 w.heap.size 26 #[.int .i64 W, .int .i64 H, .int .i64 K, .int .i64 R] := by rw [← hw1]; exact (Box.made _ _ _).alloc _
  have b2 : Box w1 (w.heap.size + 1) 35 #[.slice A n c] := by rw [← hw1]; have := Box.made (w.alloc (.cells #[.int .i64 W, .int .i64 H, .int .i64 K, .int .i64 R] 26)) 35 #[.slice A n c]; simpa using this
  have k1 : Below w.heap.size w w1 := by rw [← hw1]; exact on_trans (on_alloc _ _) (on_alloc _ _)
  have q0 : w1.cell? ⟨w.heap.size, 0, none⟩ = some (.int .i64 W) := b1.cell 0
  have q1 : w1.cell? ⟨w.heap.size, 1, none⟩ = some (.int .i64 H) := b1.cell 1
  have q2 : w1.cell? ⟨w.heap.size, 2, none⟩ = some (.int .i64 K) := b1.cell 2
  have q3 : w1.cell? ⟨w.heap.size, 3, none⟩ = some (.int .i64 R) := b1.cell 3
  have HB := Lib.hid (And.intro b1 (And.intro b2 (And.intro k1 (hT.on k1))))
  clear b1 b2 k1 hT
  unfold scanV tileV
  have HS := Lib.hid (refShape_any w1 W H K R)
  unfold scanV ShapeY at HS
  go_enter Tryd.func71, Tryd.ntmps71
  go_wp2_with fail
  clear hw1
  refine HS.out.mono ?_
  rintro e w2 ⟨hs1, hs2, k2⟩
  clear q0 q1 q2 q3
  have r0 : w2.cell? ⟨w.heap.size + 1, 0, none⟩ = some (.slice A n c) := (HB.out.2.1.on k2).cell 0
  have H2 := Lib.hid (And.intro (HB.out.2.1.on k2) (And.intro (on_trans HB.out.2.2.1 k2) (HB.out.2.2.2.on k2)))
  by_cases hr : RightS W H K R
  · obtain ⟨As, cs, rfl, hcs, hps⟩ := hs1 hr
    have HR := Lib.hid (And.intro hr hps)
    have hn1 := nP_le K
    obtain ⟨m, hm⟩ : ∃ m, m = nP K := ⟨_, rfl⟩
    rw [← hm] at hn1 hcs ⊢
    have HM := Lib.hid hm
    have e0 : ((m : Int) == 0) = false := by simp; omega
    clear hr hps hs1 hs2 hm k2
    by_cases hnm : n = m
    · subst hnm
      have e1 : ((n : Int) != (n : Int)) = false := by simp
      have hTi := Lib.hid H2.out.2.2
      go_wp2_with fail
      go_loopw [6] (fun i wr => ∃ k : Nat, k ≤ n ∧ i = .int .i64 (k : Int) ∧ (∀ p, p < k → PartOk W H K T p) ∧ Below w2.heap.size w2 wr) (fun i _ => n - (intOf i).toNat)
      case atStart => exact ⟨0, Nat.zero_le _, rfl, fun p hp => absurd hp (by omega), Below.refl _ _⟩
      case round =>
        obtain ⟨wo, rfl⟩ : ∃ wo, wo = wr := ⟨_, rfl⟩
        obtain ⟨k, hk, rfl, hok, hbl⟩ := hrel
        have HK := Lib.hid (And.intro hok hbl)
        clear hok
        by_cases hlt : k < n
        · obtain ⟨t, ht⟩ : ∃ t, T[k]? = some t := ⟨_, List.getElem?_eq_getElem (by rw [hTi.out.len]; exact hlt)⟩
          obtain ⟨x, hx⟩ : ∃ x, L[k]? = some x := ⟨_, List.getElem?_eq_getElem (by rw [hTi.out.pt.len]; exact hlt)⟩
          obtain ⟨x1, x2, x3⟩ := x
          have htd : T.getD k [] = t := by rw [List.getD_eq_getElem?_getD, ht]; rfl
          obtain ⟨bb, off, rfl, hbb, hcell⟩ := hTi.out.pt.at_ (by omega)
          have hTr := hTi.out.on hbl
          obtain ⟨hbs, hx23, hxm, hxn⟩ := hTr.row k _ t hx ht
          dsimp only at hbs hx23 hxm hxn
          have s1 : wo.cell? ⟨bb, off + k, none⟩ = some (.slice x1 x2 x3) := (hbl.cell hbb).trans (hcell k _ hx)
          have r1 : wo.cell? ⟨w.heap.size + 1, 0, none⟩ = some (.slice (some ⟨bb, off, none⟩) n c) := (H2.out.1.on hbl).cell 0
          obtain ⟨bs, os, rfl, hlo, hsb, hscell⟩ := (HR.out.2.on hbl).at_ (by have := HM.out; omega)
          obtain ⟨s2, s3⟩ := hscell k _ (shpL_at W H K (by rw [← HM.out]; exact hlt))
          obtain ⟨a, ha⟩ : ∃ a, a = uW W K * uA K k := ⟨_, rfl⟩
          obtain ⟨d, hd⟩ : ∃ d, d = uH H K * uD K k := ⟨_, rfl⟩
          dsimp only at s2 s3
          rw [← ha] at s2
          rw [← hd] at s3
          have ha2 : a ≤ 32 := by rw [ha]; exact Nat.mul_le_mul (uW_le HR.out.1).2 (uA_le K k).2
          have hd2 : d ≤ 32 := by rw [hd]; exact Nat.mul_le_mul (uH_le HR.out.1).2 (uD_le K k).2
          have H3 := Lib.hid (And.intro hbl (And.intro hTr (And.intro hbs (And.intro htd (And.intro (And.intro ha hd) (And.intro hx ht))))))
          have hmul : (a : Int) * (d : Int) = ((a * d : Nat) : Int) := by push_cast; rfl
          have hmul2 : a * d ≤ 1024 := Nat.mul_le_mul ha2 hd2
          obtain ⟨z, hz⟩ : ∃ z, z = a * d := ⟨_, rfl⟩
          rw [← hz] at hmul hmul2
          have HZ := Lib.hid hz
          clear hTr hbs hcell hscell ht hx htd ha hd hz hbl hbb hsb
          by_cases hxz : x2 = z
          · subst hxz
            have e2 : ((x2 : Int) != (x2 : Int)) = false := by simp
            go_wp2_with fail
            go_quiet (fail)
            obtain ⟨w4, hw4⟩ : ∃ w4, w4 = wo.drewN nq := ⟨_, rfl⟩
            have k4 : Below wo.heap.size wo w4 := by rw [hw4]; exact below_drewN_refl _ _
            rw [← hw4]
            have h24 : Below w2.heap.size w2 w4 := H3.out.1.trans (k4.mono H3.out.1.size)
            have H4 := Lib.hid (And.intro h24 (And.intro (H3.out.2.2.1.on k4) (And.intro (fun w' (h : Below w4.heap.size w4 w') => ((((H2.out.1.on h24).on h).cell 0 : w'.cell? ⟨w.heap.size + 1, 0, none⟩ = some (.slice (some ⟨bb, off, none⟩) n c)))) (fun w' (h : Below w4.heap.size w4 w') => ((h.cell (Nat.lt_of_lt_of_le (World.block_lt_of_cell? _ _ s1) k4.size)).trans ((k4.cell (World.block_lt_of_cell? _ _ s1)).trans s1) : w'.cell? ⟨bb, off + k, none⟩ = some (.slice x1 x2 x3))))))
            clear hw4 k4 h24 s1 r1 s2 s3 hmul
            go_wp2_with fail
            go_loopw [7] (fun i w5 => ∃ j : Nat, j ≤ x2 ∧ i = .int .i64 (j : Int) ∧ (∀ y ∈ t.take j, RightB y) ∧ Below w4.heap.size w4 w5) (fun i _ => x2 - (intOf i).toNat)
            case atStart => exact ⟨0, Nat.zero_le _, rfl, (fun y hy => by simp at hy), Below.refl _ _⟩
            case round =>
              obtain ⟨j, hj, rfl, hjr, hbl5⟩ := hrel
              have H5 := Lib.hid (And.intro hjr hbl5)
              have r1 := H4.out.2.2.1 wr hbl5
              have s1 := H4.out.2.2.2 wr hbl5
              clear hjr
              by_cases hjl : j < x2
              · have hbs5 := H4.out.2.1.on hbl5
                obtain ⟨y, hy⟩ : ∃ y, t[j]? = some y := ⟨_, List.getElem?_eq_getElem (by rw [hbs5.len]; exact hjl)⟩
                obtain ⟨b6, o6, rfl, _, _⟩ := hbs5.at_ (by omega)
                have hyl := hbs5.wide y (List.mem_of_getElem? hy)
                have HY := Lib.hid (And.intro (hbs5.load hy) (And.intro hyl hy))
                clear hbs5 hyl hy hbl5
                go_wp2_with (first
                  | (with_reducible refine wpList_load_to (op := ⟨some 62, _, _, _, _, _⟩) rfl 29 (.tmp 61) rfl (.pointer (some ⟨b6, o6 + j * 64, none⟩)) rfl (blkV y) HY.out.1 ?_)
                  | fail)
                refine (refRight_any wr y HY.out.2.1).mono ?_
                rintro e w7 ⟨rfl, k7⟩
                have H7' := Lib.hid (H5.out.2.trans (k7.mono H5.out.2.size))
                clear k7
                by_cases hry : RightB y
                · have hdy : decide (RightB y) = true := by simpa using hry
                  rw [hdy]
                  have HRY := Lib.hid hry
                  clear hdy hry
                  go_wp2_with fail
                  go_roundw
                  case rel =>
                    refine ⟨j + 1, by omega, by go_num, fun z hz => ?_, H7'.out⟩
                    rw [List.take_add_one, HY.out.2.2, List.mem_append] at hz
                    rcases hz with hz | hz
                    · exact H5.out.1 z hz
                    · simp at hz; subst hz; exact HRY.out
                  case measure => simp [intOf]; omega
                · have hdy : decide (RightB y) = false := by simpa using hry
                  rw [hdy]
                  have HRY := Lib.hid hry
                  clear hdy hry
                  go_wp2_with fail
                  go_ret
                  refine ⟨false, rfl, ⟨(fun h => by cases h), fun h => ?_⟩, ?_⟩
                  · have h1 := (h.2.2 k (by rw [← HM.out]; exact hlt)).2
                    rw [H3.out.2.2.2.1] at h1
                    exact absurd (h1 y (List.mem_of_getElem? HY.out.2.2)) HRY.out
                  · exact H2.out.2.1.trans ((H4.out.1.trans (H7'.out.mono H4.out.1.size)).mono H2.out.2.1.size)
              · obtain rfl : j = x2 := by omega
                have hpk : PartOk W H K T k := by
                  refine ⟨?_, fun y hy => ?_⟩
                  · rw [H3.out.2.2.2.1, H3.out.2.2.1.len, HZ.out, H3.out.2.2.2.2.1.1, H3.out.2.2.2.2.1.2]
                  · rw [H3.out.2.2.2.1] at hy
                    refine H5.out.1 y ?_
                    rw [List.take_of_length_le (by rw [H4.out.2.1.len]; exact Nat.le_refl _)]
                    exact hy
                have HPK := Lib.hid (And.intro hpk (H4.out.1.trans (H5.out.2.mono H4.out.1.size)))
                clear hpk hbl5
                go_wp2_with fail
                go_roundw
                case rel =>
                  refine ⟨k + 1, by omega, by go_num, fun p hp => ?_, HPK.out.2⟩
                  rcases Nat.lt_or_ge p k with h1 | h1
                  · exact HK.out.1 p h1
                  · obtain rfl : p = k := by omega
                    exact HPK.out.1
                case measure => simp [intOf]; omega
          · have e2 : ((x2 : Int) != (z : Int)) = true := by simp; omega
            go_wp2_with fail
            go_quiet (fail)
            go_wp2_with fail
            go_ret
            refine ⟨false, rfl, ⟨(fun h => by cases h), fun h => ?_⟩, ?_⟩
            · have h1 := (h.2.2 k (by rw [← HM.out]; exact hlt)).1
              rw [H3.out.2.2.2.1, H3.out.2.2.1.len, ← H3.out.2.2.2.2.1.1, ← H3.out.2.2.2.2.1.2, ← HZ.out] at h1
              exact absurd h1 hxz
            · exact H2.out.2.1.trans ((H3.out.1.trans ((below_drewN_refl _ _).mono H3.out.1.size)).mono H2.out.2.1.size)
        · obtain rfl : k = n := by omega
          clear hbl
          go_wp2_with fail
          go_ret
          exact ⟨true, rfl, ⟨fun _ => ⟨HR.out.1, by rw [H2.out.2.2.len]; exact HM.out, fun p hp => HK.out.1 p (by rw [HM.out]; exact hp)⟩, fun _ => rfl⟩, H2.out.2.1.trans (HK.out.2.mono H2.out.2.1.size)⟩
    · have e1 : ((n : Int) != (m : Int)) = true := by simp; omega
      go_wp2_with fail
      go_ret
      refine ⟨false, rfl, ⟨(fun h => by cases h), fun h => ?_⟩, H2.out.2.1⟩
      have h1 := h.2.1
      rw [H2.out.2.2.len, ← HM.out] at h1
      exact absurd h1 hnm
  · obtain rfl := hs2 hr
    have HR := Lib.hid hr
    clear hr hs1 hs2 k2
    go_wp2_with fail
    go_ret
    exact ⟨false, rfl, ⟨(fun h => by cases h), fun h => absurd h.1 HR.out⟩, H2.out.2.1⟩
end
end Go.Proofs.YtmadkpnkmkajoaaDoor
