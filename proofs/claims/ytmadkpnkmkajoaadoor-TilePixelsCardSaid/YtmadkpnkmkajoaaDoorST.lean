/-
  Tiles in memory; tiles that may be.
-/
import Derived.Test.YtmadkpnkmkajoaaDoorSC
import Derived.Test.YtmadkpnkmkajoaaDoorMA
namespace Go.Proofs.YtmadkpnkmkajoaaDoor
open Go.RowKit

/-- a slice of slices of blocks: where each lies -/
structure Pt (w : World) (A : Option Addr) (n : Nat) (L : List (Option Addr × Nat × Nat)) : Prop where
  len : L.length = n
  at_ : 0 < n → ∃ b off, A = some ⟨b, off, none⟩ ∧ b < w.heap.size ∧ ∀ (p : Nat) (x : Option Addr × Nat × Nat), L[p]? = some x → w.cell? ⟨b, off + p, none⟩ = some (.slice x.1 x.2.1 x.2.2)
/-- a tile: its parts, each of its blocks -/
structure Ti (w : World) (A : Option Addr) (n : Nat) (L : List (Option Addr × Nat × Nat)) (T : List (List (List Int))) : Prop where
  pt : Pt w A n L
  len : T.length = n
  row : ∀ (p : Nat) (x : Option Addr × Nat × Nat) (t : List (List Int)), L[p]? = some x → T[p]? = some t → Bs w x.1 x.2.1 t ∧ x.2.1 ≤ x.2.2 ∧ x.2.2 ≤ maxLen ∧ (x.1 = none → x.2.2 = 0)
theorem Pt.on {w w' : World} {A : Option Addr} {n : Nat} {L : List (Option Addr × Nat × Nat)} (h : Pt w A n L) (k : Below w.heap.size w w') : Pt w' A n L :=
  ⟨h.len, fun h0 => by
    obtain ⟨b, off, e, h1, h2⟩ := h.at_ h0
    exact ⟨b, off, e, Nat.lt_of_lt_of_le h1 k.size, fun p x hx => (k.cell h1).trans (h2 p x hx)⟩⟩
theorem Ti.on {w w' : World} {A : Option Addr} {n : Nat} {L : List (Option Addr × Nat × Nat)} {T : List (List (List Int))} (h : Ti w A n L T) (k : Below w.heap.size w w') : Ti w' A n L T :=
  ⟨h.pt.on k, h.len, fun p x t hx ht => ⟨(h.row p x t hx ht).1.on k, (h.row p x t hx ht).2⟩⟩
def tileV (A : Option Addr) (n c : Nat) : Value := .agg #[.slice A n c]
/-- a part of a tile as it may be -/
def PartOk (W H K : Int) (T : List (List (List Int))) (p : Nat) : Prop := (T.getD p []).length = (uW W K * uA K p) * (uH H K * uD K p) ∧ ∀ b ∈ T.getD p [], RightB b
def RightT (W H K R : Int) (T : List (List (List Int))) : Prop := RightS W H K R ∧ T.length = nP K ∧ ∀ p, p < nP K → PartOk W H K T p
def RightY (w : World) (W H K R : Int) (T : List (List (List Int))) (e : Ending) (w' : World) : Prop := ∃ r, e = .returned (.bool r) ∧ (r = true ↔ RightT W H K R T) ∧ Below w.heap.size w w'
theorem shpL_at (W H K : Int) {p : Nat} (hp : p < nP K) : (shpL W H K)[p]? = some (uW W K * uA K p, uH H K * uD K p) := by
  rw [shpL, List.getElem?_map, List.getElem?_range hp]
  rfl

section
variable (w : World) (W H K R : Int) (A : Option Addr) (n c : Nat) (L : List (Option Addr × Nat × Nat)) (T : List (List (List Int)))
set_option maxHeartbeats 3200000 in
theorem rightT_any (hT : Ti w A n L T) : Calls Tryd.prog 59 #[scanV W H K R, tileV A n c] w (RightY w W H K R T) := by
  obtain ⟨w1, hw1⟩ : ∃ w1, (w.alloc (.cells #[.int .i64 W, .int .i64 H, .int .i64 K, .int .i64 R] 26)).alloc (.cells #[.slice A n c] 35) = w1 := ⟨_, rfl⟩
  have b1 : Box w1 w.heap.size 26 #[.int .i64 W, .int .i64 H, .int .i64 K, .int .i64 R] := by rw [← hw1]; exact (Box.made _ _ _).alloc _
  have b2 : Box w1 (w.heap.size + 1) 35 #[.slice A n c] := by rw [← hw1]; have := Box.made (w.alloc (.cells #[.int .i64 W, .int .i64 H, .int .i64 K, .int .i64 R] 26)) 35 #[.slice A n c]; simpa using this
  have k1 : Below w.heap.size w w1 := by rw [← hw1]; exact on_trans (on_alloc _ _) (on_alloc _ _)
  have q0 : w1.cell? ⟨w.heap.size, 0, none⟩ = some (.int .i64 W) := b1.cell 0
  have q1 : w1.cell? ⟨w.heap.size, 1, none⟩ = some (.int .i64 H) := b1.cell 1
  have q2 : w1.cell? ⟨w.heap.size, 2, none⟩ = some (.int .i64 K) := b1.cell 2
  have q3 : w1.cell? ⟨w.heap.size, 3, none⟩ = some (.int .i64 R) := b1.cell 3
  have HB := Lib.hid (And.intro b1 (And.intro b2 (And.intro k1 (hT.on k1))))
  clear b1 b2 k1 hT
  unfold scanV tileV
  have HS := Lib.hid (shape_any w1 W H K R)
  unfold scanV ShapeY at HS
  go_enter Tryd.func59, Tryd.ntmps59
  go_wp2_with fail
  clear hw1
  refine HS.out.mono ?_
  rintro e w2 ⟨hs1, hs2, k2⟩
  clear q0 q1 q2 q3
  have r0 : w2.cell? ⟨w.heap.size + 1, 0, none⟩ = some (.slice A n c) := (HB.out.2.1.on k2).cell 0
  have H2 := Lib.hid (And.intro (HB.out.2.1.on k2) (And.intro (on_trans HB.out.2.2.1 k2) (HB.out.2.2.2.on k2)))
  by_cases hr : RightS W H K R
  · obtain ⟨As, cs, rfl, hcs, hps⟩ := hs1 hr
    have HR := Lib.hid (And.intro hr hps)
    have hn1 := nP_le K
    obtain ⟨m, hm⟩ : ∃ m, m = nP K := ⟨_, rfl⟩
    rw [← hm] at hn1 hcs ⊢
    have HM := Lib.hid hm
    have e0 : ((m : Int) == 0) = false := by simp; omega
    clear hr hps hs1 hs2 hm k2
    by_cases hnm : n = m
    · subst hnm
      have e1 : ((n : Int) != (n : Int)) = false := by simp
      have hTi := Lib.hid H2.out.2.2
      go_wp2_with fail
      go_loopw [6, 7, 25] (fun _ _ i wr => ∃ k : Nat, k ≤ n ∧ i = .int .i64 (k : Int) ∧ (∀ p, p < k → PartOk W H K T p) ∧ Below w2.heap.size w2 wr) (fun _ _ i _ => n - (intOf i).toNat)
      case atStart => exact ⟨0, Nat.zero_le _, rfl, fun p hp => absurd hp (by omega), Below.refl _ _⟩
      case round =>
        obtain ⟨wo, rfl⟩ : ∃ wo, wo = wr := ⟨_, rfl⟩
        obtain ⟨k, hk, rfl, hok, hbl⟩ := hrel
        have HK := Lib.hid (And.intro hok hbl)
        clear hok
        by_cases hlt : k < n
        · obtain ⟨t, ht⟩ : ∃ t, T[k]? = some t := ⟨_, List.getElem?_eq_getElem (by rw [hTi.out.len]; exact hlt)⟩
          obtain ⟨x, hx⟩ : ∃ x, L[k]? = some x := ⟨_, List.getElem?_eq_getElem (by rw [hTi.out.pt.len]; exact hlt)⟩
          obtain ⟨x1, x2, x3⟩ := x
          have htd : T.getD k [] = t := by rw [List.getD_eq_getElem?_getD, ht]; rfl
          obtain ⟨bb, off, rfl, hbb, hcell⟩ := hTi.out.pt.at_ (by omega)
          have hTr := hTi.out.on hbl
          obtain ⟨hbs, hx23, hxm, hxn⟩ := hTr.row k _ t hx ht
          dsimp only at hbs hx23 hxm hxn
          have s1 : wo.cell? ⟨bb, off + k, none⟩ = some (.slice x1 x2 x3) := (hbl.cell hbb).trans (hcell k _ hx)
          have r1 : wo.cell? ⟨w.heap.size + 1, 0, none⟩ = some (.slice (some ⟨bb, off, none⟩) n c) := (H2.out.1.on hbl).cell 0
          obtain ⟨bs, os, rfl, hlo, hsb, hscell⟩ := (HR.out.2.on hbl).at_ (by have := HM.out; omega)
          obtain ⟨s2, s3⟩ := hscell k _ (shpL_at W H K (by rw [← HM.out]; exact hlt))
          obtain ⟨a, ha⟩ : ∃ a, a = uW W K * uA K k := ⟨_, rfl⟩
          obtain ⟨d, hd⟩ : ∃ d, d = uH H K * uD K k := ⟨_, rfl⟩
          dsimp only at s2 s3
          rw [← ha] at s2
          rw [← hd] at s3
          have ha2 : a ≤ 32 := by rw [ha]; exact Nat.mul_le_mul (uW_le HR.out.1).2 (uA_le K k).2
          have hd2 : d ≤ 32 := by rw [hd]; exact Nat.mul_le_mul (uH_le HR.out.1).2 (uD_le K k).2
          obtain ⟨w3, hw3⟩ : ∃ w3, wo.alloc (.cells #[.int .i64 (a : Int), .int .i64 (d : Int)] 60) = w3 := ⟨_, rfl⟩
          have k3 : Below wo.heap.size wo w3 := by rw [← hw3]; exact on_alloc _ _
          have b3 : Box w3 wo.heap.size 60 #[.int .i64 (a : Int), .int .i64 (d : Int)] := by rw [← hw3]; exact Box.made _ _ _
          have d0 : w3.cell? ⟨wo.heap.size, 0, none⟩ = some (.int .i64 (a : Int)) := b3.cell 0
          have d1 : w3.cell? ⟨wo.heap.size, 1, none⟩ = some (.int .i64 (d : Int)) := b3.cell 1
          have s1' : w3.cell? ⟨bb, off + k, none⟩ = some (.slice x1 x2 x3) := (k3.cell (World.block_lt_of_cell? _ _ s1)).trans s1
          have r1' : w3.cell? ⟨w.heap.size + 1, 0, none⟩ = some (.slice (some ⟨bb, off, none⟩) n c) := (k3.cell (World.block_lt_of_cell? _ _ r1)).trans r1
          have H3 := Lib.hid (And.intro (hbl.trans (k3.mono hbl.size)) (And.intro (hTr.on k3) (And.intro (hbs.on k3) (And.intro htd (And.intro (And.intro ha hd) (And.intro hx ht))))))
          have hmul : (a : Int) * (d : Int) = ((a * d : Nat) : Int) := by push_cast; rfl
          have hmul2 : a * d ≤ 1024 := Nat.mul_le_mul ha2 hd2
          obtain ⟨z, hz⟩ : ∃ z, z = a * d := ⟨_, rfl⟩
          rw [← hz] at hmul hmul2
          have HZ := Lib.hid hz
          clear k3 b3 hTr hbs hcell hscell ht hx htd ha hd hz hbl hbb hsb
          go_wp2_with fail
          clear hw3 s1 r1 s2 s3
          have hnz : (x2 : Int) ≠ (z : Int) ∨ (x2 : Int) = (z : Int) := by omega
          by_cases hxz : x2 = z
          · subst hxz
            have e2 : ((x2 : Int) != (x2 : Int)) = false := by simp
            go_quiet (fail)
            obtain ⟨w4, hw4⟩ : ∃ w4, w4 = w3.drewN nq := ⟨_, rfl⟩
            have k4 : Below w3.heap.size w3 w4 := by rw [hw4]; exact below_drewN_refl _ _
            rw [← hw4]
            have h24 : Below w2.heap.size w2 w4 := H3.out.1.trans (k4.mono H3.out.1.size)
            have r1 : w4.cell? ⟨w.heap.size + 1, 0, none⟩ = some (.slice (some ⟨bb, off, none⟩) n c) := (H2.out.1.on h24).cell 0
            have s1 : w4.cell? ⟨bb, off + k, none⟩ = some (.slice x1 x2 x3) := (k4.cell (World.block_lt_of_cell? _ _ s1')).trans s1'
            have H4 := Lib.hid (And.intro h24 (H3.out.2.2.1.on k4))
            clear hw4 k4 h24 s1' r1' d0 d1 hmul hnz
            obtain ⟨Z, hZ⟩ : ∃ Z, Z = (cellsI zeros64).toArray := ⟨_, rfl⟩
            have hz25 : ∀ w, (zeroValue 29).run Tryd.prog w = .ok (.agg Z) w := fun w => by rw [hZ]; exact zero23 w
            have hZs : Z.size = 64 := by rw [hZ]; rfl
            have HZs := Lib.hid hZs
            clear hZ hZs
            go_wp2_with fail
            clear r1 s1
            go_loopw [48] (fun i w5 => ∃ j : Nat, j ≤ x2 ∧ i = .int .i64 (j : Int) ∧ (∀ y ∈ t.take j, RightB y) ∧ Below w4.heap.size w4 w5) (fun i _ => x2 - (intOf i).toNat)
            case atStart => exact ⟨0, Nat.zero_le _, rfl, (fun y hy => by simp at hy), Below.refl _ _⟩
            case round =>
              obtain ⟨j, hj, rfl, hjr, hbl5⟩ := hrel
              have H5 := Lib.hid (And.intro hjr hbl5)
              clear hjr
              by_cases hjl : j < x2
              · have hbs5 := H4.out.2.on hbl5
                obtain ⟨y, hy⟩ : ∃ y, t[j]? = some y := ⟨_, List.getElem?_eq_getElem (by rw [hbs5.len]; exact hjl)⟩
                obtain ⟨b6, o6, rfl, _, _⟩ := hbs5.at_ (by omega)
                have hyl := hbs5.wide y (List.mem_of_getElem? hy)
                have HY := Lib.hid (And.intro (hbs5.load hy) (And.intro hyl hy))
                clear hbs5 hyl hy hbl5
                go_wp2_with (first
                  | (with_reducible refine wpList_load_to (op := ⟨some 51, _, _, _, _, _⟩) rfl 29 (.tmp 50) rfl (.pointer (some ⟨b6, o6 + j * 64, none⟩)) rfl (blkV y) HY.out.1 ?_)
                  | ((with_reducible refine wpList_store_blk (o := ⟨none, _, _, _, _, _⟩) arr23_size rfl (.tmp 9) (.tmp 51) rfl rfl wr.heap.size y rfl rfl Z ?hg HZs.out HY.out.2.1 ?_)
                     case hg => exact Box.made _ _ _
                     intro w6 b6 k6
                     have HBK := Lib.hid (And.intro (Blk.mk b6 HY.out.2.1) ((on_alloc wr (.cells Z 29)).trans (k6.below (by simp) (fun i hi e => by omega))))
                     clear b6 k6)
                  | (with_reducible refine wpList_load_to (op := ⟨some 52, _, _, _, _, _⟩) rfl 29 (.tmp 9) rfl (.pointer (some ⟨wr.heap.size, 0, none⟩)) rfl (blkV y) HBK.out.1.load ?_)
                  | fail)
                refine (right64_any w6 y HY.out.2.1).mono ?_
                rintro e w7 ⟨rfl, k7⟩
                have H7 := Lib.hid (on_trans HBK.out.2 k7)
                clear k7
                have H7' := Lib.hid (H5.out.2.trans (H7.out.mono H5.out.2.size))
                by_cases hry : RightB y
                · have hdy : decide (RightB y) = true := by simpa using hry
                  rw [hdy]
                  have HRY := Lib.hid hry
                  clear hdy hry
                  go_wp2_with fail
                  go_roundw
                  case rel =>
                    refine ⟨j + 1, by omega, by go_num, fun z hz => ?_, H7'.out⟩
                    rw [List.take_add_one, HY.out.2.2, List.mem_append] at hz
                    rcases hz with hz | hz
                    · exact H5.out.1 z hz
                    · simp at hz; subst hz; exact HRY.out
                  case measure => simp [intOf]; omega
                · have hdy : decide (RightB y) = false := by simpa using hry
                  rw [hdy]
                  have HRY := Lib.hid hry
                  clear hdy hry
                  go_wp2_with fail
                  go_ret
                  refine ⟨false, rfl, ⟨(fun h => by cases h), fun h => ?_⟩, ?_⟩
                  · have h1 := (h.2.2 k (by rw [← HM.out]; exact hlt)).2
                    rw [H3.out.2.2.2.1] at h1
                    exact absurd (h1 y (List.mem_of_getElem? HY.out.2.2)) HRY.out
                  · exact H2.out.2.1.trans ((H4.out.1.trans (H7'.out.mono H4.out.1.size)).mono H2.out.2.1.size)
              · obtain rfl : j = x2 := by omega
                have hpk : PartOk W H K T k := by
                  refine ⟨?_, fun y hy => ?_⟩
                  · rw [H3.out.2.2.2.1, H3.out.2.2.1.len, HZ.out, H3.out.2.2.2.2.1.1, H3.out.2.2.2.2.1.2]
                  · rw [H3.out.2.2.2.1] at hy
                    refine H5.out.1 y ?_
                    rw [List.take_of_length_le (by rw [H4.out.2.len]; exact Nat.le_refl _)]
                    exact hy
                have HPK := Lib.hid (And.intro hpk (H4.out.1.trans (H5.out.2.mono H4.out.1.size)))
                clear hpk hbl5
                go_wp2_with fail
                go_roundw
                case rel =>
                  refine ⟨k + 1, by omega, by go_num, fun p hp => ?_, HPK.out.2⟩
                  rcases Nat.lt_or_ge p k with h1 | h1
                  · exact HK.out.1 p h1
                  · obtain rfl : p = k := by omega
                    exact HPK.out.1
                case measure => simp [intOf]; omega
          · have e2 : ((x2 : Int) != (z : Int)) = true := by simp; omega
            go_quiet (fail)
            go_wp2_with fail
            go_ret
            refine ⟨false, rfl, ⟨(fun h => by cases h), fun h => ?_⟩, ?_⟩
            · have h1 := (h.2.2 k (by rw [← HM.out]; exact hlt)).1
              rw [H3.out.2.2.2.1, H3.out.2.2.1.len, ← H3.out.2.2.2.2.1.1, ← H3.out.2.2.2.2.1.2, ← HZ.out] at h1
              exact absurd h1 hxz
            · exact H2.out.2.1.trans ((H3.out.1.trans ((below_drewN_refl _ _).mono H3.out.1.size)).mono H2.out.2.1.size)
        · obtain rfl : k = n := by omega
          clear hbl
          go_wp2_with fail
          go_ret
          exact ⟨true, rfl, ⟨fun _ => ⟨HR.out.1, by rw [H2.out.2.2.len]; exact HM.out, fun p hp => HK.out.1 p (by rw [HM.out]; exact hp)⟩, fun _ => rfl⟩, H2.out.2.1.trans (HK.out.2.mono H2.out.2.1.size)⟩
    · have e1 : ((n : Int) != (m : Int)) = true := by simp; omega
      go_wp2_with fail
      go_ret
      refine ⟨false, rfl, ⟨(fun h => by cases h), fun h => ?_⟩, H2.out.2.1⟩
      have h1 := h.2.1
      rw [H2.out.2.2.len, ← HM.out] at h1
      exact absurd h1 hnm
  · obtain rfl := hs2 hr
    have HR := Lib.hid hr
    clear hr hs1 hs2 k2
    go_wp2_with fail
    go_ret
    exact ⟨false, rfl, ⟨(fun h => by cases h), fun h => absurd h.1 HR.out⟩, H2.out.2.1⟩
end
end Go.Proofs.YtmadkpnkmkajoaaDoor
