/-
  The contract of the reference's Codes. The contracts of Right, the program's and the reference's. The contracts of Order, the program's and the reference's.
-/
import Derived.Test.YtgipngedmblnmaaDoorEnts
namespace Go.Proofs.YtgipngedmblnmaaDoor
open Go.RowKit

/-- what the reference's Codes tells -/
def RefCodes (w : World) (B V : List Int) (e : Ending) (w' : World) : Prop := Below w.heap.size w w' ∧
  ((¬ Valid B V ∧ e = .returned (.tuple #[.slice none 0 0, .bool false])) ∨ (Valid B V ∧ ∃ A n c, e = .returned (.tuple #[.slice A n c, .bool true]) ∧ Te w' A n (codes B V) ∧ n ≤ 256 ∧ ∀ b off, A = some ⟨b, off, none⟩ → w.heap.size ≤ b))

theorem Boxed.bit {w w1 : World} {g : Nat} {B V : List Int} {A : Option Addr} {n c : Nat} (h : Boxed w w1 g B V A n c) {i : Nat} (hi : i < 16) : w1.cell? ⟨g, i, none⟩ = some (.int .i64 (B.getD i 0)) := (h.box.cell i).trans (specC_at h.len hi)
/-- the counts so far may be -/
def Small (B : List Int) (k : Nat) : Prop := ∀ i, i < k → 0 ≤ B.getD i 0 ∧ B.getD i 0 ≤ 256
theorem small_more {B : List Int} {k : Nat} (h : Small B k) (h0 : 0 ≤ B.getD k 0) (h1 : B.getD k 0 ≤ 256) : Small B (k + 1) := fun i hi => by
  rcases Nat.lt_or_ge i k with h' | h'
  · exact h i h'
  · obtain rfl : i = k := by omega
    exact ⟨h0, h1⟩
theorem sm_small {B : List Int} : ∀ {k : Nat}, Small B k → sm (cnt B) k ≤ 256 * k
  | 0, _ => Nat.le_refl _
  | k + 1, h => by
    have h1 := sm_small (k := k) (fun i hi => h i (by omega))
    have h2 := h k (by omega)
    rw [sm]
    unfold cnt at *
    omega
theorem Valid.small {B V : List Int} (h : Valid B V) : Small B 16 := fun i hi => by
  refine ⟨h.nn i hi, ?_⟩
  have h1 := sm_mono (c := cnt B) (show i + 1 ≤ 16 by omega)
  rw [sm, h.sum] at h1
  have := h.few
  unfold cnt at h1
  omega

/-- how the list of codes grows: v is the slice of the codes cs -/
structure Gen (w0 wr : World) (V : List Int) (v : Value) (cs : List (Nat × Nat)) : Prop where
  own : wr.ownsRow w0.heap.size 108 3 v cs.length (cellsE (ents V cs))
  bel : Below w0.heap.size w0 wr
theorem pow_sub2 (k : Nat) : ((2 ^ (k + 1) : Nat) : Int) - 2 = ((2 ^ (k + 1) - 2 : Nat) : Int) := by
  have : 2 ≤ 2 ^ (k + 1) := by rw [Nat.pow_succ]; have := pow_pos' k; omega
  omega

set_option maxRecDepth 20000 in
set_option maxHeartbeats 4000000 in
theorem refCodes_any (w : World) (B V : List Int) (A : Option Addr) (n c : Nat) (hB : B.length = 16) (h : Ia w A n c V) : Calls Tryd.prog 48 #[specV B (.slice A n c)] w (RefCodes w B V) := by
  obtain ⟨C, hC⟩ : ∃ C, C = specC B (.slice A n c) := ⟨_, rfl⟩
  have eV : specV B (.slice A n c) = .agg C := by rw [hC]; rfl
  rw [eV]
  obtain ⟨g, hg⟩ : ∃ g, g = w.heap.size := ⟨_, rfl⟩
  obtain ⟨w1, hw1⟩ : ∃ w1, w1 = w.alloc (.cells C 28) := ⟨_, rfl⟩
  have hb := boxed_made (w1 := w1) (g := g) hB h (by rw [hw1, hC]) hg
  have HB := Lib.hid (And.intro hb (And.intro hw1 (And.intro hg h.len)))
  clear hb hw1 hg hC eV h hB
  go_enter Tryd.func48, Tryd.ntmps48
  go_wp2
  rw [← HB.out.2.1, ← HB.out.2.2.1]
  go_loopw [4, 5] (fun s i wr => ∃ k : Nat, k ≤ 16 ∧ i = .int .i64 k ∧ s = .int .i64 ((sm (cnt B) k : Nat) : Int) ∧ Small B k ∧ wr = w1) (fun _ i _ => 16 - (intOf i).toNat)
  case atStart => exact ⟨0, Nat.zero_le _, rfl, rfl, fun i hi => absurd hi (by omega), rfl⟩
  case round =>
    obtain ⟨k, hk, rfl, rfl, hS, rfl⟩ := hrel
    have HS := Lib.hid hS
    by_cases hlt : k < 16
    · have c0 := HB.out.1.bit hlt
      obtain ⟨S, hSm⟩ : ∃ S, S = sm (cnt B) k := ⟨_, rfl⟩
      have hS4 : S ≤ 4096 := by have := sm_small hS; omega
      obtain ⟨v, hv⟩ : ∃ v, v = B.getD k 0 := ⟨_, rfl⟩
      rw [← hv] at c0
      rw [← hSm]
      have HV := Lib.hid (And.intro hv hSm)
      clear hS hv hSm
      by_cases h0 : v < 0
      · go_wp2
        go_ret2
        refine ⟨HB.out.1.bel, .inl ⟨fun hval => ?_, rfl⟩⟩
        have := hval.nn k hlt
        rw [← HV.out.1] at this
        omega
      by_cases h1 : 256 < v
      · go_wp2
        go_ret2
        refine ⟨HB.out.1.bel, .inl ⟨fun hval => ?_, rfl⟩⟩
        have := (hval.small k hlt).2
        rw [← HV.out.1] at this
        omega
      go_wp2
      go_roundw
      case rel =>
        refine ⟨k + 1, by omega, by go_num, ?_, small_more HS.out (by rw [← HV.out.1]; omega) (by rw [← HV.out.1]; omega), trivial⟩
        have : sm (cnt B) (k + 1) = S + v.toNat := by rw [sm, ← HV.out.2, HV.out.1]; rfl
        rw [this]
        go_num
      case measure => simp [intOf]; omega
    · have ek : k = 16 := by omega
      subst ek
      have c16 := HB.out.1.slice
      obtain ⟨S, hSm⟩ : ∃ S, S = sm (cnt B) 16 := ⟨_, rfl⟩
      have hS4 : S ≤ 4096 := by have := sm_small hS; omega
      rw [← hSm]
      have HM := Lib.hid hSm
      have hVn := HB.out.2.2.2
      clear hS hSm
      by_cases h0 : S = n
      case neg =>
        have g1 : ¬ (S : Int) = (n : Int) := by omega
        have g2 : ((S : Int) == (n : Int)) = false := by simp; omega
        go_wp2
        go_ret2
        refine ⟨HB.out.1.bel, .inl ⟨fun hval => ?_, rfl⟩⟩
        have := hval.sum
        rw [← HM.out] at this
        omega
      subst h0
      by_cases h1 : S < 1
      · go_wp2
        go_ret2
        refine ⟨HB.out.1.bel, .inl ⟨fun hval => ?_, rfl⟩⟩
        have := hval.pos
        omega
      by_cases h2 : 256 < S
      · go_wp2
        go_ret2
        refine ⟨HB.out.1.bel, .inl ⟨fun hval => ?_, rfl⟩⟩
        have := hval.few
        omega
      obtain ⟨b, off, hA, _, _⟩ := HB.out.1.vals.at_ (by omega)
      subst hA
      have hcap := HB.out.1.vals.cap
      obtain ⟨w2, hw2⟩ : ∃ w2, wr = w2 := ⟨_, rfl⟩
      rw [hw2] at HB c16 ⊢
      clear hw2
      go_wp2
      clear c16
      go_loopw [6] (fun i w5 => ∃ k : Nat, k ≤ S ∧ i = .int .i64 k ∧ Diff (V.take k) ∧ Boxed w w5 g B V (some ⟨b, off, none⟩) S c) (fun i _ => S - (intOf i).toNat)
      case atStart => exact ⟨0, Nat.zero_le _, rfl, ⟨(fun v hv => by cases hv), List.Pairwise.nil⟩, HB.out.1⟩
      case round =>
        obtain ⟨k, hk, rfl, hD, hX⟩ := hrel
        have c16 := hX.slice
        have HD := Lib.hid (And.intro hD hX)
        clear hD
        by_cases hlt : k < S
        · have hmore := diff_more (V := V) (k := k) (by omega)
          have c0 := hX.vals.get hlt
          obtain ⟨v, hv⟩ : ∃ v, v = V.getD k 0 := ⟨_, rfl⟩
          rw [← hv] at c0 hmore
          have HV := Lib.hid (And.intro hmore hv)
          clear hmore hv hX
          by_cases hv0 : v < 0
          · go_wp2
            go_ret2
            refine ⟨HD.out.2.bel, .inl ⟨fun hval => ?_, rfl⟩⟩
            have := (HV.out.1.1 (diff_take hval.diff _)).2.1
            omega
          by_cases hv1 : 255 < v
          · go_wp2
            go_ret2
            refine ⟨HD.out.2.bel, .inl ⟨fun hval => ?_, rfl⟩⟩
            have := (HV.out.1.1 (diff_take hval.diff _)).2.1
            omega
          go_wp2
          clear c16 c0
          go_loopw [7] (fun j w6 => ∃ i : Nat, i ≤ k ∧ j = .int .i64 i ∧ (∀ q, q < i → V.getD q 0 ≠ v) ∧ Boxed w w6 g B V (some ⟨b, off, none⟩) S c) (fun j _ => k - (intOf j).toNat)
          case atStart => exact ⟨0, Nat.zero_le _, rfl, fun q hq => absurd hq (by omega), HD.out.2⟩
          case round =>
            obtain ⟨i, hi, rfl, hN, hX⟩ := hrel
            have c16 := hX.slice
            have HN := Lib.hid (And.intro hN hX)
            clear hN
            by_cases hil : i < k
            · have c0 := hX.vals.get hlt
              rw [← HV.out.2] at c0
              have c1 := hX.vals.get (show i < S by omega)
              obtain ⟨u, hu⟩ : ∃ u, u = V.getD i 0 := ⟨_, rfl⟩
              rw [← hu] at c1
              have HU := Lib.hid hu
              clear hu hX
              by_cases huv : u = v
              · subst huv
                go_wp2_with fail
                go_quiet (fail)
                go_wp2
                go_ret2
                refine ⟨on_trans HN.out.2.bel (below_drewN_refl _ _), .inl ⟨fun hval => ?_, rfl⟩⟩
                have h3 := (HV.out.1.1 (diff_take hval.diff _)).2.2
                refine h3 ?_
                rw [HU.out]
                refine List.mem_of_getElem? (i := i) ?_
                rw [List.getElem?_take_of_lt hil, List.getD_eq_getElem?_getD, List.getElem?_eq_getElem (by omega)]
                rfl
              · have g1 : (u == v) = false := by simpa using huv
                go_wp2_with fail
                go_quiet (fail)
                go_wp2
                go_roundw
                case rel =>
                  refine ⟨i + 1, by omega, by go_num, fun q hq => ?_, HN.out.2.on (below_drewN_refl _ _)⟩
                  rcases Nat.lt_or_ge q i with h' | h'
                  · exact HN.out.1 q h'
                  · obtain rfl : q = i := by omega
                    rw [← HU.out]
                    exact huv
                case measure => simp [intOf]; omega
            · have ei : i = k := by omega
              have HE := Lib.hid ei
              clear ei hX c16
              go_wp2
              go_roundw
              case rel =>
                refine ⟨k + 1, by omega, by go_num, HV.out.1.2 ⟨HD.out.1, by omega, fun hm => ?_⟩, HN.out.2⟩
                obtain ⟨q, hq⟩ := List.getElem?_of_mem hm
                obtain ⟨hql, hq2⟩ := List.getElem?_eq_some_iff.1 hq
                rw [List.length_take] at hql
                rw [List.getElem_take] at hq2
                refine HN.out.1 q (by have := HE.out; omega) ?_
                rw [List.getD_eq_getElem?_getD, List.getElem?_eq_getElem (by omega)]
                exact hq2
              case measure => simp [intOf]; omega
        · have ek : k = S := by omega
          have HE := Lib.hid ek
          clear ek
          have HX := Lib.hid hX
          clear hX
          obtain ⟨w3, hw3⟩ : ∃ w3, wr = w3 := ⟨_, rfl⟩
          rw [hw3] at HX c16 ⊢
          clear hw3
          have hdiff : Diff V := by
            have h := HD.out.1
            rw [HE.out, List.take_of_length_le (by omega)] at h
            exact h
          have HDF := Lib.hid hdiff
          clear hdiff
          go_wp2
          clear c16
          go_loopw [8, 9, 10] (fun o x s w5 => ∃ k z : Nat, k ≤ 16 ∧ z = k + 1 ∧ s = .int .i64 (z : Int) ∧ x = .int .i64 ((nx (cnt B) k : Nat) : Int) ∧ (∀ i, i < k → nx (cnt B) (i + 1) < 2 ^ (i + 1)) ∧ Gen w3 w5 V o (pre (cnt B) k)) (fun _ _ s _ => 17 - (intOf s).toNat)
          case atStart => exact ⟨0, 1, Nat.zero_le _, rfl, rfl, rfl, fun i hi => absurd hi (by omega), by rw [show ents V (pre (cnt B) 0) = [] by simp [ents, pre]]; exact ents_nil_own w3 _, Below.refl _ _⟩
          case round =>
            obtain ⟨k, z, hk, hz, rfl, rfl, hF, hG⟩ := hrel
            have HG := Lib.hid (And.intro hF hG)
            by_cases hlt : k < 16
            · obtain ⟨X, hX⟩ : ∃ X, X = nx (cnt B) k := ⟨_, rfl⟩
              obtain ⟨Q, hQ⟩ : ∃ Q, Q = sm (cnt B) k := ⟨_, rfl⟩
              obtain ⟨cK, hcK⟩ : ∃ cK, cK = cnt B k := ⟨_, rfl⟩
              obtain ⟨P, hP⟩ : ∃ P : Nat, P = 2 ^ (k + 1) := ⟨_, rfl⟩
              have hP1 : P ≤ 65536 := by rw [hP]; exact pow16 (by omega)
              have hXP : 2 * X < P := by
                have h1 : nx (cnt B) k < 2 ^ k := by
                  cases k with
                  | zero => show 0 < 1; omega
                  | succ k => exact hF k (by omega)
                rw [hP, Nat.pow_succ, hX]
                omega
              have hQc : Q + cK ≤ S := by
                have h1 := sm_mono (c := cnt B) (show k + 1 ≤ 16 by omega)
                rw [sm, ← HM.out, ← hQ, ← hcK] at h1
                exact h1
              have hv : B.getD k 0 = (cK : Int) := by
                have := HS.out k hlt
                rw [hcK]
                unfold cnt
                omega
              rw [← hX]
              have hz17 : z ≤ 16 := by omega
              have hz17i : (z : Int) ≤ 16 := by omega
              have hk1 : (z : Int) - 1 = (k : Int) := by omega
              have HK := Lib.hid (And.intro hX (And.intro hQ (And.intro hcK (And.intro hP (And.intro hv hz)))))
              clear hF hG hX hQ hcK hP hv hz
              go_wp2
              go_loopw [8, 9, 11] (fun o x i w6 => ∃ j : Nat, j ≤ cK ∧ i = .int .i64 j ∧ x = .int .i64 ((2 * X + j : Nat) : Int) ∧ 2 * X + j < P ∧ Gen w3 w6 V o (pre (cnt B) k ++ row (cnt B) k j)) (fun _ _ i _ => cK - (intOf i).toNat)
              case atStart =>
                refine ⟨0, Nat.zero_le _, rfl, by go_num, hXP, ?_⟩
                rw [show row (cnt B) k 0 = [] from rfl, List.append_nil]
                exact HG.out.2
              case round =>
                obtain ⟨j, hj, rfl, rfl, hlim, hG⟩ := hrel
                have hbx := HX.out.box.bel hG.bel HX.out.box.lt
                have cB := (hbx.cell k).trans (specC_at HX.out.len hlt)
                rw [HK.out.2.2.2.2.1] at cB
                have c16 := (hbx.cell 16).trans (specC_last HX.out.len)
                by_cases hjl : j < cK
                · have hlen : (pre (cnt B) k ++ row (cnt B) k j).length = Q + j := by rw [List.length_append, pre_len, row_len, ← HK.out.2.1]
                  obtain ⟨hown, hbel⟩ := hG
                  rw [hlen] at hown
                  obtain ⟨Ao, co, ho⟩ := own_slice hown
                  have hI := (HX.out.vals.on (Below.refl _ _))
                  have hbl : b < w3.heap.size := by
                    obtain ⟨b', off', e', hb', _⟩ := hI.at_ (by omega)
                    cases e'
                    exact hb'
                  have c1 := (hbel.cell (p := ⟨b, off + (Q + j), none⟩) hbl).trans (hI.get (show Q + j < S by omega))
                  obtain ⟨v, hv⟩ : ∃ v, v = V.getD (Q + j) 0 := ⟨_, rfl⟩
                  rw [← hv] at c1
                  obtain ⟨xx, hxx⟩ : ∃ xx, xx = 2 * X + j := ⟨_, rfl⟩
                  rw [← hxx] at hlim ⊢
                  have HO := Lib.hid (And.intro hown (And.intro hbel (And.intro hlen (And.intro hv hxx))))
                  clear hown hbel hlen hv hxx hI hbx hbl
                  subst ho
                  have HP := Lib.hid (power_any wr z (by omega))
                  go_wp2_with fail
                  refine HP.out.mono ?_
                  rintro e w4 ⟨rfl, rfl⟩
                  have hPz : 2 ^ z = P := by rw [HK.out.2.2.2.2.2, ← HK.out.2.2.2.1]
                  rw [hPz]
                  clear hPz cB
                  by_cases hxp : P ≤ xx + 1
                  · have g1 : (P : Int) - 2 < (xx : Int) := by omega
                    go_wp2
                    go_ret2
                    refine ⟨HX.out.bel.trans (HO.out.2.1.mono HX.out.bel.size), .inl ⟨fun hval => ?_, rfl⟩⟩
                    have h1 := hval.fits k hlt
                    rw [nx, ← HK.out.1, ← HK.out.2.2.1, ← HK.out.2.2.2.1] at h1
                    have := HO.out.2.2.2.2
                    omega
                  · have g1 : ¬ (P : Int) - 2 < (xx : Int) := by omega
                    have hz39 : ∀ w, (zeroValue 108).run Tryd.prog w = .ok (.agg #[.int .i64 0, .int .i64 0, .int .i64 0]) w := fun w => by kernel_rfl
                    have hQj : Q + j ≤ 256 := by omega
                    go_wp2_with (first
                      | (at_builtin; refine wpList_append_en rfl (.tmp 104) (.tmp 114) rfl w3.heap.size _ (Q + j) (ents V (pre (cnt B) k ++ row (cnt B) k j)) (v, xx, z) rfl (HO.out.1.alloc _) wr.heap.size rfl (Box.made _ _ _) (by omega) (by have := HO.out.2.1.size; simp; omega) ?_; intro v6 w6 hown6 b6; have H6 := Lib.hid (And.intro hown6 ((HO.out.2.1.trans ((on_alloc _ _).mono HO.out.2.1.size)).trans b6)); clear hown6 b6)
                      | fail)
                    go_roundw
                    case rel =>
                      obtain ⟨hown6, hb6⟩ := H6.out
                      have hxx := HO.out.2.2.2.2
                      have hl := HO.out.2.2.1
                      have e1 : row (cnt B) k (j + 1) = row (cnt B) k j ++ [(xx, z)] := by rw [row_more, hxx, HK.out.2.2.2.2.2, ← HK.out.1]
                      refine ⟨j + 1, by omega, by go_num, ?_, by omega, ?_⟩
                      · rw [show 2 * X + (j + 1) = xx + 1 by omega]
                        rfl
                      · rw [e1, ← List.append_assoc]
                        refine ⟨?_, hb6⟩
                        rw [ents_more _ V (xx, z) (by rw [hl]; omega), hl, ← HO.out.2.2.2.1, List.length_append, hl]
                        exact hown6
                    case measure => simp [intOf]; omega
                · have ej : j = cK := by omega
                  have HE2 := Lib.hid (And.intro hlim (And.intro hG ej))
                  clear hlim hG ej hbx
                  go_wp2
                  go_roundw
                  case rel =>
                    obtain ⟨hlim, hG, ej⟩ := HE2.out
                    rw [ej] at hlim hG
                    refine ⟨k + 1, z + 1, by omega, by have := HK.out.2.2.2.2.2; omega, by go_num, ?_, fun i hi => ?_, ?_⟩
                    · rw [nx, ← HK.out.1, ← HK.out.2.2.1, ← ej]
                    · rcases Nat.lt_or_ge i k with h' | h'
                      · exact HG.out.1 i h'
                      · obtain rfl : i = k := by omega
                        rw [nx, ← HK.out.1, ← HK.out.2.2.1, ← HK.out.2.2.2.1]
                        exact hlim
                    · rw [pre, ← HK.out.2.2.1]
                      exact hG
                  case measure => simp [intOf]; omega
            · have ek : k = 16 := by omega
              have HE2 := Lib.hid (And.intro hz ek)
              obtain ⟨hown, hbel⟩ := hG
              obtain ⟨A', c', ho, hT, hlow⟩ := te_of_own hown
              have HT := Lib.hid (And.intro hT (And.intro hbel hlow))
              have hz16 : (16 : Int) < (z : Int) := by omega
              subst ho
              clear hF hown hbel hT hlow hz ek
              go_wp2
              go_ret2
              obtain ⟨hz, ek⟩ := HE2.out
              subst ek
              refine ⟨HX.out.bel.trans (HT.out.2.1.mono HX.out.bel.size), .inr ⟨⟨fun i hi => (HS.out i hi).1, ?_, by omega, by omega, HDF.out.1, HDF.out.2, HG.out.1⟩, A', _, c', rfl, HT.out.1, ?_, fun b2 off2 e2 => Nat.le_trans HX.out.bel.size (HT.out.2.2 b2 off2 e2)⟩⟩
              · rw [← HM.out, hVn]
              · rw [pre_len, ← HM.out]; omega
end Go.Proofs.YtgipngedmblnmaaDoor

namespace Go.Proofs.YtgipngedmblnmaaDoor
open Go.RowKit

end Go.Proofs.YtgipngedmblnmaaDoor

namespace Go.Proofs.YtgipngedmblnmaaDoor
open Go.RowKit

/-- what the program's Order answers -/
def Ordered (w : World) (e : Ending) (w' : World) : Prop := e = .returned (blkV zz) ∧ Below w.heap.size w w'

set_option maxRecDepth 10000 in
set_option maxHeartbeats 800000 in
theorem order_any (w : World) (hT : Tab w) : Calls Tryd.prog 47 #[] w (Ordered w) := by
  obtain ⟨Z, hZ⟩ : ∃ Z, Z = (cellsI (List.replicate 64 0)).toArray := ⟨_, rfl⟩
  have hZs : Z.size = 64 := by rw [hZ]; rfl
  have hz : ∀ w, (zeroValue 22).run Tryd.prog w = .ok (.agg Z) w := fun w => by rw [hZ]; exact zero22 w
  have HT := Lib.hid (hT.on (on_alloc w (.cells Z 22))).load
  have HB := Lib.hid (And.intro (Box.made w 22 Z) hZs)
  clear hT hZ hZs
  go_enter Tryd.func47, Tryd.ntmps47
  go_wp2_with (first
    | (with_reducible refine wpList_load_to (op := ⟨some 1, _, _, _, _, _⟩) rfl 22 (.global 0) rfl (.pointer (some ⟨0, 0, none⟩)) rfl (blkV zz) HT.out ?_)
    | ((with_reducible refine wpList_store_blk (o := ⟨none, _, _, _, _, _⟩) arr22_size rfl (.tmp 0) (.tmp 1) rfl rfl w.heap.size zz rfl rfl Z HB.out.1 HB.out.2 zz_len ?_)
       intro w4 b4 k4
       have H6 := Lib.hid (And.intro b4 k4)
       clear b4 k4)
    | fail)
  refine bodyPost_ret (v := blkV zz) (results_cell_row (fn := Tryd.f47) Tryd.results47 _ _ w.heap.size 22 _ (0, 0) _ rfl H6.out.1 Tryd.underlying22 rfl (by rw [arr22_size]; rfl)) rfl ?_
  exact ⟨rfl, (on_alloc _ _).trans (H6.out.2.below (by simp) (fun i hi e => by omega))⟩

/-- what place i of diagonal d is, if it is one -/
def rowOf (d i : Nat) : Nat := if d % 2 = 1 then i else d - i
def entOf (d i : Nat) : List Int := if rowOf d i < 8 ∧ d - rowOf d i < 8 then [((8 * rowOf d i + d - rowOf d i : Nat) : Int)] else []
/-- the order's beginning: d diagonals, and i places of the next one -/
def ordTo (d i : Nat) : List Int := ((List.range d).flatMap fun d => (List.range (d + 1)).flatMap (entOf d)) ++ (List.range i).flatMap (entOf d)
theorem ordTo_more (d i : Nat) : ordTo d (i + 1) = ordTo d i ++ entOf d i := by simp [ordTo, List.range_succ]
theorem ordTo_next (d : Nat) : ordTo (d + 1) 0 = ordTo d (d + 1) := by simp [ordTo, List.range_succ]
theorem ordTo_all : ordTo 15 0 = zz := by decide
theorem ordTo_len : ∀ d, d < 15 → ∀ i, i < d + 2 → (ordTo d i).length ≤ 64 := by decide

/-- a row of numbers of one's own, at w0 and behind it -/
structure RowI (w0 w : World) (v : Value) (l : List Int) : Prop where
  own : w.ownsRow w0.heap.size 3 1 v l.length (cellsI l)
  bel : Below w0.heap.size w0 w
theorem RowI.nil (w : World) : RowI w w (.slice none 0 0) [] := ⟨⟨rfl, .inl ⟨rfl, rfl⟩⟩, Below.refl _ _⟩
theorem RowI.il {w0 w : World} {v : Value} {l : List Int} (h : RowI w0 w v l) : ∃ A c, v = .slice A l.length c ∧ Il w A l.length c l ∧ ∀ b off, A = some ⟨b, off, none⟩ → w0.heap.size ≤ b := il_of_own h.own

/-- what the reference's Order answers -/
def RefOrdered (w : World) (e : Ending) (w' : World) : Prop := ∃ A c, e = .returned (.slice A 64 c) ∧ Il w' A 64 c zz ∧ (∀ b off, A = some ⟨b, off, none⟩ → w.heap.size ≤ b) ∧ Below w.heap.size w w'

set_option maxRecDepth 10000 in
set_option maxHeartbeats 1600000 in
theorem refOrder_any (w : World) : Calls Tryd.prog 49 #[] w (RefOrdered w) := by
  go_enter Tryd.func49, Tryd.ntmps49
  go_wp2_with fail
  go_loopw [1, 2] (fun o s wr => ∃ d : Nat, d ≤ 15 ∧ s = .int .i64 (d : Int) ∧ RowI w wr o (ordTo d 0)) (fun _ s _ => 15 - (intOf s).toNat)
  case atStart => exact ⟨0, by omega, rfl, RowI.nil w⟩
  case round =>
    obtain ⟨d, hd, rfl, hG⟩ := hrel
    by_cases hlt : d < 15
    · have hdi : (d : Int) < 15 := by omega
      go_wp2
      go_loopw [1, 3] (fun o s w6 => ∃ i : Nat, i ≤ d + 1 ∧ s = .int .i64 (i : Int) ∧ RowI w w6 o (ordTo d i)) (fun _ s _ => d + 1 - (intOf s).toNat)
      case atStart => exact ⟨0, by omega, rfl, hG⟩
      case round =>
        obtain ⟨i, hi, rfl, hR⟩ := hrel
        have HR := Lib.hid hR
        clear hR hG
        by_cases hid : i ≤ d
        · obtain ⟨r, hr⟩ : ∃ r, r = rowOf d i := ⟨_, rfl⟩
          have hrd : r ≤ d := by rw [hr]; unfold rowOf; split <;> omega
          have hent := ordTo_more d i
          unfold entOf at hent
          rw [← hr] at hent
          have hln := ordTo_len d hlt i (by omega)
          have HE := Lib.hid (And.intro hent (And.intro hr hln))
          clear hent hr hln
          by_cases hpar : d % 2 = 1
          · have hri : r = i := by rw [HE.out.2.1]; unfold rowOf; rw [if_pos hpar]
            subst hri
            have hp2 : (d : Int) % 2 = 1 := by omega
            by_cases h8 : r < 8
            · have h8i : (r : Int) < 8 := by omega
              by_cases h9 : d - r < 8
              · have h9i : (d : Int) - r < 8 := by omega
                obtain ⟨N, hN⟩ : ∃ N, N = (ordTo d r).length := ⟨_, rfl⟩
                have hown := HR.out.own
                have hln := HE.out.2.2
                rw [← hN] at hown hln
                obtain ⟨Ao, co, ho⟩ := own_slice hown
                have HO := Lib.hid (And.intro hown hN)
                clear hown hN
                subst ho
                go_wp2_with (first
                  | (at_builtin; refine wpList_append_il rfl (.tmp 29) (.tmp 36) rfl w.heap.size _ N (ordTo d r) rfl (HO.out.1.alloc _) (some ⟨wr.heap.size, 0, none⟩) 1 1 [8 * (r : Int) + d - r] rfl (il_one wr _) (by omega) (by have := HR.out.bel.size; simp; omega) ?_; intro v6 w6 hown6 b6; have H6 := Lib.hid (And.intro hown6 ((HR.out.bel.trans ((on_alloc _ _).mono HR.out.bel.size)).trans b6)); clear hown6 b6)
                  | fail)
                go_roundw
                case rel =>
                  refine ⟨r + 1, by omega, by go_num, ?_⟩
                  rw [HE.out.1, if_pos ⟨h8, h9⟩]
                  refine ⟨?_, H6.out.2⟩
                  have e : ((8 * r + d - r : Nat) : Int) = 8 * (r : Int) + d - r := by omega
                  rw [List.length_append, ← HO.out.2, e]
                  exact H6.out.1
                case measure => simp [intOf]; omega
              · have h9i : ¬ (d : Int) - r < 8 := by omega
                go_wp2
                go_roundw
                case rel =>
                  refine ⟨r + 1, by omega, by go_num, ?_⟩
                  rw [HE.out.1, if_neg (fun h => h9 h.2), List.append_nil]
                  exact HR.out
                case measure => simp [intOf]; omega
            · have h8i : ¬ (r : Int) < 8 := by omega
              go_wp2
              go_roundw
              case rel =>
                refine ⟨r + 1, by omega, by go_num, ?_⟩
                rw [HE.out.1, if_neg (fun h => h8 h.1), List.append_nil]
                exact HR.out
              case measure => simp [intOf]; omega
          · have hri : r = d - i := by rw [HE.out.2.1]; unfold rowOf; rw [if_neg hpar]
            have hp2 : ¬ (d : Int) % 2 = 1 := by omega
            have he : (d : Int) - i = r := by omega
            have hri0 := Lib.hid hri
            clear hri
            by_cases h8 : r < 8
            · have h8i : (r : Int) < 8 := by omega
              by_cases h9 : d - r < 8
              · have h9i : (d : Int) - r < 8 := by omega
                obtain ⟨N, hN⟩ : ∃ N, N = (ordTo d i).length := ⟨_, rfl⟩
                have hown := HR.out.own
                have hln := HE.out.2.2
                rw [← hN] at hown hln
                obtain ⟨Ao, co, ho⟩ := own_slice hown
                have HO := Lib.hid (And.intro hown hN)
                clear hown hN
                subst ho
                go_wp2_with (first
                  | (at_builtin; refine wpList_append_il rfl (.tmp 29) (.tmp 36) rfl w.heap.size _ N (ordTo d i) rfl (HO.out.1.alloc _) (some ⟨wr.heap.size, 0, none⟩) 1 1 [8 * (r : Int) + d - r] rfl (il_one wr _) (by omega) (by have := HR.out.bel.size; simp; omega) ?_; intro v6 w6 hown6 b6; have H6 := Lib.hid (And.intro hown6 ((HR.out.bel.trans ((on_alloc _ _).mono HR.out.bel.size)).trans b6)); clear hown6 b6)
                  | fail)
                go_roundw
                case rel =>
                  refine ⟨i + 1, by omega, by go_num, ?_⟩
                  rw [HE.out.1, if_pos ⟨h8, h9⟩]
                  refine ⟨?_, H6.out.2⟩
                  have e : ((8 * r + d - r : Nat) : Int) = 8 * (r : Int) + d - r := by omega
                  rw [List.length_append, ← HO.out.2, e]
                  exact H6.out.1
                case measure => simp [intOf]; omega
              · have h9i : ¬ (d : Int) - r < 8 := by omega
                go_wp2
                go_roundw
                case rel =>
                  refine ⟨i + 1, by omega, by go_num, ?_⟩
                  rw [HE.out.1, if_neg (fun h => h9 h.2), List.append_nil]
                  exact HR.out
                case measure => simp [intOf]; omega
            · have h8i : ¬ (r : Int) < 8 := by omega
              go_wp2
              go_roundw
              case rel =>
                refine ⟨i + 1, by omega, by go_num, ?_⟩
                rw [HE.out.1, if_neg (fun h => h8 h.1), List.append_nil]
                exact HR.out
              case measure => simp [intOf]; omega
        · have ei : i = d + 1 := by omega
          rw [ei, ← ordTo_next] at HR
          clear ei
          go_wp2
          go_roundw
          case rel => exact ⟨d + 1, by omega, by go_num, HR.out⟩
          case measure => simp [intOf]; omega
    · obtain rfl : d = 15 := by omega
      rw [ordTo_all] at hG
      obtain ⟨A, c, rfl, hI, hlo⟩ := hG.il
      have H := Lib.hid (And.intro hI (And.intro hlo hG.bel))
      clear hI hlo hG
      rw [zz_len] at H ⊢
      go_wp2
      go_ret
      exact ⟨A, c, rfl, H.out.1, H.out.2.1, H.out.2.2⟩
end Go.Proofs.YtgipngedmblnmaaDoor
