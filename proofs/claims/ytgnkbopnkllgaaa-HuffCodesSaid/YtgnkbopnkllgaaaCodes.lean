/-
  HuffCodes: the walk.
-/
import Derived.Test.YtgnkbopnkllgaaaHeld
namespace Go.Proofs.Ytgnkbopnkllgaaa
open Go.RowKit

set_option maxRecDepth 20000 in
set_option maxHeartbeats 4000000 in
theorem codes_calls (w : World) (B V : List Int) (A : Option Addr) (n c : Nat) (v : Int) (hB : B.length = 16) (h : Ia w A n c V) : Calls Try.prog 3 #[specV B (.slice A n c), .int .i64 v] w (Law w) := by
  obtain ⟨C, hC⟩ : ∃ C, C = specC B (.slice A n c) := ⟨_, rfl⟩
  have eV : specV B (.slice A n c) = .agg C := by rw [hC]; rfl
  rw [eV]
  obtain ⟨g, hg⟩ : ∃ g, g = w.heap.size := ⟨_, rfl⟩
  obtain ⟨w1, hw1⟩ : ∃ w1, w1 = w.alloc (.cells C 25) := ⟨_, rfl⟩
  have hb := boxed_made (w1 := w1) (g := g) hB h (by rw [hw1, hC]) hg
  have c16 := hb.slice
  rw [hw1, hg] at c16
  have harg : ∀ b off, A = some ⟨b, off, none⟩ → 0 < n → b < w.heap.size := by
    intro b off e h0
    obtain ⟨b', off', e', hb', _⟩ := h.at_ h0
    rw [e] at e'
    cases e'
    exact hb'
  have hs1 : w1.heap.size = w.heap.size + 1 := by rw [hw1]; simp
  have HB := Lib.hid (And.intro hb (And.intro hw1 (And.intro hg (And.intro h.len (And.intro harg hs1)))))
  clear hb hw1 hg hC eV h hB harg hs1
  by_cases hn : 300 < n
  · go_enter Try.func3, Try.ntmps3
    go_wp2_with fail
    rw [← HB.out.2.1]
    refine (awake5_any w1).mono ?_
    rintro e w2 ⟨rfl, b2⟩
    have H2 := Lib.hid (on_trans HB.out.1.bel b2)
    clear b2
    go_wp2
    go_ret
    exact ⟨rfl, H2.out⟩
  have hn3 : ¬ (300 : Int) < (n : Int) := by omega
  have hn300 : n ≤ 300 := by omega
  have HL := Lib.hid (load_spec HB.out.1.box HB.out.1.len)
  have hz := zero25
  go_enter Try.func3, Try.ntmps3
  go_wp2_with (first
    | (with_reducible refine wpList_load_to (op := ⟨some 28, _, _, _, _, _⟩) rfl 25 (.tmp 2) rfl (.pointer (some ⟨w.heap.size, 0, none⟩)) rfl (specV B (.slice A n c)) (by rw [← HB.out.2.1, ← HB.out.2.2.1]; exact HL.out) ?_)
    | fail)
  rw [← HB.out.2.1, ← HB.out.2.2.1]
  clear c16
  refine (own_any w1 B V A n c HB.out.1.len HB.out.1.vals hn300).mono ?_
  rintro e w2 ⟨A2, c2, rfl, hi2, hf2, b2⟩
  obtain ⟨p, hp⟩ : ∃ p, p = w2.heap.size := ⟨_, rfl⟩
  have H2 := Lib.hid (And.intro hi2 (And.intro hf2 (And.intro (HB.out.1.on b2) (And.intro b2 hp))))
  clear hi2 hf2 b2 hp
  go_wp2_with (first
    | ((with_reducible refine wpList_store_spec (o := ⟨none, _, _, _, _, _⟩) rfl (.tmp 5) (.tmp 29) rfl rfl w2.heap.size B (.slice A2 n c2) rfl rfl ?old ?hb ?hold HB.out.1.len ?hv ?_)
       case hb => exact Box.made _ _ _
       case hold => rfl
       case hv => rfl
       intro w3 b3 k3
       have H3 := Lib.hid (And.intro b3 k3)
       clear b3 k3
       rw [← H2.out.2.2.2.2]
       have HL3 := Lib.hid (load_spec H3.out.1 HB.out.1.len)
       rw [← H2.out.2.2.2.2] at HL3)
    | (with_reducible refine wpList_load_to (op := ⟨some 31, _, _, _, _, _⟩) rfl 25 (.tmp 5) rfl (.pointer (some ⟨p, 0, none⟩)) rfl (specV B (.slice A2 n c2)) HL3.out ?_)
    | fail)
  have HM := Lib.hid (held1_made HB.out.2.2.1 HB.out.2.2.2.2.2 HB.out.2.2.2.2.1 H2.out.2.2.1 H2.out.1 H2.out.2.1 H2.out.2.2.2.1 H2.out.2.2.2.2 (by rw [H2.out.2.2.2.2]; exact H3.out.1) (((Kept.refl (fun i => i = p) w2).alloc _).trans H3.out.2 (fun i _ e => by rw [H2.out.2.2.2.2]; exact e)))
  clear hz HL3
  refine (new_any w3 B V A2 n c2 HB.out.1.len HM.out.2 hn300).mono ?_
  rintro e w4 ⟨b4, ⟨hv, rfl⟩ | ⟨hv, t, rfl, hT⟩⟩
  · have H4 := Lib.hid (HM.out.1.on b4)
    have HV := Lib.hid hv
    clear b4 hv
    go_wp2_with (first
      | (with_reducible refine wpList_load_to (op := ⟨some 36, _, _, _, _, _⟩) rfl 25 (.tmp 2) rfl (.pointer (some ⟨g, 0, none⟩)) rfl (specV B (.slice A n c)) (load_spec H4.out.box H4.out.len) ?_)
      | fail)
    refine (refCodes_any w4 B V A n c H4.out.len H4.out.vals).mono ?_
    rintro e w5 ⟨b5, ⟨_, rfl⟩ | ⟨hv5, _⟩⟩
    case inr => exact absurd hv5 HV.out
    have H5 := Lib.hid (H4.out.on b5)
    clear b5
    have e16 := (H5.out.px.cell 16).trans (specC_last H5.out.len)
    go_wp2
    clear e16
    go_loopw [43] (fun i wr => ∃ k : Nat, k ≤ n ∧ i = .int .i64 k ∧ Held1 w wr g p w1.heap.size p B V A n c A2 c2) (fun i _ => n - (intOf i).toNat)
    case atStart => exact ⟨0, Nat.zero_le _, rfl, H5.out⟩
    case round =>
      obtain ⟨k, hk, rfl, hI⟩ := hrel
      have HI := Lib.hid hI
      have e16 := (hI.px.cell 16).trans (specC_last hI.len)
      by_cases hlt : k < n
      · obtain ⟨b, off, hA2⟩ := hI.xw.some_ (by omega)
        subst hA2
        obtain ⟨⟨z, cz⟩, fz⟩ := hI.xw.cells b off rfl k hlt
        clear hI
        go_wp2
        go_roundw
        case rel =>
          refine ⟨k + 1, by omega, by go_num, ?_⟩
          obtain ⟨p1, p2, p3, p4⟩ := HI.out.put k (wrap64 (z + 1))
          exact p1
        case measure => simp [intOf]; omega
      · clear hI
        go_wp2_with (first
          | (with_reducible refine wpList_load_to (op := ⟨some 54, _, _, _, _, _⟩) rfl 25 (.tmp 2) rfl (.pointer (some ⟨g, 0, none⟩)) rfl (specV B (.slice A n c)) (load_spec HI.out.box HI.out.len) ?_)
          | fail)
        refine (right_any wr B V A n c HI.out.len HI.out.vals hn300).mono ?_
        rintro e w6 ⟨d, rfl, hd, b6⟩
        have hd0 : d = false := by
          cases d with
          | false => rfl
          | true => exact absurd (hd.1 rfl) HV.out
        subst hd0
        have H6 := Lib.hid (HI.out.on b6)
        clear hd b6
        go_wp2_with fail
        refine (awake5_any w6).mono ?_
        rintro e w7 ⟨rfl, b7⟩
        have H7 := Lib.hid (H6.out.on b7)
        clear b7
        go_wp2
        go_ret
        exact ⟨rfl, H7.out.bel⟩
  · have H4 := Lib.hid (And.intro (HM.out.1.on b4) hT)
    have HV := Lib.hid hv
    have hlo : p < w3.heap.size := HM.out.1.px.lt
    have hlh := b4.size
    clear b4 hv hT
    go_wp2_with (first
      | (with_reducible refine wpList_load_to (op := ⟨some 36, _, _, _, _, _⟩) rfl 25 (.tmp 2) rfl (.pointer (some ⟨g, 0, none⟩)) rfl (specV B (.slice A n c)) (load_spec H4.out.1.box H4.out.1.len) ?_)
      | fail)
    refine (refCodes_any w4 B V A n c H4.out.1.len H4.out.1.vals).mono ?_
    rintro e w5 ⟨b5, ⟨hv5, _⟩ | ⟨_, Al, nl, cl, rfl, hTe, hfew, hAl⟩⟩
    case inl => exact absurd HV.out hv5
    have h5 : Held2 w5 w3.heap.size w4.heap.size t B V Al nl w4.heap.size w5.heap.size := by
      refine ⟨H4.out.2.on b5, hTe, fun b off e => ⟨hAl b off e, ?_⟩, hfew, b5.size, Nat.le_refl _⟩
      obtain ⟨b', off', e', hb', _⟩ := hTe.at_ (by have := hTe.len; unfold codes at this; rw [ents_len (by rw [HV.out.lens]; exact Nat.le_refl _), HV.out.lens] at this; have := HV.out.pos; omega)
      rw [e] at e'
      cases e'
      exact hb'
    have h51 := H4.out.1.on b5
    have h5s := b5.size
    clear b5 hTe hAl hfew
    obtain ⟨lo, elo⟩ : ∃ lo, lo = w3.heap.size := ⟨_, rfl⟩
    obtain ⟨hi, ehi⟩ : ∃ hi, hi = w4.heap.size := ⟨_, rfl⟩
    obtain ⟨tlo, etlo⟩ : ∃ tlo, tlo = w4.heap.size := ⟨_, rfl⟩
    obtain ⟨thi, ethi⟩ : ∃ thi, thi = w5.heap.size := ⟨_, rfl⟩
    rw [← elo] at h5 hlo hlh
    rw [← ethi] at h5 h5s
    have h5' : Held2 w5 lo hi t B V Al nl tlo thi := by rw [ehi, etlo]; exact h5
    have HO := Lib.hid (show p < lo ∧ lo ≤ hi ∧ p < tlo ∧ hi ≤ thi ∧ thi = w5.heap.size by omega)
    have H5 := Lib.hid (And.intro h51 h5')
    clear h51 h5 h5' h5s elo ehi etlo ethi hlo hlh
    have e16 := (H5.out.1.px.cell 16).trans (specC_last H5.out.1.len)
    go_wp2
    clear e16
    go_loopw [43] (fun i wr => ∃ k : Nat, k ≤ n ∧ i = .int .i64 k ∧ Held1 w wr g p w1.heap.size p B V A n c A2 c2 ∧ Held2 wr lo hi t B V Al nl tlo thi) (fun i _ => n - (intOf i).toNat)
    case atStart => exact ⟨0, Nat.zero_le _, rfl, H5.out⟩
    case round =>
      obtain ⟨k, hk, rfl, hI, hJ⟩ := hrel
      have HI := Lib.hid (And.intro hI hJ)
      have e16 := (hI.px.cell 16).trans (specC_last hI.len)
      clear hJ
      by_cases hlt : k < n
      · obtain ⟨b, off, hA2⟩ := hI.xw.some_ (by omega)
        subst hA2
        obtain ⟨⟨z, cz⟩, fz⟩ := hI.xw.cells b off rfl k hlt
        clear hI
        go_wp2
        go_roundw
        case rel =>
          refine ⟨k + 1, by omega, by go_num, ?_⟩
          obtain ⟨p1, p2, p3, p4⟩ := HI.out.1.put k (wrap64 (z + 1))
          have := HO.out
          exact ⟨p1, HI.out.2.kept p2 (fun b' h' e' => by omega)⟩
        case measure => simp [intOf]; omega
      · clear hI
        go_wp2_with (first
          | (with_reducible refine wpList_load_to (op := ⟨some 54, _, _, _, _, _⟩) rfl 25 (.tmp 2) rfl (.pointer (some ⟨g, 0, none⟩)) rfl (specV B (.slice A n c)) (load_spec HI.out.1.box HI.out.1.len) ?_)
          | fail)
        refine (right_any wr B V A n c HI.out.1.len HI.out.1.vals hn300).mono ?_
        rintro e w6 ⟨d, rfl, hd, b6⟩
        have hd0 : d = true := hd.2 HV.out
        subst hd0
        have H6 := Lib.hid (And.intro (HI.out.1.on b6) (HI.out.2.on b6))
        clear hd b6
        go_wp2
        go_loopw [69] (fun i w7 => ∃ k : Nat, k ≤ 259 ∧ i = .int .i64 k ∧ Held1 w w7 g p w1.heap.size p B V A n c A2 c2 ∧ Held2 w7 lo hi t B V Al nl tlo thi) (fun i _ => 259 - (intOf i).toNat)
        case atStart => exact ⟨0, by omega, rfl, H6.out⟩
        case round =>
          obtain ⟨k, hk, rfl, hI, hJ⟩ := hrel
          have HQ := Lib.hid (And.intro hI hJ)
          clear hI hJ
          by_cases hlt : k < 259
          · obtain ⟨u, hu⟩ : ∃ u : Int, u = if k = 0 then v else (k : Int) - 2 := ⟨_, rfl⟩
            obtain ⟨o, ho⟩ : ∃ o, o = fnd (codes B V) u := ⟨_, rfl⟩
            have hx : codeOf (codes B V) u = (o.map (·.2)).getD (0, 0) := by rw [ho]; rfl
            have HX := Lib.hid (And.intro ho hx)
            clear ho hx
            by_cases h0 : k = 0
            · subst h0
              rw [if_pos rfl] at hu
              subst hu
              go_wp2_with fail
              refine (code_any wr lo hi t B V _ u HQ.out.2.tab (valid_vals HV.out)).mono ?_
              rw [HX.out.2]
              rintro e w8 ⟨rfl, b8⟩
              have H8 := Lib.hid (And.intro (HQ.out.1.on b8) (HQ.out.2.on b8))
              clear b8
              go_wp2_with fail
              refine (find_any w8 Al nl cl _ u H8.out.2.te (by have := H8.out.2.few; omega)).mono ?_
              rw [← HX.out.1]
              rintro e w9 ⟨rfl, b9⟩
              have H9 := Lib.hid (And.intro (H8.out.1.on b9) (H8.out.2.on b9))
              clear b9
              rcases o with _ | ⟨en1, en2, en3⟩
              · unfold enV
                go_wp2
                go_roundw
                case rel => exact ⟨0 + 1, by omega, by go_num, H9.out.1.on (on_alloc _ _), H9.out.2.on (on_alloc _ _)⟩
                case measure => simp [intOf]
              · have hpos : 0 < en3 := (HV.out.code (fnd_some HX.out.1.symm).1).1
                unfold enV
                go_wp2
                go_roundw
                case rel => exact ⟨0 + 1, by omega, by go_num, H9.out.1.on (on_alloc _ _), H9.out.2.on (on_alloc _ _)⟩
                case measure => simp [intOf]
            · rw [if_neg h0] at hu
              have hk0 : ¬ (k : Int) = 0 := by omega
              have hk1 : ((k : Int) == 0) = false := by simp; omega
              have hw : (k : Int) - 2 = u := hu.symm
              clear hu
              go_wp2_with fail
              refine (code_any wr lo hi t B V _ u HQ.out.2.tab (valid_vals HV.out)).mono ?_
              rw [HX.out.2]
              rintro e w8 ⟨rfl, b8⟩
              have H8 := Lib.hid (And.intro (HQ.out.1.on b8) (HQ.out.2.on b8))
              clear b8
              go_wp2_with fail
              refine (find_any w8 Al nl cl _ u H8.out.2.te (by have := H8.out.2.few; omega)).mono ?_
              rw [← HX.out.1]
              rintro e w9 ⟨rfl, b9⟩
              have H9 := Lib.hid (And.intro (H8.out.1.on b9) (H8.out.2.on b9))
              clear b9
              rcases o with _ | ⟨en1, en2, en3⟩
              · unfold enV
                go_wp2
                go_roundw
                case rel => exact ⟨k + 1, by omega, by go_num, H9.out.1.on (on_alloc _ _), H9.out.2.on (on_alloc _ _)⟩
                case measure => simp [intOf]; omega
              · have hpos : 0 < en3 := (HV.out.code (fnd_some HX.out.1.symm).1).1
                unfold enV
                go_wp2
                go_roundw
                case rel => exact ⟨k + 1, by omega, by go_num, H9.out.1.on (on_alloc _ _), H9.out.2.on (on_alloc _ _)⟩
                case measure => simp [intOf]; omega
          · have ek : k = 259 := by omega
            have hz := zero25
            clear ek
            go_wp2_with fail
            have h0 : 0 < n := by have := HV.out.pos; have := HB.out.2.2.2.1; omega
            have hsz := HQ.out.1.px.lt
            refine (spec_any wr lo hi t B V _ HQ.out.2.tab).mono ?_
            rintro e w8 ⟨n7, _, hV7, A7, c7, rfl, hi7, hf7, b8⟩
            have en7 : n7 = n := by rw [← hV7]; exact HB.out.2.2.2.1
            subst en7
            obtain ⟨r, hr⟩ : ∃ r, r = w8.heap.size := ⟨_, rfl⟩
            have hH8 := And.intro (HQ.out.1.on b8) (HQ.out.2.on b8)
            have H8 := Lib.hid (And.intro hH8 (And.intro hi7 (And.intro hf7 hr)))
            clear hH8 hi7 hf7 b8 hV7 hr
            go_wp2_with (first
              | ((with_reducible refine wpList_store_spec (o := ⟨none, _, _, _, _, _⟩) rfl (.tmp 18) (.tmp 107) rfl rfl w8.heap.size B (.slice A7 n7 c7) rfl rfl ?old ?hb ?hold HB.out.1.len ?hv ?_)
                 case hb => exact Box.made _ _ _
                 case hold => rfl
                 case hv => rfl
                 intro w9 b9 k9
                 have H9 := Lib.hid (And.intro b9 k9)
                 clear b9 k9
                 have hk : Kept (fun i => i = w8.heap.size) w8 w9 := ((Kept.refl (fun i => i = w8.heap.size) w8).alloc _).trans H9.out.2 (fun _ _ e => e)
                 have hs := sp_made rfl H8.out.2.1 (fun b off e => ⟨(H8.out.2.2.1 b off e).1, (H8.out.2.2.1 b off e).2⟩) H9.out.1 hk
                 have hp1 := H8.out.1.1.px.lt
                 have ht1 := H8.out.1.2.top
                 have h91 := H8.out.1.1.far hk (fun b hb => by omega)
                 have h92 := H8.out.1.2.kept hk (fun b hb => by omega)
                 have q1 := (hs.box.cell 16).trans (specC_last HB.out.1.len)
                 have q2 := (h91.box.cell 16).trans (specC_last HB.out.1.len)
                 have H10 := Lib.hid (And.intro h91 (And.intro h92 hs))
                 clear hk hs hp1 ht1 h91 h92
                 rw [← H8.out.2.2.2]
                 rw [← H8.out.2.2.2] at H10 q1)
              | ((with_reducible refine wpList_load_when (op := ⟨some 117, _, _, _, _, _⟩) ?hw 22 (.tmp 116) rfl (.pointer (some ⟨r, 0, none⟩)) rfl (.agg (cellsI B).toArray) (load_bits H10.out.2.2.box HB.out.1.len) ?_)
                 case hw => rfl)
              | ((with_reducible refine wpList_load_when (op := ⟨some 119, _, _, _, _, _⟩) ?hw 22 (.tmp 118) rfl (.pointer (some ⟨g, 0, none⟩)) rfl (.agg (cellsI B).toArray) (load_bits H10.out.1.box HB.out.1.len) ?_)
                 case hw => rfl)
              | ((with_reducible refine wpList_neq_when (op := ⟨some 120, _, _, _, _, _⟩) ?hw (.tmp 117) (.tmp 119) rfl B HB.out.1.len rfl rfl ?_)
                 case hw => rfl)
              | fail)
            clear q1 q2
            have HS := Lib.hid (show thi ≤ wr.heap.size ∧ p < wr.heap.size from ⟨HQ.out.2.top.2, hsz⟩)
            generalize wr.heap.size = slo at H10 HS
            clear hsz hz
            go_loopw [125] (fun i wq => ∃ k : Nat, k ≤ n7 ∧ i = .int .i64 k ∧ Held1 w wq g p w1.heap.size p B V A n7 c A2 c2 ∧ Held2 wq lo hi t B V Al nl tlo thi ∧ Sp wq r slo B V A7 n7 c7 k) (fun i _ => n7 - (intOf i).toNat)
            case atStart => exact ⟨0, Nat.zero_le _, rfl, H10.out⟩
            case round =>
              obtain ⟨k, hk, rfl, hI, hJ, hK⟩ := hrel
              have q1 := (hK.box.cell 16).trans (specC_last HB.out.1.len)
              have q2 := (hI.box.cell 16).trans (specC_last HB.out.1.len)
              have HI := Lib.hid (And.intro hI (And.intro hJ hK))
              clear hJ
              by_cases hlt : k < n7
              · obtain ⟨b, off, hA7⟩ := hK.some_ (by omega)
                obtain ⟨b', off', hA, -, -⟩ := hI.vals.at_ (by omega)
                subst hA7 hA
                have q3 := (hK.cells b off rfl).1 k (Nat.le_refl _) hlt
                have q4 := (hK.cells b off rfl).2 k
                have q5 := hI.vals.get hlt
                obtain ⟨z, hzz⟩ : ∃ z, z = V.getD k 0 := ⟨_, rfl⟩
                rw [← hzz] at q3 q5
                clear hI hK hzz
                go_wp2_with fail
                go_quiet (fail)
                go_wp2
                go_roundw
                case rel =>
                  refine ⟨k + 1, by omega, by go_num, ?_⟩
                  have key : ∀ wd, Below wr.heap.size wr wd → Held1 w (wd.setCell ⟨b, off + k, none⟩ (.int .i64 (wrap64 (z + 1)))) g p w1.heap.size p B V (some ⟨b', off', none⟩) n7 c A2 c2 ∧ Held2 (wd.setCell ⟨b, off + k, none⟩ (.int .i64 (wrap64 (z + 1)))) lo hi t B V Al nl tlo thi ∧ Sp (wd.setCell ⟨b, off + k, none⟩ (.int .i64 (wrap64 (z + 1)))) r slo B V (some ⟨b, off, none⟩) n7 c7 (k + 1) := by
                    intro wd hwd
                    obtain ⟨p1, p2, p3⟩ := HI.out
                    replace p1 := p1.on hwd
                    replace p2 := p2.on hwd
                    replace p3 := p3.on hwd
                    have hb7 := p3.ain b off rfl
                    have hs := HS.out
                    have ht1 := p2.top
                    have hkp := kept_put wd b (off + k) (.int .i64 (wrap64 (z + 1)))
                    exact ⟨p1.far hkp (fun b hb => by omega), p2.kept hkp (fun b hb => by omega), p3.put (wrap64 (z + 1))⟩
                  exact key _ (below_drewN_refl _ _)
                case measure => simp [intOf]; omega
              · clear hI hK
                obtain ⟨b, off, hA, -, -⟩ := HI.out.1.vals.at_ (by omega)
                subst hA
                have q5 := HI.out.1.vals.get (show 0 < n7 by omega)
                obtain ⟨x, hx1, hx2⟩ := code_at HV.out HV.out.pos
                obtain ⟨z, hzz⟩ : ∃ z, z = V.getD 0 0 := ⟨_, rfl⟩
                rw [← hzz, Nat.add_zero] at q5
                rw [← hzz] at hx2
                have HX := Lib.hid (And.intro hx1 (And.intro hx2 hzz))
                clear hx1 hx2 hzz
                go_wp2_with fail
                refine (code_in wr lo hi t B V 0 x z HI.out.2.1.tab HV.out HX.out.1 HX.out.2.1).mono ?_
                rintro e w12 ⟨rfl, b12⟩
                have H12 := Lib.hid (And.intro (HI.out.1.on b12) (HI.out.2.1.on b12))
                clear b12 q5 q1 q2
                have hnl : 0 < nl := by
                  have := H12.out.2.te.len
                  unfold codes at this
                  rw [ents_len (by rw [HV.out.lens]; exact Nat.le_refl _), HV.out.lens] at this
                  have := HV.out.pos
                  omega
                obtain ⟨en, b3, off3, he, hAl, _, t0, t1, t2⟩ := H12.out.2.te.get hnl
                have hen : en.2 = x := by
                  have h1 := (ents_at.1 he).2
                  rw [HX.out.1] at h1
                  exact (Option.some.inj h1).symm
                rw [hen, Nat.zero_mul, Nat.add_zero] at t1 t2
                subst hAl
                clear he hen t0
                go_wp2_with fail
                refine (awake5_any w12).mono ?_
                rintro e w13 ⟨rfl, b13⟩
                have H13 := Lib.hid (H12.out.1.on b13)
                clear b13
                go_wp2
                go_ret
                exact ⟨rfl, H13.out.bel⟩
end Go.Proofs.Ytgnkbopnkllgaaa
