/-
  IfdAsks: a tag's values, and its only one, are the document's, in memory of their own, or why there are none.
-/
import Derived.Test.YtnakfdaneejcfaaFew
namespace Go.Proofs.Ytnakfdaneejcfaa
open Go.RowKit

/-- the values of one's own, while they are raised -/
structure Vs (w wr : World) (v : Value) (n j : Nat) (xs : List Int) : Prop where
  bel : Below w.heap.size w wr
  own : ∃ ys : List Int, ys.length = n ∧ (∀ i, j ≤ i → ys.getD i 0 = xs.getD i 0) ∧ wr.ownsRow w.heap.size 3 1 v n (cellsI ys)
theorem Vs.get {w wr : World} {v : Value} {n j : Nat} {xs : List Int} (h : Vs w wr v n j xs) (hj : j < n) : ∃ g c, v = .slice (some ⟨g, 0, none⟩) n c ∧ n ≤ c ∧ c ≤ maxLen ∧ wr.cell? ⟨g, j, none⟩ = some (.int .i64 (xs.getD j 0)) ∧ wr.frozen? ⟨g, j, none⟩ = false ∧
    ∀ z, Vs w (wr.setCell ⟨g, j, none⟩ (.int .i64 z)) v n (j + 1) xs := by
  obtain ⟨hb, ys, hl, he, ho⟩ := h
  obtain ⟨g, c, rfl, hg, hlt⟩ := ho.form (by omega)
  obtain ⟨A', c', hv', hr⟩ := rd_of_own ho
  obtain ⟨_, _, rfl⟩ := Value.slice.inj hv'
  refine ⟨g, c, rfl, hr.cap, hr.max, ?_, ?_, fun z => ?_⟩
  · rw [ho.cellAt j (by omega), ← he j (Nat.le_refl _)]
    simp [cellsI, List.getD_eq_getElem?_getD, List.getElem?_eq_getElem (show j < ys.length by omega)]
  · rcases ho.2 with ⟨h', _⟩ | ⟨g', cap', cur, h', _, hh, _⟩
    · cases h'
    · cases h'; simp [World.frozen?, hh]
  · obtain ⟨s1, _⟩ := ho.stored j (.int .i64 z)
    have e : (cellsI ys).set j (.int .i64 z) = cellsI (ys.set j z) := by simp [cellsI, List.map_set]
    rw [e] at s1
    refine ⟨Below.setCell (p := ⟨g, j, none⟩) hb (by simp only; omega) _, ys.set j z, by simp [hl], fun i hi => ?_, s1⟩
    rw [← he i (by omega)]
    simp [List.getD_eq_getElem?_getD, List.getElem?_set_ne (show j ≠ i by omega)]
theorem Vs.on {w wr w' : World} {v : Value} {n j : Nat} {xs : List Int} (h : Vs w wr v n j xs) (k : Below wr.heap.size wr w') : Vs w w' v n j xs := by
  obtain ⟨hb, ys, hl, he, ho⟩ := h
  exact ⟨on_trans hb k, ys, hl, he, own_on ho k⟩
set_option maxHeartbeats 3200000 in
set_option maxRecDepth 20000 in
theorem asks_calls (w : World) (A : Option Addr) (n c : Nat) (l : List Fd) (tag : Int) (hx : Fl w A n c l) : Calls Try.prog 3 #[.slice A n c, .int .i64 tag] w (Law w) := by
  have H0 := Lib.hid hx
  have HFw := Lib.hid (few_any A n c l w hx)
  clear hx
  rcases found_or l tag with ⟨i0, hF⟩ | hN
  · have HF := Lib.hid hF
    have hi0 : i0 < n := by rw [← H0.out.len]; exact hF.1
    clear hF
    go_enter Try.func3, Try.ntmps3
    go_wp2_with fail
    refine HFw.out.mono ?_
    rintro e w0 ⟨fb, rfl, hfew, rfl⟩
    cases fb with
    | false =>
      go_wp2_with (go_at_call 8
                   refine Calls.mono (awake_any _) ?_
                   rintro e w5 ⟨rfl, b5⟩
                   have H5 := Lib.hid b5
                   clear b5)
      go_ret
      exact ⟨rfl, H5.out⟩
    | true =>
      have h6 := hfew rfl i0 hi0
      obtain ⟨bF, offF, rfl, _, _, _, _, hil⟩ := H0.out.at_ i0 hi0
      have HV := Lib.hid (vals_some _ n c l tag w0 H0.out i0 HF.out (by omega))
      have HO := Lib.hid (fun (wq : World) (k : Below w0.heap.size w0 wq) => one_some _ n c l tag wq (H0.out.on k) i0 HF.out (by omega))
      have HRV := Lib.hid (fun (wq : World) (k : Below w0.heap.size w0 wq) => refVals_some _ n c l tag wq (H0.out.on k) i0 HF.out)
      have HRO := Lib.hid (fun (wq : World) (k : Below w0.heap.size w0 wq) => refOne_some _ n c l tag wq (H0.out.on k) i0 HF.out)
      obtain ⟨t, k, fA, fn, fc, fx, hf⟩ : ∃ t k fA fn fc fx, l.getD i0 fd0 = ⟨t, k, fA, fn, fc, fx⟩ := ⟨_, _, _, _, _, _, rfl⟩
      rw [hf] at HV HO HRV HRO hil h6
      simp only at HV HO hil h6
      unfold RefVals at HRV
      simp only at HRV
      obtain ⟨O1, O2, hO⟩ : ∃ a b : Int, oneV fx = (a, b) := ⟨_, _, rfl⟩
      simp only at HRO
      rw [hO] at HO HRO
      unfold OneY at HO HRO
      simp only at HO HRO
      have hlen := hil.len
      have hfc := hil.cap
      have hfm := hil.max
      unfold maxLen at hfm
      have HI := Lib.hid hil
      clear hf hil hfew hO
      go_wp2_with fail
      refine HV.out.mono ?_
      rintro e w1 ⟨A1, c1, rfl, hown, b1⟩
      rw [hlen] at hown ⊢
      have HOw := Lib.hid hown
      have H1 := Lib.hid b1
      have HLn := Lib.hid hlen
      clear hown b1 hlen
      go_wp2_with fail
      refine (HRV.out w1 H1.out).mono ?_
      rintro e w2 ⟨rfl, b2⟩
      have HW2 := Lib.hid (show Vs w0 w2 (.slice A1 fn c1) fn 0 fx from ⟨on_trans H1.out b2, fx, HLn.out, fun _ _ => rfl, own_on HOw.out b2⟩)
      clear b2
      go_wp2_with fail
      go_loopw [9, 42] (fun _ i wr => ∃ j : Nat, j ≤ fn ∧ i = .int .i64 (j : Int) ∧ Vs w0 wr (.slice A1 fn c1) fn j fx) (fun _ i _ => fn - (intOf i).toNat)
      case atStart => exact ⟨0, by omega, rfl, HW2.out⟩
      case round =>
        obtain ⟨j, hj, rfl, hvs⟩ := hrel
        have HVs := Lib.hid hvs
        clear hvs
        by_cases hjn : j < fn
        · obtain ⟨g, cg, hvg, hcg, hcm, d0, d1, hput⟩ := HVs.out.get hjn
          obtain ⟨rfl, _, rfl⟩ := Value.slice.inj hvg
          obtain ⟨bf, of, rfl, hbf, hc⟩ := (HI.out.on HVs.out.bel).at_ (by omega)
          have d2 := hc j hjn
          unfold maxLen at hcm
          obtain ⟨x, hxv⟩ : ∃ x, fx.getD j 0 = x := ⟨_, rfl⟩
          rw [hxv] at d0 d2
          have HP := Lib.hid (fun z => (hput z).on (on_drew _))
          clear hc hput hvg hxv
          go_upto_region 10 with fail
          refine wp_region_held_drew (S := fun w' => Hid (w'.cell? ⟨g, j, none⟩ = some (.int .i64 x) ∧ w'.cell? ⟨bf, of + j, none⟩ = some (.int .i64 x))) (by kernel_rfl) (Lib.hid ⟨d0, d2⟩) fun s0 => ?_
          refine take_to (i := 0) (v := .slice (some ⟨g, 0, none⟩) fn c1) rfl (by kernel_rfl) (by kernel_rfl) (by kernel_rfl) (fun _ _ _ h => h) (Or.inl ⟨by rfl, fun w' hS => by go_simp⟩) s0 (some 45) rfl ?_
          try simp only [Act.put, List.setIfInBounds_toArray, List.set_cons_zero, List.set_cons_succ]
          refine take_to (i := 1) (v := .int .i64 (j : Int)) rfl (by kernel_rfl) (by kernel_rfl) (by kernel_rfl) (fun _ _ _ h => h) (Or.inl ⟨by rfl, fun w' hS => by go_simp⟩) s0 (some 46) rfl ?_
          try simp only [Act.put, List.setIfInBounds_toArray, List.set_cons_zero, List.set_cons_succ]
          refine take_to (i := 2) (v := .pointer (some ⟨g, j, none⟩)) rfl (by kernel_rfl) (by kernel_rfl) (by kernel_rfl) (fun _ _ _ h => h) (Or.inl ⟨by rfl, fun w' hS => by go_simp; try exact fun h => absurd h (by omega)⟩) s0 (some 47) rfl ?_
          try simp only [Act.put, List.setIfInBounds_toArray, List.set_cons_zero, List.set_cons_succ]
          refine take_to (i := 3) (v := .int .i64 x) rfl (by kernel_rfl) (by kernel_rfl) (by kernel_rfl) (fun _ _ _ h => h) (Or.inl ⟨by rfl, fun w' hS => by have h0 := hS.out.1; go_simp⟩) s0 (some 48) rfl ?_
          try simp only [Act.put, List.setIfInBounds_toArray, List.set_cons_zero, List.set_cons_succ]
          refine take_to (i := 4) (v := .slice (some ⟨bf, of, none⟩) fn fc) rfl (by kernel_rfl) (by kernel_rfl) (by kernel_rfl) (fun _ _ _ h => h) (Or.inl ⟨by rfl, fun w' hS => by go_simp⟩) s0 (some 49) rfl ?_
          try simp only [Act.put, List.setIfInBounds_toArray, List.set_cons_zero, List.set_cons_succ]
          refine take_to (i := 5) (v := .int .i64 (j : Int)) rfl (by kernel_rfl) (by kernel_rfl) (by kernel_rfl) (fun _ _ _ h => h) (Or.inl ⟨by rfl, fun w' hS => by go_simp⟩) s0 (some 50) rfl ?_
          try simp only [Act.put, List.setIfInBounds_toArray, List.set_cons_zero, List.set_cons_succ]
          refine take_to (i := 6) (v := .pointer (some ⟨bf, of + j, none⟩)) rfl (by kernel_rfl) (by kernel_rfl) (by kernel_rfl) (fun _ _ _ h => h) (Or.inl ⟨by rfl, fun w' hS => by go_simp; try exact fun h => absurd h (by omega)⟩) s0 (some 51) rfl ?_
          try simp only [Act.put, List.setIfInBounds_toArray, List.set_cons_zero, List.set_cons_succ]
          refine take_to (i := 7) (v := .int .i64 x) rfl (by kernel_rfl) (by kernel_rfl) (by kernel_rfl) (fun _ _ _ h => h) (Or.inl ⟨by rfl, fun w' hS => by have h0 := hS.out.2; go_simp⟩) s0 (some 52) rfl ?_
          try simp only [Act.put, List.setIfInBounds_toArray, List.set_cons_zero, List.set_cons_succ]
          refine take_to (i := 8) (v := .bool false) rfl (by kernel_rfl) (by kernel_rfl) (by kernel_rfl) (fun _ _ _ h => h) (Or.inl ⟨by rfl, fun w' hS => by go_simp⟩) s0 (some 53) rfl ?_
          try simp only [Act.put, List.setIfInBounds_toArray, List.set_cons_zero, List.set_cons_succ]
          refine wpAnyH_done (by kernel_rfl) ?_ _
          have e0 : wr.drew.cell? ⟨g, j, none⟩ = some (.int .i64 x) := d0
          have e1 : wr.drew.frozen? ⟨g, j, none⟩ = false := d1
          go_wp2_with fail
          go_roundw
          case rel => exact ⟨j + 1, by omega, by go_num, HP.out _⟩
          case measure => simp [intOf]; omega
        · go_wp2_with fail
          refine (HO.out _ HVs.out.bel).mono ?_
          rintro e w3 ⟨rfl, b3⟩
          have H3 := Lib.hid (on_trans HVs.out.bel b3)
          clear b3
          go_wp2_with fail
          refine (HRO.out _ H3.out).mono ?_
          rintro e w4 ⟨rfl, b4⟩
          have H4 := Lib.hid (on_trans H3.out b4)
          clear b4
          go_wp2_with (go_at_call 8
                       refine Calls.mono (awake_any _) ?_
                       rintro e w5 ⟨rfl, b5⟩
                       have H5 := Lib.hid b5
                       clear b5)
          go_ret
          exact ⟨rfl, on_trans H4.out H5.out⟩
  · have HN := Lib.hid hN
    clear hN
    go_enter Try.func3, Try.ntmps3
    go_wp2_with fail
    refine HFw.out.mono ?_
    rintro e w0 ⟨fb, rfl, hfew, rfl⟩
    cases fb with
    | false =>
      go_wp2_with (go_at_call 8
                   refine Calls.mono (awake_any _) ?_
                   rintro e w5 ⟨rfl, b5⟩
                   have H5 := Lib.hid b5
                   clear b5)
      go_ret
      exact ⟨rfl, H5.out⟩
    | true =>
      have HV := Lib.hid (vals_none A n c l tag w0 H0.out HN.out)
      have HRV := Lib.hid (fun (wq : World) (k : Below w0.heap.size w0 wq) => refVals_none A n c l tag wq (H0.out.on k) HN.out)
      have HO := Lib.hid (fun (wq : World) (k : Below w0.heap.size w0 wq) => one_none A n c l tag wq (H0.out.on k) HN.out)
      have HRO := Lib.hid (fun (wq : World) (k : Below w0.heap.size w0 wq) => refOne_none A n c l tag wq (H0.out.on k) HN.out)
      clear hfew
      go_wp2_with fail
      refine HV.out.mono ?_
      rintro e w1 ⟨rfl, b1⟩
      have H1 := Lib.hid b1
      clear b1
      go_wp2_with fail
      refine (HRV.out w1 H1.out).mono ?_
      rintro e w2 ⟨rfl, b2⟩
      have H2 := Lib.hid (on_trans H1.out b2)
      clear b2
      go_wp2_with fail
      go_loopw [9, 42] (fun _ i wr => i = .int .i64 0 ∧ wr = w2) (fun _ _ _ => 0)
      case atStart => exact ⟨rfl, rfl⟩
      case round =>
        obtain ⟨rfl, rfl⟩ := hrel
        go_wp2_with fail
        refine (HO.out _ H2.out).mono ?_
        rintro e w3 ⟨rfl, b3⟩
        have H3 := Lib.hid (on_trans H2.out b3)
        clear b3
        go_wp2_with fail
        refine (HRO.out _ H3.out).mono ?_
        rintro e w4 ⟨rfl, b4⟩
        have H4 := Lib.hid (on_trans H3.out b4)
        clear b4
        go_wp2_with (go_at_call 8
                     refine Calls.mono (awake_any _) ?_
                     rintro e w5 ⟨rfl, b5⟩
                     have H5 := Lib.hid b5
                     clear b5)
        go_ret
        exact ⟨rfl, on_trans H4.out H5.out⟩
end Go.Proofs.Ytnakfdaneejcfaa
