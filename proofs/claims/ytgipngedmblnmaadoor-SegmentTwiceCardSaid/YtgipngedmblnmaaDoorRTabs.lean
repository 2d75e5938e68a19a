/-
  The contract of the program's readSteps. The contract of the program's readTable. The contract of the program's readTables.
-/
import Derived.Test.YtgipngedmblnmaaDoorRCur
import Derived.Test.YtgipngedmblnmaaDoorSegRead
import Derived.Test.YtgipngedmblnmaaDoorOrder
import Derived.Test.YtgipngedmblnmaaDoorSegSpecs
import Derived.Deep.RegionLaw
import Derived.Test.YtgipngedmblnmaaDoorEnts
namespace Go.Proofs.YtgipngedmblnmaaDoor
open Go.RowKit

/-- what a body's reader has done: r is what the document says -/
def BodyE (lo : Nat) (w : World) (g s gk : Nat) (A : Option Addr) (n c : Nat) (l : List Int) (r : Option Kv) (e : Ending) (w' : World) : Prop :=
  Kept (fun i => i = g ∨ i = gk) w w' ∧ ((r = none ∧ ∃ k, k ≠ 0 ∧ e = .panicked (gaveUp s k)) ∨ (e = .returned (.tuple #[]) ∧ ∃ K' X' p', Rd lo w w' g s gk A n c l p' K' X' ∧ r = if p' = n then some K' else none))
theorem wp_store_T' {o : Oper} {a : Act} {w : World} {Kp : Act → World → Prop} {Q : Exit → Act → World → Prop} (x y : Operand) (ho : o.op = .store 23 x y) (hd : o.dst = none) {g : Nat} {K : Kv} {X : Nat → Value}
    (h : Box w g 46 (kvC K X).toArray) {i : Nat} (hi : i < 2) (s : List Int) (hs : s.length = 64) (hx : a.eval x = .pointer (some ⟨g, 64 * i, none⟩)) (hy : a.eval y = blkV s)
    (hK : ∀ w', Box w' g 46 (kvC (K.setT i s) X).toArray → Kept (fun j => j = g) w w' → Kp a w') : Oper.wp Tryd.prog o a w Kp Q := wp_store_T x y ho hd h hi s hs hx hy hK
/-- how many bytes are left -/
def leftOf (n g : Nat) (w : World) : Nat := match w.cell? ⟨g, 1, none⟩ with | some (.int _ z) => n - z.toNat | _ => 0
theorem Rd.left {lo : Nat} {w0 wr : World} {g s gk : Nat} {A : Option Addr} {n c : Nat} {l : List Int} {p : Nat} {K : Kv} {X : Nat → Value} (h : Rd lo w0 wr g s gk A n c l p K X) : leftOf n g wr = n - p := by
  unfold leftOf
  rw [h.cur.c1]
  simp
theorem Rd.fit {lo : Nat} {w0 wr : World} {g s gk : Nat} {A : Option Addr} {n c : Nat} {l : List Int} {p : Nat} {K : Kv} {X : Nat → Value} (h : Rd lo w0 wr g s gk A n c l p K X) (i : Nat) : 0 ≤ l.getD i 0 ∧ l.getD i 0 ≤ 255 := h.sl.bts.fit.getD i

set_option maxRecDepth 10000 in
set_option maxHeartbeats 6400000 in
theorem readSteps_any (lo : Nat) (w : World) (g s gk : Nat) (A : Option Addr) (n c : Nat) (l : List Int) (K : Kv) (X : Nat → Value) (h : Rd lo w w g s gk A n c l 0 K X) : Calls Tryd.prog 75 #[.pointer (some ⟨g, 0, none⟩), .pointer (some ⟨gk, 0, none⟩)] w (BodyE lo w g s gk A n c l (rdSteps (l.length + 1) l K)) := by
  obtain ⟨R, hRd⟩ : ∃ R, R = rdSteps (l.length + 1) l K := ⟨_, rfl⟩
  rw [← hRd]
  have HRd := Lib.hid hRd
  have H0 := Lib.hid h
  obtain ⟨Zs, hZs⟩ : ∃ Zs, Zs = (cellsI (List.replicate 64 0)).toArray := ⟨_, rfl⟩
  have hzs' : ∀ w, (zeroValue 23).run Tryd.prog w = .ok (.agg Zs) w := fun w => by rw [hZs]; exact zero23 w
  have HZv := Lib.hid hZs
  clear h hRd hZs
  go_enter Tryd.func75, Tryd.ntmps75
  go_wp2_with fail
  go_loopw [4] (fun _ wr => ∃ f p K', (l.drop p).length < f ∧ rdSteps f (l.drop p) K' = R ∧ Rd lo w wr g s gk A n c l p K' X) (fun _ wr => leftOf n g wr)
  case atStart => exact ⟨l.length + 1, 0, K, by simp, HRd.out.symm, H0.out⟩
  case round =>
    obtain ⟨f, p, K', hf, hR, hS⟩ := hrel
    have hlen := hS.len
    have hle := hS.le
    have HS := Lib.hid hS
    have HR := Lib.hid hR
    clear hS hR
    obtain ⟨f, rfl⟩ : ∃ f', f = f' + 1 := ⟨f - 1, by omega⟩
    have HL := Lib.hid (left_any lo wr g s gk A n c l p K' X HS.out.fresh)
    obtain ⟨m, hm⟩ : ∃ m, m = n - p := ⟨_, rfl⟩
    rw [← hm] at HL
    have hmn : n = p + m := by omega
    have Hmn := Lib.hid (And.intro hmn hf)
    clear hm hle hf hmn
    go_wp2_with fail
    refine Calls.mono HL.out ?_
    rintro e w2 ⟨rfl, b2⟩
    have H2 := Lib.hid (HS.out.on b2)
    clear b2 HL
    by_cases h0 : m = 0
    · subst h0
      have hr : R = some K' := by rw [← HR.out, List.drop_eq_nil_of_le (by have := Hmn.out; omega)]; exact rdSteps_end
      have HRn := Lib.hid hr
      clear hr
      go_wp2_with fail
      go_end0
      exact ⟨H2.out.kep, .inr ⟨rfl, K', X, p, H2.out, by rw [HRn.out, if_pos (by have := Hmn.out; omega)]⟩⟩
    have hm0 : (0 : Int) < (m : Int) := by omega
    have hne : l.drop p ≠ [] := fun e => by have := congrArg List.length e; rw [List.length_drop] at this; simp at this; have := Hmn.out; omega
    have hd0 : (l.drop p).getD 0 0 = l.getD p 0 := by rw [List.getD_eq_getElem?_getD, List.getElem?_drop, Nat.add_zero, List.getD_eq_getElem?_getD]
    have hfit := H2.out.fit p
    have HN := Lib.hid (num1 lo w2 g s gk A n c l p K' X H2.out.fresh (by have := Hmn.out; omega))
    obtain ⟨i0, hi0⟩ : ∃ i0 : Nat, (i0 : Int) = l.getD p 0 := ⟨(l.getD p 0).toNat, by omega⟩
    rw [← hi0] at HN hd0
    have HE := Lib.hid (And.intro hne (And.intro hd0 hlen))
    clear hne hd0 hlen hfit hi0
    go_wp2_with fail
    refine Calls.mono HN.out ?_
    rintro e w3 ⟨rfl, r3, _⟩
    have H3 := Lib.hid (H2.out.trans r3)
    clear r3 HN
    have HQ := Lib.hid (And.intro (require_yes w3 g 4) (require_no w3 g s A n c (p + 1) 4 (by decide) H3.out.cur))
    by_cases hi1 : ¬ i0 < 2
    · have hr : R = none := by rw [← HR.out]; exact rdSteps_none HE.out.1 (.inr (by rw [HE.out.2.1]; omega))
      have HRn := Lib.hid hr
      clear hr
      have hi2 : ¬ (i0 : Int) < 2 := by omega
      go_wp2_with fail
      rw [show decide ((i0 : Int) < 2) = false from decide_eq_false (by omega)]
      refine Calls.mono HQ.out.2 ?_
      rintro e w4 ⟨rfl, k4⟩
      exact ⟨rfl, H3.out.kep.trans k4 (fun _ _ e => absurd e (fun e => e)), .inl ⟨HRn.out, 4, by decide, rfl⟩⟩
    have hi2 : (i0 : Int) < 2 := by omega
    obtain ⟨gs, hgs⟩ : ∃ gs, gs = w3.heap.size := ⟨_, rfl⟩
    obtain ⟨w5, hw5⟩ : ∃ x, w3.alloc (.cells Zs 23) = x := ⟨_, rfl⟩
    have b5 : Box w5 gs 23 Zs := by rw [hgs, ← hw5]; exact Box.made _ _ _
    have r5 : Rd lo w w5 g s gk A n c l (p + 1) K' X := H3.out.on (by rw [← hw5]; exact on_alloc _ _)
    rw [HZv.out] at b5
    have HO := Lib.hid (order_any w5 r5.tab)
    have H5 := Lib.hid (And.intro hw5 (And.intro r5 (And.intro (show Blk w5 gs (stF (l.drop (p + 1)) 0) from ⟨b5, stF_len _ 0⟩) (And.intro hgs (show w.heap.size ≤ gs by rw [hgs]; exact H3.out.kep.size)))))
    have e1 : (l.drop p).drop 1 = l.drop (p + 1) := by rw [List.drop_drop]
    have hL : leftOf n g wr = m := by rw [HS.out.left]; have := Hmn.out; omega
    have HLf := Lib.hid (And.intro hL e1)
    clear hw5 b5 r5 hgs hL e1
    go_wp2_with fail
    refine Calls.mono HQ.out.1 ?_
    rintro e w4 ⟨rfl, rfl⟩
    clear HQ
    go_wp2_with fail
    rw [H5.out.1, ← H5.out.2.2.2.1]
    refine Calls.mono HO.out ?_
    rintro e w6 ⟨rfl, b6⟩
    have H6 := Lib.hid (And.intro (H5.out.2.1.on b6) (H5.out.2.2.1.on b6))
    obtain ⟨Vz, hVz⟩ : ∃ V, V = blkV zz := ⟨_, rfl⟩
    rw [← hVz]
    have HVz := Lib.hid hVz
    clear b6 HO hVz
    go_wp2_with fail
    go_loopw [18] (fun i wi => ∃ k : Nat, k ≤ 64 ∧ i = .int .i64 ((k : Nat) : Int) ∧ Rd lo w wi g s gk A n c l (p + 1 + k) K' X ∧ Blk wi gs (stF (l.drop (p + 1)) k)) (fun i _ => 64 - (intOf i).toNat)
    case atStart => exact ⟨0, by omega, rfl, H6.out⟩
    case round =>
      obtain ⟨k, hk, rfl, hrk⟩ := hrel
      have HRk := Lib.hid hrk
      clear hrk
      by_cases hk64 : k < 64
      · obtain ⟨z1, z2⟩ := zn_cell hk64
        have hidx : ∀ w, (Instr.index 22 Vz (.int .i64 (k : Int))).run Tryd.prog w = .ok (.int .i64 (zn k : Int)) w := fun w => by rw [HVz.out, index22 w zz_len hk64, z1]
        by_cases hpk : p + 1 + k < n
        · have HN := Lib.hid (num1 lo wr g s gk A n c l (p + 1 + k) K' X HRk.out.1.fresh hpk)
          have hst : (stF (l.drop (p + 1)) k).set (zn k) (l.getD (p + 1 + k) 0) = stF (l.drop (p + 1)) (k + 1) := by
            rw [stF, List.getD_eq_getElem?_getD, List.getD_eq_getElem?_getD, List.getElem?_drop]
          obtain ⟨q, hq⟩ : ∃ q, q = zn k := ⟨_, rfl⟩
          rw [← hq] at hidx z2 hst
          obtain ⟨z, hz⟩ : ∃ z, z = l.getD (p + 1 + k) 0 := ⟨_, rfl⟩
          rw [← hz] at HN hst
          have HX := Lib.hid hst
          have hq64 : (q : Int) < 64 := by omega
          clear hst hq hz z1
          go_wp2_with fail
          refine Calls.mono HN.out ?_
          rintro e w7 ⟨rfl, r7, k7⟩
          have hb7 : Blk w7 gs (stF (l.drop (p + 1)) k) := HRk.out.2.kept k7 (by have := HRk.out.2.box.apart HRk.out.1.own (by decide); omega)
          have R7 := Lib.hid (And.intro (HRk.out.1.trans r7) hb7)
          have c7 := hb7.cell z2
          have f7 := hb7.box.free q
          obtain ⟨old, hold⟩ : ∃ o, o = (stF (l.drop (p + 1)) k).getD q 0 := ⟨_, rfl⟩
          rw [← hold] at c7
          clear r7 k7 hb7 hold HN
          go_wp2_with fail
          have k8 : Kept (fun i => i = gs) w7 (w7.setCell ⟨gs, q, none⟩ (.int .i64 z)) := (Kept.refl (fun i => i = gs) w7).setCell (p := ⟨gs, q, none⟩) (fun _ => rfl) _
          have hp8 := R7.out.2.put q z
          rw [HX.out] at hp8
          have H8 := Lib.hid (And.intro (R7.out.1.mine k8 H5.out.2.2.2.2 (fun cs hb => hb.apart R7.out.2.box (by decide) rfl)) hp8)
          clear k8 hp8
          go_roundw
          case rel => exact ⟨k + 1, by omega, by go_num, H8.out⟩
          case measure => simp [intOf]; omega
        · have HN := Lib.hid (num1_up lo wr g s gk A n c l (p + 1 + k) K' X HRk.out.1.fresh (by omega))
          have hr : R = none := by rw [← HR.out]; exact rdSteps_none HE.out.1 (.inl (by rw [List.length_drop, HE.out.2.2]; omega))
          have HRn := Lib.hid hr
          obtain ⟨q, hq⟩ : ∃ q, q = zn k := ⟨_, rfl⟩
          rw [← hq] at hidx
          clear hr hq z1 z2
          go_wp2_with fail
          refine Calls.mono HN.out ?_
          rintro e w7 ⟨rfl, k7⟩
          exact ⟨rfl, HRk.out.1.kep.trans k7 (fun _ _ e => absurd e (fun e => e)), .inl ⟨HRn.out, 3, by decide, rfl⟩⟩
      · have ek : k = 64 := by omega
        obtain ⟨s64, hs⟩ : ∃ s, s = stF (l.drop (p + 1)) 64 := ⟨_, rfl⟩
        have hb64 := HRk.out.2
        rw [ek, ← hs] at hb64
        have hsl : s64.length = 64 := by rw [hs]; exact stF_len _ 64
        obtain ⟨Vs, hVs⟩ : ∃ V, V = blkV s64 := ⟨_, rfl⟩
        have hin := qright_any wr s64 hsl
        have hld := hb64.load
        rw [← hVs] at hin hld
        have HIN := Lib.hid hin
        have HLD := Lib.hid hld
        have r64 := HRk.out.1
        rw [ek] at r64
        have H64 := Lib.hid (And.intro r64 (And.intro hb64 (And.intro hsl (And.intro hVs hs))))
        clear ek hs hb64 hsl hVs hin hld r64
        go_wp2_with (first
          | (with_reducible refine wpList_load_to (op := ⟨some 27, _, _, _, _, _⟩) rfl 23 (.tmp 5) rfl (.pointer (some ⟨gs, 0, none⟩)) rfl Vs HLD.out ?_)
          | fail)
        refine Calls.mono HIN.out ?_
        rintro e w7 ⟨rfl, b7⟩
        have H7 := Lib.hid (And.intro (H64.out.1.on b7) (H64.out.2.1.on b7))
        clear b7 HIN HLD
        have HQ2 := Lib.hid (And.intro (require_yes w7 g 4) (require_no w7 g s A n c (p + 1 + 64) 4 (by decide) H7.out.1.cur))
        have hl65 : p + 1 + 64 ≤ n := H7.out.1.le
        have hgood : ¬ ((l.drop p).length < 65 ∨ 1 < (l.drop p).getD 0 0) := by rw [List.length_drop, HE.out.2.1, HE.out.2.2]; omega
        have HG := Lib.hid (And.intro hgood hl65)
        clear hgood hl65
        by_cases hok : Wi s64 1 255
        case neg =>
          have hr : R = none := by rw [← HR.out]; exact rdSteps_bad HE.out.1 HG.out.1 (by rw [HLf.out.2, ← H64.out.2.2.2.2]; exact hok)
          have HRn := Lib.hid hr
          rw [decide_eq_false hok]
          clear hr hok
          go_wp2_with fail
          refine Calls.mono HQ2.out.2 ?_
          rintro e w8 ⟨rfl, k8⟩
          exact ⟨rfl, H7.out.1.kep.trans k8 (fun _ _ e => absurd e (fun e => e)), .inl ⟨HRn.out, 4, by decide, rfl⟩⟩
        rw [decide_eq_true hok]
        have HOK := Lib.hid (show StepOk s64 from hok)
        clear hok
        go_wp2_with fail
        refine Calls.mono HQ2.out.1 ?_
        rintro e w8 ⟨rfl, rfl⟩
        clear HQ2
        have hgg : gs ≠ gk := H7.out.2.box.apart H7.out.1.kv (by decide)
        go_upto_region 10 with fail
        refine wp_region_held_drew (S := fun w' => Hid (Kept (fun i => i = gk) w7 w')) (by kernel_rfl) (Lib.hid ((Kept.refl _ w7).drew)) fun s0 => ?_
        refine take_to (i := 0) (v := .pointer (some ⟨gk, 0, none⟩)) rfl (by kernel_rfl) (by kernel_rfl) (by kernel_rfl) (fun _ _ _ h => h) (Or.inl ⟨by rfl, fun w' hS => by go_simp⟩) s0 (some 30) rfl ?_
        simp only [Act.put, List.setIfInBounds_toArray, List.set_cons_zero, List.set_cons_succ]
        refine take_to (i := 1) (v := .int .i64 (i0 : Int)) rfl (by kernel_rfl) (by kernel_rfl) (by kernel_rfl) (fun _ _ _ h => h) (Or.inl ⟨by rfl, fun w' hS => by go_simp⟩) s0 (some 31) rfl ?_
        simp only [Act.put, List.setIfInBounds_toArray, List.set_cons_zero, List.set_cons_succ]
        refine take_to (i := 2) (v := .pointer (some ⟨gk, 0, none⟩)) rfl (by kernel_rfl) (by kernel_rfl) (by kernel_rfl) (fun _ _ _ h => h) (Or.inl ⟨by rfl, fun w' hS => by go_simp⟩) s0 (some 32) rfl ?_
        simp only [Act.put, List.setIfInBounds_toArray, List.set_cons_zero, List.set_cons_succ]
        refine take_to (i := 3) (v := .int .i64 (i0 : Int)) rfl (by kernel_rfl) (by kernel_rfl) (by kernel_rfl) (fun _ _ _ h => h) (Or.inl ⟨by rfl, fun w' hS => by go_simp⟩) s0 (some 33) rfl ?_
        simp only [Act.put, List.setIfInBounds_toArray, List.set_cons_zero, List.set_cons_succ]
        refine take_to (i := 4) rfl (by kernel_rfl) (by kernel_rfl) (by kernel_rfl) (fun _ _ _ h => h) (yieldsIf_load (by rfl) 23 _ rfl (.pointer (some ⟨gs, 0, none⟩)) rfl Vs (fun w1 h => by rw [H64.out.2.2.2.1]; exact Blk.load (H7.out.2.kept h.out hgg))) s0 (some 34) rfl ?_
        simp only [Act.put, List.setIfInBounds_toArray, List.set_cons_zero, List.set_cons_succ]
        refine take_to (i := 5) (v := .pointer (some ⟨gk, 0, none⟩)) rfl (by kernel_rfl) (by kernel_rfl) (by kernel_rfl) (fun _ _ _ h => h) (Or.inl ⟨by rfl, fun w' hS => by go_simp⟩) s0 (some 35) rfl ?_
        simp only [Act.put, List.setIfInBounds_toArray, List.set_cons_zero, List.set_cons_succ]
        refine take_to (i := 6) (v := .pointer (some ⟨gk, 0, none⟩)) rfl (by kernel_rfl) (by kernel_rfl) (by kernel_rfl) (fun _ _ _ h => h) (Or.inl ⟨by rfl, fun w' hS => by go_simp⟩) s0 (some 36) rfl ?_
        simp only [Act.put, List.setIfInBounds_toArray, List.set_cons_zero, List.set_cons_succ]
        refine take_to (i := 7) (v := .pointer (some ⟨gk, 0, none⟩)) rfl (by kernel_rfl) (by kernel_rfl) (by kernel_rfl) (fun _ _ _ h => h) (Or.inl ⟨by rfl, fun w' hS => by go_simp⟩) s0 (some 37) rfl ?_
        simp only [Act.put, List.setIfInBounds_toArray, List.set_cons_zero, List.set_cons_succ]
        refine take_to (i := 8) (v := .pointer (some ⟨gk, 64 * i0, none⟩)) rfl (by kernel_rfl) (by kernel_rfl) (by kernel_rfl) (fun _ _ _ h => h) (Or.inl ⟨by rfl, fun w' hS => by have h1 : (i0 : Int) < 2 := (by omega); go_simp⟩) s0 (some 38) rfl ?_
        simp only [Act.put, List.setIfInBounds_toArray, List.set_cons_zero, List.set_cons_succ]
        refine take_to (i := 10) (v := .pointer (some ⟨gk, 0, none⟩)) rfl (by kernel_rfl) (by kernel_rfl) (by kernel_rfl) (fun _ _ _ h => h) (Or.inl ⟨by rfl, fun w' hS => by go_simp⟩) s0 (some 39) rfl ?_
        simp only [Act.put, List.setIfInBounds_toArray, List.set_cons_zero, List.set_cons_succ]
        refine take_to (i := 11) (v := .pointer (some ⟨gk, 196, none⟩)) rfl (by kernel_rfl) (by kernel_rfl) (by kernel_rfl) (fun _ _ _ h => h) (Or.inl ⟨by rfl, fun w' hS => by go_simp⟩) s0 (some 40) rfl ?_
        simp only [Act.put, List.setIfInBounds_toArray, List.set_cons_zero, List.set_cons_succ]
        refine wpAnyH_ready (rs := [9]) (by kernel_rfl) (by simp) ?_
        refine AllReadyH.cons rfl (fun Kq hKq => ?_) AllReadyH.nil
        rw [if_pos (by rfl)]
        refine wp_store_T _ _ rfl rfl (H7.out.1.kv.on (on_drew w7)) (i := i0) (by omega) s64 H64.out.2.2.1 rfl H64.out.2.2.2.1 fun w12 b12 k12 => ?_
        have s2 := Lib.hid (s0.out.trans k12 (fun _ _ h => h))
        have R12 := Lib.hid (H7.out.1.known s2.out b12 (H7.out.1.kn.setT i0 H64.out.2.2.1))
        clear b12 k12
        refine hKq.out _ _ s2 fun _ => ?_
        clear hKq Kq
        refine take_to (i := 12) (v := .pointer (some ⟨gk, 196 + i0, none⟩)) rfl (by kernel_rfl) (by kernel_rfl) (by kernel_rfl) (fun _ _ _ h => h) (Or.inl ⟨by rfl, fun w' hS => by have h1 : (i0 : Int) < 2 := (by omega); go_simp⟩) s2 (some 41) rfl ?_
        simp only [Act.put, List.setIfInBounds_toArray, List.set_cons_zero, List.set_cons_succ]
        refine wpAnyH_ready (rs := [13]) (by kernel_rfl) (by simp) ?_
        refine AllReadyH.cons rfl (fun Kq hKq => ?_) AllReadyH.nil
        have cf12 := R12.out.kv.kvF (k := i0) (by omega)
        have ff12 := R12.out.kv.free (196 + i0)
        obtain ⟨fo, hfo⟩ : ∃ fo, fo = (K'.setT i0 s64).F i0 := ⟨_, rfl⟩
        rw [← hfo] at cf12
        clear hfo
        go_simp
        have s3 := Lib.hid (s2.out.setCell (p := ⟨gk, 196 + i0, none⟩) (fun _ => rfl) (.bool true))
        have R13 := Lib.hid (R12.out.known ((Kept.refl (fun j => j = gk) w12).setCell (p := ⟨gk, 196 + i0, none⟩) (fun _ => rfl) _) (R12.out.kv.putF (i := i0) (by omega) true) (R12.out.kn.setF i0 true))
        refine hKq.out _ _ s3 fun _ => ?_
        clear hKq Kq cf12 ff12
        refine wpAnyH_done (by kernel_rfl) ?_ _
        have hrd : rdSteps f (l.drop (p + 65)) ((K'.setT i0 s64).setF i0 true) = R := by
          rw [← HR.out, rdSteps_more HE.out.1 HG.out.1 (by rw [HLf.out.2, ← H64.out.2.2.2.2]; exact HOK.out), HE.out.2.1, Int.toNat_natCast, HLf.out.2, ← H64.out.2.2.2.2, List.drop_drop]
        have HRD := Lib.hid hrd
        clear hrd
        go_wp2_with fail
        go_roundw
        case rel => exact ⟨f, p + 65, (K'.setT i0 s64).setF i0 true, by have h1 := Hmn.out.2; have h2 := HG.out.2; have h3 := HE.out.2.2; rw [List.length_drop] at h1 ⊢; omega, HRD.out, R13.out⟩
        case measure => rw [R13.out.left, HLf.out.1]; have := Hmn.out.1; have := HG.out.2; omega
end Go.Proofs.YtgipngedmblnmaaDoor

namespace Go.Proofs.YtgipngedmblnmaaDoor
open Go.RowKit

theorem bitsK_more' {b : List Int} {k : Nat} (h : k < b.length) (hk : k < 16) : (bitsK b k).set k (b.getD k 0) = bitsK b (k + 1) := by
  unfold bitsK
  rw [show 16 - k = (16 - (k + 1)) + 1 by omega, List.replicate_succ, List.set_append_right _ _ (by rw [List.length_take]; omega), List.length_take, show k - min k b.length = 0 by omega, List.set_cons_zero, takeOne b h, List.append_assoc]
  rfl
theorem bitsK_len' {b : List Int} {k : Nat} (h : k ≤ b.length) (hk : k ≤ 16) : (bitsK b k).length = 16 := by unfold bitsK; rw [List.length_append, List.length_take, List.length_replicate]; omega
theorem loadVar_spec {w : World} {g : Nat} {B : List Int} {v : Value} (h : Box w g 28 (specC B v)) (hB : B.length = 16) : (loadVar 28 ⟨g, 0, none⟩).run Tryd.prog w = .ok (specV B v) w :=
  run_loadVar_row w g 28 28 _ (0, 0) _ h Tryd.underlying28 rfl (by rw [spec_size, specC_size hB])
theorem Rd.above {lo : Nat} {w0 wr w' : World} {g s gk : Nat} {A : Option Addr} {n c : Nat} {l : List Int} {p p0 : Nat} {K : Kv} {X : Nat → Value} (h : Rd lo w0 wr g s gk A n c l p K X) (h0 : Rd lo w0 w0 g s gk A n c l p0 K X) {B : Nat} (k : Below B wr w') (hB : w0.heap.size ≤ B) : Rd lo w0 w' g s gk A n c l p K X := by
  have h1 := h.lts
  have h2 := h.pos
  have kk : Kept (fun i => i = g ∨ i = gk) w0 w' := h.kep.trans ⟨k.os, k.tape, k.output, k.size, fun i hi hn => k.block i (by
    rcases Nat.lt_or_ge i B with h | h
    · exact h
    · exact absurd (show B ≤ i from h) hn)⟩ (fun i hi (e : B ≤ i) => by omega)
  refine ⟨h.own.bel k (by omega), h.src.bel k (by omega), h.kv.bel k (by omega), h0.kn.kept kk (fun i e cs hb => ?_), h0.sl.kept kk (fun b hb e => by rcases e with rfl | rfl; exact hb.2.1 rfl; exact hb.2.2 rfl), h.tab.bel k (by omega), kk, h.le, h.few, h.lts, h.pos, h.low⟩
  rcases e with rfl | rfl
  · exact h0.own.apart hb (by decide) rfl
  · exact h0.kv.apart hb (by decide) rfl

/-- a specification was read, or the bytes are too few -/
def TabE (lo : Nat) (w : World) (g s gk : Nat) (A : Option Addr) (n c : Nat) (l : List Int) (p : Nat) (K : Kv) (X : Nat → Value) (e : Ending) (w' : World) : Prop :=
  Kept (fun i => i = g) w w' ∧ ((n < p + 16 + allN (l.drop p) 16 ∧ e = .panicked (gaveUp s 3)) ∨
    (p + 16 + allN (l.drop p) 16 ≤ n ∧ ∃ A' c', e = .returned (specV ((l.drop p).take 16) (.slice A' (allN (l.drop p) 16) c')) ∧ Il w' A' (allN (l.drop p) 16) c' ((l.drop (p + 16)).take (allN (l.drop p) 16)) ∧
      (∀ b off, A' = some ⟨b, off, none⟩ → w.heap.size ≤ b ∧ ∃ cs, Box w' b 3 cs) ∧ Rd lo w w' g s gk A n c l (p + 16 + allN (l.drop p) 16) K X))
theorem Rd.kepg {lo : Nat} {w0 wr : World} {g s gk : Nat} {A : Option Addr} {n c : Nat} {l : List Int} {p p0 : Nat} {K : Kv} {X : Nat → Value} (h : Rd lo w0 wr g s gk A n c l p K X) (h0 : Rd lo w0 w0 g s gk A n c l p0 K X) : Kept (fun i => i = g) w0 wr :=
  ⟨h.kep.os, h.kep.tape, h.kep.output, h.kep.size, fun i hi hn => by
    by_cases e : i = gk
    · subst e; exact h.kv.trans h0.kv.symm
    · exact h.kep.block i hi (fun o => o.elim hn e)⟩

set_option maxRecDepth 10000 in
set_option maxHeartbeats 6400000 in
theorem readTable_any (lo : Nat) (w : World) (g s gk : Nat) (A : Option Addr) (n c : Nat) (l : List Int) (p : Nat) (K : Kv) (X : Nat → Value) (h : Rd lo w w g s gk A n c l p K X) : Calls Tryd.prog 83 #[.pointer (some ⟨g, 0, none⟩)] w (TabE lo w g s gk A n c l p K X) := by
  have H0 := Lib.hid h
  obtain ⟨bb, hbb⟩ : ∃ bb, bb = l.drop p := ⟨_, rfl⟩
  have hbl : bb.length = n - p := by rw [hbb, List.length_drop, h.len]
  have hbf : Fit bb := by rw [hbb]; exact h.sl.bts.fit.drop p
  have hbg : ∀ k, bb.getD k 0 = l.getD (p + k) 0 := fun k => by rw [hbb, List.getD_eq_getElem?_getD, List.getD_eq_getElem?_getD, List.getElem?_drop]
  have HBB := Lib.hid (And.intro hbb (And.intro hbl (And.intro hbf (And.intro hbg (And.intro h.le h.few)))))
  obtain ⟨Zp, hZp⟩ : ∃ Z, Z = zeroC := ⟨_, rfl⟩
  have hzp' : ∀ w, (zeroValue 28).run Tryd.prog w = .ok (.agg Zp) w := fun w => by rw [hZp]; exact zero25 w
  obtain ⟨gs, hgs⟩ : ∃ gs, gs = w.heap.size := ⟨_, rfl⟩
  obtain ⟨w1, hw1⟩ : ∃ x, w.alloc (.cells Zp 28) = x := ⟨_, rfl⟩
  have b1 : Box w1 gs 28 (specC (bitsK bb 0) (.slice none 0 0)) := by rw [hgs, ← hw1, hZp, bitsK_zero, ← zeroC_spec]; exact Box.made _ _ _
  have r1 : Rd lo w w1 g s gk A n c l (p + 0) K X := h.on (by rw [← hw1]; exact on_alloc _ _)
  have H1 := Lib.hid (And.intro hw1 (And.intro r1 (And.intro b1 hgs)))
  clear hbb hbl hbf hbg h hZp hgs hw1 b1 r1
  go_enter Tryd.func83, Tryd.ntmps83
  go_wp2_with fail
  rw [H1.out.1, ← H1.out.2.2.2]
  go_loopw [3, 5] (fun t i wi => ∃ k : Nat, k ≤ 16 ∧ k ≤ bb.length ∧ t = .int .i64 ((allN bb k : Nat) : Int) ∧ i = .int .i64 ((k : Nat) : Int) ∧ Rd lo w wi g s gk A n c l (p + k) K X ∧ Box wi gs 28 (specC (bitsK bb k) (.slice none 0 0))) (fun _ i _ => 16 - (intOf i).toNat)
  case atStart => exact ⟨0, by omega, by omega, rfl, rfl, H1.out.2.1, H1.out.2.2.1⟩
  case round =>
    obtain ⟨k, hk, hkb, rfl, rfl, hrk⟩ := hrel
    have HRk := Lib.hid hrk
    clear hrk
    have hal := allN_le HBB.out.2.2.1 (k := k)
    by_cases hk16 : k < 16
    · by_cases hkn : k < bb.length
      · have HN := Lib.hid (num1 lo wr g s gk A n c l (p + k) K X HRk.out.1.fresh (by have := HBB.out.2.1; omega))
        rw [← HBB.out.2.2.2.1 k] at HN
        have hbz := HBB.out.2.2.1.getD k
        have hmo := bitsK_more' hkn hk16
        have hpu := fun z => spec_put (bitsK_len' hkb hk) hk16 (.slice none 0 0) z
        have hnx : allN bb (k + 1) = allN bb k + (bb.getD k 0).toNat := rfl
        obtain ⟨z, hz⟩ : ∃ z, z = bb.getD k 0 := ⟨_, rfl⟩
        rw [← hz] at HN hbz hmo hnx
        obtain ⟨S, hS⟩ : ∃ S, S = allN bb k := ⟨_, rfl⟩
        rw [← hS] at hnx hal ⊢
        obtain ⟨bz0, bz1⟩ := hbz
        have HX := Lib.hid (And.intro hmo (And.intro hpu hnx))
        clear hmo hpu hnx hz hS
        go_wp2_with fail
        refine Calls.mono HN.out ?_
        rintro e w7 ⟨rfl, r7, k7⟩
        have hb7 : Box w7 gs 28 (specC (bitsK bb k) (.slice none 0 0)) := k7.box HRk.out.2 (by have := HRk.out.2.apart HRk.out.1.own (by decide); omega)
        have R7 := Lib.hid (And.intro (HRk.out.1.trans r7) hb7)
        have c5 := (hb7.cell k).trans (specC_at (bitsK_len' hkb hk) hk16)
        have f5 := hb7.free k
        obtain ⟨old, hold⟩ : ∃ o, o = (bitsK bb k).getD k 0 := ⟨_, rfl⟩
        rw [← hold] at c5
        have hk16' : (k : Int) < 16 := by omega
        clear r7 k7 hb7 hold HN
        go_wp2_with fail
        have k8 : Kept (fun i => i = gs) w7 (w7.setCell ⟨gs, k, none⟩ (.int .i64 z)) := (Kept.refl (fun i => i = gs) w7).setCell (p := ⟨gs, k, none⟩) (fun _ => rfl) _
        have hp8 := R7.out.2.put k (.int .i64 z)
        rw [HX.out.2.1, HX.out.1] at hp8
        have H8 := Lib.hid (And.intro (R7.out.1.mine k8 (by rw [H1.out.2.2.2]; omega) (fun cs hb => hb.apart R7.out.2 (by decide) rfl)) hp8)
        clear k8 hp8
        go_roundw
        case rel => exact ⟨k + 1, by omega, by omega, by rw [HX.out.2.2]; go_num, by go_num, H8.out⟩
        case measure => simp [intOf]; omega
      · have HN := Lib.hid (num1_up lo wr g s gk A n c l (p + k) K X HRk.out.1.fresh (by have := HBB.out.2.1; omega))
        have hsh : n < p + 16 + allN bb 16 := by have := HBB.out.2.1; omega
        have HSh := Lib.hid hsh
        clear hsh
        obtain ⟨S, hS⟩ : ∃ S, S = allN bb k := ⟨_, rfl⟩
        rw [← hS] at hal ⊢
        clear hS
        go_wp2_with fail
        refine Calls.mono HN.out ?_
        rintro e w7 ⟨rfl, k7⟩
        exact ⟨rfl, (HRk.out.1.kepg H0.out).trans k7 (fun _ _ e => absurd e (fun e => e)), .inl ⟨by rw [← HBB.out.1]; exact HSh.out, rfl⟩⟩
    · have ek : k = 16 := by omega
      obtain ⟨S, hS⟩ : ∃ S, S = allN bb 16 := ⟨_, rfl⟩
      obtain ⟨B, hB⟩ : ∃ B, B = bb.take 16 := ⟨_, rfl⟩
      have hb16 := HRk.out.2
      rw [ek] at hb16 hal hkb ⊢
      rw [bitsK_all, ← hB] at hb16
      rw [← hS] at hal ⊢
      have hBl : B.length = 16 := by rw [hB, List.length_take]; omega
      have r16 := HRk.out.1
      rw [ek] at r16
      have H16 := Lib.hid (And.intro r16 (And.intro hb16 (And.intro hS (And.intro hB (And.intro hBl (show 16 ≤ bb.length from hkb))))))
      have hgl : gs + 1 ≤ wr.heap.size := hb16.lt
      obtain ⟨V, hV⟩ : ∃ V, V = l.drop (p + 16) := ⟨_, rfl⟩
      have hVl : V.length = n - (p + 16) := by rw [hV, List.length_drop, H0.out.len]
      have hVg : ∀ j, V.getD j 0 = l.getD (p + 16 + j) 0 := fun j => by rw [hV, List.getD_eq_getElem?_getD, List.getD_eq_getElem?_getD, List.getElem?_drop]
      have HV := Lib.hid (And.intro hV (And.intro hVl hVg))
      clear ek hb16 hS hB hBl r16 hkb HRk hV hVl hVg
      go_wp2_with fail
      go_loopw [21] (fun i wi => ∃ (j : Nat) (A2 : Option Addr) (c2 : Nat), j ≤ S ∧ j ≤ V.length ∧ i = .int .i64 ((j : Nat) : Int) ∧ Rd lo w wi g s gk A n c l (p + 16 + j) K X ∧ Box wi gs 28 (specC B (.slice A2 j c2)) ∧ wi.ownsRow (gs + 1) 3 1 (.slice A2 j c2) j (cellsI (V.take j)) ∧ gs + 1 ≤ wi.heap.size) (fun i _ => S - (intOf i).toNat)
      case atStart => exact ⟨0, none, 0, by omega, by omega, rfl, H16.out.1, H16.out.2.1, World.ownsRow_nil _ _ _ _, hgl⟩
      case round =>
        obtain ⟨j, A2, c2, hj, hjV, rfl, hvs⟩ := hrel
        have HVs := Lib.hid hvs
        clear hvs
        by_cases hjS : j < S
        · by_cases hjn : j < V.length
          · have rd0 := HVs.out.1.on (on_drew wr)
            have HN := Lib.hid (num1 lo wr.drew g s gk A n c l (p + 16 + j) K X rd0.fresh (by have := HV.out.2.1; omega))
            rw [← HV.out.2.2 j] at HN
            have hfz := H0.out.fit (p + 16 + j)
            rw [← HV.out.2.2 j] at hfz
            have htk := takeOne V hjn
            obtain ⟨z, hz⟩ : ∃ z, z = V.getD j 0 := ⟨_, rfl⟩
            rw [← hz] at HN htk hfz
            have HX := Lib.hid htk
            have c16 : wr.cell? ⟨gs, 16, none⟩ = some (.slice A2 j c2) := (HVs.out.2.1.cell 16).trans (specC_last H16.out.2.2.2.2.1)
            have hjS' : (j : Int) < (S : Int) := by omega
            have hj6 : j + 1 ≤ 1000000 := by omega
            clear htk hz rd0
            go_upto_region 10 with fail
            go_region_law
              (first
                | (go_simp
                   go_at_call 40
                   with_reducible refine Calls.mono HN.out ?_
                   rintro e w7 ⟨rfl, r7, k7⟩
                   have hne7 : gs ≠ g := HVs.out.2.1.apart HVs.out.1.own (by decide)
                   have b7 : Box w7 gs 28 (specC B (.slice A2 j c2)) := k7.box (HVs.out.2.1.on (on_drew wr)) hne7
                   have c7 : w7.cell? ⟨gs, 16, none⟩ = some (.slice A2 j c2) := (b7.cell 16).trans (specC_last H16.out.2.2.2.2.1)
                   have c7a : ∀ o, (w7.alloc o).cell? ⟨gs, 16, none⟩ = some (.slice A2 j c2) := fun o => ((b7.alloc o).cell 16).trans (specC_last H16.out.2.2.2.2.1)
                   have M7 := Lib.hid (And.intro ((HVs.out.1.on (on_drew wr)).trans r7) (And.intro b7 (And.intro (show w7.ownsRow (gs + 1) 3 1 (.slice A2 j c2) j (cellsI (V.take j)) from ownsRow_block HVs.out.2.2.1 (fun g' cs e hh => k7.block g' (Array.getElem?_eq_some_iff.1 hh).1 (fun e' => HVs.out.1.own.apart (show Box wr g 3 cs from by rw [← e']; exact hh) (by decide) rfl))) (show gs + 1 ≤ w7.heap.size from Nat.le_trans HVs.out.2.2.2 k7.size))))
                   clear r7 k7 hne7 b7)
                | ((refine step_append_il rfl (.tmp 24) (.tmp 27) rfl (gs + 1) (.slice A2 j c2) j (V.take j) rfl (ownsRow_block M7.out.2.2.1 (fun g' cs _ hh => (on_alloc w7 (.cells #[.int .i64 z] 3)).block g' (Array.getElem?_eq_some_iff.1 hh).1)) (some ⟨w7.heap.size, 0, none⟩) 1 1 [z] rfl (il_of_box (Box.made w7 3 (cellsI [z]).toArray) rfl (show 1 ≤ maxLen by decide)).ia ?hs ?hb (some 28) rfl ?_)
                   case hs => exact hj6
                   case hb => exact Nat.le_trans M7.out.2.2.2 (on_alloc w7 (.cells #[.int .i64 z] 3)).size
                   intro v8 w8 hown8 bq
                   obtain ⟨A8, c8, hv8⟩ := own_slice hown8
                   subst hv8
                   have b8 : Box w8 gs 28 (specC B (.slice A2 j c2)) := (M7.out.2.1.alloc _).bel bq (Nat.lt_succ_self gs)
                   have cc8 : w8.cell? ⟨gs, 16, none⟩ = some (.slice A2 j c2) := (b8.cell 16).trans (specC_last H16.out.2.2.2.2.1)
                   have f8 : w8.frozen? ⟨gs, 16, none⟩ = false := b8.free 16
                   have H8 := Lib.hid (And.intro hown8 (And.intro bq b8))
                   clear hown8 bq b8))
            all_goals
              have ho8 := H8.out.1
              rw [← HX.out] at ho8
              have hww : w.heap.size ≤ gs + 1 := by rw [H1.out.2.2.2]; omega
              have r8 := (M7.out.1.on (on_alloc w7 (.cells #[.int .i64 z] 3))).above H0.out H8.out.2.1 hww
              have k9 : Kept (fun i => i = gs) w8 (w8.setCell ⟨gs, 16, none⟩ (.slice A8 (j + 1) c8)) := (Kept.refl (fun i => i = gs) w8).setCell (p := ⟨gs, 16, none⟩) (fun _ => rfl) _
              have b9 := H8.out.2.2.put 16 (.slice A8 (j + 1) c8)
              rw [spec_last H16.out.2.2.2.2.1] at b9
              have o9 : (w8.setCell ⟨gs, 16, none⟩ (.slice A8 (j + 1) c8)).ownsRow (gs + 1) 3 1 (.slice A8 (j + 1) c8) (j + 1) (cellsI (V.take (j + 1))) := ownsRow_block ho8 (fun g' cs e hh => Below.heap_setCell w8 ⟨gs, 16, none⟩ _ g' (fun e' => by
                have h1 := (own_block3 ho8 e).1
                have e2 : g' = gs := e'
                omega))
              have HN9 := Lib.hid (And.intro (r8.mine k9 (by rw [H1.out.2.2.2]; omega) (fun cs hb => hb.apart H8.out.2.2 (by decide) rfl)) (And.intro b9 (And.intro o9 (show gs + 1 ≤ (w8.setCell ⟨gs, 16, none⟩ (.slice A8 (j + 1) c8)).heap.size by simp [World.setCell]; exact H8.out.2.2.lt))))
              clear ho8 r8 k9 b9 o9 hww
              go_wp2_with fail
              go_roundw
              case rel =>
                (repeat apply Exists.intro)
                exact ⟨⟨j + 1, _, _, by omega, by omega, by go_num, HN9.out⟩, rfl⟩
              case measure => simp [intOf]; omega
          · have HN := Lib.hid (num1_up lo wr.drew g s gk A n c l (p + 16 + j) K X (HVs.out.1.on (on_drew wr)).fresh (by have := HV.out.2.1; omega))
            have hsh : n < p + 16 + allN bb 16 := by have := HV.out.2.1; have h2 := H16.out.2.2.1; omega
            have HSh := Lib.hid hsh
            clear hsh
            have c16 : wr.cell? ⟨gs, 16, none⟩ = some (.slice A2 j c2) := (HVs.out.2.1.cell 16).trans (specC_last H16.out.2.2.2.2.1)
            have hjS' : (j : Int) < (S : Int) := by omega
            go_upto_region 10 with fail
            go_region_dies
            all_goals
              refine Calls.mono HN.out ?_
              rintro e w7 ⟨rfl, k7⟩
              exact ⟨rfl, ((HVs.out.1.on (on_drew wr)).kepg H0.out).trans k7 (fun _ _ e => absurd e (fun e => e)), .inl ⟨by rw [← HBB.out.1]; exact HSh.out, rfl⟩⟩
        · have ej : j = S := by omega
          subst ej
          obtain ⟨A9, c9, e9, il9, lo9⟩ := il_of_own2 HVs.out.2.2.1
          cases e9
          have ho := HVs.out.2.2.1
          have hbx : ∀ b off, A2 = some ⟨b, off, none⟩ → w.heap.size ≤ b ∧ ∃ cs, Box wr b 3 cs := fun b off e => by
            rcases ho.2 with ⟨e0, _⟩ | ⟨g', cap, cur, e0, h1, hh, _⟩
            · cases e0
              cases e
            · cases e0
              cases e
              exact ⟨by have := H1.out.2.2.2; omega, _, hh⟩
          have hle : p + 16 + j ≤ n := HVs.out.1.le
          have H9 := Lib.hid (And.intro il9 (And.intro hbx hle))
          obtain ⟨Vs, hVs⟩ : ∃ v, v = specV B (.slice A2 j c2) := ⟨_, rfl⟩
          have hld := load_spec HVs.out.2.1 H16.out.2.2.2.2.1
          rw [← hVs] at hld
          have HLD := Lib.hid (And.intro hld hVs)
          clear il9 lo9 ho hbx hle hVs hld
          go_wp2_with (first
            | (with_reducible refine wpList_load_to (op := ⟨some 31, _, _, _, _, _⟩) rfl 28 (.tmp 2) rfl (.pointer (some ⟨gs, 0, none⟩)) rfl Vs HLD.out.1 ?_)
            | ((with_reducible refine wpList_store_spec (o := ⟨none, _, _, _, _, _⟩) rfl (.tmp 2) (.tmp 31) rfl rfl gs B (.slice A2 j c2) rfl ?hy (specC B (.slice A2 j c2)) HVs.out.2.1 (specC_size H16.out.2.2.2.2.1) H16.out.2.2.2.2.1 rfl ?_)
               case hy => exact HLD.out.2
               intro w9 b9 k9
               have HW9 := Lib.hid (And.intro b9 k9)
               clear b9 k9)
            | fail)
          refine bodyPost_ret (v := specV B (.slice A2 j c2)) (results_c (fn := Tryd.f83) Tryd.results83 _ _ gs _ rfl (loadVar_spec HW9.out.1 H16.out.2.2.2.2.1)) rfl ?_
          have nb3 : ∀ b cs, Box wr b 3 cs → b ≠ gs := fun b cs hb => hb.apart HVs.out.2.1 (by decide)
          have r9 := HVs.out.1.mine HW9.out.2 (by rw [H1.out.2.2.2]; omega) (fun cs hb => nb3 gs cs hb rfl)
          refine ⟨r9.kepg H0.out, .inr ?_⟩
          rw [← HBB.out.1, ← H16.out.2.2.1, ← HV.out.1, ← H16.out.2.2.2.1]
          refine ⟨H9.out.2.2, A2, c2, rfl, H9.out.1.kept HW9.out.2 (fun b off e e' => ?_), fun b off e => ?_, r9⟩
          · obtain ⟨_, cs, hb⟩ := H9.out.2.1 b off e
            exact nb3 b cs hb e'
          · obtain ⟨h1, cs, hb⟩ := H9.out.2.1 b off e
            exact ⟨h1, cs, HW9.out.2.box hb (nb3 b cs hb)⟩
end Go.Proofs.YtgipngedmblnmaaDoor

namespace Go.Proofs.YtgipngedmblnmaaDoor
open Go.RowKit

theorem wp_store_S' {o : Oper} {a : Act} {w : World} {Kp : Act → World → Prop} {Q : Exit → Act → World → Prop} (x y : Operand) (ho : o.op = .store 28 x y) (hd : o.dst = none) {g : Nat} {K : Kv} {X : Nat → Value}
    (h : Box w g 46 (kvC K X).toArray) {j : Nat} (hj : j < 4) (B V : List Int) (hB : B.length = 16) (v : Value) (hv : v.oneCell' = true) (hx : a.eval x = .pointer (some ⟨g, 128 + 17 * j, none⟩)) (hy : a.eval y = specV B v)
    (hK : ∀ w', Box w' g 46 (kvC (K.setS j B V) (updX X j v)).toArray → Kept (fun i => i = g) w w' → Kp a w') : Oper.wp Tryd.prog o a w Kp Q := by
  refine wp_store_mid 28 x y ho g (128 + 17 * j) (specC B v) hx hy (box_there h (by rw [specC_size hB, kvC_size]; omega)) (by rw [spec_size, specC_size hB]) (specC_one hv) ?_
  rw [hd]
  exact hK _ (h.putS hj hB v) (kept_setCells _ _ _ _)
theorem rdSpecs_who' {f : Nat} {b : List Int} {K : Kv} (h : b ≠ []) (h4 : 1 < b.getD 0 0 % 16 ∨ 1 < b.getD 0 0 / 16) : rdSpecs (f + 1) b K = none := by
  by_cases h1 : b.length < 17
  · exact rdSpecs_few h h1
  by_cases h2 : b.length < 17 + allN (b.drop 1) 16
  · exact rdSpecs_cut h h1 h2
  by_cases h3 : Valid ((b.drop 1).take 16) ((b.drop 17).take (allN (b.drop 1) 16))
  · exact rdSpecs_who h h1 h2 h3 h4
  · exact rdSpecs_bad h h1 h2 h3
theorem wpList_store_spec_new {ops : Array Oper} {rest : List Oper} {o : Oper} {a : Act} {w : World} {Q : Exit → Act → World → Prop} (hgd : o.guard = none) (x y : Operand) (ho : o.op = .store 28 x y) (hd : o.dst = none)
    (g : Nat) (B : List Int) (v : Value) (hx : a.eval x = .pointer (some ⟨g, 0, none⟩)) (hy : a.eval y = specV B v) (hg : Box w g 28 zeroC) (hB : B.length = 16) (hv : v.oneCell' = true)
    (h : ∀ w', Box w' g 28 (specC B v) → Kept (fun i => i = g) w w' → wpList Tryd.prog ops Q rest a w') : wpList Tryd.prog ops Q (o :: rest) a w :=
  wpList_store_spec hgd x y ho hd g B v hx hy zeroC hg rfl hB hv h

theorem and15 (i : Nat) (h : i ≤ 255) : bits .and .i64 (i : Int) 15 = ((i % 16 : Nat) : Int) := by
  have H : ∀ j : Fin 256, bits .and .i64 ((j.val : Nat) : Int) 15 = ((j.val % 16 : Nat) : Int) := by decide +kernel
  exact H ⟨i, by omega⟩
set_option maxRecDepth 10000 in
set_option maxHeartbeats 6400000 in
theorem readTables_any (lo : Nat) (w : World) (g s gk : Nat) (A : Option Addr) (n c : Nat) (l : List Int) (K : Kv) (X : Nat → Value) (h : Rd lo w w g s gk A n c l 0 K X) : Calls Tryd.prog 77 #[.pointer (some ⟨g, 0, none⟩), .pointer (some ⟨gk, 0, none⟩)] w (BodyE lo w g s gk A n c l (rdSpecs (l.length + 1) l K)) := by
  obtain ⟨R, hRd⟩ : ∃ R, R = rdSpecs (l.length + 1) l K := ⟨_, rfl⟩
  rw [← hRd]
  have HRd := Lib.hid hRd
  have H0 := Lib.hid h
  obtain ⟨Zp, hZp⟩ : ∃ Z, Z = zeroC := ⟨_, rfl⟩
  have hzp' : ∀ w, (zeroValue 28).run Tryd.prog w = .ok (.agg Zp) w := fun w => by rw [hZp]; exact zero25 w
  have HZp := Lib.hid hZp
  clear h hRd hZp
  go_enter Tryd.func77, Tryd.ntmps77
  go_wp2_with fail
  go_loopw [4] (fun _ wr => ∃ f p K' X', (l.drop p).length < f ∧ rdSpecs f (l.drop p) K' = R ∧ Rd lo w wr g s gk A n c l p K' X') (fun _ wr => leftOf n g wr)
  case atStart => exact ⟨l.length + 1, 0, K, X, by simp, HRd.out.symm, H0.out⟩
  case round =>
    obtain ⟨f, p, K', X', hf, hR, hS⟩ := hrel
    have hlen := hS.len
    have hle := hS.le
    have HS := Lib.hid hS
    have HR := Lib.hid hR
    clear hS hR
    obtain ⟨f, rfl⟩ : ∃ f', f = f' + 1 := ⟨f - 1, by omega⟩
    have HL := Lib.hid (left_any lo wr g s gk A n c l p K' X' HS.out.fresh)
    obtain ⟨m, hm⟩ : ∃ m, m = n - p := ⟨_, rfl⟩
    rw [← hm] at HL
    have hmn : n = p + m := by omega
    have Hmn := Lib.hid (And.intro hmn hf)
    clear hm hle hf hmn
    go_wp2_with fail
    refine Calls.mono HL.out ?_
    rintro e w2 ⟨rfl, b2⟩
    have H2 := Lib.hid (HS.out.on b2)
    clear b2 HL
    by_cases h0 : m = 0
    · subst h0
      have hr : R = some K' := by rw [← HR.out, List.drop_eq_nil_of_le (by have := Hmn.out; omega)]; exact rdSpecs_end
      have HRn := Lib.hid hr
      clear hr
      go_wp2_with fail
      go_end0
      exact ⟨H2.out.kep, .inr ⟨rfl, K', X', p, H2.out, by rw [HRn.out, if_pos (by have := Hmn.out; omega)]⟩⟩
    have hm0 : (0 : Int) < (m : Int) := by omega
    have hne : l.drop p ≠ [] := fun e => by have := congrArg List.length e; rw [List.length_drop] at this; simp at this; have := Hmn.out; omega
    have hd0 : (l.drop p).getD 0 0 = l.getD p 0 := by rw [List.getD_eq_getElem?_getD, List.getElem?_drop, Nat.add_zero, List.getD_eq_getElem?_getD]
    have hfit := H2.out.fit p
    have HN := Lib.hid (num1 lo w2 g s gk A n c l p K' X' H2.out.fresh (by have := Hmn.out; omega))
    obtain ⟨i0, hi0⟩ : ∃ i0 : Nat, (i0 : Int) = l.getD p 0 := ⟨(l.getD p 0).toNat, by omega⟩
    rw [← hi0] at HN hd0 hfit
    have HE := Lib.hid (And.intro hne (And.intro hd0 hlen))
    have hi255 : i0 ≤ 255 := by omega
    clear hne hd0 hlen hfit hi0
    go_wp2_with fail
    refine Calls.mono HN.out ?_
    rintro e w3 ⟨rfl, r3, _⟩
    have H3 := Lib.hid (H2.out.trans r3)
    clear r3 HN
    have HQ := Lib.hid (And.intro (require_yes w3 g 4) (require_no w3 g s A n c (p + 1) 4 (by decide) H3.out.cur))
    obtain ⟨q, hq⟩ : ∃ q, q = i0 % 16 := ⟨_, rfl⟩
    obtain ⟨kd, hkd⟩ : ∃ kd, kd = i0 / 16 := ⟨_, rfl⟩
    have hshr : (i0 : Int) / 16 = (kd : Int) := by omega
    have hand := and15 i0 hi255
    rw [← hq] at hand
    have HQK := Lib.hid (And.intro hq hkd)
    clear hq hkd
    by_cases hwho : ¬ (q < 2 ∧ kd ≤ 1)
    · have hr : R = none := by rw [← HR.out]; exact rdSpecs_who' HE.out.1 (by rw [HE.out.2.1]; have := HQK.out.1; have := HQK.out.2; omega)
      have HRn := Lib.hid hr
      clear hr
      by_cases hk1 : (kd : Int) ≤ 1
      · have hq2 : (q : Int) < 2 → False := fun h => hwho ⟨by omega, by omega⟩
        have hq3 : decide ((q : Int) < 2) = false := decide_eq_false hq2
        clear hq2 hwho
        go_wp2_with fail
        first | rw [hq3] | skip
        refine Calls.mono HQ.out.2 ?_
        rintro e w4 ⟨rfl, k4⟩
        exact ⟨rfl, H3.out.kep.trans k4 (fun _ _ e => absurd e (fun e => e)), .inl ⟨HRn.out, 4, by decide, rfl⟩⟩
      · have hk2 : decide ((kd : Int) ≤ 1) = false := decide_eq_false hk1
        clear hk1 hwho
        go_wp2_with fail
        first | rw [hk2] | skip
        refine Calls.mono HQ.out.2 ?_
        rintro e w4 ⟨rfl, k4⟩
        exact ⟨rfl, H3.out.kep.trans k4 (fun _ _ e => absurd e (fun e => e)), .inl ⟨HRn.out, 4, by decide, rfl⟩⟩
    have hq2 : (q : Int) < 2 := by omega
    have hk1 : (kd : Int) ≤ 1 := by omega
    clear hwho
    have HT := Lib.hid (readTable_any lo w3 g s gk A n c l (p + 1) K' X' H3.out.fresh)
    have e1 : (l.drop p).drop 1 = l.drop (p + 1) := by rw [List.drop_drop]
    have hL : leftOf n g wr = m := by rw [HS.out.left]; have := Hmn.out; omega
    have HLf := Lib.hid hL
    have He1 := Lib.hid e1
    clear e1 hL
    go_wp2_with fail
    refine Calls.mono HQ.out.1 ?_
    rintro e w4 ⟨rfl, rfl⟩
    clear HQ
    go_wp2_with fail
    refine Calls.mono HT.out ?_
    rintro e w4 ⟨k4, ⟨hsh, rfl⟩ | ⟨hle4, A', c', rfl, il4, hb4, r4⟩⟩
    · have hr : R = none := by
        rw [← HR.out]
        have hlen := HE.out.2.2
        by_cases h17 : (l.drop p).length < 17
        · exact rdSpecs_few HE.out.1 h17
        · exact rdSpecs_cut HE.out.1 h17 (by rw [He1.out, List.length_drop]; omega)
      exact ⟨rfl, H3.out.kep.trans k4 (fun _ _ e => .inl e), .inl ⟨hr, 3, by decide, rfl⟩⟩
    have HT4 := Lib.hid (And.intro (H3.out.trans r4) (And.intro il4 (And.intro hle4 (show ∀ b off, A' = some ⟨b, off, none⟩ → lo ≤ b ∧ ∃ cs, Box w4 b 3 cs from fun b off e => ⟨Nat.le_trans H3.out.fresh.low (hb4 b off e).1, (hb4 b off e).2⟩))))
    clear HT k4 il4 hle4 hb4 r4
    obtain ⟨B, hB⟩ : ∃ B, B = (l.drop (p + 1)).take 16 := ⟨_, rfl⟩
    obtain ⟨V, hV⟩ : ∃ V, V = (l.drop (p + 1 + 16)).take (allN (l.drop (p + 1)) 16) := ⟨_, rfl⟩
    rw [← hV] at HT4
    rw [← hB]
    have hBl : B.length = 16 := by rw [hB, List.length_take, List.length_drop, HE.out.2.2]; have := HT4.out.2.2.1; omega
    have HB := Lib.hid (And.intro hBl (And.intro hB hV))
    obtain ⟨Vs, hVs⟩ : ∃ v, v = specV B (.slice A' (allN (l.drop (p + 1)) 16) c') := ⟨_, rfl⟩
    rw [← hVs]
    have HVs := Lib.hid hVs
    obtain ⟨gs, hgs⟩ : ∃ gs, gs = w4.heap.size := ⟨_, rfl⟩
    have hgw : w.heap.size ≤ gs := by rw [hgs]; exact HT4.out.1.kep.size
    have HGs := Lib.hid hgs
    clear hB hV hBl hVs hgs
    go_wp2_with (first
      | ((with_reducible refine wpList_store_spec_new (o := ⟨none, _, _, _, _, _⟩) rfl (.tmp 7) (.tmp 26) rfl rfl w4.heap.size B (.slice A' (allN (l.drop (p + 1)) 16) c') rfl ?hy ?hg HB.out.1 rfl ?_)
         case hy => exact HVs.out
         case hg => rw [← HZp.out]; exact Box.made _ _ _
         intro w6 b6 k6
         rw [← HGs.out] at b6 k6
         have r6 := (HT4.out.1.on (on_alloc w4 (.cells Zp 28))).mine k6 hgw (fun cs hb => hb.apart (show Box (w4.alloc (.cells Zp 28)) gs 28 Zp by rw [HGs.out]; exact Box.made _ _ _) (by decide) rfl)
         have il6 := (HT4.out.2.1.on (on_alloc w4 (.cells Zp 28))).kept k6 (fun b off e e' => by
           obtain ⟨_, cs, hb⟩ := HT4.out.2.2.2 b off e
           have := hb.lt
           have := HGs.out
           omega)
         have hb6 : ∀ b off, A' = some ⟨b, off, none⟩ → lo ≤ b ∧ ∃ cs, Box w6 b 3 cs := fun b off e => by
           obtain ⟨h1, cs, hb⟩ := HT4.out.2.2.2 b off e
           exact ⟨h1, cs, k6.box (hb.alloc _) (fun e' => by have := hb.lt; have := HGs.out; omega)⟩
         have H6 := Lib.hid (And.intro r6 (And.intro b6 (And.intro il6 hb6)))
         have hld := load_spec b6 HB.out.1
         rw [← HVs.out] at hld
         have HLD := Lib.hid hld
         rw [← HGs.out]
         clear b6 k6 r6 il6 hb6 hld)
      | (with_reducible refine wpList_load_to (op := ⟨some 28, _, _, _, _, _⟩) rfl 28 (.tmp 7) rfl (.pointer (some ⟨gs, 0, none⟩)) rfl Vs HLD.out ?_)
      | fail)
    have hall : allN (l.drop (p + 1)) 16 ≤ 5000 := by have := allN_le (H0.out.sl.bts.fit.drop (p + 1)) (k := 16); omega
    have hri := hright_any w6 B V A' (allN (l.drop (p + 1)) 16) c' HB.out.1 H6.out.2.2.1.ia hall
    rw [← HVs.out] at hri
    refine Calls.mono hri ?_
    rintro e w8 ⟨vb, rfl, hv, b8⟩
    have H8 := Lib.hid (And.intro (H6.out.1.on b8) (And.intro (H6.out.2.1.on b8) (And.intro (H6.out.2.2.1.on b8) (show ∀ b off, A' = some ⟨b, off, none⟩ → lo ≤ b ∧ ∃ cs, Box w8 b 3 cs from fun b off e => by
      obtain ⟨h1, cs, hb⟩ := H6.out.2.2.2 b off e
      exact ⟨h1, cs, hb.on b8⟩))))
    have HVv := Lib.hid hv
    clear hri hv b8 hall
    have HQ2 := Lib.hid (And.intro (require_yes w8 g 4) (require_no w8 g s A n c (p + 1 + 16 + allN (l.drop (p + 1)) 16) 4 (by decide) H8.out.1.cur))
    have hA1 : ¬ (l.drop p).length < 17 := by rw [List.length_drop, HE.out.2.2]; have := HT4.out.2.2.1; omega
    have hA2 : ¬ (l.drop p).length < 17 + allN ((l.drop p).drop 1) 16 := by rw [He1.out, List.length_drop, HE.out.2.2]; have := HT4.out.2.2.1; omega
    have hA3 : ((l.drop p).drop 1).take 16 = B := by rw [He1.out, HB.out.2.1]
    have hA4 : ((l.drop p).drop 17).take (allN ((l.drop p).drop 1) 16) = V := by rw [He1.out, HB.out.2.2, List.drop_drop, show p + 17 = p + 1 + 16 by omega]
    have HAA := Lib.hid (And.intro hA1 (And.intro hA2 (And.intro hA3 hA4)))
    clear hA1 hA2 hA3 hA4
    cases vb with
    | false =>
      have hr : R = none := by rw [← HR.out]; exact rdSpecs_bad HE.out.1 HAA.out.1 HAA.out.2.1 (by rw [HAA.out.2.2.1, HAA.out.2.2.2]; exact fun h => by have := HVv.out.2 h; cases this)
      have HRn := Lib.hid hr
      clear hr
      go_wp2_with fail
      refine Calls.mono HQ2.out.2 ?_
      rintro e w9 ⟨rfl, k9⟩
      exact ⟨rfl, H8.out.1.kep.trans k9 (fun _ _ e => absurd e (fun e => e)), .inl ⟨HRn.out, 4, by decide, rfl⟩⟩
    | true =>
      have hmo := rdSpecs_more (K := K') (f := f) HE.out.1 HAA.out.1 HAA.out.2.1 (by rw [HAA.out.2.2.1, HAA.out.2.2.2]; exact HVv.out.1 rfl) (by rw [HE.out.2.1]; have := HQK.out.1; have := HQK.out.2; omega)
      rw [HAA.out.2.2.1, HAA.out.2.2.2, He1.out, HE.out.2.1, List.drop_drop, show p + (17 + allN (l.drop (p + 1)) 16) = p + 1 + 16 + allN (l.drop (p + 1)) 16 by omega] at hmo
      have HMo := Lib.hid hmo
      clear hmo
      go_wp2_with fail
      refine Calls.mono HQ2.out.1 ?_
      rintro e w9 ⟨rfl, rfl⟩
      clear HQ2
      have hgg : gs ≠ gk := H8.out.2.1.apart H8.out.1.kv (by decide)
      rcases (show kd = 0 ∨ kd = 1 by omega) with rfl | rfl
      · clear hshr hand
        go_upto_region 7 with fail
        refine wp_region_held_drew (S := fun w' => Hid (Kept (fun i => i = gk) w8 w')) (by kernel_rfl) (Lib.hid ((Kept.refl _ w8).drew)) fun s0 => ?_
        refine take_to (i := 0) (v := .pointer (some ⟨gk, 0, none⟩)) rfl (by kernel_rfl) (by kernel_rfl) (by kernel_rfl) (fun _ _ _ h => h) (Or.inl ⟨by rfl, fun w' hS => by go_simp⟩) s0 (some 33) rfl ?_
        simp only [Act.put, List.setIfInBounds_toArray, List.set_cons_zero, List.set_cons_succ]
        refine take_to (i := 1) (v := .int .i64 (q : Int)) rfl (by kernel_rfl) (by kernel_rfl) (by kernel_rfl) (fun _ _ _ h => h) (Or.inl ⟨by rfl, fun w' hS => by go_simp⟩) s0 (some 34) rfl ?_
        simp only [Act.put, List.setIfInBounds_toArray, List.set_cons_zero, List.set_cons_succ]
        refine take_to (i := 2) (v := .pointer (some ⟨gk, 0, none⟩)) rfl (by kernel_rfl) (by kernel_rfl) (by kernel_rfl) (fun _ _ _ h => h) (Or.inl ⟨by rfl, fun w' hS => by go_simp⟩) s0 (some 35) rfl ?_
        simp only [Act.put, List.setIfInBounds_toArray, List.set_cons_zero, List.set_cons_succ]
        refine take_to (i := 3) (v := .int .i64 (q : Int)) rfl (by kernel_rfl) (by kernel_rfl) (by kernel_rfl) (fun _ _ _ h => h) (Or.inl ⟨by rfl, fun w' hS => by go_simp⟩) s0 (some 36) rfl ?_
        simp only [Act.put, List.setIfInBounds_toArray, List.set_cons_zero, List.set_cons_succ]
        refine take_to (i := 4) rfl (by kernel_rfl) (by kernel_rfl) (by kernel_rfl) (fun _ _ _ h => h) (yieldsIf_load (by rfl) 28 _ rfl (.pointer (some ⟨gs, 0, none⟩)) rfl Vs (fun w1 h => by rw [HVs.out]; exact load_spec (h.out.box H8.out.2.1 hgg) HB.out.1)) s0 (some 37) rfl ?_
        simp only [Act.put, List.setIfInBounds_toArray, List.set_cons_zero, List.set_cons_succ]
        refine take_to (i := 5) (v := .pointer (some ⟨gk, 0, none⟩)) rfl (by kernel_rfl) (by kernel_rfl) (by kernel_rfl) (fun _ _ _ h => h) (Or.inl ⟨by rfl, fun w' hS => by go_simp⟩) s0 (some 38) rfl ?_
        simp only [Act.put, List.setIfInBounds_toArray, List.set_cons_zero, List.set_cons_succ]
        refine take_to (i := 6) (v := .pointer (some ⟨gk, 0, none⟩)) rfl (by kernel_rfl) (by kernel_rfl) (by kernel_rfl) (fun _ _ _ h => h) (Or.inl ⟨by rfl, fun w' hS => by go_simp⟩) s0 (some 39) rfl ?_
        simp only [Act.put, List.setIfInBounds_toArray, List.set_cons_zero, List.set_cons_succ]
        refine take_to (i := 7) (v := .pointer (some ⟨gk, 128, none⟩)) rfl (by kernel_rfl) (by kernel_rfl) (by kernel_rfl) (fun _ _ _ h => h) (Or.inl ⟨by rfl, fun w' hS => by go_simp⟩) s0 (some 40) rfl ?_
        simp only [Act.put, List.setIfInBounds_toArray, List.set_cons_zero, List.set_cons_succ]
        refine take_to (i := 8) (v := .pointer (some ⟨gk, 128 + 17 * q, none⟩)) rfl (by kernel_rfl) (by kernel_rfl) (by kernel_rfl) (fun _ _ _ h => h) (Or.inl ⟨by rfl, fun w' hS => by have h1 : (q : Int) < 2 := (by omega); go_simp⟩) s0 (some 41) rfl ?_
        simp only [Act.put, List.setIfInBounds_toArray, List.set_cons_zero, List.set_cons_succ]
        refine take_to (i := 10) (v := .pointer (some ⟨gk, 0, none⟩)) rfl (by kernel_rfl) (by kernel_rfl) (by kernel_rfl) (fun _ _ _ h => h) (Or.inl ⟨by rfl, fun w' hS => by go_simp⟩) s0 (some 42) rfl ?_
        simp only [Act.put, List.setIfInBounds_toArray, List.set_cons_zero, List.set_cons_succ]
        refine take_to (i := 11) (v := .pointer (some ⟨gk, 198, none⟩)) rfl (by kernel_rfl) (by kernel_rfl) (by kernel_rfl) (fun _ _ _ h => h) (Or.inl ⟨by rfl, fun w' hS => by go_simp⟩) s0 (some 43) rfl ?_
        simp only [Act.put, List.setIfInBounds_toArray, List.set_cons_zero, List.set_cons_succ]
        refine wpAnyH_ready (rs := [9]) (by kernel_rfl) (by simp) ?_
        refine AllReadyH.cons rfl (fun Kq hKq => ?_) AllReadyH.nil
        rw [if_pos (by rfl)]
        refine wp_store_S' _ _ rfl rfl (H8.out.1.kv.on (on_drew w8)) (j := q) (by omega) B V HB.out.1 (.slice A' (allN (l.drop (p + 1)) 16) c') rfl rfl HVs.out fun w12 b12 k12 => ?_
        have s2 := Lib.hid (s0.out.trans k12 (fun _ _ h => h))
        have R12 := Lib.hid (H8.out.1.known s2.out b12 (H8.out.1.kn.setS q HB.out.1 H8.out.2.2.1 H8.out.2.2.2))
        clear b12 k12
        refine hKq.out _ _ s2 fun _ => ?_
        clear hKq Kq
        refine take_to (i := 12) (v := .pointer (some ⟨gk, 196 + (2 + q), none⟩)) rfl (by kernel_rfl) (by kernel_rfl) (by kernel_rfl) (fun _ _ _ h => h) (Or.inl ⟨by rfl, fun w' hS => by have h1 : (q : Int) < 2 := (by omega); go_simp⟩) s2 (some 44) rfl ?_
        simp only [Act.put, List.setIfInBounds_toArray, List.set_cons_zero, List.set_cons_succ]
        refine wpAnyH_ready (rs := [13]) (by kernel_rfl) (by simp) ?_
        refine AllReadyH.cons rfl (fun Kq hKq => ?_) AllReadyH.nil
        have cf12 := R12.out.kv.kvF (k := (2 + q)) (by omega)
        have ff12 := R12.out.kv.free (196 + (2 + q))
        obtain ⟨fo, hfo⟩ : ∃ fo, fo = (K'.setS q B V).F (2 + q) := ⟨_, rfl⟩
        rw [← hfo] at cf12
        clear hfo
        go_simp
        have s3 := Lib.hid (s2.out.setCell (p := ⟨gk, 196 + (2 + q), none⟩) (fun _ => rfl) (.bool true))
        have R13 := Lib.hid (R12.out.known ((Kept.refl (fun j => j = gk) w12).setCell (p := ⟨gk, 196 + (2 + q), none⟩) (fun _ => rfl) _) (R12.out.kv.putF (i := (2 + q)) (by omega) true) (R12.out.kn.setF (2 + q) true))
        refine hKq.out _ _ s3 fun _ => ?_
        clear hKq Kq cf12 ff12
        refine wpAnyH_done (by kernel_rfl) ?_ _
        have hrd : rdSpecs f (l.drop (p + 1 + 16 + allN (l.drop (p + 1)) 16)) ((K'.setS q B V).setF (2 + q) true) = R := by
          rw [← HR.out, HMo.out, show (2 * (i0 / 16 : Int) + i0 % 16).toNat = q by (have h1 := HQK.out.1; have h2 := HQK.out.2; omega), show (2 + 2 * (i0 / 16 : Int) + i0 % 16).toNat = (2 + q) by (have h1 := HQK.out.1; have h2 := HQK.out.2; omega)]
        have HRD := Lib.hid hrd
        clear hrd
        go_wp2_with fail
        go_roundw
        case rel => exact ⟨f, _, (K'.setS q B V).setF (2 + q) true, _, by have h1 := Hmn.out.2; have h2 := R13.out.le; have h3 := HE.out.2.2; rw [List.length_drop] at h1 ⊢; omega, HRD.out, R13.out⟩
        case measure => rw [R13.out.left, HLf.out]; have := Hmn.out.1; have := R13.out.le; omega

      · clear hshr hand
        go_upto_region 8 with fail
        refine wp_region_held_drew (S := fun w' => Hid (Kept (fun i => i = gk) w8 w')) (by kernel_rfl) (Lib.hid ((Kept.refl _ w8).drew)) fun s0 => ?_
        refine take_to (i := 0) (v := .pointer (some ⟨gk, 0, none⟩)) rfl (by kernel_rfl) (by kernel_rfl) (by kernel_rfl) (fun _ _ _ h => h) (Or.inl ⟨by rfl, fun w' hS => by go_simp⟩) s0 (some 45) rfl ?_
        simp only [Act.put, List.setIfInBounds_toArray, List.set_cons_zero, List.set_cons_succ]
        refine take_to (i := 1) (v := .int .i64 (q : Int)) rfl (by kernel_rfl) (by kernel_rfl) (by kernel_rfl) (fun _ _ _ h => h) (Or.inl ⟨by rfl, fun w' hS => by go_simp⟩) s0 (some 46) rfl ?_
        simp only [Act.put, List.setIfInBounds_toArray, List.set_cons_zero, List.set_cons_succ]
        refine take_to (i := 2) (v := .pointer (some ⟨gk, 0, none⟩)) rfl (by kernel_rfl) (by kernel_rfl) (by kernel_rfl) (fun _ _ _ h => h) (Or.inl ⟨by rfl, fun w' hS => by go_simp⟩) s0 (some 47) rfl ?_
        simp only [Act.put, List.setIfInBounds_toArray, List.set_cons_zero, List.set_cons_succ]
        refine take_to (i := 3) (v := .int .i64 (q : Int)) rfl (by kernel_rfl) (by kernel_rfl) (by kernel_rfl) (fun _ _ _ h => h) (Or.inl ⟨by rfl, fun w' hS => by go_simp⟩) s0 (some 48) rfl ?_
        simp only [Act.put, List.setIfInBounds_toArray, List.set_cons_zero, List.set_cons_succ]
        refine take_to (i := 4) rfl (by kernel_rfl) (by kernel_rfl) (by kernel_rfl) (fun _ _ _ h => h) (yieldsIf_load (by rfl) 28 _ rfl (.pointer (some ⟨gs, 0, none⟩)) rfl Vs (fun w1 h => by rw [HVs.out]; exact load_spec (h.out.box H8.out.2.1 hgg) HB.out.1)) s0 (some 49) rfl ?_
        simp only [Act.put, List.setIfInBounds_toArray, List.set_cons_zero, List.set_cons_succ]
        refine take_to (i := 5) (v := .pointer (some ⟨gk, 0, none⟩)) rfl (by kernel_rfl) (by kernel_rfl) (by kernel_rfl) (fun _ _ _ h => h) (Or.inl ⟨by rfl, fun w' hS => by go_simp⟩) s0 (some 50) rfl ?_
        simp only [Act.put, List.setIfInBounds_toArray, List.set_cons_zero, List.set_cons_succ]
        refine take_to (i := 6) (v := .pointer (some ⟨gk, 0, none⟩)) rfl (by kernel_rfl) (by kernel_rfl) (by kernel_rfl) (fun _ _ _ h => h) (Or.inl ⟨by rfl, fun w' hS => by go_simp⟩) s0 (some 51) rfl ?_
        simp only [Act.put, List.setIfInBounds_toArray, List.set_cons_zero, List.set_cons_succ]
        refine take_to (i := 7) (v := .pointer (some ⟨gk, 162, none⟩)) rfl (by kernel_rfl) (by kernel_rfl) (by kernel_rfl) (fun _ _ _ h => h) (Or.inl ⟨by rfl, fun w' hS => by go_simp⟩) s0 (some 52) rfl ?_
        simp only [Act.put, List.setIfInBounds_toArray, List.set_cons_zero, List.set_cons_succ]
        refine take_to (i := 8) (v := .pointer (some ⟨gk, 128 + 17 * (2 + q), none⟩)) rfl (by kernel_rfl) (by kernel_rfl) (by kernel_rfl) (fun _ _ _ h => h) (Or.inl ⟨by rfl, fun w' hS => by have h1 : (q : Int) < 2 := (by omega); go_simp⟩) s0 (some 53) rfl ?_
        simp only [Act.put, List.setIfInBounds_toArray, List.set_cons_zero, List.set_cons_succ]
        refine take_to (i := 10) (v := .pointer (some ⟨gk, 0, none⟩)) rfl (by kernel_rfl) (by kernel_rfl) (by kernel_rfl) (fun _ _ _ h => h) (Or.inl ⟨by rfl, fun w' hS => by go_simp⟩) s0 (some 54) rfl ?_
        simp only [Act.put, List.setIfInBounds_toArray, List.set_cons_zero, List.set_cons_succ]
        refine take_to (i := 11) (v := .pointer (some ⟨gk, 200, none⟩)) rfl (by kernel_rfl) (by kernel_rfl) (by kernel_rfl) (fun _ _ _ h => h) (Or.inl ⟨by rfl, fun w' hS => by go_simp⟩) s0 (some 55) rfl ?_
        simp only [Act.put, List.setIfInBounds_toArray, List.set_cons_zero, List.set_cons_succ]
        refine wpAnyH_ready (rs := [9]) (by kernel_rfl) (by simp) ?_
        refine AllReadyH.cons rfl (fun Kq hKq => ?_) AllReadyH.nil
        rw [if_pos (by rfl)]
        refine wp_store_S' _ _ rfl rfl (H8.out.1.kv.on (on_drew w8)) (j := (2 + q)) (by omega) B V HB.out.1 (.slice A' (allN (l.drop (p + 1)) 16) c') rfl rfl HVs.out fun w12 b12 k12 => ?_
        have s2 := Lib.hid (s0.out.trans k12 (fun _ _ h => h))
        have R12 := Lib.hid (H8.out.1.known s2.out b12 (H8.out.1.kn.setS (2 + q) HB.out.1 H8.out.2.2.1 H8.out.2.2.2))
        clear b12 k12
        refine hKq.out _ _ s2 fun _ => ?_
        clear hKq Kq
        refine take_to (i := 12) (v := .pointer (some ⟨gk, 196 + (4 + q), none⟩)) rfl (by kernel_rfl) (by kernel_rfl) (by kernel_rfl) (fun _ _ _ h => h) (Or.inl ⟨by rfl, fun w' hS => by have h1 : (q : Int) < 2 := (by omega); go_simp⟩) s2 (some 56) rfl ?_
        simp only [Act.put, List.setIfInBounds_toArray, List.set_cons_zero, List.set_cons_succ]
        refine wpAnyH_ready (rs := [13]) (by kernel_rfl) (by simp) ?_
        refine AllReadyH.cons rfl (fun Kq hKq => ?_) AllReadyH.nil
        have cf12 := R12.out.kv.kvF (k := (4 + q)) (by omega)
        have ff12 := R12.out.kv.free (196 + (4 + q))
        obtain ⟨fo, hfo⟩ : ∃ fo, fo = (K'.setS (2 + q) B V).F (4 + q) := ⟨_, rfl⟩
        rw [← hfo] at cf12
        clear hfo
        go_simp
        have s3 := Lib.hid (s2.out.setCell (p := ⟨gk, 196 + (4 + q), none⟩) (fun _ => rfl) (.bool true))
        have R13 := Lib.hid (R12.out.known ((Kept.refl (fun j => j = gk) w12).setCell (p := ⟨gk, 196 + (4 + q), none⟩) (fun _ => rfl) _) (R12.out.kv.putF (i := (4 + q)) (by omega) true) (R12.out.kn.setF (4 + q) true))
        refine hKq.out _ _ s3 fun _ => ?_
        clear hKq Kq cf12 ff12
        refine wpAnyH_done (by kernel_rfl) ?_ _
        have hrd : rdSpecs f (l.drop (p + 1 + 16 + allN (l.drop (p + 1)) 16)) ((K'.setS (2 + q) B V).setF (4 + q) true) = R := by
          rw [← HR.out, HMo.out, show (2 * (i0 / 16 : Int) + i0 % 16).toNat = (2 + q) by (have h1 := HQK.out.1; have h2 := HQK.out.2; omega), show (2 + 2 * (i0 / 16 : Int) + i0 % 16).toNat = (4 + q) by (have h1 := HQK.out.1; have h2 := HQK.out.2; omega)]
        have HRD := Lib.hid hrd
        clear hrd
        go_wp2_with fail
        go_roundw
        case rel => exact ⟨f, _, (K'.setS (2 + q) B V).setF (4 + q) true, _, by have h1 := Hmn.out.2; have h2 := R13.out.le; have h3 := HE.out.2.2; rw [List.length_drop] at h1 ⊢; omega, HRD.out, R13.out⟩
        case measure => rw [R13.out.left, HLf.out]; have := Hmn.out.1; have := R13.out.le; omega

end Go.Proofs.YtgipngedmblnmaaDoor
