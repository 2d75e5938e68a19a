/-
  The contract of the program's readScan. The contracts of the closures that read a segment's body, and of readBody.
-/
import Derived.Test.YtgipngedmblnmaaDoorRFrame
import Derived.Test.YtgipngedmblnmaaDoorRTabs
import Derived.Deep.RegionLaw
namespace Go.Proofs.YtgipngedmblnmaaDoor
open Go.RowKit

/-- what a scan's body tells -/
def rdScan' (l : List Int) (K : Kv) : Option Kv := if K.F 6 = true ∧ l = scanB (K.N 2) then some K else none
theorem sparB_len (k : Int) : (sparB k).length ≤ 7 := by unfold sparB; split <;> simp
theorem take_three {l : List Int} {p : Nat} (h : p + 3 ≤ l.length) : (l.drop p).take 3 = [l.getD p 0, l.getD (p + 1) 0, l.getD (p + 2) 0] := by
  rw [List.drop_eq_getElem_cons (show p < l.length by omega), List.take_succ_cons, List.drop_eq_getElem_cons (show p + 1 < l.length by omega), List.take_succ_cons, List.drop_eq_getElem_cons (show p + 1 + 1 < l.length by omega), List.take_succ_cons, List.take_zero]
  simp only [List.getD_eq_getElem?_getD]
  rw [List.getElem?_eq_getElem (show p < l.length by omega), List.getElem?_eq_getElem (show p + 1 < l.length by omega), List.getElem?_eq_getElem (show p + 2 < l.length by omega)]
  rfl
theorem scan_split {l S E : List Int} (hE : E.length = 3) : l = S ++ E ↔ (S.length + 3 = l.length ∧ l.take S.length = S ∧ (l.drop S.length).take 3 = E) := by
  constructor
  · rintro rfl
    refine ⟨by simp [hE], by simp, ?_⟩
    rw [List.drop_left, List.take_of_length_le (by omega)]
  · rintro ⟨h1, h2, h3⟩
    have h4 : l.drop S.length = E := by rw [← h3, List.take_of_length_le (by rw [List.length_drop]; omega)]
    rw [← List.take_append_drop S.length l, h2, h4]
theorem load65 {w : World} {g : Nat} {x y z : Int} (h : Box w g 65 #[.int .u8 x, .int .u8 y, .int .u8 z]) : (Instr.loadAt 65 (.pointer (some ⟨g, 0, none⟩))).run Tryd.prog w = .ok (.agg #[.int .u8 x, .int .u8 y, .int .u8 z]) w :=
  run_loadAt_mid w g 0 65 [.int .u8 x, .int .u8 y, .int .u8 z] _ (fun k u hu => by rw [Nat.zero_add, h.cell k]; simpa using hu) Tryd.underlying65 rfl (by kernel_rfl)
theorem eqItems3 (w : World) (x y z : Int) : (Op.eqItems 9999 5 1 #[.int .u8 x, .int .u8 y, .int .u8 z] #[.int .u8 0, .int .u8 63, .int .u8 0] [0, 1, 2]).run Tryd.prog w = .ok (decide ([x, y, z] = [0, 63, 0])) w := by
  have p0 : ∀ (a b c : Int), (part 5 #[.int .u8 a, .int .u8 b, .int .u8 c] 0).run Tryd.prog w = .ok (.int .u8 a) w := fun a b c => run_part_plain w (by kernel_rfl) rfl
  have p1 : ∀ (a b c : Int), (part 5 #[.int .u8 a, .int .u8 b, .int .u8 c] 1).run Tryd.prog w = .ok (.int .u8 b) w := fun a b c => run_part_plain w (by kernel_rfl) rfl
  have p2 : ∀ (a b c : Int), (part 5 #[.int .u8 a, .int .u8 b, .int .u8 c] 2).run Tryd.prog w = .ok (.int .u8 c) w := fun a b c => run_part_plain w (by kernel_rfl) rfl
  have he := fun a b => run_equalIn_int (P := Tryd.prog) w 9998 5 .u8 .u8 a b Tryd.underlying5
  by_cases hx : x = 0
  · by_cases hy : y = 63
    · by_cases hz : z = 0
      · simp [hx, hy, hz, he, p0, p1, p2, Op.eqItems]
      · simp [hx, hy, hz, he, p0, p1, p2, Op.eqItems]
    · simp [hx, hy, he, p0, p1, Op.eqItems]
  · simp [hx, he, p0, Op.eqItems]
theorem yieldsIf_eql65 {ops : Array Oper} {S : World → Prop} {op : Oper} {a : Act} (hw : Region.wanted op (yielded ops a.tmps) = true) (p q : Operand) (ho : op.op = .binOp .eql 65 p q 65)
    (x y z : Int) (hx : a.eval p = .agg #[.int .u8 x, .int .u8 y, .int .u8 z]) (hy : a.eval q = .agg #[.int .u8 0, .int .u8 63, .int .u8 0]) : YieldsIf Tryd.prog ops S op (.bool (decide ([x, y, z] = [0, 63, 0]))) a :=
  .inl ⟨hw, fun w _ => by
    have hg : Tryd.prog.eqGuardType Tryd.prog.depth 65 = false := by kernel_rfl
    obtain ⟨i, hi⟩ : ∃ i, Tryd.prog.info? 5 = some i := by
      obtain ⟨i, h, _⟩ := Option.map_eq_some_iff.1 byte_size
      exact ⟨i, h⟩
    have h1 : Tryd.prog.cellsOf 5 = 1 := by kernel_rfl
    have he : (Op.equalIn 10000 65 (.agg #[.int .u8 x, .int .u8 y, .int .u8 z]) (.agg #[.int .u8 0, .int .u8 63, .int .u8 0])).run Tryd.prog w = .ok (decide ([x, y, z] = [0, 63, 0])) w := by
      rw [show (10000 : Nat) = 9999 + 1 from rfl, run_equalIn_array (P := Tryd.prog) w 9999 _ _ Tryd.underlying65 hi, h1]
      exact eqItems3 w x y z
    unfold execOp
    simp only [ho, hx, hy, Sem.run_bind, run_eqGuard_agg w .eql 65 p q _ _ hg, run_eql_struct, he, Result.andThen_ok, Sem.run_pure]⟩

set_option maxRecDepth 10000 in
set_option maxHeartbeats 6400000 in
theorem readScan_any (lo : Nat) (w : World) (g s gk : Nat) (A : Option Addr) (n c : Nat) (l : List Int) (K : Kv) (X : Nat → Value) (h : Rd lo w w g s gk A n c l 0 K X) : Calls Tryd.prog 62 #[.pointer (some ⟨g, 0, none⟩), .pointer (some ⟨gk, 0, none⟩)] w (BodyE lo w g s gk A n c l (rdScan' l K)) := by
  have c6 : w.cell? ⟨gk, 202, none⟩ = some (.bool (K.F 6)) := h.kv.kvF (k := 6) (by omega)
  have c2 : w.cell? ⟨gk, 207, none⟩ = some (.int .i64 (K.N 2)) := h.kv.kvN (k := 2) (by omega)
  have hlen := h.len
  have H0 := Lib.hid (And.intro h hlen)
  obtain ⟨R, hR⟩ : ∃ R, R = rdScan' l K := ⟨_, rfl⟩
  rw [← hR]
  have HR := Lib.hid hR
  clear hR hlen
  by_cases h6 : ¬ K.F 6 = true
  · have hr : R = none := by rw [HR.out]; unfold rdScan'; rw [if_neg (fun h => h6 h.1)]
    have HRn := Lib.hid hr
    have h6' : K.F 6 = false := by simpa using h6
    rw [h6'] at c6
    have HQ := Lib.hid (require_no w g s A n c 0 4 (by decide) h.cur)
    clear hr h6 h6' h
    go_enter Tryd.func62, Tryd.ntmps62
    go_wp2_with fail
    refine Calls.mono HQ.out ?_
    rintro e w4 ⟨rfl, k4⟩
    exact ⟨rfl, k4.mono (fun _ _ e => absurd e (fun e => e)), .inl ⟨HRn.out, 4, by decide, rfl⟩⟩
  have h6' : K.F 6 = true := by simpa using h6
  rw [h6'] at c6
  have HQ := Lib.hid (require_yes w g 4)
  have HP := Lib.hid (scanParts_any w (K.N 2))
  obtain ⟨a2, ha2⟩ : ∃ a, a = K.N 2 := ⟨_, rfl⟩
  rw [← ha2] at c2 HP
  obtain ⟨S, hS⟩ : ∃ S, S = sparB a2 := ⟨_, rfl⟩
  have hSl := sparB_len a2
  rw [← hS] at HP hSl
  have hRe : R = if S.length + 3 = n ∧ l.take S.length = S ∧ (l.drop S.length).take 3 = [0, 63, 0] then some K else none := by
    rw [HR.out]
    unfold rdScan'
    have hs := scan_split (l := l) (S := S) (E := [0, 63, 0]) rfl
    rw [H0.out.2] at hs
    rw [← ha2, scanB_parts, ← hS]
    by_cases hc : S.length + 3 = n ∧ l.take S.length = S ∧ (l.drop S.length).take 3 = [0, 63, 0]
    · rw [if_pos ⟨h6', hs.2 hc⟩, if_pos hc]
    · rw [if_neg (fun h => hc (hs.1 h.2)), if_neg hc]
  have HRe := Lib.hid (And.intro hRe hSl)
  obtain ⟨z, hz⟩ : ∃ z, z = S.length := ⟨_, rfl⟩
  unfold GivesY at HP
  rw [← hz] at HP HRe
  have Hz := Lib.hid (And.intro hz (show Fit S by rw [hS]; exact sparB_fit a2))
  clear h6 h6' h ha2 hS hSl hRe hz
  go_enter Tryd.func62, Tryd.ntmps62
  go_wp2_with fail
  refine Calls.mono HQ.out ?_
  rintro e w1 ⟨rfl, rfl⟩
  clear HQ
  go_wp2_with fail
  refine Calls.mono HP.out ?_
  rintro e w2 ⟨A2, c2', rfl, s2, b2⟩
  have H2 := Lib.hid (And.intro s2 (H0.out.1.on b2))
  clear s2 b2 HP c6 c2
  by_cases hz1 : ¬ z ≤ n
  · have HB := Lib.hid (bytes_up lo w2 g s gk A n c l 0 K X H2.out.2.fresh (z : Int) (by omega))
    have hr : R = none := by rw [HRe.out.1, if_neg (by omega)]
    have HRn := Lib.hid hr
    clear hr
    go_wp2_with fail
    refine Calls.mono HB.out ?_
    rintro e w4 ⟨rfl, k4⟩
    exact ⟨rfl, H2.out.2.kep.trans k4 (fun _ _ e => absurd e (fun e => e)), .inl ⟨HRn.out, 3, by decide, rfl⟩⟩
  have HB := Lib.hid (bytes_any lo w2 g s gk A n c l 0 K X H2.out.2.fresh z (by omega))
  go_wp2_with fail
  refine Calls.mono HB.out ?_
  rintro e w3 ⟨A3, c3, rfl, s3, r3, k3⟩
  have s23 : Sl w3 (fun b => b ≠ g) A2 z c2' S := (H2.out.1.mono (K' := fun b => b ≠ g) (fun b hb hk => by have := H2.out.2.lts.1; have hk' : w.heap.size ≤ b := hk; omega)).kept k3 (fun b hb e => hb e)
  rw [List.drop_zero, Nat.zero_add] at *
  have HE := Lib.hid (equal_any w3 _ _ A3 A2 z c3 z c2' (l.take z) S s3 s23)
  have H3 := Lib.hid (H2.out.2.trans r3)
  clear HB s3 r3 k3 s23
  go_wp2_with fail
  refine Calls.mono HE.out ?_
  rintro e w4 ⟨rfl, rfl⟩
  have HQ := Lib.hid (And.intro (require_yes w3 g 4) (require_no w3 g s A n c z 4 (by decide) H3.out.cur))
  clear HE
  by_cases hp : ¬ l.take z = S
  · have hr : R = none := by rw [HRe.out.1, if_neg (fun h => hp h.2.1)]
    have HRn := Lib.hid hr
    rw [decide_eq_false hp]
    clear hr hp
    go_wp2_with fail
    refine Calls.mono HQ.out.2 ?_
    rintro e w4 ⟨rfl, k4⟩
    exact ⟨rfl, H3.out.kep.trans k4 (fun _ _ e => absurd e (fun e => e)), .inl ⟨HRn.out, 4, by decide, rfl⟩⟩
  have hp' : l.take z = S := by simpa using hp
  rw [decide_eq_true hp']
  have HP := Lib.hid hp'
  clear hp hp'
  obtain ⟨gs, hgs⟩ : ∃ gs, gs = w3.heap.size := ⟨_, rfl⟩
  have hz65 : ∀ w, (zeroValue 65).run Tryd.prog w = .ok (.agg #[.int .u8 0, .int .u8 0, .int .u8 0]) w := fun w => by kernel_rfl
  obtain ⟨w5, hw5⟩ : ∃ x, w3.alloc (.cells #[.int .u8 0, .int .u8 0, .int .u8 0] 65) = x := ⟨_, rfl⟩
  have b5 : Box w5 gs 65 #[.int .u8 0, .int .u8 0, .int .u8 0] := by rw [hgs, ← hw5]; exact Box.made _ _ _
  have r5 := H3.out.on (show Below w3.heap.size w3 w5 by rw [← hw5]; exact on_alloc _ _)
  have H5 := Lib.hid (And.intro hw5 (And.intro hgs (And.intro r5 (And.intro b5 (show w.heap.size ≤ gs by rw [hgs]; exact H3.out.kep.size)))))
  clear hw5 b5 r5 hgs
  go_wp2_with fail
  refine Calls.mono HQ.out.1 ?_
  rintro e w4 ⟨rfl, rfl⟩
  clear HQ
  go_upto_region 4 with fail
  rw [H5.out.1, ← H5.out.2.1]
  by_cases hn3 : n < z + 3
  · have HB := Lib.hid (bytes_up lo w5.drew g s gk A n c l z K X (H5.out.2.2.1.on (on_drew _)).fresh 3 (by omega))
    have hr : R = none := by rw [HRe.out.1, if_neg (by omega)]
    have HRn := Lib.hid hr
    clear hr
    go_region_dies
    all_goals
      refine Calls.mono HB.out ?_
      rintro e w7 ⟨rfl, k7⟩
      exact ⟨rfl, (H5.out.2.2.1.on (on_drew _)).kep.trans k7 (fun _ _ e => absurd e (fun e => e)), .inl ⟨HRn.out, 3, by decide, rfl⟩⟩
  have HB := Lib.hid (bytes_any lo w5.drew g s gk A n c l z K X (H5.out.2.2.1.on (on_drew _)).fresh 3 (by omega))
  have e3 := take_three (l := l) (p := z) (by rw [H0.out.2]; omega)
  rw [e3] at HB
  obtain ⟨x0, hx0⟩ : ∃ x, x = l.getD z 0 := ⟨_, rfl⟩
  obtain ⟨x1, hx1⟩ : ∃ x, x = l.getD (z + 1) 0 := ⟨_, rfl⟩
  obtain ⟨x2, hx2⟩ : ∃ x, x = l.getD (z + 2) 0 := ⟨_, rfl⟩
  rw [← hx0, ← hx1, ← hx2] at HB e3
  have H6 := Lib.hid e3
  clear e3 hx0 hx1 hx2
  go_region_law
    (first
      | (go_simp
         go_at_call 71
         with_reducible refine Calls.mono HB.out ?_
         rintro e w6 ⟨A6, c6, rfl, s6, r6, k6⟩
         have b6 : Box w6 gs 65 #[.int .u8 0, .int .u8 0, .int .u8 0] := k6.box (H5.out.2.2.2.1.on (on_drew _)) (by have := H5.out.2.2.2.1.apart H5.out.2.2.1.own (by decide); omega)
         have M6 := Lib.hid (And.intro b6 (And.intro s6 ((H5.out.2.2.1.on (on_drew _)).trans r6)))
         clear s6 r6 k6 b6)
      | ((refine step_copy_splice rfl (.tmp 26) (.tmp 28) 37 37 rfl 5 Tryd.underlying37 byte_size (some ⟨gs, 0, none⟩) A6 3 3 3 c6 rfl rfl gs 0 [.int .u8 0, .int .u8 0, .int .u8 0] 65 M6.out.1 (cellsOf [x0, x1, x2]) rfl ?hpos (by simp [cellsOf]) (cellsOf_one _) gs w6 (Below.refl _ _) (Nat.le_refl _) ?_)
         case hpos => exact fun h0 => ⟨rfl, by
           obtain ⟨b, off, e, _⟩ := M6.out.2.1.bts.at_ (by simp)
           subst e
           exact ⟨_, rfl, M6.out.2.1.bts.read⟩⟩
         intro w7 b7 k7
         have M7 := Lib.hid (And.intro b7.out k7)
         clear b7 k7))
  have b7 : Box w7 gs 65 #[.int .u8 x0, .int .u8 x1, .int .u8 x2] := M7.out.1
  have r7 := M6.out.2.2.above H0.out.1 M7.out.2 H5.out.2.2.2.2
  have H7 := Lib.hid (And.intro r7 b7)
  clear b7 r7
  have HSc := Lib.hid (fun w' => scanEnd_any w')
  go_upto_region 5 with fail
  refine wp_region_held_drew (S := fun w' => Hid (Below w7.heap.size w7 w')) (by kernel_rfl) (Lib.hid (on_drew w7)) fun s0 => ?_
  refine take_to (i := 0) (v := .pointer (some ⟨g, 0, none⟩)) rfl (by kernel_rfl) (by kernel_rfl) (by kernel_rfl) (fun _ _ _ h => h) (Or.inl ⟨by rfl, fun w' hS => by go_simp⟩) s0 (some 30) rfl ?_
  simp only [Act.put, List.setIfInBounds_toArray, List.set_cons_zero, List.set_cons_succ]
  refine take_to (i := 1) rfl (by kernel_rfl) (by kernel_rfl) (by kernel_rfl) (fun _ _ _ h => h) (yieldsIf_load (by rfl) 65 _ rfl (.pointer (some ⟨gs, 0, none⟩)) rfl (.agg #[.int .u8 x0, .int .u8 x1, .int .u8 x2]) (fun w1 h => load65 (H7.out.2.on h.out))) s0 (some 31) rfl ?_
  simp only [Act.put, List.setIfInBounds_toArray, List.set_cons_zero, List.set_cons_succ]
  refine wpAnyH_ready (rs := [2]) (by kernel_rfl) (by simp) ?_
  refine AllReadyH.cons rfl (fun Kq hKq => ?_) AllReadyH.nil
  go_simp
  refine Calls.mono (HSc.out _) ?_
  rintro e w8 ⟨rfl, b8⟩
  have s8 := Lib.hid (on_trans s0.out b8)
  clear b8
  refine hKq.out _ _ s8 fun _ => ?_
  clear hKq Kq
  refine take_to (i := 3) rfl (by kernel_rfl) (by kernel_rfl) (by kernel_rfl) (fun _ _ _ h => h) (yieldsIf_eql65 (by rfl) _ _ rfl x0 x1 x2 rfl rfl) s8 (some 33) rfl ?_
  simp only [Act.put, List.setIfInBounds_toArray, List.set_cons_zero, List.set_cons_succ]
  refine wpAnyH_ready (rs := [4]) (by kernel_rfl) (by simp) ?_
  refine AllReadyH.cons rfl (fun Kq hKq => ?_) AllReadyH.nil
  have H8 := Lib.hid (H7.out.1.on s8.out)
  by_cases hx : [x0, x1, x2] = [0, 63, 0]
  · have hr : R = if z + 3 = n then some K else none := by
      rw [HRe.out.1]
      by_cases hz : z + 3 = n
      · rw [if_pos ⟨hz, HP.out, by rw [H6.out]; exact hx⟩, if_pos hz]
      · rw [if_neg (fun h => hz h.1), if_neg hz]
    have HRn := Lib.hid hr
    rw [decide_eq_true hx]
    clear hr hx
    go_simp
    refine Calls.mono (require_yes w8 g 4) ?_
    rintro e w9 ⟨rfl, rfl⟩
    refine hKq.out _ _ s8 fun _ => ?_
    clear hKq Kq
    refine wpAnyH_done (by kernel_rfl) ?_ _
    go_wp2_with fail
    go_end0
    exact ⟨H8.out.kep, .inr ⟨rfl, K, X, z + 3, H8.out, HRn.out⟩⟩
  · have hr : R = none := by rw [HRe.out.1, if_neg (fun h => hx (by rw [← H6.out]; exact h.2.2))]
    have HRn := Lib.hid hr
    rw [decide_eq_false hx]
    clear hr hx
    go_simp
    refine Calls.mono (require_no w8 g s A n c (z + 3) 4 (by decide) H8.out.cur) ?_
    rintro e w9 ⟨rfl, k9⟩
    exact ⟨rfl, H8.out.kep.trans k9 (fun _ _ e => absurd e (fun e => e)), .inl ⟨HRn.out, 4, by decide, rfl⟩⟩
end Go.Proofs.YtgipngedmblnmaaDoor

namespace Go.Proofs.YtgipngedmblnmaaDoor
open Go.RowKit

set_option maxHeartbeats 800000 in
theorem reader1_any (lo : Nat) (w : World) (g s gk gv : Nat) (A : Option Addr) (n c : Nat) (l : List Int) (K : Kv) (X : Nat → Value) (h : Rd lo w w g s gk A n c l 0 K X) (hv : Box w gv 75 #[.pointer (some ⟨gk, 0, none⟩)]) : Calls Tryd.prog 74 #[.pointer (some ⟨g, 0, none⟩), .pointer (some ⟨gv, 0, none⟩)] w (BodyE lo w g s gk A n c l (rdSteps (l.length + 1) l K)) := by
  have cv : w.cell? ⟨gv, 0, none⟩ = some (.pointer (some ⟨gk, 0, none⟩)) := hv.cell 0
  have HC := Lib.hid (readSteps_any lo w g s gk A n c l K X h)
  clear h hv
  go_enter Tryd.func74, Tryd.ntmps74
  go_wp2_with fail
  refine Calls.mono HC.out ?_
  rintro e w1 ⟨hk, ⟨hr, k, hk0, rfl⟩ | ⟨rfl, hK⟩⟩
  · exact ⟨rfl, hk, .inl ⟨hr, k, hk0, rfl⟩⟩
  · have HE := Lib.hid (And.intro hk hK)
    clear hk hK
    go_wp2_with fail
    go_end0
    exact ⟨HE.out.1, .inr ⟨rfl, HE.out.2⟩⟩

set_option maxHeartbeats 800000 in
theorem reader2_any (lo : Nat) (w : World) (g s gk gv : Nat) (A : Option Addr) (n c : Nat) (l : List Int) (K : Kv) (X : Nat → Value) (h : Rd lo w w g s gk A n c l 0 K X) (hv : Box w gv 75 #[.pointer (some ⟨gk, 0, none⟩)]) : Calls Tryd.prog 76 #[.pointer (some ⟨g, 0, none⟩), .pointer (some ⟨gv, 0, none⟩)] w (BodyE lo w g s gk A n c l (rdSpecs (l.length + 1) l K)) := by
  have cv : w.cell? ⟨gv, 0, none⟩ = some (.pointer (some ⟨gk, 0, none⟩)) := hv.cell 0
  have HC := Lib.hid (readTables_any lo w g s gk A n c l K X h)
  clear h hv
  go_enter Tryd.func76, Tryd.ntmps76
  go_wp2_with fail
  refine Calls.mono HC.out ?_
  rintro e w1 ⟨hk, ⟨hr, k, hk0, rfl⟩ | ⟨rfl, hK⟩⟩
  · exact ⟨rfl, hk, .inl ⟨hr, k, hk0, rfl⟩⟩
  · have HE := Lib.hid (And.intro hk hK)
    clear hk hK
    go_wp2_with fail
    go_end0
    exact ⟨HE.out.1, .inr ⟨rfl, HE.out.2⟩⟩

set_option maxHeartbeats 800000 in
theorem reader3_any (lo : Nat) (w : World) (g s gk gv : Nat) (A : Option Addr) (n c : Nat) (l : List Int) (K : Kv) (X : Nat → Value) (h : Rd lo w w g s gk A n c l 0 K X) (hv : Box w gv 75 #[.pointer (some ⟨gk, 0, none⟩)]) (hN3 : 0 ≤ K.N 3 ∧ K.N 3 ≤ 65535) : Calls Tryd.prog 78 #[.pointer (some ⟨g, 0, none⟩), .pointer (some ⟨gv, 0, none⟩)] w (BodyE lo w g s gk A n c l (rdFrame l K)) := by
  have cv : w.cell? ⟨gv, 0, none⟩ = some (.pointer (some ⟨gk, 0, none⟩)) := hv.cell 0
  have HC := Lib.hid (readFrame_any lo w g s gk A n c l K X h hN3)
  clear h hv hN3
  go_enter Tryd.func78, Tryd.ntmps78
  go_wp2_with fail
  refine Calls.mono HC.out ?_
  rintro e w1 ⟨hk, ⟨hr, k, hk0, rfl⟩ | ⟨rfl, hK⟩⟩
  · exact ⟨rfl, hk, .inl ⟨hr, k, hk0, rfl⟩⟩
  · have HE := Lib.hid (And.intro hk hK)
    clear hk hK
    go_wp2_with fail
    go_end0
    exact ⟨HE.out.1, .inr ⟨rfl, HE.out.2⟩⟩

set_option maxHeartbeats 800000 in
theorem reader0_any (lo : Nat) (w : World) (g s gk gv : Nat) (A : Option Addr) (n c : Nat) (l : List Int) (K : Kv) (X : Nat → Value) (h : Rd lo w w g s gk A n c l 0 K X) (hv : Box w gv 75 #[.pointer (some ⟨gk, 0, none⟩)]) : Calls Tryd.prog 61 #[.pointer (some ⟨g, 0, none⟩), .pointer (some ⟨gv, 0, none⟩)] w (BodyE lo w g s gk A n c l (rdScan' l K)) := by
  have cv : w.cell? ⟨gv, 0, none⟩ = some (.pointer (some ⟨gk, 0, none⟩)) := hv.cell 0
  have HC := Lib.hid (readScan_any lo w g s gk A n c l K X h)
  clear h hv
  go_enter Tryd.func61, Tryd.ntmps61
  go_wp2_with fail
  refine Calls.mono HC.out ?_
  rintro e w1 ⟨hk, ⟨hr, k, hk0, rfl⟩ | ⟨rfl, hK⟩⟩
  · exact ⟨rfl, hk, .inl ⟨hr, k, hk0, rfl⟩⟩
  · have HE := Lib.hid (And.intro hk hK)
    clear hk hK
    go_wp2_with fail
    go_end0
    exact ⟨HE.out.1, .inr ⟨rfl, HE.out.2⟩⟩

/-- what a restart's body tells -/
def rdRest (l : List Int) (K : Kv) : Option Kv := if l.length = 2 then some (K.setN 3 (256 * l.getD 0 0 + l.getD 1 0)) else none
set_option maxHeartbeats 1600000 in
theorem reader4_any (lo : Nat) (w : World) (g s gk gv : Nat) (A : Option Addr) (n c : Nat) (l : List Int) (K : Kv) (X : Nat → Value) (h : Rd lo w w g s gk A n c l 0 K X) (hv : Box w gv 75 #[.pointer (some ⟨gk, 0, none⟩)]) : Calls Tryd.prog 80 #[.pointer (some ⟨g, 0, none⟩), .pointer (some ⟨gv, 0, none⟩)] w (BodyE lo w g s gk A n c l (rdRest l K)) := by
  have hlen := h.len
  obtain ⟨R, hR⟩ : ∃ R, R = rdRest l K := ⟨_, rfl⟩
  rw [← hR]
  have HR := Lib.hid hR
  have H0 := Lib.hid (And.intro h (And.intro hv hlen))
  have cv : w.cell? ⟨gv, 0, none⟩ = some (.pointer (some ⟨gk, 0, none⟩)) := hv.cell 0
  clear hR hlen hv
  by_cases hn : n ≤ 1
  · have HN := Lib.hid (num2_up lo w.drew g s gk A n c l 0 K X (h.on (on_drew _)).fresh (by omega))
    have hr : R = none := by rw [HR.out]; unfold rdRest; rw [if_neg (by have := H0.out.2.2; omega)]
    have HRn := Lib.hid hr
    clear hr h
    go_enter Tryd.func80, Tryd.ntmps80
    go_upto_region 0 with fail
    go_region_dies
    all_goals
      refine Calls.mono HN.out ?_
      rintro e w7 ⟨rfl, k7⟩
      exact ⟨rfl, ((H0.out.1.on (on_drew _)).kep).trans k7 (fun _ _ e => absurd e (fun e => e)), .inl ⟨HRn.out, 3, by decide, rfl⟩⟩
  have HN := Lib.hid (num2 lo w.drew g s gk A n c l 0 K X (h.on (on_drew _)).fresh (by omega))
  clear h
  obtain ⟨z, hz⟩ : ∃ z, z = 256 * l.getD 0 0 + l.getD (0 + 1) 0 := ⟨_, rfl⟩
  rw [← hz] at HN
  have Hz := Lib.hid hz
  clear hz
  go_enter Tryd.func80, Tryd.ntmps80
  go_upto_region 0 with fail
  go_region_law
    ((go_simp
      go_at_call 40
      with_reducible refine Calls.mono HN.out ?_
      rintro e w6 ⟨rfl, r6, k6⟩
      have r6' := (H0.out.1.on (on_drew w)).trans r6
      have cv6 : w6.cell? ⟨gv, 0, none⟩ = some (.pointer (some ⟨gk, 0, none⟩)) := (k6.box (H0.out.2.1.on (on_drew w)) (by have := H0.out.2.1.apart H0.out.1.own (by decide); omega)).cell 0
      have c6 := r6'.kv.kvN (k := 3) (by omega)
      have f6 := r6'.kv.free (205 + 3)
      obtain ⟨old, hold⟩ : ∃ o, o = K.N 3 := ⟨_, rfl⟩
      rw [← hold] at c6
      have M6 := Lib.hid r6'
      clear r6 r6' k6 hold))
  all_goals
    have r7 := M6.out.known ((Kept.refl (fun j => j = gk) w6).setCell (p := ⟨gk, 205 + 3, none⟩) (fun _ => rfl) (.int .i64 z)) (M6.out.kv.putN (i := 3) z) (M6.out.kn.setN 3 z)
    have H7 := Lib.hid r7
    clear r7
    go_wp2_with fail
    go_end0
    refine ⟨H7.out.kep, .inr ⟨rfl, K.setN 3 z, X, 2, H7.out, ?_⟩⟩
    rw [HR.out, Hz.out]
    unfold rdRest
    rw [H0.out.2.2]
    by_cases e : n = 2
    · rw [if_pos e, if_pos e.symm]
    · rw [if_neg e, if_neg (fun h => e h.symm)]
set_option maxHeartbeats 1600000 in
theorem reader5_any (lo : Nat) (w : World) (g s gk : Nat) (A : Option Addr) (n c : Nat) (l : List Int) (K : Kv) (X : Nat → Value) (h : Rd lo w w g s gk A n c l 0 K X) : Calls Tryd.prog 81 #[.pointer (some ⟨g, 0, none⟩)] w (BodyE lo w g s gk A n c l (some K)) := by
  have HL := Lib.hid (left_any lo w g s gk A n c l 0 K X h)
  have H0 := Lib.hid h
  clear h
  go_enter Tryd.func81, Tryd.ntmps81
  go_wp2_with fail
  refine Calls.mono HL.out ?_
  rintro e w1 ⟨rfl, k1⟩
  have H1 := Lib.hid (H0.out.on k1)
  obtain ⟨m, hm⟩ : ∃ m, m = n - 0 := ⟨_, rfl⟩
  rw [← hm]
  have HS := Lib.hid (skip_any lo w1 g s gk A n c l 0 K X H1.out.fresh m (by omega))
  have Hm := Lib.hid (show 0 + m = n by omega)
  clear k1 hm
  go_wp2_with fail
  refine Calls.mono HS.out ?_
  rintro e w2 ⟨rfl, r2, _⟩
  have H2 := Lib.hid (H1.out.trans r2)
  clear r2
  go_wp2_with fail
  go_end0
  exact ⟨H2.out.kep, .inr ⟨rfl, K, X, 0 + m, H2.out, by rw [if_pos Hm.out]⟩⟩
/-- a function value that reads bodies as rb says -/
structure ReadsBy (lo gk gv : Nat) (G : FuncId) (caps : Array Value) (K : Kv) (X : Nat → Value) (rb : List Int → Option Kv) : Prop where
  cf : ∀ (args : Array Value) (w : World), (callFunc G args).run Tryd.prog w = .ok (.enter G args) w
  by_ : ∀ (w : World) (g s : Nat) (A : Option Addr) (n c : Nat) (l : List Int), Rd lo w w g s gk A n c l 0 K X → Box w gv 75 #[.pointer (some ⟨gk, 0, none⟩)] → Calls Tryd.prog G (#[.pointer (some ⟨g, 0, none⟩)] ++ caps) w (BodyE lo w g s gk A n c l (rb l))
/-- a body was read to its end -/
def InE (lo : Nat) (w : World) (g s gk : Nat) (A : Option Addr) (n c : Nat) (l : List Int) (r : Option Kv) (e : Ending) (w' : World) : Prop :=
  Ended (fun i => i = gk ∨ i = g) s (fun k => r = none ∧ k ≠ 0) (fun w' => ∃ K' X', r = some K' ∧ Rd lo w w' g s gk A n c l n K' X') w e w'
set_option maxHeartbeats 1600000 in
theorem inner_any (lo : Nat) (w : World) (g s gk gv gf : Nat) (A : Option Addr) (n c : Nat) (l : List Int) (K : Kv) (X : Nat → Value) (G : FuncId) (caps : Array Value) (rb : List Int → Option Kv) (hG : ReadsBy lo gk gv G caps K X rb)
    (h : Rd lo w w g s gk A n c l 0 K X) (hv : Box w gv 75 #[.pointer (some ⟨gk, 0, none⟩)]) (hf : Box w gf 76 #[.func (.func G) #[] caps]) : Calls Tryd.prog 72 #[.pointer (some ⟨g, 0, none⟩), .pointer (some ⟨gf, 0, none⟩)] w (InE lo w g s gk A n c l (rb l)) := by
  have cf : w.cell? ⟨gf, 0, none⟩ = some (.func (.func G) #[] caps) := hf.cell 0
  have hcf := hG.cf
  have HC := Lib.hid (hG.by_ w g s A n c l h hv)
  obtain ⟨R, hR⟩ : ∃ R, R = rb l := ⟨_, rfl⟩
  rw [← hR] at HC ⊢
  clear hR h hv hf hG
  go_enter Tryd.func72, Tryd.ntmps72
  go_wp2_with fail
  refine Calls.mono HC.out ?_
  rintro e w1 ⟨hk, ⟨hr, k, hk0, rfl⟩ | ⟨rfl, K', X', p', r1, hr⟩⟩
  · exact ⟨rfl, hk.mono (fun _ _ e => e.symm), .inr ⟨k, ⟨hr, hk0⟩, rfl⟩⟩
  · have H1 := Lib.hid (And.intro r1 hr)
    clear hk r1 hr
    go_wp2_with fail
    by_cases hp : p' = n
    · refine Calls.mono (end_is lo w1 g s gk A n c l p' K' X' H1.out.1.fresh hp) ?_
      rintro e w2 ⟨rfl, b2⟩
      have H2 := Lib.hid (H1.out.1.on b2)
      clear b2
      go_wp2_with fail
      go_end0
      refine ⟨H2.out.kep.mono (fun _ _ e => e.symm), .inl ⟨rfl, K', X', by rw [H1.out.2, if_pos hp], ?_⟩⟩
      have := H2.out
      rwa [hp] at this
    · refine Calls.mono (end_up lo w1 g s gk A n c l p' K' X' H1.out.1.fresh (by have := H1.out.1.le; omega)) ?_
      rintro e w2 ⟨rfl, k2⟩
      exact ⟨rfl, (H1.out.1.kep.trans k2 (fun _ _ e => absurd e (fun e => e))).mono (fun _ _ e => e.symm), .inr ⟨5, ⟨by rw [H1.out.2, if_neg hp], by decide⟩, rfl⟩⟩
/-- what is known has turned, its slices in new memory -/
theorem Rd.known' {lo : Nat} {w0 wr w' : World} {g s gk : Nat} {A : Option Addr} {n c : Nat} {l : List Int} {p : Nat} {K K' : Kv} {X X' : Nat → Value} (h : Rd lo w0 wr g s gk A n c l p K X) (k : Kept (fun i => i = gk) wr w') (hb : Box w' gk 46 (kvC K' X').toArray) (hk : KnO lo w' K' X') : Rd lo w0 w' g s gk A n c l p K' X' := by
  have h1 := h.ne
  have h2 := h.pos
  exact ⟨k.box h.own (by omega), k.box h.src (by omega), hb, hk, h.sl.kept k (fun b hb e => hb.2.2 e), h.tab.kept k (by omega),
    h.kep.trans k (fun i hi e => .inr e), h.le, h.few, h.lts, h.pos, h.low⟩
/-- what reading a segment behind its marker tells: what is known, or why there is none -/
def segF (l : List Int) (p : Nat) (rb : List Int → Option Kv) : Option Kv × Int :=
  if l.length < p + 2 then (none, 3) else if 256 * l.getD p 0 + l.getD (p + 1) 0 < 2 then (none, 4) else if (l.length : Int) < p + (256 * l.getD p 0 + l.getD (p + 1) 0) then (none, 3) else
  match rb ((l.drop (p + 2)).take (256 * l.getD p 0 + l.getD (p + 1) 0 - 2).toNat) with | none => (none, 4) | some K' => (some K', 0)
def SegE (lo : Nat) (w : World) (g s gk : Nat) (A : Option Addr) (n c : Nat) (l : List Int) (p : Nat) (r : Option Kv × Int) (e : Ending) (w' : World) : Prop :=
  Kept (fun i => i = g ∨ i = gk) w w' ∧ ((r.1 = none ∧ e = .panicked (gaveUp s r.2)) ∨ (e = .returned (.tuple #[]) ∧ ∃ (K' : Kv) (X' : Nat → Value) (p' : Nat), r.1 = some K' ∧ (p' : Int) = p + (256 * l.getD p 0 + l.getD (p + 1) 0) ∧ Rd lo w w' g s gk A n c l p' K' X'))
theorem calls72 (args : Array Value) (w : World) : (callFunc 72 args).run Tryd.prog w = .ok (.enter 72 args) w := by kernel_rfl
theorem opened_size' (w : World) (A : Option Addr) (n c : Nat) (big : Bool) : Below w.heap.size w (opened w A n c big) := (opened_kept w A n c big (fun _ => False)).below (Nat.le_refl _) (fun _ _ e => e)

set_option maxRecDepth 10000 in
set_option maxHeartbeats 3200000 in
theorem readBody_any (lo : Nat) (w : World) (g s gk gv : Nat) (A : Option Addr) (n c : Nat) (l : List Int) (p : Nat) (K : Kv) (X : Nat → Value) (G : FuncId) (caps : Array Value) (rb : List Int → Option Kv) (hG : ReadsBy lo gk gv G caps K X rb)
    (h : Rd lo w w g s gk A n c l p K X) (hv : Box w gv 75 #[.pointer (some ⟨gk, 0, none⟩)]) : Calls Tryd.prog 60 #[.pointer (some ⟨g, 0, none⟩), .func (.func G) #[] caps] w (SegE lo w g s gk A n c l p (segF l p rb)) := by
  have hmf : ∀ (fn : Fn) (first cap : Array Value) (w : World), (Instr.makeFunc fn first cap).run Tryd.prog w = .ok (.func fn first cap) w := fun _ _ _ _ => rfl
  have hlen := h.len
  have hfit := And.intro (h.fit p) (h.fit (p + 1))
  have hgv := And.intro (hv.apart h.own (by decide)) (hv.apart h.kv (by decide))
  obtain ⟨R, hR⟩ : ∃ R, R = segF l p rb := ⟨_, rfl⟩
  rw [← hR]
  obtain ⟨gf, hgf⟩ : ∃ gf, gf = w.heap.size := ⟨_, rfl⟩
  obtain ⟨w1, hw1⟩ : ∃ x, w.alloc (.cells #[.func (.func G) #[] caps] 76) = x := ⟨_, rfl⟩
  have b1 : Box w1 gf 76 #[.func (.func G) #[] caps] := by rw [hgf, ← hw1]; exact Box.made _ _ _
  have k1 : Below w.heap.size w w1 := by rw [← hw1]; exact on_alloc _ _
  have H1 := Lib.hid (And.intro hw1 (And.intro hgf (And.intro b1 (And.intro (h.on k1) (hv.on k1)))))
  have HG := Lib.hid (And.intro hG (And.intro trivial (And.intro hgv hlen)))
  have HR := Lib.hid hR
  clear h hv hgv hR hgf hw1 b1 k1 hG
  go_enter Tryd.func60, Tryd.ntmps60
  by_cases hn2 : n < p + 2
  · have HN := Lib.hid (num2_up lo w1 g s gk A n c l p K X H1.out.2.2.2.1.fresh (by omega))
    have hr : R = (none, 3) := by rw [HR.out]; unfold segF; rw [if_pos (by omega)]
    have HRn := Lib.hid hr
    clear hr
    go_wp2_with fail
    rw [H1.out.1]
    refine Calls.mono HN.out ?_
    rintro e w2 ⟨rfl, k2⟩
    exact ⟨rfl, H1.out.2.2.2.1.kep.trans k2 (fun _ _ e => absurd e (fun e => e)), .inl ⟨by rw [HRn.out], by rw [HRn.out]⟩⟩
  have HN := Lib.hid (num2 lo w1 g s gk A n c l p K X H1.out.2.2.2.1.fresh (by omega))
  obtain ⟨L, hL⟩ : ∃ L, L = 256 * l.getD p 0 + l.getD (p + 1) 0 := ⟨_, rfl⟩
  rw [← hL] at HN
  have HL := Lib.hid hL
  have hL0 : 0 ≤ L := by omega
  have hL1 : L ≤ 65535 := by omega
  clear hfit hL
  go_wp2_with fail
  rw [H1.out.1, ← H1.out.2.1]
  refine Calls.mono HN.out ?_
  rintro e w2 ⟨rfl, r2, k2⟩
  have H2 := Lib.hid (And.intro (H1.out.2.2.2.1.trans r2) (And.intro (k2.box H1.out.2.2.1 (by have := H1.out.2.2.1.apart H1.out.2.2.2.1.own (by decide); omega)) (k2.box H1.out.2.2.2.2 HG.out.2.2.1.1)))
  have HQ := Lib.hid (And.intro (require_yes w2 g 4) (require_no w2 g s A n c (p + 2) 4 (by decide) H2.out.1.cur))
  clear r2 k2 HN
  by_cases hL2 : L < 2
  · have hr : R = (none, 4) := by rw [HR.out]; unfold segF; rw [if_neg (by have := HG.out.2.2.2; omega), if_pos (by rw [← HL.out]; exact hL2)]
    have HRn := Lib.hid hr
    have hd : decide (2 ≤ L) = false := decide_eq_false (by omega)
    clear hr
    go_wp2_with fail
    first | rw [hd] | skip
    refine Calls.mono HQ.out.2 ?_
    rintro e w4 ⟨rfl, k4⟩
    exact ⟨rfl, H2.out.1.kep.trans k4 (fun _ _ e => absurd e (fun e => e)), .inl ⟨by rw [HRn.out], by rw [HRn.out]⟩⟩
  have hL2' : 2 ≤ L := by omega
  obtain ⟨m, hm⟩ : ∃ m : Nat, (m : Int) = L - 2 := ⟨(L - 2).toNat, by omega⟩
  have hwm : IntKind.i64.wrap (L - 2) = (m : Int) := by rw [wrapI (by omega) (by omega)]; omega
  have Hm := Lib.hid (And.intro hm (show (L - 2).toNat = m by omega))
  clear hm
  go_wp2_with fail
  refine Calls.mono HQ.out.1 ?_
  rintro e w3 ⟨rfl, rfl⟩
  clear HQ
  by_cases hs : n < p + 2 + m
  · have HB := Lib.hid (bytes_up lo w2 g s gk A n c l (p + 2) K X H2.out.1.fresh (m : Int) (by omega))
    have hr : R = (none, 3) := by rw [HR.out]; unfold segF; rw [if_neg (by have := HG.out.2.2.2; omega), if_neg (by rw [← HL.out]; omega), if_pos (by rw [← HL.out]; have := HG.out.2.2.2; have := Hm.out.1; omega)]
    have HRn := Lib.hid hr
    clear hr
    go_wp2_with fail
    refine Calls.mono HB.out ?_
    rintro e w4 ⟨rfl, k4⟩
    exact ⟨rfl, H2.out.1.kep.trans k4 (fun _ _ e => absurd e (fun e => e)), .inl ⟨by rw [HRn.out], by rw [HRn.out]⟩⟩
  have HB := Lib.hid (bytes_any lo w2 g s gk A n c l (p + 2) K X H2.out.1.fresh m (by omega))
  obtain ⟨bd, hbd⟩ : ∃ bd, bd = (l.drop (p + 2)).take m := ⟨_, rfl⟩
  rw [← hbd] at HB
  have hRe : R = match rb bd with | none => (none, 4) | some K' => (some K', 0) := by
    rw [HR.out]
    unfold segF
    rw [if_neg (by have := HG.out.2.2.2; omega), if_neg (by rw [← HL.out]; omega), if_neg (by rw [← HL.out]; have := HG.out.2.2.2; have := Hm.out.1; omega), ← HL.out, Hm.out.2, ← hbd]
  have HRe := Lib.hid (And.intro hRe hbd)
  clear hRe hbd
  go_wp2_with fail
  refine Calls.mono HB.out ?_
  rintro e w4 ⟨A', c', rfl, s4, r4, k4⟩
  have H4 := Lib.hid (And.intro (H2.out.1.trans r4) (And.intro (k4.box H2.out.2.1 (by have := H2.out.2.1.apart H2.out.1.own (by decide); omega)) (And.intro (k4.box H2.out.2.2 HG.out.2.2.1.1) s4)))
  clear r4 k4 s4 HB
  have hgk4 := H4.out.1.lts'
  have hop := opened_size' w4 A' m c' true
  have ri : Rd lo (opened w4 A' m c' true) (opened w4 A' m c' true) (w4.heap.size + 1 + 1 + 1) (w4.heap.size + 1) gk A' m c' bd 0 K X := by
    have hc := opened_cur w4 A' m c' true
    have hsz := opened_size w4 A' m c' true
    refine ⟨hc.own, hc.src, H4.out.1.kv.on hop, H4.out.1.kn.on hop, ?_, H4.out.1.tab.on hop, Kept.refl _ _, by omega, by have := H4.out.1.few; have := H4.out.1.le; omega, ⟨by omega, by omega, by omega⟩, ⟨by omega, H4.out.1.pos.2.1, by omega⟩, Nat.le_trans H4.out.1.fresh.low (by omega)⟩
    refine ((H4.out.2.2.2.mono (K' := fun b => b < w4.heap.size ∧ b ≠ gk) (fun b hb hk => ⟨hb, ?_⟩)).kept (Kept.of_below hop (fun _ => False)) (fun _ _ e => e)).mono (fun b hb hk => ⟨hb, by omega, hk.2⟩)
    have hk' : w2.heap.size ≤ b := hk
    have := H2.out.1.lts'
    omega
  have hi := inner_any lo (opened w4 A' m c' true) (w4.heap.size + 1 + 1 + 1) (w4.heap.size + 1) gk gv gf A' m c' bd K X G caps rb HG.out.1 ri (H4.out.2.2.1.on hop) (H4.out.2.1.on hop)
  have HT := Lib.hid (try_any w4 A' m c' true 72 #[.pointer (some ⟨gf, 0, none⟩)] calls72 (fun i => i = gk) (fun i e => by subst e; exact hgk4.2.2) _ _ hi)
  clear hi ri hop hgk4
  go_wp2_with fail
  refine Calls.mono HT.out ?_
  rintro e w5 ⟨k5, ⟨rfl, w6, ⟨K', X', hr, r6⟩, k6⟩ | ⟨k, ⟨hr, hk0⟩, rfl⟩⟩
  · have hsz := opened_size w4 A' m c' true
    have hgk4 := H4.out.1.lts'
    have hres : Box w6 w4.heap.size 38 #[.int .i64 0] := r6.kep.box (opened_res w4 A' m c' true) (by rintro (e | e) <;> omega)
    have hkn : KnO lo w5 K' X' := r6.kn.kept k6 (fun i e cs hb => by
      rcases e with rfl | rfl
      · exact hres.apart hb (by decide) rfl
      · exact r6.src.apart hb (by decide) rfl)
    have hkv : Box w5 gk 46 (kvC K' X').toArray := k6.box r6.kv (by omega)
    have H5 := Lib.hid (And.intro (H4.out.1.known' k5 hkv hkn) hr)
    clear k5 hr r6 k6 hres hkn hkv hgk4 hsz
    have HQ := Lib.hid (require_yes w5 g 4)
    go_wp2_with fail
    refine Calls.mono HQ.out ?_
    rintro e w7 ⟨rfl, rfl⟩
    go_wp2_with fail
    go_end0
    refine ⟨H5.out.1.kep, .inr ⟨rfl, K', X', p + 2 + m, by rw [HRe.out.1, H5.out.2], by rw [← HL.out]; have := Hm.out.1; omega, H5.out.1⟩⟩
  · have hk5 : Kept (fun i => i = g ∨ i = gk) w w5 := H4.out.1.kep.trans k5 (fun i hi e => .inr e)
    have hne := H4.out.1.ne
    have hown : Box w5 g 98 #[.pointer (some ⟨s, 0, none⟩), .int .i64 ((p + 2 + m : Nat) : Int)] := k5.box H4.out.1.own (by omega)
    have hsrc : Box w5 s 93 #[.slice A n c, .bool true, .bool true] := k5.box H4.out.1.src (by omega)
    have HQ := Lib.hid (require_no w5 g s A n c (p + 2 + m) 4 (by decide) ⟨hown, hsrc⟩)
    have hRn : R = (none, 4) := by rw [HRe.out.1, hr]
    have HRn := Lib.hid (And.intro hRn hk5)
    have hk1 : (k == 0) = false := by simpa using hk0
    clear k5 hk5 hown hsrc hRn hr hne
    go_wp2_with fail
    refine Calls.mono HQ.out ?_
    rintro e w7 ⟨rfl, k7⟩
    exact ⟨rfl, HRn.out.2.trans k7 (fun _ _ e => absurd e (fun e => e)), .inl ⟨by rw [HRn.out.1], by rw [HRn.out.1]⟩⟩
end Go.Proofs.YtgipngedmblnmaaDoor
