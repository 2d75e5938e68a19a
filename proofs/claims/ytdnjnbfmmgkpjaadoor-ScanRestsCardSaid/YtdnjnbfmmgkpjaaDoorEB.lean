/-
  The contract of scan.each, over the contracts of the function that sees the blocks and of the one that is told the restarts.
-/
import Derived.Test.YtdnjnbfmmgkpjaaDoorEA
import Derived.Test.YtdnjnbfmmgkpjaaDoorSU
import Derived.Deep.DeepCutAuto
namespace Go.Proofs.YtdnjnbfmmgkpjaaDoor
open Go.RowKit

/-- blocks that each's functions may turn: none ahead of lo, and none of each's own -/
def Turn (lo N : Nat) (w : World) (i : Nat) : Prop := lo ≤ i ∧ (N ≤ i → ∀ cs t, w.heap[i]? = some (.cells cs t (0, 0)) → t ≠ 23 ∧ t ≠ 36 ∧ t ≠ 118 ∧ t ≠ 65)
theorem Turn.not {lo N : Nat} {w : World} {g : Nat} {t : TypeId} {cs : Array Value} (h : Box w g t cs) (hg : N ≤ g) (ht : t = 23 ∨ t = 36 ∨ t = 118 ∨ t = 65) : ¬ Turn lo N w g := fun ⟨_, h2⟩ => by
  obtain ⟨h3, h4, h5, h6⟩ := h2 hg cs t h
  rcases ht with e | e | e | e
  · exact h3 e
  · exact h4 e
  · exact h5 e
  · exact h6 e
/-- each's own memory -/
structure Loc (wr : World) (N gs gp : Nat) (W H K R : Int) (A : Option Addr) (n c : Nat) (U : List (Nat × Nat)) (prev : List Int) : Prop where
  s : Box wr N 23 #[.int .i64 W, .int .i64 H, .int .i64 K, .int .i64 R]
  t : Box wr (N + 1) 36 #[.slice A n c]
  u : Box wr gs 65 (cellsP2 U).toArray
  p : Box wr gp 118 (cellsI prev).toArray
  len : prev.length = 3
  gs : N ≤ gs
  gp : N ≤ gp
section
variable {wr w' : World} {N gs gp : Nat} {W H K R : Int} {A : Option Addr} {n c : Nat} {U : List (Nat × Nat)} {prev : List Int}
theorem Loc.on (h : Loc wr N gs gp W H K R A n c U prev) (k : Below wr.heap.size wr w') : Loc w' N gs gp W H K R A n c U prev :=
  ⟨h.s.on k, h.t.on k, h.u.on k, h.p.on k, h.len, h.gs, h.gp⟩
theorem Loc.kept {lo : Nat} (h : Loc wr N gs gp W H K R A n c U prev) (k : Kept (Turn lo N wr) wr w') : Loc w' N gs gp W H K R A n c U prev :=
  ⟨k.box h.s (Turn.not h.s (Nat.le_refl _) (by simp)), k.box h.t (Turn.not h.t (by omega) (by simp)), k.box h.u (Turn.not h.u h.gs (by simp)), k.box h.p (Turn.not h.p h.gp (by simp)), h.len, h.gs, h.gp⟩
/-- the block of prev is of its type -/
def OneP (N : Nat) (w : World) (i : Nat) : Prop := N ≤ i ∧ ∃ cs, w.heap[i]? = some (.cells cs 118 (0, 0))
theorem Loc.put (h : Loc wr N gs gp W H K R A n c U prev) (q : Nat) (z : Int) : Loc (wr.setCell ⟨gp, q, none⟩ (.int .i64 z)) N gs gp W H K R A n c U (prev.set q z) := by
  have hne : ∀ {g : Nat} {t : TypeId} {cs : Array Value}, Box wr g t cs → t ≠ 118 → g ≠ gp := fun hb ht e => by subst e; exact hb.apart h.p ht rfl
  refine ⟨h.s.beside (hne h.s (by decide)) _, h.t.beside (hne h.t (by decide)) _, h.u.beside (hne h.u (by decide)) _, ?_, by rw [List.length_set]; exact h.len, h.gs, h.gp⟩
  have := h.p.put q (.int .i64 z)
  rw [put_cellsI] at this
  exact this
end
section
variable (Inv : List Ev → List Int → World → Prop) (Bad : Int → World → Prop) (G Hr : FuncId) (caps capsH : Array Value) (lo : Nat) (ad : Nat → Nat × Nat) (cc : Nat → Nat)
variable (w : World) (W H K : Int) (A : Option Addr) (n c : Nat) (L : List (Option Addr × Nat × Nat)) (r : Nat)
/-- what the function that sees a block does -/
def SeeY (N : Nat) (done : List Ev) (prev : List Int) (p a : Nat) (w1 : World) (e : Ending) (w2 : World) : Prop :=
  ∃ E : Int, e = .returned (.int .i64 E) ∧ (E = 0 → ∃ z, w2.cell? ⟨(ad p).1, (ad p).2 + a * 64, none⟩ = some (.int .i64 z) ∧ Inv (done ++ [some (p, a)]) (prev.set p z) w2) ∧ (E ≠ 0 → Bad E w2) ∧ Kept (Turn lo N w1) w1 w2
def RestY (N : Nat) (done : List Ev) (w1 : World) (e : Ending) (w2 : World) : Prop :=
  ∃ E : Int, e = .returned (.int .i64 E) ∧ (E = 0 → Inv (done ++ [none]) [0, 0, 0] w2) ∧ (E ≠ 0 → Bad E w2) ∧ Kept (Turn lo N w1) w1 w2
def EachY (all : List Ev) (w : World) (e : Ending) (w' : World) : Prop :=
  ∃ E : Int, e = .returned (.int .i64 E) ∧ (E = 0 → ∃ prev, Inv all prev w') ∧ (E ≠ 0 → Bad E w') ∧ Kept (fun i => lo ≤ i) w w'

set_option maxRecDepth 10000 in
set_option maxHeartbeats 6400000 in
theorem each14_any (hG : ∀ (args : Array Value) (w : World), (callFunc G args).run Tryd.prog w = .ok (.enter G args) w) (hH : ∀ (args : Array Value) (w : World), (callFunc Hr args).run Tryd.prog w = .ok (.enter Hr args) w)
    (hr : RightS W H K (r : Int)) (hlo : lo ≤ w.heap.size) (h0 : Inv [] [0, 0, 0] w)
    (hn : n = nP K) (hL : ∀ p, p < nP K → L[p]? = some (some ⟨(ad p).1, (ad p).2, none⟩, (uW W K * uA K p) * (uH H K * uD K p), cc p) ∧ (uW W K * uA K p) * (uH H K * uD K p) ≤ cc p)
    (hon : ∀ done prev w1 w2, Inv done prev w1 → Below w1.heap.size w1 w2 → Inv done prev w2)
    (hpr : ∀ done prev w1 w2, Inv done prev w1 → Kept (OneP w.heap.size w1) w1 w2 → Inv done prev w2)
    (hpt : ∀ done prev w1, Inv done prev w1 → Pt w1 A n L)
    (hsee : ∀ done prev p a w1, (∃ q, done ++ [some (p, a)] ++ q = evTo (uW W K) K r (uW W K * uH H K)) → p < nP K → a < (uW W K * uA K p) * (uH H K * uD K p) → prev.length = 3 → Inv done prev w1 → w.heap.size ≤ w1.heap.size →
      Calls Tryd.prog G (#[.int .i64 (p : Int), .pointer (some ⟨(ad p).1, (ad p).2 + a * 64, none⟩), .int .i64 (prev.getD p 0)] ++ caps) w1 (SeeY Inv Bad lo ad w.heap.size done prev p a w1))
    (hrest : ∀ done prev w1, (∃ q, done ++ [none] ++ q = evTo (uW W K) K r (uW W K * uH H K)) → prev.length = 3 → Inv done prev w1 → w.heap.size ≤ w1.heap.size →
      Calls Tryd.prog Hr (#[.int .i64 ((208 + rests done % 8 : Nat) : Int)] ++ capsH) w1 (RestY Inv Bad lo w.heap.size done w1)) :
    Calls Tryd.prog 23 #[scanV W H K (r : Int), tileV A n c, .func (.func G) #[] caps, .func (.func Hr) #[] capsH] w (EachY Inv Bad lo (evTo (uW W K) K r (uW W K * uH H K)) w) := by
  obtain ⟨N, hN⟩ : ∃ N, w.heap.size = N := ⟨_, rfl⟩
  obtain ⟨w1, hw1⟩ : ∃ w1, (w.alloc (.cells #[.int .i64 W, .int .i64 H, .int .i64 K, .int .i64 (r : Int)] 23)).alloc (.cells #[.slice A n c] 36) = w1 := ⟨_, rfl⟩
  have b1 : Box w1 N 23 #[.int .i64 W, .int .i64 H, .int .i64 K, .int .i64 (r : Int)] := by rw [← hw1, ← hN]; exact (Box.made _ _ _).alloc _
  have b2 : Box w1 (N + 1) 36 #[.slice A n c] := by rw [← hw1, ← hN]; have := Box.made (w.alloc (.cells #[.int .i64 W, .int .i64 H, .int .i64 K, .int .i64 (r : Int)] 23)) 36 #[.slice A n c]; simpa using this
  have k1 : Below w.heap.size w w1 := by rw [← hw1]; exact on_trans (on_alloc _ _) (on_alloc _ _)
  have q0 : w1.cell? ⟨N, 0, none⟩ = some (.int .i64 W) := b1.cell 0
  have q1 : w1.cell? ⟨N, 1, none⟩ = some (.int .i64 H) := b1.cell 1
  have q2 : w1.cell? ⟨N, 2, none⟩ = some (.int .i64 K) := b1.cell 2
  have q3 : w1.cell? ⟨N, 3, none⟩ = some (.int .i64 (r : Int)) := b1.cell 3
  have HB := Lib.hid (And.intro b1 (And.intro b2 k1))
  have HI0 := Lib.hid h0
  have HO := Lib.hid hon
  have HPR := Lib.hid hpr
  have HPT := Lib.hid hpt
  have HSee := Lib.hid hsee
  have HRest := Lib.hid hrest
  have HLL := Lib.hid hL
  have HD := Lib.hid (And.intro hr (And.intro hlo (And.intro hn hN)))
  have HU := Lib.hid (fun w' => units_any w' W H K (r : Int) hr)
  unfold scanV at HU
  have hK := hr.2.2.1
  have hX1 := uW_le hr
  have hY1 := uH_le hr
  have HUn := Lib.hid (fun w' => unit_any w' K hK.1 hK.2)
  clear b1 b2 k1 hr hlo h0 hn hL hon hpr hpt hsee hrest
  unfold scanV tileV
  go_enter Tryd.func23, Tryd.ntmps23
  go_wp2_with fail
  clear hw1
  refine (HU.out w1).mono ?_
  rintro e w2 ⟨rfl, k2⟩
  obtain ⟨X, hX⟩ : ∃ X, X = uW W K := ⟨_, rfl⟩
  obtain ⟨Y, hY⟩ : ∃ Y, Y = uH H K := ⟨_, rfl⟩
  rw [← hX] at hX1
  rw [← hY] at hY1
  rw [← hX, ← hY]
  clear q0 q1 q2 q3
  have q2 : w2.cell? ⟨N, 2, none⟩ = some (.int .i64 K) := (HB.out.1.on k2).cell 2
  have H2 := Lib.hid (And.intro hX (And.intro hY k2))
  clear hX hY k2
  go_wp2_with fail
  refine (HUn.out w2).mono ?_
  rintro e w3 ⟨gs, rfl, hgs, hb3, k3⟩
  clear q2
  have H3 := Lib.hid (And.intro hgs (And.intro hb3 (on_trans (on_trans HB.out.2.2 H2.out.2.2) k3)))
  have H3b := Lib.hid (on_trans H2.out.2.2 k3)
  clear hgs hb3 k3
  obtain ⟨np, hnp⟩ : ∃ np, np = nP K := ⟨_, rfl⟩
  have hnp3 := nP_le K
  rw [← hnp] at hnp3 ⊢
  have HNP := Lib.hid hnp
  clear hnp
  have hz118 : ∀ w, (zeroValue 118).run Tryd.prog w = .ok (.agg #[.int .i64 0, .int .i64 0, .int .i64 0]) w := fun w => by kernel_rfl
  have hb118 : ∀ w, (Instr.build 118 #[]).run Tryd.prog w = .ok (.agg #[.int .i64 0, .int .i64 0, .int .i64 0]) w := fun w => run_build w 118 _ _ (by show Program.built _ _ _ = _; kernel_rfl)
  have hXY : X * Y ≤ 256 := Nat.mul_le_mul hX1.2 hY1.2
  have hXYi : (X : Int) * (Y : Int) = ((X * Y : Nat) : Int) := by push_cast; rfl
  obtain ⟨U, hU⟩ : ∃ U, U = X * Y := ⟨_, rfl⟩
  rw [← hU] at hXY hXYi
  have HUU := Lib.hid hU
  clear hU
  obtain ⟨gp, hgp⟩ : ∃ gp, w3.heap.size = gp := ⟨_, rfl⟩
  obtain ⟨w4, hw4⟩ : ∃ w4, w3.alloc (.cells #[.int .i64 0, .int .i64 0, .int .i64 0] 118) = w4 := ⟨_, rfl⟩
  have k4 : Below w3.heap.size w3 w4 := by rw [← hw4]; exact on_alloc _ _
  have b4 : Box w4 gp 118 (cellsI [0, 0, 0]).toArray := by rw [← hw4, ← hgp]; exact Box.made _ _ _
  have hN3 : N + 2 ≤ w3.heap.size := by
    have h1 := HB.out.2.1.lt
    have h2 := H3b.out.size
    omega
  have h4l : Loc w4 N gs gp W H K (r : Int) A n c (unitL K) [0, 0, 0] := ⟨((HB.out.1.on H3b.out).on k4), ((HB.out.2.1.on H3b.out).on k4), H3.out.2.1.on k4, b4, rfl, by have := H3.out.1; have := H2.out.2.2.size; have := HB.out.2.1.lt; omega, by omega⟩
  have h4i : Inv [] [0, 0, 0] w4 := HO.out _ _ _ _ HI0.out (on_trans H3.out.2.2 k4)
  have H4 := Lib.hid (And.intro h4l (And.intro h4i (on_trans H3.out.2.2 k4)))
  clear k4 b4 hN3 h4l h4i
  go_wp2_with fail
  go_loopw [35] (fun i wr => ∃ (k : Nat) (prev : List Int), k ≤ U ∧ i = .int .i64 (k : Int) ∧ Loc wr N gs gp W H K (r : Int) A n c (unitL K) prev ∧ Inv (evTo X K r k) prev wr ∧ Kept (fun i => lo ≤ i) w wr) (fun i _ => U - (intOf i).toNat)
  case atStart => exact ⟨0, _, Nat.zero_le _, rfl, H4.out.1, H4.out.2.1, Kept.of_below H4.out.2.2 _⟩
  case round =>
    obtain ⟨wo, rfl⟩ : ∃ wo, wo = wr := ⟨_, rfl⟩
    obtain ⟨k, prev, hk, rfl, hloc, hinv, hkep⟩ := hrel
    have HW := Lib.hid (And.intro hloc (And.intro hinv hkep))
    by_cases hlt : k < U
    · have hki : (k : Int) < (U : Int) := by omega
      have p3 : wo.cell? ⟨N, 3, none⟩ = some (.int .i64 (r : Int)) := hloc.s.cell 3
      clear hloc hinv hkep
      go_upto_region 7 with fail
      go_cut [51] (fun b wx => b = .bool (decide (isRs r k)) ∧ wo = wx)
      case first =>
        by_cases hk0 : 0 < k
        · have hk0i : (0 : Int) < (k : Int) := by omega
          by_cases hr0 : 0 < r
          · have hr0i : (0 : Int) < (r : Int) := by omega
            have hrz : (r : Int) ≠ 0 := by omega
            have hr65 : (r : Int) ≤ 65535 := HD.out.1.2.2.2.2
            by_cases hq0 : k % r = 0
            · have HDd := Lib.hid (decide_eq_true (show isRs r k from ⟨hk0, hr0, hq0⟩))
              have hq0i : (k : Int) % (r : Int) = 0 := by omega
              clear hq0
              go_wp2_with fail
              go_meet
              exact ⟨by rw [HDd.out], rfl⟩
            · have HDd := Lib.hid (decide_eq_false (show ¬ isRs r k from fun h => hq0 h.2.2))
              have hq0i : ¬ (k : Int) % (r : Int) = 0 := by omega
              clear hq0
              go_wp2_with fail
              go_meet
              exact ⟨by rw [HDd.out]; simpa using hq0i, rfl⟩
          · have HDd := Lib.hid (decide_eq_false (show ¬ isRs r k from fun h => hr0 h.2.1))
            have hr0i : ¬ (0 : Int) < (r : Int) := by omega
            go_wp2_with fail
            go_meet
            exact ⟨by rw [HDd.out], rfl⟩
        · have HDd := Lib.hid (decide_eq_false (show ¬ isRs r k from fun h => hk0 h.1))
          have hk0i : ¬ (0 : Int) < (k : Int) := by omega
          go_wp2_with fail
          go_meet
          exact ⟨by rw [HDd.out], rfl⟩
      case rest =>
        obtain ⟨rfl, rfl⟩ := hcut
        go_upto_if 51 with fail
        go_cut [14] (fun _ wx => ∃ prev' : List Int, Loc wx N gs gp W H K (r : Int) A n c (unitL K) prev' ∧ Inv (evTo X K r k ++ rsOf r k) prev' wx ∧ Kept (fun i => lo ≤ i) w wx)
        case first =>
          by_cases hrs : isRs r k
          · rw [decide_eq_true hrs]
            have hr0 : (r : Int) ≠ 0 := by have := hrs.2.1; omega
            have hr65 : (r : Int) ≤ 65535 := HD.out.1.2.2.2.2
            have hrp : 0 < (r : Int) := by have := hrs.2.1; omega
            have hq : (k : Int) / (r : Int) = ((k / r : Nat) : Int) := rfl
            have hq1 : 1 ≤ k / r := by
              obtain ⟨m, hm⟩ := Nat.dvd_of_mod_eq_zero hrs.2.2
              have : 0 < m := by rcases Nat.eq_zero_or_pos m with h | h; (subst h; have := hrs.1; omega); exact h
              rw [hm, Nat.mul_div_cancel_left _ hrs.2.1]
              exact this
            have hq2 : k / r ≤ k := Nat.div_le_self _ _
            have hrsn : rests (evTo X K r k) = k / r - 1 := by
              rw [rests_evTo, if_neg (by have := hrs.2.1; omega)]
              have h1 := rests_evTo X K r (k + 1)
              have h2 := rests_evTo X K r k
              rw [evTo_more, rests_app, rests_app, rests_plTo, h2, if_neg (by have := hrs.2.1; omega), if_neg (by have := hrs.2.1; omega)] at h1
              unfold rsOf at h1
              rw [if_pos hrs] at h1
              have h3 : rests [none] = 1 := rfl
              rw [h3, Nat.add_sub_cancel] at h1
              omega
            obtain ⟨j, hj⟩ : ∃ j, j = k / r := ⟨_, rfl⟩
            rw [← hj] at hq hq1 hq2 hrsn
            have HJ := Lib.hid (And.intro hrs hrsn)
            have C1 := Lib.hid (HRest.out (evTo X K r k) prev wo (by rw [← H2.out.1, ← H2.out.2.1, ← HUU.out]; exact pre_rest hlt hrs) HW.out.1.len HW.out.2.1 HW.out.2.2.size)
            rw [hrsn] at C1
            have hcast : ((208 + (j - 1) % 8 : Nat) : Int) = 208 + ((j : Int) - 1) % 8 := by omega
            rw [hcast] at C1
            clear hrs hrsn hj hcast
            go_wp2_with fail
            refine C1.out.mono ?_
            rintro e w5 ⟨E, rfl, hE0, hE1, k5⟩
            rw [HD.out.2.2.2] at k5
            have hl5 := HW.out.1.kept k5
            have kk5 : Kept (fun i => lo ≤ i) w w5 := HW.out.2.2.trans k5 (fun i _ h => h.1)
            by_cases hE : E = 0
            · subst hE
              have H5 := Lib.hid (And.intro (hE0 rfl) (And.intro hl5 kk5))
              have f0 := hl5.p.free 0
              have f1 := hl5.p.free 1
              have f2 := hl5.p.free 2
              have hgl := hl5.p.lt
              have c0 : w5.cell? ⟨gp, 0, none⟩ = some (.int .i64 (prev.getD 0 0)) := by rw [hl5.p.cell, List.getElem?_toArray]; exact cellsI_get prev 0 (by rw [hl5.len]; omega)
              have c1 : w5.cell? ⟨gp, 1, none⟩ = some (.int .i64 (prev.getD 1 0)) := by rw [hl5.p.cell, List.getElem?_toArray]; exact cellsI_get prev 1 (by rw [hl5.len]; omega)
              have c2 : w5.cell? ⟨gp, 2, none⟩ = some (.int .i64 (prev.getD 2 0)) := by rw [hl5.p.cell, List.getElem?_toArray]; exact cellsI_get prev 2 (by rw [hl5.len]; omega)
              clear hE0 hE1 k5 hl5 kk5
              go_wp2_with fail
              go_meet
              obtain ⟨hi5, hl5, hk5⟩ := H5.out
              have hk6 : Kept (OneP w.heap.size w5) w5 (((w5.setCell ⟨gp, 0, none⟩ (.int .i64 0)).setCell ⟨gp, 1, none⟩ (.int .i64 0)).setCell ⟨gp, 2, none⟩ (.int .i64 0)) := by
                have hop : OneP w.heap.size w5 gp := ⟨by rw [HD.out.2.2.2]; exact hl5.gp, _, hl5.p⟩
                exact (((Kept.refl (OneP w.heap.size w5) w5).setCell (p := ⟨gp, 0, none⟩) (fun _ => hop) _).setCell (p := ⟨gp, 1, none⟩) (fun _ => hop) _).setCell (p := ⟨gp, 2, none⟩) (fun _ => hop) _
              have hl6 := ((hl5.put 0 0).put 1 0).put 2 0
              have hset : ((prev.set 0 0).set 1 0).set 2 0 = [0, 0, 0] := by
                have h3 := hl5.len
                match prev, h3 with
                | [a, b, c], _ => rfl
              rw [hset] at hl6
              refine ⟨[0, 0, 0], hl6, HPR.out _ _ _ _ ?_ hk6, hk5.trans (hk6.mono (S' := fun i => lo ≤ i) (fun i _ h => Nat.le_trans HD.out.2.1 h.1)) (fun _ _ h => h)⟩
              unfold rsOf
              rw [if_pos HJ.out.1]
              exact hi5
            · have hEb : (E != 0) = true := by simpa using hE
              have H5 := Lib.hid (And.intro (hE1 hE) kk5)
              have HE := Lib.hid hE
              clear hE0 hE1 k5 hl5 kk5 hE
              go_wp2_with fail
              go_ret
              exact ⟨E, rfl, fun h => absurd h HE.out, fun _ => H5.out.1, H5.out.2⟩
          · rw [decide_eq_false hrs]
            have HRS := Lib.hid hrs
            clear hrs
            go_wp2_with fail
            go_meet
            exact ⟨prev, HW.out.1, by unfold rsOf; rw [if_neg HRS.out, List.append_nil]; exact HW.out.2.1, HW.out.2.2⟩
        case rest =>
          obtain ⟨prev1, hl1, hi1, hk1⟩ := hcut
          rw [← evAt_zero] at hi1
          have HW1 := Lib.hid (And.intro hl1 (And.intro hi1 hk1))
          clear hl1 hi1 hk1 p3
          go_wp2_with fail
          go_loopw [67] (fun i wr => ∃ (p : Nat) (prev : List Int), p ≤ np ∧ i = .int .i64 (p : Int) ∧ Loc wr N gs gp W H K (r : Int) A n c (unitL K) prev ∧ Inv (evAt X K r k p 0) prev wr ∧ Kept (fun i => lo ≤ i) w wr) (fun i _ => np - (intOf i).toNat)
          case atStart => exact ⟨0, _, Nat.zero_le _, rfl, HW1.out⟩
          case round =>
            obtain ⟨wm, rfl⟩ : ∃ wm, wm = wr := ⟨_, rfl⟩
            obtain ⟨p, prevp, hp, rfl, hlocp, hinvp, hkepp⟩ := hrel
            have HWP := Lib.hid (And.intro hlocp (And.intro hinvp hkepp))
            by_cases hlp : p < np
            · obtain ⟨a, ha⟩ : ∃ a, a = uA K p := ⟨_, rfl⟩
              obtain ⟨d, hd⟩ : ∃ d, d = uD K p := ⟨_, rfl⟩
              have ha1 := uA_le K p
              have hd1 := uD_le K p
              rw [← ha] at ha1
              rw [← hd] at hd1
              have ps := (ps_of_box (lo := 0) hlocp.u (Nat.zero_le _)).at_ (by rw [unitL_len]; have := nP_le K; omega)
              obtain ⟨_, _, e1, _, _, hcs⟩ := ps
              cases e1
              obtain ⟨x0, x1⟩ := hcs p (uA K p, uD K p) (by rw [unitL, List.getElem?_map, List.getElem?_range (by rw [← HNP.out]; exact hlp)]; rfl)
              dsimp only at x0 x1
              rw [Nat.zero_add, ← ha] at x0
              rw [Nat.zero_add, ← hd] at x1
              obtain ⟨gz, hgz⟩ : ∃ gz, wm.heap.size = gz := ⟨_, rfl⟩
              obtain ⟨w6, hw6⟩ : ∃ w6, wm.alloc (.cells #[.int .i64 (a : Int), .int .i64 (d : Int)] 65) = w6 := ⟨_, rfl⟩
              have k6 : Below wm.heap.size wm w6 := by rw [← hw6]; exact on_alloc _ _
              have b6 : Box w6 gz 65 #[.int .i64 (a : Int), .int .i64 (d : Int)] := by rw [← hw6, ← hgz]; exact Box.made _ _ _
              have hNz : N ≤ gz := by rw [← hgz, ← HD.out.2.2.2]; exact hkepp.size
              have z0 : w6.cell? ⟨gz, 0, none⟩ = some (.int .i64 (a : Int)) := b6.cell 0
              have z1 : w6.cell? ⟨gz, 1, none⟩ = some (.int .i64 (d : Int)) := b6.cell 1
              have hk256 : k ≤ 256 := by omega
              have hX0 : (X : Int) ≠ 0 := by omega
              have hXp : 0 < (X : Int) := by omega
              obtain ⟨lf, hlf⟩ : ∃ lf, lf = k % X * a := ⟨_, rfl⟩
              obtain ⟨tp, htp⟩ : ∃ tp, tp = k / X * d := ⟨_, rfl⟩
              have hlfi : ((k : Int) % (X : Int)) * (a : Int) = (lf : Int) := by rw [hlf]; push_cast; rfl
              have htpi : ((k : Int) / (X : Int)) * (d : Int) = (tp : Int) := by rw [htp]; push_cast; rfl
              have hlf2 : lf ≤ 32 := by
                have h1 := Nat.mod_lt k (show 0 < X by omega)
                have h2 : k % X * a ≤ 16 * 2 := Nat.mul_le_mul (by omega) ha1.2
                omega
              have htp2 : tp ≤ 512 := by
                have h1 := Nat.div_le_self k X
                have h2 : k / X * d ≤ 256 * 2 := Nat.mul_le_mul (by omega) hd1.2
                omega
              obtain ⟨m1, hm1⟩ : ∃ m1, m1 = k % X := ⟨_, rfl⟩
              obtain ⟨m2, hm2⟩ : ∃ m2, m2 = k / X := ⟨_, rfl⟩
              have hm1i : (k : Int) % (X : Int) = (m1 : Int) := by rw [hm1]; rfl
              have hm2i : (k : Int) / (X : Int) = (m2 : Int) := by rw [hm2]; rfl
              have hm1l : m1 ≤ 256 := by rw [hm1]; exact Nat.le_trans (Nat.mod_le _ _) hk256
              have hm2l : m2 ≤ 256 := by rw [hm2]; exact Nat.le_trans (Nat.div_le_self _ _) hk256
              rw [hm1i] at hlfi
              rw [hm2i] at htpi
              have H6 := Lib.hid (And.intro (hlocp.on k6) (And.intro (HO.out _ _ _ _ hinvp k6) (And.intro (hkepp.trans (Kept.of_below k6 (fun i => lo ≤ i)) (fun _ _ h => h)) (And.intro b6 (And.intro ha (And.intro hd (And.intro hlf (And.intro htp hNz))))))))
              clear hlocp hinvp hkepp hcs k6 b6 ha hd hlf htp hm1 hm2 hNz
              go_wp2_with fail
              clear hw6 x0 x1 hgz
              go_quiet (fail)
              obtain ⟨w7, hw7⟩ : ∃ w7, w7 = w6.drewN nq := ⟨_, rfl⟩
              have k7 : Below w6.heap.size w6 w7 := by rw [hw7]; exact below_drewN_refl _ _
              rw [← hw7]
              have z0' : w7.cell? ⟨gz, 0, none⟩ = some (.int .i64 (a : Int)) := (H6.out.2.2.2.1.on k7).cell 0
              have z1' : w7.cell? ⟨gz, 1, none⟩ = some (.int .i64 (d : Int)) := (H6.out.2.2.2.1.on k7).cell 1
              have H7 := Lib.hid (And.intro (H6.out.1.on k7) (And.intro (HO.out _ _ _ _ H6.out.2.1 k7) (And.intro (H6.out.2.2.1.trans (Kept.of_below k7 (fun i => lo ≤ i)) (fun _ _ h => h)) (H6.out.2.2.2.1.on k7))))
              clear hw7 k7 z0 z1 hlfi htpi hm1i hm2i hm1l hm2l
              have hadi : (a : Int) * (d : Int) = ((a * d : Nat) : Int) := by push_cast; rfl
              have had : a * d ≤ 2 * 2 := Nat.mul_le_mul ha1.2 hd1.2
              obtain ⟨cn, hcn⟩ : ∃ cn, cn = a * d := ⟨_, rfl⟩
              rw [← hcn] at hadi had
              have HCN := Lib.hid hcn
              clear hcn
              go_wp2_with fail
              clear z0' z1'
              go_loopw [89] (fun i wr => ∃ (i0 : Nat) (prev : List Int), i0 ≤ cn ∧ i = .int .i64 (i0 : Int) ∧ Loc wr N gs gp W H K (r : Int) A n c (unitL K) prev ∧ Inv (evAt X K r k p i0) prev wr ∧ Kept (fun i => lo ≤ i) w wr ∧ Box wr gz 65 #[.int .i64 (a : Int), .int .i64 (d : Int)]) (fun i _ => cn - (intOf i).toNat)
              case atStart => exact ⟨0, _, Nat.zero_le _, rfl, H7.out⟩
              case round =>
                obtain ⟨j, prevj, hj, rfl, hlocj, hinvj, hkepj, hbj⟩ := hrel
                have HJ := Lib.hid (And.intro hlocj (And.intro hinvj (And.intro hkepj hbj)))
                by_cases hjl : j < cn
                · have z0 : wr.cell? ⟨gz, 0, none⟩ = some (.int .i64 (a : Int)) := hbj.cell 0
                  have t0 : wr.cell? ⟨N + 1, 0, none⟩ = some (.slice A n c) := hlocj.t.cell 0
                  have ha0 : (a : Int) ≠ 0 := by omega
                  have hap : 0 < (a : Int) := by omega
                  obtain ⟨xx, hxx⟩ : ∃ xx, xx = lf + j % a := ⟨_, rfl⟩
                  obtain ⟨yy, hyy⟩ : ∃ yy, yy = tp + j / a := ⟨_, rfl⟩
                  have hxi : (lf : Int) + (j : Int) % (a : Int) = (xx : Int) := by rw [hxx]; push_cast; rfl
                  have hyi : (tp : Int) + (j : Int) / (a : Int) = (yy : Int) := by rw [hyy]; push_cast; rfl
                  have hj1 : j % a ≤ 4 := Nat.le_trans (Nat.mod_le _ _) (by omega)
                  have hj2 : j / a ≤ 4 := Nat.le_trans (Nat.div_le_self _ _) (by omega)
                  have hx2 : xx ≤ 40 := by omega
                  have hy2 : yy ≤ 520 := by omega
                  have HXY := Lib.hid (And.intro hxx hyy)
                  obtain ⟨u1, hu1⟩ : ∃ u1, u1 = j % a := ⟨_, rfl⟩
                  obtain ⟨u2, hu2⟩ : ∃ u2, u2 = j / a := ⟨_, rfl⟩
                  have hu1i : (j : Int) % (a : Int) = (u1 : Int) := by rw [hu1]; rfl
                  have hu2i : (j : Int) / (a : Int) = (u2 : Int) := by rw [hu2]; rfl
                  rw [hu1i] at hxi
                  rw [hu2i] at hyi
                  rw [← hu1] at hj1
                  rw [← hu2] at hj2
                  clear hxx hyy hu1 hu2 hlocj hinvj hkepj hbj
                  go_wp2_with fail
                  go_quiet (fail)
                  obtain ⟨w8, hw8⟩ : ∃ w8, w8 = wr.drewN nq := ⟨_, rfl⟩
                  have k8 : Below wr.heap.size wr w8 := by rw [hw8]; exact below_drewN_refl _ _
                  rw [← hw8]
                  have H8 := Lib.hid (And.intro (HJ.out.1.on k8) (And.intro (HO.out _ _ _ _ HJ.out.2.1 k8) (And.intro (HJ.out.2.2.1.trans (Kept.of_below k8 (fun i => lo ≤ i)) (fun _ _ h => h)) (HJ.out.2.2.2.on k8))))
                  clear hw8 k8 z0 t0 hxi hyi hu1i hu2i hj1 hj2
                  obtain ⟨hLp, hcp⟩ := HLL.out p (by rw [← HNP.out]; exact hlp)
                  obtain ⟨ba, oa, hA, hba, hcell⟩ := (HPT.out _ _ _ H8.out.2.1).at_ (by have := HD.out.2.2.1; have := nP_le K; omega)
                  have t0 : w8.cell? ⟨N + 1, 0, none⟩ = some (.slice A n c) := H8.out.1.t.cell 0
                  have z0 : w8.cell? ⟨gz, 0, none⟩ = some (.int .i64 (a : Int)) := H8.out.2.2.2.cell 0
                  have s0 := hcell p _ hLp
                  dsimp only at s0
                  rw [hA] at t0
                  obtain ⟨idx, hidx⟩ : ∃ idx, idx = yy * X * a + xx := ⟨_, rfl⟩
                  have hplat : plAt X K k p j = (p, idx) := by
                    rw [hidx, HXY.out.1, HXY.out.2, H6.out.2.2.2.2.2.2.1, H6.out.2.2.2.2.2.2.2.1]
                    unfold plAt
                    rw [← H6.out.2.2.2.2.1, ← H6.out.2.2.2.2.2.1, Nat.mul_assoc]
                  have hidl : idx < (uW W K * uA K p) * (uH H K * uD K p) := by
                    have h1 := plAt_lt (X := X) (Y := Y) (K := K) (n := k) (p := p) (i := j) (by rw [← HUU.out]; exact hlt) (by rw [← H6.out.2.2.2.2.1, ← H6.out.2.2.2.2.2.1, ← HCN.out]; exact hjl)
                    rw [hplat] at h1
                    rw [← H2.out.1, ← H2.out.2.1]
                    exact h1
                  obtain ⟨ar, har⟩ : ∃ ar, ar = (uW W K * uA K p) * (uH H K * uD K p) := ⟨_, rfl⟩
                  have har2 : ar ≤ 1024 := by
                    rw [har, ← H2.out.1, ← H2.out.2.1, ← H6.out.2.2.2.2.1, ← H6.out.2.2.2.2.2.1]
                    exact Nat.mul_le_mul (Nat.mul_le_mul hX1.2 ha1.2) (Nat.mul_le_mul hY1.2 hd1.2)
                  have C2 := Lib.hid (HSee.out (evAt X K r k p j) prevj p idx)
                  rw [← har] at C2 hidl s0 hcp
                  have hv1 : (yy : Int) * (X : Int) = ((yy * X : Nat) : Int) := by push_cast; rfl
                  have hv2 : ((yy * X : Nat) : Int) * (a : Int) = ((yy * X * a : Nat) : Int) := by push_cast; rfl
                  have hv3 : ((yy * X * a : Nat) : Int) + (xx : Int) = (idx : Int) := by rw [hidx]; push_cast; rfl
                  have hv4 : yy * X ≤ 520 * 16 := Nat.mul_le_mul hy2 hX1.2
                  have hv5 : yy * X * a ≤ 520 * 16 * 2 := Nat.mul_le_mul hv4 ha1.2
                  obtain ⟨y1, hy1⟩ : ∃ y1, y1 = yy * X := ⟨_, rfl⟩
                  obtain ⟨y2, hy2'⟩ : ∃ y2, y2 = yy * X * a := ⟨_, rfl⟩
                  rw [← hy2'] at hv2 hv3 hv5
                  rw [← hy1] at hv1 hv2 hv4
                  have HPL := Lib.hid (And.intro hplat (And.intro hidl har))
                  obtain ⟨gb, hgb⟩ : ∃ gb, gb = (ad p).1 := ⟨_, rfl⟩
                  obtain ⟨ob, hob⟩ : ∃ ob, ob = (ad p).2 := ⟨_, rfl⟩
                  rw [← hgb, ← hob] at s0 C2
                  have HGB := Lib.hid (And.intro hgb hob)
                  have hidi : (idx : Int) < (ar : Int) := by omega
                  have hpn : p < n := by rw [HD.out.2.2.1, ← HNP.out]; exact hlp
                  have hn3 : n ≤ 3 := by rw [HD.out.2.2.1]; exact (nP_le K).2
                  have hpni : (p : Int) < (n : Int) := by omega
                  clear hplat hidl har hgb hob hidx hy1 hy2' hcell hLp hA hba
                  go_wp2_with fail
                  go_quiet (fail)
                  obtain ⟨w9, hw9⟩ : ∃ w9, w9 = w8.drewN nq := ⟨_, rfl⟩
                  have k9 : Below w8.heap.size w8 w9 := by rw [hw9]; exact below_drewN_refl _ _
                  rw [← hw9]
                  have H9 := Lib.hid (And.intro (H8.out.1.on k9) (And.intro (HO.out _ _ _ _ H8.out.2.1 k9) (And.intro (H8.out.2.2.1.trans (Kept.of_below k9 (fun i => lo ≤ i)) (fun _ _ h => h)) (H8.out.2.2.2.on k9))))
                  have pv : w9.cell? ⟨gp, p, none⟩ = some (.int .i64 (prevj.getD p 0)) := by
                    rw [H9.out.1.p.cell, List.getElem?_toArray]
                    exact cellsI_get prevj p (by rw [H9.out.1.len]; omega)
                  clear hw9 k9 z0 t0 s0 hv1 hv2 hv3 hidi hpni hpn hn3
                  obtain ⟨zp, hzp⟩ : ∃ zp, zp = prevj.getD p 0 := ⟨_, rfl⟩
                  have C3 := Lib.hid (C2.out w9 (by rw [← HPL.out.1, ← H2.out.1, ← H2.out.2.1, ← HUU.out]; exact pre_place hlt (by rw [← HNP.out]; exact hlp) (by rw [← H6.out.2.2.2.2.1, ← H6.out.2.2.2.2.2.1, ← HCN.out]; exact hjl)) (by rw [← HNP.out]; exact hlp) HPL.out.2.1 H9.out.1.len H9.out.2.1 H9.out.2.2.1.size)
                  rw [← hzp] at C3 pv
                  clear hzp
                  go_wp2_with fail
                  refine C3.out.mono ?_
                  rintro e w10 ⟨E, rfl, hE0, hE1, k10⟩
                  rw [HD.out.2.2.2] at k10
                  have hl10 := H9.out.1.kept k10
                  have kk10 : Kept (fun i => lo ≤ i) w w10 := H9.out.2.2.1.trans k10 (fun i _ h => h.1)
                  have hb10 := k10.box H9.out.2.2.2 (Turn.not H9.out.2.2.2 H6.out.2.2.2.2.2.2.2.2 (by simp))
                  by_cases hE : E = 0
                  · subst hE
                    obtain ⟨z, hz, hi10⟩ := hE0 rfl
                    rw [← HGB.out.1, ← HGB.out.2] at hz
                    have f10 := hl10.p.free p
                    have pv10 : w10.cell? ⟨gp, p, none⟩ = some (.int .i64 (prevj.getD p 0)) := by
                      rw [hl10.p.cell, List.getElem?_toArray]
                      exact cellsI_get prevj p (by rw [hl10.len]; omega)
                    have H10 := Lib.hid (And.intro hl10 (And.intro hi10 (And.intro kk10 hb10)))
                    clear hE0 hE1 k10 hl10 kk10 hb10 hi10 pv
                    go_wp2_with fail
                    have hop : OneP w.heap.size w10 gp := ⟨by rw [HD.out.2.2.2]; exact H10.out.1.gp, _, H10.out.1.p⟩
                    have hk11 : Kept (OneP w.heap.size w10) w10 (w10.setCell ⟨gp, p, none⟩ (.int .i64 z)) := (Kept.refl (OneP w.heap.size w10) w10).setCell (p := ⟨gp, p, none⟩) (fun _ => hop) _
                    have hgz : gz ≠ gp := H10.out.2.2.2.apart H10.out.1.p (by decide)
                    refine ⟨⟨j + 1, prevj.set p z, hjl, by push_cast; rfl, H10.out.1.put p z, ?_, H10.out.2.2.1.trans (hk11.mono (S' := fun i => lo ≤ i) (fun i _ h => Nat.le_trans HD.out.2.1 h.1)) (fun _ _ h => h), H10.out.2.2.2.beside hgz _⟩, ?_⟩
                    · refine HPR.out _ _ _ _ ?_ hk11
                      rw [evAt_more, HPL.out.1]
                      exact H10.out.2.1
                    · show cn - ((j : Int) + 1).toNat < cn - (j : Int).toNat
                      omega
                  · have hEb : (E != 0) = true := by simpa using hE
                    have H10 := Lib.hid (And.intro (hE1 hE) kk10)
                    have HE := Lib.hid hE
                    clear hE0 hE1 k10 hl10 kk10 hb10 hE pv
                    go_wp2_with fail
                    go_ret
                    exact ⟨E, rfl, fun h => absurd h HE.out, fun _ => H10.out.1, H10.out.2⟩
                · obtain rfl : j = cn := by omega
                  clear hlocj hinvj hkepj hbj
                  go_wp2_with fail
                  refine ⟨⟨p + 1, prevj, hlp, by push_cast; rfl, HJ.out.1, ?_, HJ.out.2.2.1⟩, ?_⟩
                  · rw [← evAt_part, ← H6.out.2.2.2.2.1, ← H6.out.2.2.2.2.2.1, ← HCN.out]
                    exact HJ.out.2.1
                  · show np - ((p : Int) + 1).toNat < np - (p : Int).toNat
                    omega
            · obtain rfl : p = np := by omega
              clear hlocp hinvp hkepp
              go_wp2_with fail
              refine ⟨⟨k + 1, prevp, hlt, by push_cast; rfl, HWP.out.1, ?_, HWP.out.2.2⟩, ?_⟩
              · rw [← evAt_unit, ← HNP.out]
                exact HWP.out.2.1
              · show U - ((k : Int) + 1).toNat < U - (k : Int).toNat
                omega
    · have HX := Lib.hid (And.intro hinv hkep)
      clear hloc hinv hkep
      go_wp2_with fail
      go_ret
      obtain rfl : k = U := by omega
      refine ⟨0, rfl, fun _ => ⟨prev, ?_⟩, fun h => absurd rfl h, HX.out.2⟩
      rw [← H2.out.1, ← H2.out.2.1, ← HUU.out]
      exact HX.out.1
end
end Go.Proofs.YtdnjnbfmmgkpjaaDoor
