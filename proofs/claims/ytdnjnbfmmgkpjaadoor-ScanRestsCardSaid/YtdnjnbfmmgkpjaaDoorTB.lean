/-
  The contract of tally, of one tile that may be.
-/
import Derived.Test.YtdnjnbfmmgkpjaaDoorTA
import Derived.Test.YtdnjnbfmmgkpjaaDoorPG
import Derived.Test.YtdnjnbfmmgkpjaaDoorPH
import Derived.Deep.RegionLaw
namespace Go.Proofs.YtdnjnbfmmgkpjaaDoor
open Go.RowKit

/-- the counts behind some events: row 2 c + t -/
def cntR (tl : List (List (List Int))) (es : List Ev) (j : Nat) : List Int := cntS (j % 2) (sy (runT tl es) (j / 2))
theorem right_blk {W H K R : Int} {tl : List (List (List Int))} (h : RightT W H K R tl) {p a : Nat} (hp : p < nP K) (ha : a < (uW W K * uA K p) * (uH H K * uD K p)) : RightB (blkAt tl p a) := by
  obtain ⟨h1, h2⟩ := h.2.2 p hp
  unfold blkAt
  generalize tl.getD p [] = t at h1 h2 ⊢
  refine h2 _ ?_
  rw [List.getD_eq_getElem?_getD, List.getElem?_eq_getElem (by omega)]
  exact List.getElem_mem _
theorem right_evs {W H K R : Int} {r : Nat} {tl : List (List (List Int))} (h : RightT W H K R tl) {done q : List Ev} (hq : done ++ q = evTo (uW W K) K r (uW W K * uH H K)) : ∀ p a, some (p, a) ∈ done → p < 3 ∧ RightB (blkAt tl p a) := fun p a hm => by
  obtain ⟨h1, h2⟩ := mem_lt (X := uW W K) (Y := uH H K) (K := K) (R := r) (p := p) (a := a) (by rw [← hq]; exact List.mem_append_left _ hm)
  exact ⟨by have := (nP_le K).2; omega, right_blk h h1 h2⟩
theorem few_syms {W H K R : Int} {r : Nat} {tl : List (List (List Int))} (hr : RightS W H K R) (hw : W ≤ 40) (hh : H ≤ 40) {done q : List Ev} (hq : done ++ q = evTo (uW W K) K r (uW W K * uH H K)) {c : Nat} (hc : c ≤ 1) : (sy (runT tl done) c).length ≤ 5120 := by
  have h1 := few_places hr hw hh
  have h2 := places_evTo (uW W K) K r (uW W K * uH H K)
  rw [← hq, places_app] at h2
  have h3 := sy_len (tl := tl) done c hc
  omega
structure TInv (wS w0 : World) (tl : List (List (List Int))) (lo ga : Nat) (done : List Ev) (prev : List Int) (w : World) : Prop where
  prv : prev = (runT tl done).prev
  bel : Below w0.heap.size w0 w
  cnt : ∃ P, CntM w lo ga P (cntR tl done)
  fr : ∀ g t cs, g ≠ ga → t ≠ 118 → Box wS g t cs → Box w g t cs
def NoBad (_ : Int) (_ : World) : Prop := False
section
variable {wS w0 w w' : World} {tl : List (List (List Int))} {lo ga : Nat} {done : List Ev} {prev : List Int}
theorem TInv.on (h : TInv wS w0 tl lo ga done prev w) (k : Below w.heap.size w w') : TInv wS w0 tl lo ga done prev w' := by
  obtain ⟨P, h1⟩ := h.cnt
  exact ⟨h.prv, on_trans h.bel k, ⟨P, h1.on k⟩, fun g t cs h1 h2 hb => (h.fr g t cs h1 h2 hb).on k⟩
theorem TInv.one (h : TInv wS w0 tl lo ga done prev w) {M : Nat} (hM : w0.heap.size ≤ M) (k : Kept (OneP M w) w w') : TInv wS w0 tl lo ga done prev w' := by
  obtain ⟨P, h1⟩ := h.cnt
  have ne : ∀ {g t : Nat} {cs : Array Value}, Box w g t cs → t ≠ 118 → ¬ OneP M w g := fun hb ht ⟨_, cs', h'⟩ => hb.apart (show Box w _ 118 cs' from h') ht rfl
  refine ⟨h.prv, h.bel.trans (k.below h.bel.size (fun i hi e => ?_)), ⟨P, h1.kept k (ne h1.box (by decide)) (fun j hj => ne (h1.row j hj).1 (by decide))⟩, fun g t cs h1 h2 hb => k.box (h.fr g t cs h1 h2 hb) (ne (h.fr g t cs h1 h2 hb) h2)⟩
  have := e.1
  omega
end
section
variable (wS w0 : World) (W H K : Int) (R : Nat) (tl : List (List (List Int))) (lo ga M : Nat) (ad : Nat → Nat × Nat)
theorem cntR_see {es : List Ev} {p a : Nat} (hf : ∀ c, c ≤ 1 → (sy (runT tl es) c).length ≤ 5120) : ∀ j, j < 4 →
    put2 (cntR tl es) (min p 1) (cntL (cntR tl es (2 * min p 1)) 0 (symE tl (runT tl es) p a)) (cntL (cntR tl es (2 * min p 1 + 1)) 1 (symE tl (runT tl es) p a)) j = cntR tl (es ++ [some (p, a)]) j := by
  intro j hj
  have hc : min p 1 ≤ 1 := Nat.min_le_right _ _
  obtain ⟨c, hcc⟩ : ∃ c, c = min p 1 := ⟨_, rfl⟩
  have hs := allS_len ((runT tl es).prev.getD p 0) (blkAt tl p a)
  have hl := hf c (by omega)
  rw [← hcc] at hc ⊢
  unfold put2 cntR symE
  rw [runT_snoc]
  have e1 : 2 * c / 2 = c := by omega
  have e2 : 2 * c % 2 = 0 := by omega
  have e3 : (2 * c + 1) / 2 = c := by omega
  have e4 : (2 * c + 1) % 2 = 1 := by omega
  by_cases h1 : j = 2 * c
  · rw [if_pos h1, h1, e1, e2, sy_see _ _ _ _ hc, if_pos hcc, cntS_more _ _ _ (by omega)]
    rfl
  · rw [if_neg h1]
    by_cases h2 : j = 2 * c + 1
    · rw [if_pos h2, h2, e3, e4, sy_see _ _ _ _ hc, if_pos hcc, cntS_more _ _ _ (by omega)]
      rfl
    · rw [if_neg h2, sy_see _ _ _ _ (by omega), if_neg (by omega)]
theorem tally_see (hR : RightT W H K (R : Int) tl) (hw : W ≤ 40) (hh : H ≤ 40) (hT : Tab w0) (ht : TileAt w0 W H K tl ad) (hga : w0.heap.size ≤ ga) (hlo : lo ≤ M)
    (done : List Ev) (prev : List Int) (p a : Nat) (w1 : World) (hq : ∃ q, done ++ [some (p, a)] ++ q = evTo (uW W K) K R (uW W K * uH H K)) (hp : p < nP K) (ha : a < (uW W K * uA K p) * (uH H K * uD K p)) (_hl : prev.length = 3) (hi : TInv wS w0 tl lo ga done prev w1) (hs : M ≤ w1.heap.size) :
    Calls Tryd.prog 66 (#[.int .i64 (p : Int), .pointer (some ⟨(ad p).1, (ad p).2 + a * 64, none⟩), .int .i64 (prev.getD p 0)] ++ #[.pointer (some ⟨ga, 0, none⟩)]) w1 (SeeY (TInv wS w0 tl lo ga) NoBad w0.heap.size ad M done prev p a w1) := by
  obtain ⟨q, hq⟩ := hq
  obtain ⟨P, hcnt⟩ := hi.cnt
  obtain ⟨hb, hbb, hc⟩ := ht p a hp ha
  have hp3 : p ≤ 3 := by have := (nP_le K).2; omega
  have hz := hT.zero
  have hq' : done ++ ([some (p, a)] ++ q) = evTo (uW W K) K R (uW W K * uH H K) := by rw [← List.append_assoc]; exact hq
  have hpr := hi.prv
  have hsy := sy_ok (tl := tl) done (right_evs hR hq')
  have hf : ∀ c, c ≤ 1 → (sy (runT tl done) c).length ≤ 5120 := fun c hc => few_syms hR.1 hw hh hq' hc
  refine (count1_any w1 lo ga p P (cntR tl done) (prev.getD p 0) (ad p).1 ((ad p).2 + a * 64) (blkAt tl p a) (hT.bel hi.bel hz) hcnt hp3 (by rw [hpr]; exact hsy.2.1 p) hb (right_blk hR hp ha) (Nat.lt_of_lt_of_le hbb hi.bel.size) (by omega) (fun j hj => (hi.bel.cell (p := ⟨(ad p).1, (ad p).2 + a * 64 + j, none⟩) hbb).trans (hc j hj))
    (fun j hj i => cntS_int _ _ (by have := hf (j / 2) (by omega); omega) i) (by omega)).mono ?_
  rintro e w2 ⟨rfl, ⟨P', hcnt2⟩, hk2⟩
  have bel2 : Below w0.heap.size w0 w2 := hi.bel.trans (hk2.below hi.bel.size (fun i hi' e => by omega))
  refine ⟨_, rfl, fun _ => ⟨(blkAt tl p a).getD 0 0, (bel2.cell (p := ⟨(ad p).1, (ad p).2 + a * 64, none⟩) hbb).trans (hc 0 (by omega)), ?_⟩, fun h0 => absurd rfl h0, hk2.mono (fun i _ e => ⟨by omega, fun _ cs' t h' => ?_⟩)⟩
  · refine ⟨by rw [runT_snoc, hpr]; rfl, bel2, ⟨P', ?_⟩, fun g t cs h1 h2 hb => hk2.box (hi.fr g t cs h1 h2 hb) h1⟩
    have e := cntR_see (tl := tl) (es := done) (p := p) (a := a) hf
    unfold symE at e
    rw [← hpr] at e
    exact ⟨hcnt2.box, fun j hj => by rw [← e j hj]; exact hcnt2.row j hj⟩
  · subst e
    rw [show w1.heap[i]? = some (.cells _ 90 (0, 0)) from hcnt.box] at h'
    cases h'
    decide
theorem tally_rest (done : List Ev) (prev : List Int) (w1 : World) (hi : TInv wS w0 tl lo ga done prev w1) :
    Calls Tryd.prog 68 (#[.int .i64 ((208 + rests done % 8 : Nat) : Int)] ++ #[]) w1 (RestY (TInv wS w0 tl lo ga) NoBad w0.heap.size M done w1) := by
  refine (count2_any w1 (.int .i64 ((208 + rests done % 8 : Nat) : Int))).mono ?_
  rintro e w2 ⟨rfl, rfl⟩
  refine ⟨0, rfl, fun _ => ⟨by rw [runT_snoc]; rfl, hi.bel, ?_, hi.fr⟩, fun h => absurd rfl h, Kept.refl _ _⟩
  obtain ⟨P, hc⟩ := hi.cnt
  refine ⟨P, hc.box, fun j hj => ?_⟩
  have e : cntR tl (done ++ [none]) j = cntR tl done j := by unfold cntR; rw [runT_snoc]; rfl
  rw [e]
  exact hc.row j hj
end
theorem make256 (w : World) : (Instr.makeSlice 28 (.int .i64 256) (.int .i64 256)).run Tryd.prog w = .ok (.slice (some ⟨w.heap.size, 0, none⟩) 256 256) (w.alloc (.cells (cellsI (List.replicate 256 0)).toArray 3)) := by kernel_rfl
theorem step_store_mid {ops : Array Oper} {o : Oper} {a : Act} {w : World} {K : Act → World → Prop} {Q : Exit → Act → World → Prop} {E : Prop} (hgd : o.guard = none) (ty : TypeId) (x y : Operand) (ho : o.op = .store ty x y) (hd : o.dst = none)
    (b off : Nat) (cells : Array Value) (hx : a.eval x = .pointer (some ⟨b, off, none⟩)) (hy : a.eval y = .agg cells) (ht : w.there b off cells.size) (hi : (Tryd.prog.info? ty).map (·.size) = some cells.size) (h1 : cells.all (·.oneCell') = true)
    (h : ∀ w', w' = w.setCells b off cells.toList → K (a.put none undef) w') : if Region.wanted o (yielded ops a.tmps) = true then Oper.wp Tryd.prog o a w K Q else E := by
  have hw : Region.wanted o (yielded ops a.tmps) = true := by simp [Region.wanted, hgd]
  rw [if_pos hw]
  refine wp_store_mid ty x y ho b off cells hx hy ht hi h1 ?_
  rw [hd]
  exact h _ rfl
theorem callsT66 (args : Array Value) (w : World) : (callFunc 66 args).run Tryd.prog w = .ok (.enter 66 args) w := by kernel_rfl
theorem callsT68 (args : Array Value) (w : World) : (callFunc 68 args).run Tryd.prog w = .ok (.enter 68 args) w := by kernel_rfl
end Go.Proofs.YtdnjnbfmmgkpjaaDoor
