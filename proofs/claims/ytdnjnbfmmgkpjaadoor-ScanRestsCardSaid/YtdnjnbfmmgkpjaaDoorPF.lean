/-
  What holds while Put goes through a scan: the state in memory is the pure one's.
-/
import Derived.Test.YtdnjnbfmmgkpjaaDoorPE
namespace Go.Proofs.YtdnjnbfmmgkpjaaDoor
open Go.RowKit

theorem mem_evTo {X : Nat} {K : Int} {R n p a : Nat} (h : some (p, a) ∈ evTo X K R n) : p < nP K := by
  unfold evTo at h
  obtain ⟨k, _, h⟩ := List.mem_flatMap.1 h
  unfold evOf at h
  rcases List.mem_append.1 h with h | h
  · unfold rsOf at h
    split at h
    · simp at h
    · cases h
  · unfold plTo at h
    obtain ⟨q, hq, h⟩ := List.mem_flatMap.1 h
    unfold plOf at h
    obtain ⟨i, _, h⟩ := List.mem_map.1 h
    have := List.mem_range.1 hq
    simp only [plAt, Option.some.injEq, Prod.mk.injEq] at h
    omega
theorem nP_nC {K : Int} {p : Nat} (h : p < nP K) : min p 1 < nC K := by
  unfold nP at h
  unfold nC
  split at h <;> split <;> omega
theorem vt_of {X : Nat} {K : Int} {R n : Nat} {T : Tbs} (hk : OkT K T) {done q : List Ev} (h : done ++ q = evTo X K R n) : VT T done := fun p a hm => hk _ (nP_nC (mem_evTo (X := X) (R := R) (n := n) (a := a) (by rw [← h]; exact List.mem_append_left _ hm)))
/-- the bits of a segment are few -/
theorem few_bits {W H K : Int} {R : Nat} {T : Tbs} {tl : List (List (List Int))} (hr : RightS W H K (R : Int)) (hw : W ≤ 40) (hh : H ≤ 40) (hk : OkT K T) {done q : List Ev} (h : done ++ q = evTo (uW W K) K R (uW W K * uH H K)) :
    (runP T tl done).cur.length ≤ 158000 ∧ (runP T tl done).out.length ≤ 40000 ∧ PsOk T tl done := by
  have ok := ps_ok (tl := tl) done (vt_of hk h)
  have h1 := few_places hr hw hh
  have h2 : places done ≤ 80 := by
    have := places_evTo (uW W K) K R (uW W K * uH H K)
    rw [← h, places_app] at this
    omega
  have h3 : rests done ≤ 25 := by
    have := rests_evTo (uW W K) K R (uW W K * uH H K)
    rw [← h, rests_app] at this
    have h4 : (uW W K * uH H K - 1) / R ≤ uW W K * uH H K - 1 := Nat.div_le_self _ _
    split at this <;> omega
  have := ok.room
  exact ⟨by omega, by omega, ok⟩
structure PInv (w0 : World) (K : Int) (T : Tbs) (tl : List (List (List Int))) (P : Nat → Value) (gc gw go lo N : Nat) (done : List Ev) (prev : List Int) (w : World) : Prop where
  err : (runP T tl done).err = 0
  prv : prev = (runP T tl done).prev
  bel : Below w0.heap.size w0 w
  cod : Box w gc 69 (cod4 P)
  tabs : ∀ c, c < nC K → CodR w lo N T P c
  wr : ∃ d, Box w gw 72 #[.pointer (some ⟨d, 0, none⟩)] ∧ Wx w d (runP T tl done).cur ∧ N ≤ d
  out : ∃ v, Box w go 41 #[v] ∧ w.ownsRow N 5 1 v (runP T tl done).out.length (cellsOf (runP T tl done).out)
def BadP (w0 : World) (T : Tbs) (tl : List (List (List Int))) (all : List Ev) (E : Int) (w : World) : Prop := E = (runP T tl all).err ∧ Below w0.heap.size w0 w
section
variable {w0 w w' : World} {K : Int} {T : Tbs} {tl : List (List (List Int))} {P : Nat → Value} {gc gw go lo N : Nat} {done : List Ev} {prev : List Int}
theorem PInv.on (h : PInv w0 K T tl P gc gw go lo N done prev w) (k : Below w.heap.size w w') : PInv w0 K T tl P gc gw go lo N done prev w' := by
  obtain ⟨d, h1, h2, h3⟩ := h.wr
  obtain ⟨v, h4, h5⟩ := h.out
  exact ⟨h.err, h.prv, on_trans h.bel k, h.cod.on k, fun c hc => (h.tabs c hc).on k, ⟨d, h1.on k, h2.on k, h3⟩, ⟨v, h4.on k, own_on h5 k⟩⟩
/-- the block of each's numbers may turn -/
theorem PInv.one (h : PInv w0 K T tl P gc gw go lo N done prev w) {M : Nat} (hM : N ≤ M) (hN : w0.heap.size ≤ N) (k : Kept (OneP M w) w w') : PInv w0 K T tl P gc gw go lo N done prev w' := by
  obtain ⟨d, h1, h2, h3⟩ := h.wr
  obtain ⟨v, h4, h5⟩ := h.out
  have ne : ∀ {g t : Nat} {cs : Array Value}, Box w g t cs → t ≠ 118 → ¬ OneP M w g := fun hb ht ⟨_, cs', h'⟩ => hb.apart (show Box w _ 118 cs' from h') ht rfl
  refine ⟨h.err, h.prv, h.bel.trans (k.below h.bel.size (fun i hi e => ?_)), k.box h.cod (ne h.cod (by decide)), fun c hc => (h.tabs c hc).kept k (fun b _ hb e => ?_), ⟨d, k.box h1 (ne h1 (by decide)), h2.kept k (fun e => ?_) (fun i cs ⟨_, cs', e⟩ e' => ?_), h3⟩, ⟨v, k.box h4 (ne h4 (by decide)), ownsRow_block h5 (fun g cs hg hh => ?_)⟩⟩
  · have := e.1
    omega
  · have := e.1
    omega
  · obtain ⟨cs, hb⟩ := h2.box
    exact ne hb (by decide) e
  · rw [e'] at e
    cases e
  · exact k.block g (Array.getElem?_eq_some_iff.1 hh).1 (ne (show Box w g 5 cs from hh) (by decide))
end
section
variable (w0 : World) (W H K : Int) (R : Nat) (T : Tbs) (tl : List (List (List Int))) (P : Nat → Value) (gc gw go lo N M : Nat) (ad : Nat → Nat × Nat)
/-- the blocks of the tile, where they lie -/
def TileAt (w0 : World) (W H K : Int) (tl : List (List (List Int))) (ad : Nat → Nat × Nat) : Prop := ∀ p a, p < nP K → a < (uW W K * uA K p) * (uH H K * uD K p) → (blkAt tl p a).length = 64 ∧ (ad p).1 < w0.heap.size ∧ ∀ j, j < 64 → w0.cell? ⟨(ad p).1, (ad p).2 + a * 64 + j, none⟩ = some (.int .i64 ((blkAt tl p a).getD j 0))
theorem put_see (hr : RightS W H K (R : Int)) (hw : W ≤ 40) (hh : H ≤ 40) (hk : OkT K T) (hT : Tab w0) (ht : TileAt w0 W H K tl ad) (hN : w0.heap.size ≤ N) (hNM : N ≤ M)
    (done : List Ev) (prev : List Int) (p a : Nat) (w1 : World) (hq : ∃ q, done ++ [some (p, a)] ++ q = evTo (uW W K) K R (uW W K * uH H K)) (hp : p < nP K) (ha : a < (uW W K * uA K p) * (uH H K * uD K p)) (_hl : prev.length = 3) (hi : PInv w0 K T tl P gc gw go lo N done prev w1) (hs : M ≤ w1.heap.size) :
    Calls Tryd.prog 24 (#[.int .i64 (p : Int), .pointer (some ⟨(ad p).1, (ad p).2 + a * 64, none⟩), .int .i64 (prev.getD p 0)] ++ #[.pointer (some ⟨gc, 0, none⟩), .pointer (some ⟨gw, 0, none⟩)]) w1 (SeeY (PInv w0 K T tl P gc gw go lo N) (BadP w0 T tl (evTo (uW W K) K R (uW W K * uH H K))) w0.heap.size ad M done prev p a w1) := by
  obtain ⟨q, hq⟩ := hq
  obtain ⟨d, hgw, hx, hd⟩ := hi.wr
  obtain ⟨v, hgo, hown⟩ := hi.out
  obtain ⟨hb, hbb, hc⟩ := ht p a hp ha
  have hp3 : p ≤ 3 := by have := (nP_le K).2; omega
  have hbits := few_bits (tl := tl) hr hw hh hk (done := done) (q := [some (p, a)] ++ q) (by rw [← List.append_assoc]; exact hq)
  have hz := hT.zero
  refine (putB1_any w1 gc gw d lo N p T P (prev.getD p 0) (ad p).1 ((ad p).2 + a * 64) (blkAt tl p a) (runP T tl done).cur (hT.bel hi.bel hz) hi.cod (hi.tabs _ (nP_nC hp)) (hk _ (nP_nC hp)) hgw hx hd (by omega) (by omega) hp3 hbits.1 hb (Nat.lt_of_lt_of_le hbb hi.bel.size) (by omega) (fun j hj => (hi.bel.cell (p := ⟨(ad p).1, (ad p).2 + a * 64 + j, none⟩) hbb).trans (hc j hj))).mono ?_
  rintro e w2 ⟨rfl, hx2, hk2⟩
  have hpr := hi.prv
  have hE : putBE (Cd T p) (Ca T p) (prev.getD p 0) (blkAt tl p a) = seeE T tl (runP T tl done) p a := by rw [seeE, ← hpr]
  have hdb := hx.box
  have hsee := runP_see (T := T) (tl := tl) hi.err p a
  have bel2 : Below w0.heap.size w0 w2 := hi.bel.trans (hk2.below hi.bel.size (fun i hi' e => by omega))
  refine ⟨_, rfl, fun h0 => ⟨(blkAt tl p a).getD 0 0, (bel2.cell (p := ⟨(ad p).1, (ad p).2 + a * 64, none⟩) hbb).trans (hc 0 (by omega)), ?_⟩, fun h0 => ⟨?_, bel2⟩, hk2.mono (fun i _ e => ?_)⟩
  · rw [hE] at h0
    rw [seeP, if_pos h0] at hsee
    obtain ⟨cs, hdb⟩ := hdb
    refine ⟨by rw [hsee]; exact hi.err, by rw [hsee, hpr], bel2, hk2.box hi.cod (fun e => hdb.apart hi.cod (by decide) e.symm), fun c hc => (hi.tabs c hc).kept hk2 (fun b _ hb e => by omega), ⟨d, hk2.box hgw (fun e => hdb.apart hgw (by decide) e.symm), by rw [hsee, ← hpr]; exact hx2, hd⟩, ⟨v, hk2.box hgo (fun e => hdb.apart hgo (by decide) e.symm), ?_⟩⟩
    rw [hsee]
    exact ownsRow_block hown (fun g cs' hg hh => hk2.block g (Array.getElem?_eq_some_iff.1 hh).1 (fun e => by subst e; exact hdb.apart (show Box w1 g 5 cs' from hh) (by decide) rfl))
  · rw [hE] at h0
    rw [seeP, if_neg h0] at hsee
    have h1 : (runP T tl (done ++ [some (p, a)])).err = seeE T tl (runP T tl done) p a := by rw [hsee]
    rw [← hq, runP_err q (by rw [h1]; exact h0), h1, hE]
  · subst e
    refine ⟨by omega, fun _ cs' t h' => ?_⟩
    obtain ⟨cs, hdb⟩ := hdb
    have hdb' : w1.heap[i]? = some (.cells cs 117 (0, 0)) := hdb
    rw [hdb'] at h'
    cases h'
    decide
theorem put_rest (hr : RightS W H K (R : Int)) (hw : W ≤ 40) (hh : H ≤ 40) (hk : OkT K T) (hN : w0.heap.size ≤ N) (hNM : N ≤ M) (hgo : N ≤ go) (hgw : N ≤ gw)
    (done : List Ev) (prev : List Int) (w1 : World) (hq : ∃ q, done ++ [none] ++ q = evTo (uW W K) K R (uW W K * uH H K)) (_hl : prev.length = 3) (hi : PInv w0 K T tl P gc gw go lo N done prev w1) (hs : M ≤ w1.heap.size) :
    Calls Tryd.prog 27 (#[.int .i64 ((208 + rests done % 8 : Nat) : Int)] ++ #[.pointer (some ⟨go, 0, none⟩), .pointer (some ⟨gw, 0, none⟩)]) w1 (RestY (PInv w0 K T tl P gc gw go lo N) (BadP w0 T tl (evTo (uW W K) K R (uW W K * uH H K))) w0.heap.size M done w1) := by
  obtain ⟨q, hq⟩ := hq
  obtain ⟨d, hgwb, hx, hd⟩ := hi.wr
  obtain ⟨v, hgob, hown⟩ := hi.out
  have hbits := few_bits (tl := tl) hr hw hh hk (done := done) (q := [none] ++ q) (by rw [← List.append_assoc]; exact hq)
  have hsc := hbits.2.2.packs.scan
  have hlen := scan_len hsc
  have h8 := Nat.mod_lt (rests done) (show 0 < 8 by omega)
  refine (putRest_any w1 go gw d N (runP T tl done).out.length ((208 + rests done % 8 : Nat) : Int) v (runP T tl done).out (runP T tl done).cur (scanOf (runP T tl done).cur) (by omega) hgob hgwb hx hbits.1 hsc hown (by omega) (by omega)).mono ?_
  rintro e w2 ⟨rfl, v', d', g1, g2, g3, g4, g5, hk2⟩
  have hrest := runP_rest (T := T) (tl := tl) hi.err
  have hge : ∀ i, RestT w1 N go gw i → N ≤ i := fun i e => by
    rcases e with rfl | rfl | h
    · exact hgo
    · exact hgw
    · exact h.1
  have ne : ∀ {g t : Nat} {cs : Array Value}, Box w1 g t cs → t ≠ 41 → t ≠ 72 → t ≠ 5 → ¬ RestT w1 N go gw g := fun hb h1 h2 h3 e => by
    rcases e with rfl | rfl | ⟨_, cs', h'⟩
    · exact hb.apart hgob h1 rfl
    · exact hb.apart hgwb h2 rfl
    · exact hb.apart (show Box w1 _ 5 cs' from h') h3 rfl
  have bel2 : Below w0.heap.size w0 w2 := hi.bel.trans (hk2.below hi.bel.size (fun i hi' e => by have := hge i e; omega))
  refine ⟨0, rfl, fun _ => ?_, fun h => absurd rfl h, hk2.mono (fun i _ e => ⟨Nat.le_trans hN (hge i e), fun _ cs t h' => ?_⟩)⟩
  · refine ⟨by rw [hrest]; exact hi.err, by rw [hrest]; rfl, bel2, hk2.box hi.cod (ne hi.cod (by decide) (by decide) (by decide)), fun c hc => (hi.tabs c hc).kept hk2 (fun b _ hb e => by have := hge b e; omega), ⟨d', g3, by rw [hrest]; exact g4, by omega⟩, ⟨v', g1, ?_⟩⟩
    rw [hrest]
    have e1 : (restP (runP T tl done)).out = (runP T tl done).out ++ scanOf (runP T tl done).cur ++ [255, ((208 + rests done % 8 : Nat) : Int)] := by
      show (runP T tl done).out ++ scanOf (runP T tl done).cur ++ [255, ((208 + (runP T tl done).rs % 8 : Nat) : Int)] = _
      rw [hbits.2.2.rs hi.err]
    rw [e1]
    have e2 : ((runP T tl done).out ++ scanOf (runP T tl done).cur ++ [255, ((208 + rests done % 8 : Nat) : Int)]).length = (runP T tl done).out.length + (scanOf (runP T tl done).cur).length + 2 := by
      rw [List.length_append, List.length_append]
      rfl
    rw [e2]
    exact g2
  · have ht : t = 41 ∨ t = 72 ∨ t = 5 := by
      rcases e with rfl | rfl | ⟨_, cs', h''⟩
      · rw [show w1.heap[i]? = some (.cells _ 41 (0, 0)) from hgob] at h'
        cases h'
        exact .inl rfl
      · rw [show w1.heap[i]? = some (.cells _ 72 (0, 0)) from hgwb] at h'
        cases h'
        exact .inr (.inl rfl)
      · rw [h''] at h'
        cases h'
        exact .inr (.inr rfl)
    rcases ht with rfl | rfl | rfl <;> decide
end
end Go.Proofs.YtdnjnbfmmgkpjaaDoor
