/-
  What holds while Get goes through a scan: the state in memory is the pure one's.
-/
import Derived.Test.YtdnjnbfmmgkpjaaDoorGF
namespace Go.Proofs.YtdnjnbfmmgkpjaaDoor
open Go.RowKit

structure GInv (wS w0 : World) (W H K : Int) (T : Tbs) (l : List Int) (P : Nat → Value) (A : Option Addr) (bd : Nat → Nat) (gc gr r lo N N2 : Nat) (done : List Ev) (prev : List Int) (w : World) : Prop where
  err : (runG T l (zeroG W H K) done).err = 0
  prv : prev = (runG T l (zeroG W H K) done).prev
  rs : (runG T l (zeroG W H K) done).rs = rests done
  bel : Below w0.heap.size w0 w
  cod : Box w gc 69 (cod4 P)
  tabs : ∀ c, c < nC K → CodR w lo N T P c
  gr : Box w gr 97 #[.pointer (some ⟨r, 0, none⟩)]
  rd : ∃ g, Rd w r g l (runG T l (zeroG W H K) done).st
  til : TlM w N2 W H K A bd (runG T l (zeroG W H K) done).tl
  fr : ∀ g cs, Box wS g 36 cs → Box w g 36 cs
def BadG (wS w0 : World) (W H K : Int) (T : Tbs) (l : List Int) (all : List Ev) (E : Int) (w : World) : Prop := E = (runG T l (zeroG W H K) all).err ∧ Below w0.heap.size w0 w ∧ ∀ g cs, Box wS g 36 cs → Box w g 36 cs
section
variable {wS w0 w w' : World} {W H K : Int} {T : Tbs} {l : List Int} {P : Nat → Value} {A : Option Addr} {bd : Nat → Nat} {gc gr r lo N N2 : Nat} {done : List Ev} {prev : List Int}
theorem GInv.on (h : GInv wS w0 W H K T l P A bd gc gr r lo N N2 done prev w) (k : Below w.heap.size w w') : GInv wS w0 W H K T l P A bd gc gr r lo N N2 done prev w' := by
  obtain ⟨g, h1⟩ := h.rd
  exact ⟨h.err, h.prv, h.rs, on_trans h.bel k, h.cod.on k, fun c hc => (h.tabs c hc).on k, h.gr.on k, ⟨g, h1.on k⟩, h.til.on k, fun g cs hb => (h.fr g cs hb).on k⟩
theorem GInv.one (h : GInv wS w0 W H K T l P A bd gc gr r lo N N2 done prev w) {M : Nat} (hM : N ≤ M) (hN : w0.heap.size ≤ N) (k : Kept (OneP M w) w w') : GInv wS w0 W H K T l P A bd gc gr r lo N N2 done prev w' := by
  obtain ⟨g, h1⟩ := h.rd
  have ne : ∀ {g t : Nat} {cs : Array Value}, Box w g t cs → t ≠ 118 → ¬ OneP M w g := fun hb ht ⟨_, cs', h'⟩ => hb.apart (show Box w _ 118 cs' from h') ht rfl
  refine ⟨h.err, h.prv, h.rs, h.bel.trans (k.below h.bel.size (fun i hi e => ?_)), k.box h.cod (ne h.cod (by decide)), fun c hc => (h.tabs c hc).kept k (fun b _ hb e => ?_), k.box h.gr (ne h.gr (by decide)), ⟨g, h1.kept k (ne h1.box (by decide)) (ne h1.own (by decide))⟩, h.til.kept k (fun g cs hb => ne hb (by decide)) (fun p hp e => ?_), fun g cs hb => k.box (h.fr g cs hb) (ne (h.fr g cs hb) (by decide))⟩
  · have := e.1
    omega
  · have := e.1
    omega
  · obtain ⟨cs, hb⟩ := (h.til.row p hp).1.box
    exact ne hb (by decide) e
/-- one block is written -/
theorem TlM.put {w3 : World} {tl : List (List (List Int))} (h : TlM w N2 W H K A bd tl) {p a : Nat} {b : List Int} (hp : p < nP K) (k : Kept (fun i => i = r ∨ i = bd p) w w3) (hr : ∀ g t cs, Box w g t cs → t = 61 ∨ t = 25 → g ≠ r) (hb : Bk w3 (bd p) (nB W H K p) ((tl.getD p []).set a b)) : TlM w3 N2 W H K A bd (setBlk tl p a b) := by
  obtain ⟨gp, cs, e, hbx, hl, hc⟩ := h.parts
  obtain ⟨cp, hbp⟩ := (h.row p hp).1.box
  refine ⟨⟨gp, cs, e, k.box hbx (fun e => ?_), hl, hc⟩, fun q hq => ⟨?_, (h.row q hq).2⟩, h.inj, (setBlk_len _ _ _ _).1.trans h.len⟩
  · rcases e with e | e
    · exact hr _ _ _ hbx (.inl rfl) e
    · exact hbx.apart hbp (by decide) e
  · unfold setBlk
    by_cases e : q = p
    · subst e
      rw [List.getD_eq_getElem?_getD, List.getElem?_set_self (by rw [h.len]; exact hq)]
      exact hb
    · rw [List.getD_eq_getElem?_getD, List.getElem?_set_ne (fun e' => e e'.symm), ← List.getD_eq_getElem?_getD]
      obtain ⟨cq, hbq⟩ := (h.row q hq).1.box
      refine (h.row q hq).1.kept k (fun e' => ?_)
      rcases e' with e' | e'
      · exact hr _ _ _ hbq (.inr rfl) e'
      · exact e (h.inj q p hq hp e')
end
section
variable (wS w0 : World) (W H K : Int) (R : Nat) (T : Tbs) (l : List Int) (P : Nat → Value) (A : Option Addr) (bd : Nat → Nat) (gc gr r lo N N2 M : Nat)
theorem get_see (hk : OkT K T) (hT : Tab w0) (hN : w0.heap.size ≤ N) (hNM : N ≤ M) (hN2 : N ≤ N2) (hrN : N ≤ r)
    (done : List Ev) (prev : List Int) (p a : Nat) (w1 : World) (hq : ∃ q, done ++ [some (p, a)] ++ q = evTo (uW W K) K R (uW W K * uH H K)) (hp : p < nP K) (ha : a < (uW W K * uA K p) * (uH H K * uD K p)) (_hl : prev.length = 3) (hi : GInv wS w0 W H K T l P A bd gc gr r lo N N2 done prev w1) (hs : M ≤ w1.heap.size) :
    Calls Tryd.prog 39 (#[.int .i64 (p : Int), .pointer (some ⟨((fun p => (bd p, 0)) p : Nat × Nat).1, ((fun p => (bd p, 0)) p : Nat × Nat).2 + a * 64, none⟩), .int .i64 (prev.getD p 0)] ++ #[.pointer (some ⟨gc, 0, none⟩), .pointer (some ⟨gr, 0, none⟩)]) w1 (SeeY (GInv wS w0 W H K T l P A bd gc gr r lo N N2) (BadG wS w0 W H K T l (evTo (uW W K) K R (uW W K * uH H K))) w0.heap.size (fun p => (bd p, 0)) M done prev p a w1) := by
  obtain ⟨q, hq⟩ := hq
  obtain ⟨g, hrd⟩ := hi.rd
  have hp3 : p ≤ 3 := by have := (nP_le K).2; omega
  have hz := hT.zero
  have hrow := hi.til.row p hp
  have hcall := getB1_any w1 gc gr r g lo N p T P (prev.getD p 0) (bd p) (nB W H K p) a ((runG T l (zeroG W H K) done).tl.getD p []) l (runG T l (zeroG W H K) done).st (hT.bel hi.bel hz) hi.cod (hi.tabs _ (nP_nC hp)) (hk _ (nP_nC hp)) hi.gr hrd hrN (by omega) (by omega) hp3 hrow.1 ha
  show Calls Tryd.prog 39 #[.int .i64 (p : Int), .pointer (some ⟨bd p, 0 + a * 64, none⟩), .int .i64 (prev.getD p 0), .pointer (some ⟨gc, 0, none⟩), .pointer (some ⟨gr, 0, none⟩)] w1 _
  rw [Nat.zero_add]
  refine hcall.mono ?_
  rintro e w2 ⟨rfl, hr2, hb2, hk2⟩
  have hpr := hi.prv
  have hsee := runG_see (T := T) (l := l) (tl := zeroG W H K) hi.err p a
  obtain ⟨B, hB⟩ : ∃ B, B = blockF (Cd T p) (Ca T p) l (runG T l (zeroG W H K) done).st (prev.getD p 0) := ⟨_, rfl⟩
  rw [← hB] at hr2 hb2 ⊢
  unfold seeG at hsee
  rw [← hpr, ← hB] at hsee
  have hBl : B.2.1.length = 64 := by rw [hB]; exact blockF_len _ _ _ _ _
  have hrb := hrow.1.box
  have hge : ∀ i, (i = r ∨ i = bd p) → w0.heap.size ≤ i := fun i e => by
    rcases e with rfl | rfl
    · omega
    · exact Nat.le_trans (Nat.le_trans hN hN2) hrow.2
  have bel2 : Below w0.heap.size w0 w2 := hi.bel.trans (hk2.below hi.bel.size (fun i hi' e => by have := hge i e; omega))
  obtain ⟨cb, hcb⟩ := hrb
  have ne : ∀ {g t : Nat} {cs : Array Value}, Box w1 g t cs → t ≠ 147 → t ≠ 25 → ¬ (g = r ∨ g = bd p) := fun hb h1 h2 e => by
    rcases e with e | e
    · exact hb.apart hrd.box h1 e
    · exact hb.apart hcb h2 e
  have hcell : w2.cell? ⟨bd p, 0 + a * 64, none⟩ = some (.int .i64 (B.2.1.getD 0 0)) := by
    have h64 := hb2.row a B.2.1 (by rw [List.getElem?_set_self (by rw [hrow.1.len]; exact ha)]) 0 (.int .i64 (B.2.1.getD 0 0)) (cellsI_get _ _ (by omega))
    rw [Nat.zero_add]
    exact h64
  refine ⟨_, rfl, fun h0 => ⟨B.2.1.getD 0 0, hcell, ?_⟩, fun h0 => ⟨?_, bel2, fun g cs hb => hk2.box (hi.fr g cs hb) (ne (hi.fr g cs hb) (by decide) (by decide))⟩, hk2.mono (fun i _ e => ⟨hge i e, fun _ cs' t h' => ?_⟩)⟩
  · rw [if_pos h0] at hsee
    refine ⟨by rw [hsee], by rw [hsee], by rw [hsee, rests_app]; exact hi.rs, bel2, hk2.box hi.cod (ne hi.cod (by decide) (by decide)), fun c hc => (hi.tabs c hc).kept hk2 (fun b hb1 hb e => ?_), hk2.box hi.gr (ne hi.gr (by decide) (by decide)), ⟨g, by rw [hsee]; exact hr2⟩, ?_, fun g cs hb => hk2.box (hi.fr g cs hb) (ne (hi.fr g cs hb) (by decide) (by decide))⟩
    · rcases e with rfl | rfl
      · omega
      · have := hrow.2
        omega
    · rw [hsee]
      exact hi.til.put hp hk2 (fun g t cs hb ht e => hb.apart hrd.box (by rcases ht with rfl | rfl <;> decide) e) hb2
  · rw [if_neg h0] at hsee
    have h1 : (runG T l (zeroG W H K) (done ++ [some (p, a)])).err = B.2.2 := by rw [hsee]
    rw [← hq, runG_err q (by rw [h1]; exact h0), h1]
  · rcases e with rfl | rfl
    · rw [show w1.heap[i]? = some (.cells _ 147 (0, 0)) from hrd.box] at h'
      cases h'
      decide
    · rw [show w1.heap[bd p]? = some (.cells _ 25 (0, 0)) from hcb] at h'
      cases h'
      decide
theorem get_rest (hN : w0.heap.size ≤ N) (hrN : N ≤ r)
    (done : List Ev) (prev : List Int) (w1 : World) (hq : ∃ q, done ++ [none] ++ q = evTo (uW W K) K R (uW W K * uH H K)) (_hl : prev.length = 3) (hi : GInv wS w0 W H K T l P A bd gc gr r lo N N2 done prev w1) (_hs : M ≤ w1.heap.size) :
    Calls Tryd.prog 41 (#[.int .i64 ((208 + rests done % 8 : Nat) : Int)] ++ #[.pointer (some ⟨gr, 0, none⟩)]) w1 (RestY (GInv wS w0 W H K T l P A bd gc gr r lo N N2) (BadG wS w0 W H K T l (evTo (uW W K) K R (uW W K * uH H K))) w0.heap.size M done w1) := by
  obtain ⟨q, hq⟩ := hq
  obtain ⟨g, hrd⟩ := hi.rd
  have h8 := Nat.mod_lt (rests done) (show 0 < 8 by omega)
  refine (getB2_any w1 gr r g l (runG T l (zeroG W H K) done).st (208 + rests done % 8) (by omega) hi.gr hrd).mono ?_
  rintro e w2 ⟨rfl, hr2, hk2⟩
  have hrest := runG_rest (T := T) (l := l) (tl := zeroG W H K) hi.err
  obtain ⟨B, hB⟩ : ∃ B, B = markF l (runG T l (zeroG W H K) done).st := ⟨_, rfl⟩
  rw [← hB] at hr2 ⊢
  unfold restG at hrest
  rw [← hB, hi.rs] at hrest
  have bel2 : Below w0.heap.size w0 w2 := hi.bel.trans (hk2.below hi.bel.size (fun i hi' e => by omega))
  have ne : ∀ {g t : Nat} {cs : Array Value}, Box w1 g t cs → t ≠ 147 → ¬ (g = r) := fun hb h1 e => hb.apart hrd.box h1 e
  refine ⟨_, rfl, fun h0 => ?_, fun h0 => ⟨?_, bel2, fun g cs hb => hk2.box (hi.fr g cs hb) (ne (hi.fr g cs hb) (by decide))⟩, hk2.mono (fun i _ e => ⟨by omega, fun _ cs' t h' => ?_⟩)⟩
  · unfold restE at h0
    by_cases h1 : B.2.2 = 0
    · rw [if_pos h1] at h0 hrest
      by_cases h2 : B.2.1 = 208 + rests done % 8
      · rw [if_pos h2] at hrest
        refine ⟨by rw [hrest], by rw [hrest], by rw [hrest, rests_app]; rfl, bel2, hk2.box hi.cod (ne hi.cod (by decide)), fun c hc => (hi.tabs c hc).kept hk2 (fun b hb1 hb e => by omega), hk2.box hi.gr (ne hi.gr (by decide)), ⟨g, by rw [hrest]; exact hr2⟩, ?_, fun g cs hb => hk2.box (hi.fr g cs hb) (ne (hi.fr g cs hb) (by decide))⟩
        rw [hrest]
        exact hi.til.kept hk2 (fun g cs hb => ne hb (by decide)) (fun p hp e => by
          obtain ⟨cb, hcb⟩ := (hi.til.row p hp).1.box
          exact hcb.apart hrd.box (by decide) e)
      · rw [if_neg h2] at h0
        cases h0
    · rw [if_neg h1] at h0
      exact absurd h0 h1
  · have h1 : (runG T l (zeroG W H K) (done ++ [none])).err = restE B (208 + rests done % 8) := by
      rw [hrest]
      unfold restE
      by_cases h1 : B.2.2 = 0
      · rw [if_pos h1, if_pos h1]
        by_cases h2 : B.2.1 = 208 + rests done % 8
        · rw [if_pos h2, if_pos h2]
        · rw [if_neg h2, if_neg h2]
      · rw [if_neg h1, if_neg h1]
    rw [← hq, runG_err q (by rw [h1]; exact h0), h1]
  · subst e
    rw [show w1.heap[i]? = some (.cells _ 147 (0, 0)) from hrd.box] at h'
    cases h'
    decide
end
end Go.Proofs.YtdnjnbfmmgkpjaaDoor
