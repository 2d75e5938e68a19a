/-
  Put's state behind any events: mathematics, no code.
-/
import Derived.Test.YtdnjnbfmmgkpjaaDoorEA
import Derived.Test.YtdnjnbfmmgkpjaaDoorME
import Derived.Test.YtdnjnbfmmgkpjaaDoorSV
namespace Go.Proofs.YtdnjnbfmmgkpjaaDoor
open Go.RowKit

/-- bits that a writer may hold -/
def Packs (L : List Int) : Prop := ∃ B v c, Fit B ∧ c < 8 ∧ v < 2 ^ c ∧ L = by8 B ++ dig v c
theorem Packs.nil : Packs [] := ⟨[], 0, 0, (fun z hz => by cases hz), by omega, by omega, rfl⟩
theorem Packs.one {L : List Int} (h : Packs L) (x : Nat) (hx : x < 2) : Packs (L ++ [(x : Int)]) := by
  obtain ⟨B, v, c, h1, h2, h3, rfl⟩ := h
  have e : dig (2 * v + x) (c + 1) = dig v c ++ [(x : Int)] := by
    rw [dig, show (2 * v + x) / 2 = v by omega, show (2 * v + x) % 2 = x by omega]
  have hv : 2 * v + x < 2 ^ (c + 1) := by rw [Nat.pow_succ]; omega
  by_cases h7 : c = 7
  · subst h7
    refine ⟨B ++ [((2 * v + x : Nat) : Int)], 0, 0, h1.app (fun z hz => ?_), by omega, by omega, ?_⟩
    · rw [List.mem_singleton.1 hz]
      omega
    · rw [by8_app, by8_one, Int.toNat_natCast, show (8 : Nat) = 7 + 1 from rfl, e]
      simp [dig]
  · exact ⟨B, 2 * v + x, c + 1, h1, by omega, hv, by rw [e, List.append_assoc]⟩
/-- bits -/
def Bit01 (l : List Int) : Prop := ∀ x ∈ l, x = 0 ∨ x = 1
theorem Packs.app {L : List Int} (h : Packs L) : ∀ (l : List Int), Bit01 l → Packs (L ++ l) := by
  intro l
  induction l generalizing L with
  | nil => intro _; rw [List.append_nil]; exact h
  | cons x l ih =>
    intro hb
    rw [show L ++ x :: l = (L ++ [x]) ++ l by simp]
    refine ih ?_ (fun y hy => hb y (List.mem_cons_of_mem _ hy))
    rcases hb x List.mem_cons_self with rfl | rfl
    · exact h.one 0 (by omega)
    · exact h.one 1 (by omega)
theorem dig_bits : ∀ (c v : Nat), Bit01 (dig v c)
  | 0, _ => fun x hx => by cases hx
  | c + 1, v => fun x hx => by
    rw [dig] at hx
    rcases List.mem_append.1 hx with h | h
    · exact dig_bits c _ x h
    · rw [List.mem_singleton.1 h]
      have := Nat.mod_two_eq_zero_or_one v
      omega
theorem bitsOf_bits (Ld La : List En) (l : List Sym) : Bit01 (bitsOf Ld La l) := by
  intro x hx
  unfold bitsOf at hx
  obtain ⟨y, hy, hxy⟩ := List.mem_flatten.1 hx
  obtain ⟨s, _, rfl⟩ := List.mem_map.1 hy
  unfold symB symBits at hxy
  rcases List.mem_append.1 hxy with h | h
  · exact dig_bits _ _ x h
  · exact dig_bits _ _ x h
theorem Packs.put {L : List Int} (h : Packs L) (Ld La : List En) (prev : Int) (b : List Int) : Packs (putBL Ld La L prev b) := by
  unfold putBL
  split
  · exact h.app _ (bitsOf_bits _ _ _)
  · exact h
open Classical in
/-- the scan's bytes of bits -/
noncomputable def scanOf (L : List Int) : List Int := if h : ∃ l, Scan L l then h.choose else []
theorem scanOf_is {L l : List Int} (h : Scan L l) : scanOf L = l := by
  have h1 : ∃ l, Scan L l := ⟨l, h⟩
  rw [scanOf, dif_pos h1]
  exact Scan.same h1.choose_spec h
theorem Packs.scan {L : List Int} (h : Packs L) : Scan L (scanOf L) := by
  obtain ⟨B, v, c, h1, h2, h3, h4⟩ := h
  have : Scan L (stuff (filledUp B v c)) := ⟨B, v, c, h1, h2, h3, h4, rfl⟩
  rw [scanOf_is this]
  exact this
theorem scan_len {L l : List Int} (h : Scan L l) : 4 * l.length ≤ L.length + 8 := by
  obtain ⟨B, v, c, h1, h2, h3, rfl, rfl⟩ := h
  have h4 := stuff_len (filledUp B v c)
  have h5 : (filledUp B v c).length ≤ B.length + (if c = 0 then 0 else 1) := by
    unfold filledUp
    split <;> simp
  rw [List.length_append, by8_len, dig_len]
  split at h5 <;> omega

structure PS where
  out : List Int
  cur : List Int
  prev : List Int
  rs : Nat
  err : Int
def Cd (T : Tbs) (p : Nat) : List En := codes (T.B (min p 1)) (T.V (min p 1))
def Ca (T : Tbs) (p : Nat) : List En := codes (T.B (min p 1 + 2)) (T.V (min p 1 + 2))
def blkAt (tl : List (List (List Int))) (p a : Nat) : List Int := (tl.getD p []).getD a []
noncomputable def restP (s : PS) : PS := ⟨s.out ++ scanOf s.cur ++ [255, ((208 + s.rs % 8 : Nat) : Int)], [], [0, 0, 0], s.rs + 1, s.err⟩
def seeE (T : Tbs) (tl : List (List (List Int))) (s : PS) (p a : Nat) : Int := putBE (Cd T p) (Ca T p) (s.prev.getD p 0) (blkAt tl p a)
noncomputable def seeP (T : Tbs) (tl : List (List (List Int))) (s : PS) (p a : Nat) : PS :=
  if seeE T tl s p a = 0 then ⟨s.out, putBL (Cd T p) (Ca T p) s.cur (s.prev.getD p 0) (blkAt tl p a), s.prev.set p ((blkAt tl p a).getD 0 0), s.rs, s.err⟩ else ⟨s.out, s.cur, s.prev, s.rs, seeE T tl s p a⟩
noncomputable def stepP (T : Tbs) (tl : List (List (List Int))) (s : PS) (e : Ev) : PS :=
  if s.err ≠ 0 then s else match e with
  | none => restP s
  | some (p, a) => seeP T tl s p a
def ps0 : PS := ⟨[], [], [0, 0, 0], 0, 0⟩
noncomputable def runP (T : Tbs) (tl : List (List (List Int))) (l : List Ev) : PS := l.foldl (stepP T tl) ps0
def places (l : List Ev) : Nat := l.countP (·.isSome)
section
variable {T : Tbs} {tl : List (List (List Int))}
theorem runP_snoc (l : List Ev) (e : Ev) : runP T tl (l ++ [e]) = stepP T tl (runP T tl l) e := by simp [runP]
theorem runP_rest {l : List Ev} (h : (runP T tl l).err = 0) : runP T tl (l ++ [none]) = restP (runP T tl l) := by
  rw [runP_snoc, stepP, if_neg (by simpa using h)]
theorem runP_see {l : List Ev} (h : (runP T tl l).err = 0) (p a : Nat) : runP T tl (l ++ [some (p, a)]) = seeP T tl (runP T tl l) p a := by
  rw [runP_snoc, stepP, if_neg (by simpa using h)]
theorem stepP_err (s : PS) (e : Ev) (h : s.err ≠ 0) : stepP T tl s e = s := by
  unfold stepP
  rw [if_pos h]
theorem fold_err (q : List Ev) (s : PS) (h : s.err ≠ 0) : q.foldl (stepP T tl) s = s := by
  induction q with
  | nil => rfl
  | cons e q ih => rw [List.foldl_cons, stepP_err s e h, ih]
theorem runP_err {l : List Ev} (q : List Ev) (h : (runP T tl l).err ≠ 0) : (runP T tl (l ++ q)).err = (runP T tl l).err := by
  rw [runP, List.foldl_append]
  show (q.foldl (stepP T tl) (runP T tl l)).err = _
  rw [fold_err q _ h]
theorem runP_pre {l q : List Ev} (h : (runP T tl (l ++ q)).err = 0) : (runP T tl l).err = 0 := by
  by_cases h0 : (runP T tl l).err = 0
  · exact h0
  · rw [runP_err q h0] at h
    exact h
theorem snoc_ind {α : Type} {Q : List α → Prop} (h0 : Q []) (h1 : ∀ l x, Q l → Q (l ++ [x])) (l : List α) : Q l := by
  have : ∀ r : List α, Q r.reverse := by
    intro r
    induction r with
    | nil => exact h0
    | cons x r ih => rw [List.reverse_cons]; exact h1 _ _ ih
  have := this l.reverse
  rwa [List.reverse_reverse] at this
theorem places_app (a b : List Ev) : places (a ++ b) = places a + places b := List.countP_append
/-- what holds behind any events -/
structure PsOk (T : Tbs) (tl : List (List (List Int))) (l : List Ev) : Prop where
  packs : Packs (runP T tl l).cur
  fit : Fit (runP T tl l).out
  len : (runP T tl l).prev.length = 3
  rs : (runP T tl l).err = 0 → (runP T tl l).rs = rests l
  rle : (runP T tl l).rs ≤ rests l
  room : 4 * (runP T tl l).out.length + (runP T tl l).cur.length ≤ 1728 * places l + 16 * rests l
theorem scan_fit {L l : List Int} (h : Scan L l) : Fit l := by
  obtain ⟨B, v, c, h1, h2, h3, _, rfl⟩ := h
  exact stuff_fit (fit_filledUp h1 h2 h3)
theorem Cd_len {B V B' V' : List Int} (hv : Valid B V) (hv' : Valid B' V') {prev : Int} {b : List Int} (h : putBE (codes B V) (codes B' V') prev b = 0) : (bitsOf (codes B V) (codes B' V') (allS prev b)).length ≤ 1728 := by
  have hir : In prev ∧ RightB b := by
    unfold putBE at h
    by_cases hc : In prev ∧ RightB b
    · exact hc
    · rw [if_neg hc] at h
      cases h
  have h2 := bitsOf_len hv hv' (allS prev b) (allS_ok hir.2 hir.1)
  have h3 := allS_len prev b
  omega
/-- the tables of the parts that come are valid -/
def VT (T : Tbs) (l : List Ev) : Prop := ∀ p a, some (p, a) ∈ l → Valid (T.B (min p 1)) (T.V (min p 1)) ∧ Valid (T.B (min p 1 + 2)) (T.V (min p 1 + 2))
theorem ps_ok (l : List Ev) : VT T l → PsOk T tl l := by
  refine snoc_ind (Q := fun l => VT T l → PsOk T tl l) (fun _ => ⟨Packs.nil, (fun z hz => by cases hz), rfl, fun _ => rfl, Nat.le_refl _, by simp [runP, ps0, places]⟩) (fun l e ih' hV => ?_) l
  have ih := ih' (fun p a h => hV p a (List.mem_append_left _ h))
  by_cases h0 : (runP T tl l).err = 0
  · cases e with
    | none =>
      have hr := runP_rest (T := T) (tl := tl) h0
      have hs := ih.packs.scan
      have hl := scan_len hs
      have hrm := ih.room
      have e1 : rests (l ++ [none]) = rests l + 1 := by rw [rests_app]; rfl
      have e2 : places (l ++ [none]) = places l := by rw [places_app]; rfl
      refine ⟨?_, ?_, ?_, ?_, ?_, ?_⟩
      · rw [hr]; exact Packs.nil
      · rw [hr]
        refine (ih.fit.app (scan_fit hs)).app (fun z hz => ?_)
        have h8 := Nat.mod_lt (runP T tl l).rs (show 0 < 8 by omega)
        simp only [List.mem_cons, List.mem_nil_iff, or_false] at hz
        rcases hz with rfl | rfl <;> omega
      · rw [hr]; rfl
      · intro _
        rw [hr, e1]
        show (runP T tl l).rs + 1 = _
        rw [ih.rs h0]
      · rw [hr, e1]
        exact Nat.succ_le_succ ih.rle
      · rw [hr, e1, e2]
        show 4 * (_ ++ scanOf (runP T tl l).cur ++ [255, _]).length + 0 ≤ _
        simp only [List.length_append, List.length_cons, List.length_nil]
        omega
    | some x =>
      obtain ⟨p, a⟩ := x
      have hr := runP_see (T := T) (tl := tl) h0 p a
      have hrm := ih.room
      have e1 : rests (l ++ [some (p, a)]) = rests l := by rw [rests_app]; rfl
      have e2 : places (l ++ [some (p, a)]) = places l + 1 := by rw [places_app]; rfl
      by_cases hE : seeE T tl (runP T tl l) p a = 0
      · rw [seeP, if_pos hE] at hr
        have hb : (putBL (Cd T p) (Ca T p) (runP T tl l).cur ((runP T tl l).prev.getD p 0) (blkAt tl p a)).length ≤ (runP T tl l).cur.length + 1728 := by
          unfold seeE at hE
          unfold putBL
          rw [if_pos hE, List.length_append]
          have hv := hV p a (by simp)
          have := Cd_len hv.1 hv.2 hE
          unfold Cd Ca
          omega
        refine ⟨?_, ?_, ?_, ?_, ?_, ?_⟩
        · rw [hr]; exact ih.packs.put _ _ _ _
        · rw [hr]; exact ih.fit
        · rw [hr]; show (List.set _ _ _).length = 3; rw [List.length_set]; exact ih.len
        · intro _; rw [hr, e1]; exact ih.rs h0
        · rw [hr, e1]; exact ih.rle
        · rw [hr, e1, e2]
          show 4 * (runP T tl l).out.length + (putBL _ _ _ _ _).length ≤ _
          omega
      · rw [seeP, if_neg hE] at hr
        refine ⟨by rw [hr]; exact ih.packs, by rw [hr]; exact ih.fit, by rw [hr]; exact ih.len, fun h => ?_, by rw [hr, e1]; exact ih.rle, ?_⟩
        · rw [hr] at h
          exact absurd h hE
        · rw [hr, e1, e2]
          show 4 * (runP T tl l).out.length + (runP T tl l).cur.length ≤ _
          omega
  · have hr : runP T tl (l ++ [e]) = runP T tl l := by rw [runP_snoc, stepP_err _ _ h0]
    have e1 : rests l ≤ rests (l ++ [e]) := by rw [rests_app]; omega
    have e2 : places l ≤ places (l ++ [e]) := by rw [places_app]; omega
    refine ⟨by rw [hr]; exact ih.packs, by rw [hr]; exact ih.fit, by rw [hr]; exact ih.len, fun h => absurd (by rw [hr] at h; exact h) h0, by rw [hr]; exact Nat.le_trans ih.rle e1, ?_⟩
    rw [hr]
    have := ih.room
    omega
end
/-- how many places a scan has -/
theorem places_map (l : List (Nat × Nat)) : places (l.map some) = l.length := by
  induction l with
  | nil => rfl
  | cons x l ih => rw [List.map_cons, show some x :: l.map some = [some x] ++ l.map some from rfl, places_app, ih]; simp [places]; omega
theorem places_plOf (X : Nat) (K : Int) (n p : Nat) : places (plOf X K n p) = uA K p * uD K p := by
  have : plOf X K n p = ((List.range (uA K p * uD K p)).map fun i => plAt X K n p i).map some := by simp [plOf]
  rw [this, places_map, List.length_map, List.length_range]
def sumU (K : Int) : Nat → Nat
  | 0 => 0
  | p + 1 => sumU K p + uA K p * uD K p
theorem places_plTo (X : Nat) (K : Int) (n : Nat) : ∀ p, places (plTo X K n p) = sumU K p
  | 0 => rfl
  | p + 1 => by rw [plTo_more, places_app, places_plTo X K n p, places_plOf]; rfl
theorem places_evTo (X : Nat) (K : Int) (R : Nat) : ∀ n, places (evTo X K R n) = n * sumU K (nP K)
  | 0 => by simp [evTo, places]
  | n + 1 => by
    have h0 : places (rsOf R n) = 0 := by unfold rsOf; split <;> rfl
    rw [evTo_more, places_app, places_app, places_evTo X K R n, h0, places_plTo, Nat.zero_add, Nat.succ_mul]
theorem few_places {W H K R : Int} (h : RightS W H K R) (hw : W ≤ 40) (hh : H ≤ 40) : (uW W K * uH H K) * sumU K (nP K) ≤ 80 ∧ uW W K * uH H K ≤ 25 := by
  obtain ⟨⟨w1, _⟩, ⟨h1, _⟩, ⟨k1, k2⟩, _⟩ := h
  have hK : K = 0 ∨ K = 1 ∨ K = 2 ∨ K = 3 := by omega
  rcases hK with rfl | rfl | rfl | rfl
  · have a : uW W 0 ≤ 5 := by simp only [uW, uA]; simp; omega
    have b : uH H 0 ≤ 5 := by simp only [uH, uD]; simp; omega
    have c := Nat.mul_le_mul a b
    have : sumU 0 (nP 0) = 1 := by decide
    rw [this]
    omega
  · have a : uW W 1 ≤ 5 := by simp only [uW, uA]; simp; omega
    have b : uH H 1 ≤ 5 := by simp only [uH, uD]; simp; omega
    have c := Nat.mul_le_mul a b
    have : sumU 1 (nP 1) = 3 := by decide
    rw [this]
    omega
  · have a : uW W 2 ≤ 3 := by simp only [uW, uA]; simp; omega
    have b : uH H 2 ≤ 5 := by simp only [uH, uD]; simp; omega
    have c := Nat.mul_le_mul a b
    have : sumU 2 (nP 2) = 4 := by decide
    rw [this]
    omega
  · have a : uW W 3 ≤ 3 := by simp only [uW, uA]; simp; omega
    have b : uH H 3 ≤ 3 := by simp only [uH, uD]; simp; omega
    have c := Nat.mul_le_mul a b
    have : sumU 3 (nP 3) = 6 := by decide
    rw [this]
    omega
end Go.Proofs.YtdnjnbfmmgkpjaaDoor
