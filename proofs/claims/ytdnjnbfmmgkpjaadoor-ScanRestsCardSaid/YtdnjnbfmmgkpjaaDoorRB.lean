/-
  A scan that is read by other restarts is refused. No code.
-/
import Derived.Test.YtdnjnbfmmgkpjaaDoorRA
namespace Go.Proofs.YtdnjnbfmmgkpjaaDoor
open Go.RowKit

/-- two events that tell blocks of the same component -/
def SameEv (e e' : Ev) : Prop := ∃ p a a', e = some (p, a) ∧ e' = some (p, a')
/-- the places of u units from unit a on -/
def unitsOf (X : Nat) (K : Int) (a u : Nat) : List Ev := (List.range' a u).flatMap fun n => plTo X K n (nP K)
/-- the events from unit a on -/
def fromU (X : Nat) (K : Int) (R N a : Nat) : List Ev := (List.range' a (N - a)).flatMap (evOf X K R)
theorem evTo_from (X : Nat) (K : Int) (R N : Nat) : evTo X K R N = fromU X K R N 0 := by
  unfold evTo fromU
  rw [Nat.sub_zero, List.range_eq_range']
theorem from_end (X : Nat) (K : Int) (R N : Nat) : fromU X K R N N = [] := by
  unfold fromU
  rw [Nat.sub_self]
  rfl
theorem from_one {X : Nat} {K : Int} {R N a : Nat} (h : a < N) : fromU X K R N a = rsOf R a ++ (plTo X K a (nP K) ++ fromU X K R N (a + 1)) := by
  unfold fromU
  obtain ⟨d, hd⟩ : ∃ d, N - a = d + 1 := ⟨N - a - 1, by omega⟩
  rw [hd, List.range'_succ, List.flatMap_cons, show N - (a + 1) = d by omega, evOf, List.append_assoc]
theorem units_one (X : Nat) (K : Int) (a u : Nat) : unitsOf X K a (u + 1) = plTo X K a (nP K) ++ unitsOf X K (a + 1) u := by
  unfold unitsOf
  rw [List.range'_succ, List.flatMap_cons]
/-- no restart stands ahead of some units -/
theorem from_units {X : Nat} {K : Int} {R N : Nat} : ∀ (u a : Nat), a + u ≤ N → (∀ n, a ≤ n → n < a + u → ¬ isRs R n) → fromU X K R N a = unitsOf X K a u ++ fromU X K R N (a + u)
  | 0, a, _, _ => rfl
  | u + 1, a, h, hn => by
    rw [from_one (by omega), units_one, rsOf, if_neg (hn a (by omega) (by omega)), List.nil_append, from_units u (a + 1) (by omega) (fun n h1 h2 => hn n (by omega) (by omega)), List.append_assoc, show a + 1 + u = a + (u + 1) by omega]
/-- the events of a segment's units and what is behind, without the restart ahead -/
def segE (X : Nat) (K : Int) (R N a : Nat) : List Ev := plTo X K a (nP K) ++ fromU X K R N (a + 1)
theorem segE_units {X : Nat} {K : Int} {R N a u : Nat} (hu : 0 < u) (h : a + u ≤ N) (hn : ∀ n, a < n → n < a + u → ¬ isRs R n) : segE X K R N a = unitsOf X K a u ++ fromU X K R N (a + u) := by
  obtain ⟨u, rfl⟩ : ∃ u', u = u' + 1 := ⟨u - 1, by omega⟩
  unfold segE
  rw [units_one, from_units u (a + 1) (by omega) (fun n h1 h2 => hn n (by omega) (by omega)), List.append_assoc, show a + 1 + u = a + (u + 1) by omega]
theorem from_seg {X : Nat} {K : Int} {R N a : Nat} (h : a < N) : fromU X K R N a = rsOf R a ++ segE X K R N a := from_one h
/-- two lists whose elements stand in a relation, one by one -/
inductive All2 {β : Type} (S : β → β → Prop) : List β → List β → Prop
  | nil : All2 S [] []
  | cons {x y : β} {a b : List β} (h : S x y) (t : All2 S a b) : All2 S (x :: a) (y :: b)
theorem all2_app {β : Type} {S : β → β → Prop} {a b c d : List β} (h : All2 S a b) (h2 : All2 S c d) : All2 S (a ++ c) (b ++ d) := by
  induction h with
  | nil => exact h2
  | cons h _ ih => exact .cons h ih
theorem all2_flatMap {α β : Type} {S : β → β → Prop} {f g : α → List β} : ∀ (l : List α), (∀ x ∈ l, All2 S (f x) (g x)) → All2 S (l.flatMap f) (l.flatMap g)
  | [], _ => .nil
  | x :: l, h => by
    rw [List.flatMap_cons, List.flatMap_cons]
    exact all2_app (h x List.mem_cons_self) (all2_flatMap l (fun y hy => h y (List.mem_cons_of_mem _ hy)))
theorem same_unit (X : Nat) (K : Int) (n m : Nat) : All2 SameEv (plTo X K n (nP K)) (plTo X K m (nP K)) := by
  unfold plTo
  refine all2_flatMap _ (fun p _ => ?_)
  unfold plOf
  generalize uA K p * uD K p = c
  generalize hl : List.range c = l
  clear hl
  induction l with
  | nil => exact .nil
  | cons i l ih => exact .cons ⟨p, _, _, rfl, rfl⟩ ih
theorem same_units (X : Nat) (K : Int) : ∀ (u a b : Nat), All2 SameEv (unitsOf X K a u) (unitsOf X K b u)
  | 0, _, _ => .nil
  | u + 1, a, b => by
    rw [units_one, units_one]
    exact all2_app (same_unit X K a b) (same_units X K u (a + 1) (b + 1))
section
variable {T : Tbs} {tl : List (List (List Int))} {l : List Int}
/-- how a putting and a reading stand together in the midst of a segment -/
structure Tog (T : Tbs) (tl : List (List (List Int))) (l : List Int) (s : PS) (g : GS) (q : List Ev) : Prop where
  pk : Packs s.cur
  e0 : s.err = 0
  len : s.prev.length = 3
  ok : (q.foldl (stepP T tl) s).err = 0
  ge : g.err = 0
  gp : g.prev = s.prev
  gr : g.rs = s.rs
  is : l = s.out ++ stuff (segF T tl s q) ++ tailF T tl [] s q
  st : g.st = sh s.out.length (stAt (segF T tl s q) s.cur.length)
theorem Tog.one {s : PS} {g : GS} {q : List Ev} {p a a' : Nat} (h : Tog T tl l s g (some (p, a) :: q)) (hV : Valid (T.B (min p 1)) (T.V (min p 1)) ∧ Valid (T.B (min p 1 + 2)) (T.V (min p 1 + 2))) (hb : (blkAt tl p a).length = 64) :
    Tog T tl l (stepP T tl s (some (p, a))) (stepG T l g (some (p, a'))) q := by
  obtain ⟨hP, h0, hpl, he, hg, hpr, hrs, hl, hst⟩ := h
  obtain ⟨hE, hS⟩ := see_ok h0 he
  have e := seeP_eq hE
  have eF : (some (p, a) :: q).foldl (stepP T tl) s = q.foldl (stepP T tl) (seeP T tl s p a) := by rw [List.foldl_cons, hS]
  rw [eF] at he
  rw [hS]
  have hP' : Packs (seeP T tl s p a).cur := by rw [e]; exact hP.app _ (bitsOf_bits _ _ _)
  have h0' : (seeP T tl s p a).err = 0 := by rw [e]; exact h0
  obtain ⟨hF, S, h2⟩ := seg_pre q (seeP T tl s p a) hP' h0' he
  obtain ⟨F, hFd⟩ : ∃ F, F = segF T tl (seeP T tl s p a) q := ⟨_, rfl⟩
  obtain ⟨Tt, hTt⟩ : ∃ Tt, Tt = tailF T tl [] (seeP T tl s p a) q := ⟨_, rfl⟩
  have hl' : l = s.out ++ stuff F ++ Tt := by rw [hFd, hTt]; exact hl
  have hst' : g.st = sh s.out.length (stAt F s.cur.length) := by rw [hFd]; exact hst
  obtain ⟨bs, hbs⟩ : ∃ bs, bs = bitsOf (Cd T p) (Ca T p) (allS (s.prev.getD p 0) (blkAt tl p a)) := ⟨_, rfl⟩
  rw [← hFd] at h2 hF
  have h3 : by8 F = s.cur ++ (bs ++ S) := by rw [h2, e, ← hbs, List.append_assoc]
  have hln := congrArg List.length h3
  rw [by8_len, List.length_append, List.length_append] at hln
  have hE' := hE
  unfold seeE Cd Ca at hE'
  have hbs' := hbs
  unfold Cd Ca at hbs'
  have hbk := block_back2 s.out Tt (p := s.cur.length) hV.1 hV.2 hF hb hE' ⟨by rw [← hbs']; omega, S, by rw [h3, List.drop_left, ← hbs']⟩
  rw [← hl', ← hst', ← hbs', ← hpr] at hbk
  have hg1 : stepG T l g (some (p, a')) = ⟨sh s.out.length (stAt F (s.cur.length + bs.length)), s.prev.set p ((blkAt tl p a).getD 0 0), setBlk g.tl p a' (blkAt tl p a), s.rs, 0⟩ := by
    unfold stepG
    rw [if_neg (by simpa using hg)]
    show seeG T l g p a' = _
    unfold seeG Cd Ca
    rw [hbk]
    dsimp only
    rw [if_pos rfl, hpr, hrs]
  rw [hg1]
  refine ⟨hP', h0', by rw [e]; show (List.set _ _ _).length = 3; rw [List.length_set]; exact hpl, he, rfl, by rw [e], by rw [e], by rw [hl', hFd, hTt, e], ?_⟩
  rw [← hFd, e, ← hbs]
  show _ = sh s.out.length (stAt F (s.cur ++ bs).length)
  rw [List.length_append]
/-- the same units are read alike -/
theorem Tog.units {E E' : List Ev} (hEE : All2 SameEv E E') : ∀ {s : PS} {g : GS} {q : List Ev}, Tog T tl l s g (E ++ q) → (∀ p a, some (p, a) ∈ E → (Valid (T.B (min p 1)) (T.V (min p 1)) ∧ Valid (T.B (min p 1 + 2)) (T.V (min p 1 + 2))) ∧ (blkAt tl p a).length = 64) →
    Tog T tl l (E.foldl (stepP T tl) s) (E'.foldl (stepG T l) g) q := by
  induction hEE with
  | nil => exact fun h _ => h
  | cons h1 h2 ih =>
    intro s g q h hV
    obtain ⟨p, a, a', rfl, rfl⟩ := h1
    obtain ⟨v, b⟩ := hV p a List.mem_cons_self
    rw [List.foldl_cons, List.foldl_cons]
    exact ih (h.one v b) (fun p a hm => hV p a (List.mem_cons_of_mem _ hm))
/-- behind a segment's last block: a block that is asked is refused -/
theorem Tog.noBlock {s : PS} {g : GS} {q : List Ev} (h : Tog T tl l s g q) (hq : q = [] ∨ ∃ q', q = none :: q') {p a : Nat} (hV : Valid (T.B (min p 1)) (T.V (min p 1))) : (stepG T l g (some (p, a))).err ≠ 0 := by
  obtain ⟨hP, h0, hpl, he, hg, hpr, hrs, hl, hst⟩ := h
  obtain ⟨h1, _, n, hn, h2⟩ := fby_spec hP
  have hF : segF T tl s q = fby s.cur := by rcases hq with rfl | ⟨q', rfl⟩ <;> rfl
  have hT : EndOf (tailF T tl [] s q) := by
    rcases hq with rfl | ⟨q', rfl⟩
    · exact .inl rfl
    · exact .inr ⟨_, _, rfl, by omega⟩
  rw [hF] at hl hst
  have hb := block_pad (P := s.out) (T := tailF T tl [] s q) (B' := T.B (min p 1 + 2)) (V' := T.V (min p 1 + 2)) (prev := g.prev.getD p 0) hV h1 h2 hn hT
  rw [← hl, ← hst] at hb
  unfold stepG
  rw [if_neg (by simpa using hg)]
  show (seeG T l g p a).err ≠ 0
  unfold seeG Cd Ca
  rw [if_neg hb]
  exact hb
/-- a marker that is asked: none is met, or the segment's own -/
theorem Tog.mark {s : PS} {g : GS} {E q : List Ev} (h : Tog T tl l s g (E ++ q)) (hE : ∀ e ∈ E, ∃ p a, e = some (p, a)) (hq : q = [] ∨ ∃ q', q = none :: q') :
    (stepG T l g none).err ≠ 0 ∨ ∃ q', q = none :: q' ∧ Tog T tl l (restP (E.foldl (stepP T tl) s)) (stepG T l g none) q' := by
  have hseg : ∀ (E : List Ev) (s : PS), s.err = 0 → Packs s.cur → ((E ++ q).foldl (stepP T tl) s).err = 0 → (∀ e ∈ E, ∃ p a, e = some (p, a)) → segF T tl s (E ++ q) = fby (E.foldl (stepP T tl) s).cur ∧ tailF T tl [] s (E ++ q) = tailF T tl [] (E.foldl (stepP T tl) s) q ∧ (E.foldl (stepP T tl) s).out = s.out ∧ (E.foldl (stepP T tl) s).rs = s.rs ∧ (E.foldl (stepP T tl) s).err = 0 ∧ Packs (E.foldl (stepP T tl) s).cur := by
    intro E
    induction E with
    | nil =>
      intro s h0 hP he _
      refine ⟨?_, rfl, rfl, rfl, h0, hP⟩
      rcases hq with rfl | ⟨q', rfl⟩ <;> rfl
    | cons e E ih =>
      intro s h0 hP he hEs
      obtain ⟨p, a, rfl⟩ := hEs e List.mem_cons_self
      obtain ⟨hE1, hS⟩ := see_ok (q := E ++ q) h0 he
      have e1 := seeP_eq hE1
      have he2 : ((E ++ q).foldl (stepP T tl) (seeP T tl s p a)).err = 0 := by
        have : ((some (p, a) :: (E ++ q)).foldl (stepP T tl) s).err = 0 := he
        rw [List.foldl_cons, hS] at this
        exact this
      obtain ⟨a1, a2, a3, a4, a5, a6⟩ := ih (seeP T tl s p a) (by rw [e1]; exact h0) (by rw [e1]; exact hP.app _ (bitsOf_bits _ _ _)) he2 (fun e he => hEs e (List.mem_cons_of_mem _ he))
      rw [List.foldl_cons, hS]
      refine ⟨a1, a2, a3.trans (by rw [e1]), a4.trans (by rw [e1]), a5, a6⟩
  obtain ⟨hP, h0, hpl, he, hg, hpr, hrs, hl, hst⟩ := h
  obtain ⟨hF0, S0, hS0⟩ := seg_pre (E ++ q) s hP h0 he
  obtain ⟨a1, a2, a3, a4, a5, a6⟩ := hseg E s h0 hP he hE
  obtain ⟨s1, hs1⟩ : ∃ s1, s1 = E.foldl (stepP T tl) s := ⟨_, rfl⟩
  rw [← hs1] at a1 a2 a3 a4 a5 a6 ⊢
  rw [a1] at hl hst hF0 hS0
  rw [a2] at hl
  have hlen := congrArg List.length hS0
  rw [by8_len, List.length_append] at hlen
  have hstep : stepG T l g none = restG l g := by unfold stepG; rw [if_neg (by simpa using hg)]
  by_cases hmid : (s.cur.length + 7) / 8 < (fby s1.cur).length
  · refine .inl ?_
    have hm := mark_mid (P := s.out) (T := tailF T tl [] s1 q) hmid
    rw [← hl, ← hst] at hm
    rw [hstep]
    unfold restG
    rw [if_neg hm]
    exact hm
  · rcases hq with rfl | ⟨q', rfl⟩
    · refine .inl ?_
      have hm := mark_last (P := s.out) (F := fby s1.cur) (k := s.cur.length) (by omega) (by omega)
      have e2 : tailF T tl [] s1 [] = [] := rfl
      rw [e2] at hl
      rw [← hl, ← hst] at hm
      rw [hstep]
      unfold restG
      rw [if_neg hm]
      exact hm
    · refine .inr ⟨q', rfl, ?_⟩
      have h8 := Nat.mod_lt s1.rs (show 0 < 8 by omega)
      have hm := mark_back s.out (fby s1.cur) (stuff (segF T tl (restP s1) q') ++ tailF T tl [] (restP s1) q') (s1.rs % 8) s.cur.length h8 (by omega) (by omega)
      have hl' : l = s.out ++ stuff (fby s1.cur) ++ ([255, ((208 + s1.rs % 8 : Nat) : Int)] ++ (stuff (segF T tl (restP s1) q') ++ tailF T tl [] (restP s1) q')) := hl
      rw [← hl', ← hst] at hm
      obtain ⟨_, hsc, _⟩ := fby_spec a6
      have hg1 : stepG T l g none = ⟨⟨s.out.length + (stuff (fby s1.cur)).length + 2, 0, 0⟩, [0, 0, 0], g.tl, s1.rs + 1, 0⟩ := by
        rw [hstep]
        unfold restG
        rw [hm, hrs, ← a4]
        dsimp only
        rw [if_pos rfl, if_pos rfl]
      rw [hg1]
      have he2 : (q'.foldl (stepP T tl) (restP s1)).err = 0 := by
        have := he
        rw [List.foldl_append, ← hs1, List.foldl_cons, rest_ok a5] at this
        exact this
      refine ⟨Packs.nil, a5, rfl, he2, rfl, rfl, rfl, ?_, ?_⟩
      · show l = s1.out ++ scanOf s1.cur ++ [255, ((208 + s1.rs % 8 : Nat) : Int)] ++ stuff (segF T tl (restP s1) q') ++ tailF T tl [] (restP s1) q'
        rw [hl', hsc, a3]
        simp only [List.append_assoc]
      · show (⟨s.out.length + (stuff (fby s1.cur)).length + 2, 0, 0⟩ : St) = sh (s1.out ++ scanOf s1.cur ++ [255, ((208 + s1.rs % 8 : Nat) : Int)]).length (stAt (segF T tl (restP s1) q') 0)
        rw [stAt_zero, hsc, a3]
        unfold sh
        rw [List.length_append, List.length_append]
        show _ = (⟨0 + (s.out.length + (stuff (fby s1.cur)).length + 2), 0, 0⟩ : St)
        rw [Nat.zero_add]
end
end Go.Proofs.YtdnjnbfmmgkpjaaDoor
