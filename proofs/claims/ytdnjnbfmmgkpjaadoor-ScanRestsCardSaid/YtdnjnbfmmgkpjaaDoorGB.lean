/-
  What is read of a scan that was put, whatever stands behind it: mathematics, no code.
-/
import Derived.Test.YtdnjnbfmmgkpjaaDoorGA
import Derived.Test.YtdnjnbfmmgkpjaaDoorPF
namespace Go.Proofs.YtdnjnbfmmgkpjaaDoor
open Go.RowKit

/-- how a reading of a scan stands: the reader, the numbers ahead, the blocks, how many restarts, the error -/
structure GS where
  st : St
  prev : List Int
  tl : List (List (List Int))
  rs : Nat
  err : Int
def setBlk (tl : List (List (List Int))) (p a : Nat) (b : List Int) : List (List (List Int)) := tl.set p ((tl.getD p []).set a b)
def seeG (T : Tbs) (l : List Int) (s : GS) (p a : Nat) : GS :=
  if (blockF (Cd T p) (Ca T p) l s.st (s.prev.getD p 0)).2.2 = 0 then
    ⟨(blockF (Cd T p) (Ca T p) l s.st (s.prev.getD p 0)).1, s.prev.set p ((blockF (Cd T p) (Ca T p) l s.st (s.prev.getD p 0)).2.1.getD 0 0), setBlk s.tl p a (blockF (Cd T p) (Ca T p) l s.st (s.prev.getD p 0)).2.1, s.rs, 0⟩
  else ⟨(blockF (Cd T p) (Ca T p) l s.st (s.prev.getD p 0)).1, s.prev, s.tl, s.rs, (blockF (Cd T p) (Ca T p) l s.st (s.prev.getD p 0)).2.2⟩
def restG (l : List Int) (s : GS) : GS :=
  if (markF l s.st).2.2 = 0 then
    (if (markF l s.st).2.1 = 208 + s.rs % 8 then ⟨(markF l s.st).1, [0, 0, 0], s.tl, s.rs + 1, 0⟩ else ⟨(markF l s.st).1, s.prev, s.tl, s.rs, 7⟩)
  else ⟨(markF l s.st).1, s.prev, s.tl, s.rs, (markF l s.st).2.2⟩
def stepG (T : Tbs) (l : List Int) (s : GS) (e : Ev) : GS :=
  if s.err ≠ 0 then s else match e with
  | none => restG l s
  | some (p, a) => seeG T l s p a
def gs0 (tl : List (List (List Int))) : GS := ⟨⟨0, 0, 0⟩, [0, 0, 0], tl, 0, 0⟩
def runG (T : Tbs) (l : List Int) (tl : List (List (List Int))) (es : List Ev) : GS := es.foldl (stepG T l) (gs0 tl)
section
variable {T : Tbs} {l : List Int} {tl : List (List (List Int))}
theorem runG_snoc (es : List Ev) (e : Ev) : runG T l tl (es ++ [e]) = stepG T l (runG T l tl es) e := by simp [runG]
theorem runG_rest {es : List Ev} (h : (runG T l tl es).err = 0) : runG T l tl (es ++ [none]) = restG l (runG T l tl es) := by
  rw [runG_snoc, stepG, if_neg (by simpa using h)]
theorem runG_see {es : List Ev} (h : (runG T l tl es).err = 0) (p a : Nat) : runG T l tl (es ++ [some (p, a)]) = seeG T l (runG T l tl es) p a := by
  rw [runG_snoc, stepG, if_neg (by simpa using h)]
theorem stepG_err (s : GS) (e : Ev) (h : s.err ≠ 0) : stepG T l s e = s := by
  unfold stepG
  rw [if_pos h]
theorem foldG_err (q : List Ev) (s : GS) (h : s.err ≠ 0) : q.foldl (stepG T l) s = s := by
  induction q with
  | nil => rfl
  | cons e q ih => rw [List.foldl_cons, stepG_err s e h, ih]
theorem runG_err {es : List Ev} (q : List Ev) (h : (runG T l tl es).err ≠ 0) : (runG T l tl (es ++ q)).err = (runG T l tl es).err := by
  rw [runG, List.foldl_append]
  show (q.foldl (stepG T l) (runG T l tl es)).err = _
  rw [foldG_err q _ h]
end
/-- the bytes that bits are filled up to -/
theorem Packs.bytes {L : List Int} (h : Packs L) : ∃ F, Fit F ∧ scanOf L = stuff F ∧ ∃ n, n < 8 ∧ by8 F = L ++ List.replicate n 1 := by
  obtain ⟨B, v, c, h1, h2, h3, rfl⟩ := h
  refine ⟨filledUp B v c, fit_filledUp h1 h2 h3, scanOf_is ⟨B, v, c, h1, h2, h3, rfl, rfl⟩, (8 - c) % 8, Nat.mod_lt _ (by omega), by8_filledUp B h2⟩
open Classical in
noncomputable def fby (L : List Int) : List Int := if h : Packs L then h.bytes.choose else []
theorem fby_spec {L : List Int} (h : Packs L) : Fit (fby L) ∧ scanOf L = stuff (fby L) ∧ ∃ n, n < 8 ∧ by8 (fby L) = L ++ List.replicate n 1 := by
  rw [fby, dif_pos h]
  exact h.bytes.choose_spec
/-- the bytes of the segment that is being read, of the events that are left -/
noncomputable def segF (T : Tbs) (tl : List (List (List Int))) : PS → List Ev → List Int
  | s, [] => fby s.cur
  | s, none :: _ => fby s.cur
  | s, some (p, a) :: q => segF T tl (seeP T tl s p a) q
/-- what stands behind that segment -/
noncomputable def tailF (T : Tbs) (tl : List (List (List Int))) (beh : List Int) : PS → List Ev → List Int
  | _, [] => beh
  | s, none :: q => [255, ((208 + s.rs % 8 : Nat) : Int)] ++ (stuff (segF T tl (restP s) q) ++ tailF T tl beh (restP s) q)
  | s, some (p, a) :: q => tailF T tl beh (seeP T tl s p a) q
section
variable {T : Tbs} {tl : List (List (List Int))}
theorem see_ok {s : PS} {p a : Nat} {q : List Ev} (h0 : s.err = 0) (he : ((some (p, a) :: q).foldl (stepP T tl) s).err = 0) : seeE T tl s p a = 0 ∧ stepP T tl s (some (p, a)) = seeP T tl s p a := by
  have e1 : stepP T tl s (some (p, a)) = seeP T tl s p a := by unfold stepP; rw [if_neg (by simpa using h0)]
  rw [List.foldl_cons, e1] at he
  refine ⟨Classical.byContradiction fun h => ?_, e1⟩
  rw [seeP, if_neg h, fold_err q _ h] at he
  exact h he
theorem rest_ok {s : PS} (h0 : s.err = 0) : stepP T tl s none = restP s := by unfold stepP; rw [if_neg (by simpa using h0)]
theorem seeP_eq {s : PS} {p a : Nat} (h : seeE T tl s p a = 0) : seeP T tl s p a = ⟨s.out, s.cur ++ bitsOf (Cd T p) (Ca T p) (allS (s.prev.getD p 0) (blkAt tl p a)), s.prev.set p ((blkAt tl p a).getD 0 0), s.rs, s.err⟩ := by
  rw [seeP, if_pos h]
  unfold putBL
  unfold seeE at h
  rw [if_pos h]
/-- the bits of the segment begin with those that are there -/
theorem seg_pre : ∀ (q : List Ev) (s : PS), Packs s.cur → s.err = 0 → (q.foldl (stepP T tl) s).err = 0 → Fit (segF T tl s q) ∧ ∃ S, by8 (segF T tl s q) = s.cur ++ S
  | [], s, hP, _, _ => by
    obtain ⟨h1, _, n, _, h2⟩ := fby_spec hP
    exact ⟨h1, _, h2⟩
  | none :: q, s, hP, _, _ => by
    obtain ⟨h1, _, n, _, h2⟩ := fby_spec hP
    exact ⟨h1, _, h2⟩
  | some (p, a) :: q, s, hP, h0, he => by
    obtain ⟨hE, hS⟩ := see_ok h0 he
    have e := seeP_eq hE
    rw [List.foldl_cons, hS] at he
    have hP' : Packs (seeP T tl s p a).cur := by rw [e]; exact hP.app _ (bitsOf_bits _ _ _)
    obtain ⟨h1, S, h2⟩ := seg_pre q (seeP T tl s p a) hP' (by rw [e]; exact h0) he
    refine ⟨h1, bitsOf (Cd T p) (Ca T p) (allS (s.prev.getD p 0) (blkAt tl p a)) ++ S, ?_⟩
    show by8 (segF T tl (seeP T tl s p a) q) = _
    rw [h2, e, List.append_assoc]
/-- all that is put, of what is there and the events that are left -/
theorem seg_out (beh : List Int) : ∀ (q : List Ev) (s : PS), Packs s.cur → s.err = 0 → (q.foldl (stepP T tl) s).err = 0 →
    (q.foldl (stepP T tl) s).out ++ scanOf (q.foldl (stepP T tl) s).cur ++ beh = s.out ++ stuff (segF T tl s q) ++ tailF T tl beh s q
  | [], s, hP, _, _ => by
    obtain ⟨_, h1, _⟩ := fby_spec hP
    show s.out ++ scanOf s.cur ++ beh = s.out ++ stuff (fby s.cur) ++ beh
    rw [h1]
  | none :: q, s, hP, h0, he => by
    obtain ⟨_, h1, _⟩ := fby_spec hP
    rw [List.foldl_cons, rest_ok h0] at he ⊢
    rw [seg_out beh q (restP s) Packs.nil h0 he]
    show s.out ++ scanOf s.cur ++ [255, ((208 + s.rs % 8 : Nat) : Int)] ++ stuff (segF T tl (restP s) q) ++ tailF T tl beh (restP s) q = s.out ++ stuff (fby s.cur) ++ ([255, ((208 + s.rs % 8 : Nat) : Int)] ++ (stuff (segF T tl (restP s) q) ++ tailF T tl beh (restP s) q))
    rw [h1]
    simp only [List.append_assoc]
  | some (p, a) :: q, s, hP, h0, he => by
    obtain ⟨hE, hS⟩ := see_ok h0 he
    have e := seeP_eq hE
    rw [List.foldl_cons, hS] at he ⊢
    rw [seg_out beh q (seeP T tl s p a) (by rw [e]; exact hP.app _ (bitsOf_bits _ _ _)) (by rw [e]; exact h0) he]
    show (seeP T tl s p a).out ++ stuff (segF T tl (seeP T tl s p a) q) ++ tailF T tl beh (seeP T tl s p a) q = s.out ++ stuff (segF T tl (seeP T tl s p a) q) ++ tailF T tl beh (seeP T tl s p a) q
    rw [e]
/-- the blocks of the events laid into place -/
def fillT (tl : List (List (List Int))) (q : List Ev) (Z : List (List (List Int))) : List (List (List Int)) := q.foldl (fun z e => match e with | none => z | some (p, a) => setBlk z p a (blkAt tl p a)) Z
/-- a restart's marker is read -/
theorem mark_back (P F T : List Int) (n : Nat) (k : Nat) (hn : n < 8) (h1 : k ≤ 8 * F.length) (h2 : 8 * F.length < k + 8) :
    markF (P ++ stuff F ++ ([255, ((208 + n : Nat) : Int)] ++ T)) (sh P.length (stAt F k)) = (⟨P.length + (stuff F).length + 2, 0, 0⟩, 208 + n, 0) := by
  obtain ⟨a1, _⟩ := stAt_end F k h1 h2
  obtain ⟨l, hl⟩ : ∃ l, l = P ++ stuff F ++ ([255, ((208 + n : Nat) : Int)] ++ T) := ⟨_, rfl⟩
  obtain ⟨m, hm⟩ : ∃ m, m = P.length + (stuff F).length := ⟨_, rfl⟩
  have ea : (sh P.length (stAt F k)).at_ = m := by show (stAt F k).at_ + P.length = m; omega
  have hpl : (P ++ stuff F).length = m := by rw [List.length_append]; omega
  have e1 : l.getD m 0 = 255 := by
    rw [hl, List.getD_eq_getElem?_getD, List.getElem?_append_right (by omega), hpl, Nat.sub_self]
    rfl
  have e2 : l.getD (m + 1) 0 = ((208 + n : Nat) : Int) := by
    rw [hl, List.getD_eq_getElem?_getD, List.getElem?_append_right (by omega), hpl, Nat.add_sub_cancel_left]
    rfl
  have e3 : m + 2 ≤ l.length := by rw [hl, List.length_append, hpl]; simp
  have hE : markE l m = 0 := by
    unfold markE
    rw [if_neg (by omega), e1, e2, if_pos ⟨rfl, by omega, by omega⟩]
  rw [← hl]
  unfold markF
  rw [ea, hE, if_pos rfl, e2, Int.toNat_natCast, ← hm]
/-- what was put is read -/
theorem read_back (beh l : List Int) : ∀ (q : List Ev) (s : PS) (g : GS), Packs s.cur → s.err = 0 → s.prev.length = 3 → g.err = 0 → g.prev = s.prev → g.rs = s.rs → l = s.out ++ stuff (segF T tl s q) ++ tailF T tl beh s q → g.st = sh s.out.length (stAt (segF T tl s q) s.cur.length) →
    VT T q → (∀ p a, some (p, a) ∈ q → (blkAt tl p a).length = 64) → (q.foldl (stepP T tl) s).err = 0 →
    (q.foldl (stepG T l) g).err = 0 ∧ (q.foldl (stepG T l) g).st.at_ = ((q.foldl (stepP T tl) s).out ++ scanOf (q.foldl (stepP T tl) s).cur).length ∧ (q.foldl (stepG T l) g).tl = fillT tl q g.tl
  | [], s, g, hP, _, _, hg, _, _, _, hst, _, _, _ => by
    obtain ⟨_, h1, n, hn, h2⟩ := fby_spec hP
    refine ⟨hg, ?_, rfl⟩
    show g.st.at_ = (s.out ++ scanOf s.cur).length
    have hl := congrArg List.length h2
    rw [by8_len, List.length_append, List.length_replicate] at hl
    obtain ⟨e1, _⟩ := stAt_end (fby s.cur) s.cur.length (by omega) (by omega)
    rw [hst]
    show (stAt (fby s.cur) s.cur.length).at_ + s.out.length = _
    rw [e1, h1, List.length_append]
    omega
  | none :: q, s, g, hP, h0, hpl, hg, hpr, hrs, hl, hst, hV, hb, he => by
    obtain ⟨_, h1, n, hn, h2⟩ := fby_spec hP
    have hln := congrArg List.length h2
    rw [by8_len, List.length_append, List.length_replicate] at hln
    have h8 := Nat.mod_lt s.rs (show 0 < 8 by omega)
    have hm := mark_back s.out (fby s.cur) (stuff (segF T tl (restP s) q) ++ tailF T tl beh (restP s) q) (s.rs % 8) s.cur.length h8 (by omega) (by omega)
    have hl' : l = s.out ++ stuff (fby s.cur) ++ ([255, ((208 + s.rs % 8 : Nat) : Int)] ++ (stuff (segF T tl (restP s) q) ++ tailF T tl beh (restP s) q)) := hl
    rw [← hl'] at hm
    have hst' : g.st = sh s.out.length (stAt (fby s.cur) s.cur.length) := hst
    have hg1 : stepG T l g none = ⟨⟨s.out.length + (stuff (fby s.cur)).length + 2, 0, 0⟩, [0, 0, 0], g.tl, s.rs + 1, 0⟩ := by
      unfold stepG
      rw [if_neg (by simpa using hg)]
      show restG l g = _
      unfold restG
      rw [hst', hm, hrs]
      dsimp only
      rw [if_pos rfl, if_pos rfl]
    have eF : (none :: q).foldl (stepP T tl) s = q.foldl (stepP T tl) (restP s) := by rw [List.foldl_cons, rest_ok h0]
    have eG : (none :: q).foldl (stepG T l) g = q.foldl (stepG T l) ⟨⟨s.out.length + (stuff (fby s.cur)).length + 2, 0, 0⟩, [0, 0, 0], g.tl, s.rs + 1, 0⟩ := by rw [List.foldl_cons, hg1]
    rw [eF] at he
    rw [eF, eG]
    refine read_back beh l q (restP s) _ Packs.nil h0 rfl rfl rfl rfl ?_ ?_ (fun p a hm => hV p a (List.mem_cons_of_mem _ hm)) (fun p a hm => hb p a (List.mem_cons_of_mem _ hm)) he
    · show l = s.out ++ scanOf s.cur ++ [255, ((208 + s.rs % 8 : Nat) : Int)] ++ stuff (segF T tl (restP s) q) ++ tailF T tl beh (restP s) q
      rw [hl', h1]
      simp only [List.append_assoc]
    · show (⟨s.out.length + (stuff (fby s.cur)).length + 2, 0, 0⟩ : St) = sh (s.out ++ scanOf s.cur ++ [255, ((208 + s.rs % 8 : Nat) : Int)]).length (stAt (segF T tl (restP s) q) 0)
      rw [stAt_zero, h1]
      unfold sh
      rw [List.length_append, List.length_append]
      show _ = (⟨0 + (s.out.length + (stuff (fby s.cur)).length + 2), 0, 0⟩ : St)
      rw [Nat.zero_add]
  | some (p, a) :: q, s, g, hP, h0, hpl, hg, hpr, hrs, hl, hst, hV, hb, he => by
    obtain ⟨hE, hS⟩ := see_ok h0 he
    have e := seeP_eq hE
    have eF : (some (p, a) :: q).foldl (stepP T tl) s = q.foldl (stepP T tl) (seeP T tl s p a) := by rw [List.foldl_cons, hS]
    rw [eF] at he
    rw [eF]
    have hP' : Packs (seeP T tl s p a).cur := by rw [e]; exact hP.app _ (bitsOf_bits _ _ _)
    have h0' : (seeP T tl s p a).err = 0 := by rw [e]; exact h0
    obtain ⟨hF, S, h2⟩ := seg_pre q (seeP T tl s p a) hP' h0' he
    obtain ⟨F, hFd⟩ : ∃ F, F = segF T tl (seeP T tl s p a) q := ⟨_, rfl⟩
    obtain ⟨Tt, hTt⟩ : ∃ Tt, Tt = tailF T tl beh (seeP T tl s p a) q := ⟨_, rfl⟩
    have hl' : l = s.out ++ stuff F ++ Tt := by rw [hFd, hTt]; exact hl
    have hst' : g.st = sh s.out.length (stAt F s.cur.length) := by rw [hFd]; exact hst
    obtain ⟨bs, hbs⟩ : ∃ bs, bs = bitsOf (Cd T p) (Ca T p) (allS (s.prev.getD p 0) (blkAt tl p a)) := ⟨_, rfl⟩
    rw [← hFd] at h2 hF
    have h3 : by8 F = s.cur ++ (bs ++ S) := by rw [h2, e, ← hbs, List.append_assoc]
    have hln := congrArg List.length h3
    rw [by8_len, List.length_append, List.length_append] at hln
    obtain ⟨hv, hv'⟩ := hV p a List.mem_cons_self
    have hblk := hb p a List.mem_cons_self
    have hE' := hE
    unfold seeE Cd Ca at hE'
    have hbs' := hbs
    unfold Cd Ca at hbs'
    have hbk := block_back2 s.out Tt (p := s.cur.length) hv hv' hF hblk hE' ⟨by rw [← hbs']; omega, S, by rw [h3, List.drop_left, ← hbs']⟩
    rw [← hl', ← hst', ← hbs', ← hpr] at hbk
    have hg1 : stepG T l g (some (p, a)) = ⟨sh s.out.length (stAt F (s.cur.length + bs.length)), s.prev.set p ((blkAt tl p a).getD 0 0), setBlk g.tl p a (blkAt tl p a), s.rs, 0⟩ := by
      unfold stepG
      rw [if_neg (by simpa using hg)]
      show seeG T l g p a = _
      unfold seeG Cd Ca
      rw [hbk]
      dsimp only
      rw [if_pos rfl, hpr, hrs]
    rw [List.foldl_cons, hg1]
    have := read_back beh l q (seeP T tl s p a) ⟨sh s.out.length (stAt F (s.cur.length + bs.length)), s.prev.set p ((blkAt tl p a).getD 0 0), setBlk g.tl p a (blkAt tl p a), s.rs, 0⟩ hP' h0' (by rw [e]; show (List.set _ _ _).length = 3; rw [List.length_set]; exact hpl) rfl (by rw [e]) (by rw [e]) (by rw [hl', hFd, hTt, e]) (by rw [← hFd, e, ← hbs]; show _ = sh s.out.length (stAt F (s.cur ++ bs).length); rw [List.length_append]) (fun p a hm => hV p a (List.mem_cons_of_mem _ hm)) (fun p a hm => hb p a (List.mem_cons_of_mem _ hm)) he
    exact this
/-- a scan that was put is read whole, whatever stands behind -/
theorem runG_back (beh : List Int) (es : List Ev) (Z : List (List (List Int))) (hV : VT T es) (hb : ∀ p a, some (p, a) ∈ es → (blkAt tl p a).length = 64) (he : (runP T tl es).err = 0) :
    (runG T ((runP T tl es).out ++ scanOf (runP T tl es).cur ++ beh) Z es).err = 0 ∧ (runG T ((runP T tl es).out ++ scanOf (runP T tl es).cur ++ beh) Z es).st.at_ = ((runP T tl es).out ++ scanOf (runP T tl es).cur).length ∧ (runG T ((runP T tl es).out ++ scanOf (runP T tl es).cur ++ beh) Z es).tl = fillT tl es Z :=
  read_back beh _ es ps0 (gs0 Z) Packs.nil rfl rfl rfl rfl rfl (seg_out beh es ps0 Packs.nil rfl he) (by
    show (⟨0, 0, 0⟩ : St) = sh 0 (stAt _ 0)
    rw [stAt_zero]
    rfl) hV hb he
/-- one place of what is laid -/
theorem blkAt_set {Z : List (List (List Int))} {p a : Nat} {b : List Int} (hp : p < Z.length) (ha : a < (Z.getD p []).length) (p' a' : Nat) : blkAt (setBlk Z p a b) p' a' = if p' = p ∧ a' = a then b else blkAt Z p' a' := by
  unfold blkAt setBlk
  by_cases h : p' = p
  · subst h
    have e : (Z.set p' ((Z.getD p' []).set a b)).getD p' [] = (Z.getD p' []).set a b := by
      rw [List.getD_eq_getElem?_getD, List.getElem?_set_self hp]
      rfl
    rw [e]
    by_cases h2 : a' = a
    · subst h2
      rw [if_pos ⟨rfl, rfl⟩, List.getD_eq_getElem?_getD, List.getElem?_set_self ha]
      rfl
    · rw [if_neg (fun h => h2 h.2), List.getD_eq_getElem?_getD, List.getElem?_set_ne (fun h => h2 h.symm), ← List.getD_eq_getElem?_getD]
  · have e : (Z.set p ((Z.getD p []).set a b)).getD p' [] = Z.getD p' [] := by rw [List.getD_eq_getElem?_getD, List.getElem?_set_ne (fun h2 => h h2.symm), ← List.getD_eq_getElem?_getD]
    rw [if_neg (fun h2 => h h2.1), e]
theorem setBlk_len (Z : List (List (List Int))) (p a : Nat) (b : List Int) : (setBlk Z p a b).length = Z.length ∧ ∀ p', ((setBlk Z p a b).getD p' []).length = (Z.getD p' []).length := by
  unfold setBlk
  refine ⟨List.length_set, fun p' => ?_⟩
  by_cases h : p' = p
  · subst h
    by_cases hp : p' < Z.length
    · rw [List.getD_eq_getElem?_getD, List.getElem?_set_self hp]
      show (List.set _ _ _).length = _
      rw [List.length_set]
    · rw [List.set_eq_of_length_le (by omega)]
  · rw [List.getD_eq_getElem?_getD, List.getElem?_set_ne (fun h2 => h h2.symm), ← List.getD_eq_getElem?_getD]
theorem fillT_len (q : List Ev) : ∀ (Z : List (List (List Int))), (fillT tl q Z).length = Z.length ∧ ∀ p', ((fillT tl q Z).getD p' []).length = (Z.getD p' []).length := by
  induction q with
  | nil => exact fun Z => ⟨rfl, fun _ => rfl⟩
  | cons e q ih =>
    intro Z
    cases e with
    | none => exact ih Z
    | some x =>
      obtain ⟨p, a⟩ := x
      obtain ⟨h1, h2⟩ := ih (setBlk Z p a (blkAt tl p a))
      obtain ⟨h3, h4⟩ := setBlk_len Z p a (blkAt tl p a)
      exact ⟨h1.trans h3, fun p' => (h2 p').trans (h4 p')⟩
theorem fillT_at (q : List Ev) : ∀ (Z : List (List (List Int))), (∀ p a, some (p, a) ∈ q → p < Z.length ∧ a < (Z.getD p []).length) → ∀ p a, (blkAt Z p a = blkAt tl p a ∨ some (p, a) ∈ q) → blkAt (fillT tl q Z) p a = blkAt tl p a := by
  induction q with
  | nil =>
    intro Z _ p a h
    rcases h with h | h
    · exact h
    · cases h
  | cons e q ih =>
    intro Z hZ p a h
    cases e with
    | none =>
      refine ih Z (fun p a hm => hZ p a (List.mem_cons_of_mem _ hm)) p a ?_
      rcases h with h | h
      · exact .inl h
      · rcases List.mem_cons.1 h with h | h
        · cases h
        · exact .inr h
    | some x =>
      obtain ⟨p', a'⟩ := x
      obtain ⟨h3, h4⟩ := setBlk_len Z p' a' (blkAt tl p' a')
      obtain ⟨h5, h6⟩ := hZ p' a' List.mem_cons_self
      refine ih (setBlk Z p' a' (blkAt tl p' a')) (fun p a hm => ?_) p a ?_
      · obtain ⟨g1, g2⟩ := hZ p a (List.mem_cons_of_mem _ hm)
        rw [h3, h4]
        exact ⟨g1, g2⟩
      · rw [blkAt_set h5 h6]
        by_cases hc : p = p' ∧ a = a'
        · rw [if_pos hc, hc.1, hc.2]
          exact .inl rfl
        · rw [if_neg hc]
          rcases h with h | h
          · exact .inl h
          · rcases List.mem_cons.1 h with h | h
            · cases h
              exact absurd ⟨rfl, rfl⟩ hc
            · exact .inr h
end
/-- each block has its turn -/
theorem all_turns {X Y : Nat} {K : Int} {R p a : Nat} (hp : p < nP K) (ha : a < (X * uA K p) * (Y * uD K p)) : some (p, a) ∈ evTo X K R (X * Y) := by
  have hA := (uA_le K p).1
  have hD := (uD_le K p).1
  obtain ⟨A, hAe⟩ : ∃ A, A = uA K p := ⟨_, rfl⟩
  obtain ⟨D, hDe⟩ : ∃ D, D = uD K p := ⟨_, rfl⟩
  rw [← hAe, ← hDe] at ha
  rw [← hAe] at hA
  rw [← hDe] at hD
  have hX : 0 < X := by rcases Nat.eq_zero_or_pos X with h | h; (subst h; simp at ha); exact h
  have hXA : 0 < X * A := Nat.mul_pos hX (by omega)
  obtain ⟨y, hy⟩ : ∃ y, y = a / (X * A) := ⟨_, rfl⟩
  obtain ⟨x, hx⟩ : ∃ x, x = a % (X * A) := ⟨_, rfl⟩
  have hax : a = y * (X * A) + x := by rw [hy, hx, Nat.mul_comm]; exact (Nat.div_add_mod a (X * A)).symm
  have hxl : x < X * A := by rw [hx]; exact Nat.mod_lt _ hXA
  have hyl : y < Y * D := by rw [hy]; exact Nat.div_lt_of_lt_mul ha
  have hy1 : y = D * (y / D) + y % D := (Nat.div_add_mod y D).symm
  have hx1 : x = A * (x / A) + x % A := (Nat.div_add_mod x A).symm
  have h1 : y / D < Y := Nat.div_lt_of_lt_mul (by rw [Nat.mul_comm]; exact hyl)
  have h2 : x / A < X := Nat.div_lt_of_lt_mul (by rw [Nat.mul_comm]; exact hxl)
  have h3 : y % D < D := Nat.mod_lt _ (by omega)
  have h4 : x % A < A := Nat.mod_lt _ (by omega)
  obtain ⟨n, hn⟩ : ∃ n, n = (y / D) * X + x / A := ⟨_, rfl⟩
  obtain ⟨i, hi⟩ : ∃ i, i = (y % D) * A + x % A := ⟨_, rfl⟩
  have hn1 : n / X = y / D := by rw [hn, Nat.mul_comm, Nat.mul_add_div hX, Nat.div_eq_of_lt h2, Nat.add_zero]
  have hn2 : n % X = x / A := by rw [hn, Nat.mul_comm, Nat.mul_add_mod, Nat.mod_eq_of_lt h2]
  have hi1 : i / A = y % D := by rw [hi, Nat.mul_comm, Nat.mul_add_div (by omega), Nat.div_eq_of_lt h4, Nat.add_zero]
  have hi2 : i % A = x % A := by rw [hi, Nat.mul_comm, Nat.mul_add_mod, Nat.mod_eq_of_lt h4]
  have hnl : n < X * Y := by
    rw [hn]
    have := Nat.mul_le_mul_right X (show y / D + 1 ≤ Y by omega)
    rw [Nat.add_mul, Nat.one_mul] at this
    rw [Nat.mul_comm X Y]
    omega
  have hil : i < A * D := by
    rw [hi]
    have := Nat.mul_le_mul_right A (show y % D + 1 ≤ D by omega)
    rw [Nat.add_mul, Nat.one_mul] at this
    rw [Nat.mul_comm A D]
    omega
  have hpl : plAt X K n p i = (p, a) := by
    unfold plAt
    rw [← hAe, ← hDe, hn1, hn2, hi1, hi2]
    have e1 : y / D * D + y % D = y := by rw [Nat.mul_comm]; exact hy1.symm
    have e2 : x / A * A + x % A = x := by rw [Nat.mul_comm]; exact hx1.symm
    rw [e1, e2, ← hax]
  unfold evTo
  refine List.mem_flatMap.2 ⟨n, List.mem_range.2 hnl, ?_⟩
  unfold evOf
  refine List.mem_append.2 (.inr ?_)
  unfold plTo
  refine List.mem_flatMap.2 ⟨p, List.mem_range.2 hp, ?_⟩
  unfold plOf
  exact List.mem_map.2 ⟨i, List.mem_range.2 (by rw [← hAe, ← hDe]; exact hil), by rw [hpl]⟩
theorem mem_lt {X Y : Nat} {K : Int} {R p a : Nat} (h : some (p, a) ∈ evTo X K R (X * Y)) : p < nP K ∧ a < (X * uA K p) * (Y * uD K p) := by
  have hp := mem_evTo h
  refine ⟨hp, ?_⟩
  unfold evTo at h
  obtain ⟨k, hk, h⟩ := List.mem_flatMap.1 h
  unfold evOf at h
  rcases List.mem_append.1 h with h | h
  · unfold rsOf at h
    split at h
    · simp at h
    · cases h
  · unfold plTo at h
    obtain ⟨q, hq, h⟩ := List.mem_flatMap.1 h
    unfold plOf at h
    obtain ⟨i, hi, h⟩ := List.mem_map.1 h
    have e : plAt X K k q i = (p, a) := Option.some.inj h
    have e1 : q = p := congrArg Prod.fst e
    subst e1
    have e2 : (plAt X K k q i).2 = a := congrArg Prod.snd e
    have := plAt_lt (List.mem_range.1 hk) (List.mem_range.1 hi)
    rw [e2] at this
    exact this
/-- noughts, of a shape -/
def zeroG (W H K : Int) : List (List (List Int)) := (List.range (nP K)).map fun p => List.replicate ((uW W K * uA K p) * (uH H K * uD K p)) zeros64
theorem zeroG_len (W H K : Int) : (zeroG W H K).length = nP K ∧ ∀ p, p < nP K → ((zeroG W H K).getD p []).length = (uW W K * uA K p) * (uH H K * uD K p) := by
  refine ⟨by simp [zeroG], fun p hp => ?_⟩
  rw [zeroG, List.getD_eq_getElem?_getD, List.getElem?_map, List.getElem?_range hp]
  simp
theorem fill_all {W H K R : Int} {tl : List (List (List Int))} (hR : RightT W H K R tl) (r : Nat) : fillT tl (evTo (uW W K) K r (uW W K * uH H K)) (zeroG W H K) = tl := by
  obtain ⟨h1, h2⟩ := fillT_len (tl := tl) (evTo (uW W K) K r (uW W K * uH H K)) (zeroG W H K)
  obtain ⟨h3, h4⟩ := zeroG_len W H K
  obtain ⟨_, hl, hpo⟩ := hR
  have hat := fillT_at (tl := tl) (evTo (uW W K) K r (uW W K * uH H K)) (zeroG W H K) (fun p a hm => by
    obtain ⟨g1, g2⟩ := mem_lt hm
    rw [h3, h4 p g1]
    exact ⟨g1, g2⟩)
  obtain ⟨Z, hZ⟩ : ∃ Z, Z = fillT tl (evTo (uW W K) K r (uW W K * uH H K)) (zeroG W H K) := ⟨_, rfl⟩
  rw [← hZ] at h1 h2 hat ⊢
  refine List.ext_getElem? fun p => ?_
  by_cases hp : p < nP K
  · have e1 : (Z.getD p []).length = (tl.getD p []).length := by rw [h2, h4 p hp, (hpo p hp).1]
    have e2 : Z.getD p [] = tl.getD p [] := by
      refine List.ext_getElem? fun a => ?_
      by_cases ha : a < (tl.getD p []).length
      · have := hat p a (.inr (all_turns hp (by rw [← (hpo p hp).1]; exact ha)))
        unfold blkAt at this
        generalize Z.getD p [] = u at this e1 ⊢
        generalize tl.getD p [] = v at this e1 ha ⊢
        rw [List.getD_eq_getElem?_getD, List.getD_eq_getElem?_getD, List.getElem?_eq_getElem ha, List.getElem?_eq_getElem (by omega)] at this
        rw [List.getElem?_eq_getElem ha, List.getElem?_eq_getElem (by omega)]
        exact congrArg some this
      · rw [List.getElem?_eq_none (by omega), List.getElem?_eq_none (by omega)]
    rw [List.getD_eq_getElem?_getD, List.getD_eq_getElem?_getD, List.getElem?_eq_getElem (by omega), List.getElem?_eq_getElem (by omega)] at e2
    rw [List.getElem?_eq_getElem (by omega), List.getElem?_eq_getElem (by omega)]
    exact congrArg some e2
  · rw [List.getElem?_eq_none (by omega), List.getElem?_eq_none (by omega)]
end Go.Proofs.YtdnjnbfmmgkpjaaDoor
