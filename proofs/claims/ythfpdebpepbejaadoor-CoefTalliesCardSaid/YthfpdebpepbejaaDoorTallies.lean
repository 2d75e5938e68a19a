/-
  CoefTallies: the walk.
-/
import Derived.Test.YthfpdebpepbejaaDoorSymbols
namespace Go.Proofs.YthfpdebpepbejaaDoor
open Go.RowKit

/-- a copy of an argument's numbers, however many -/
theorem wpList_copy_ints {w : World} {ops : Array Oper} {rest : List Oper} {o : Oper} {a : Act} {Q : Exit → Act → World → Prop} (hgd : o.guard = none) (s x : Operand)
    (ho : o.op = .call { callee := .builtin .append, args := #[s, x], argTypes := #[24, 24] }) (w0 : World) (hw : w = w0.alloc (.cells #[] 3))
    (hs : a.eval s = .slice (some ⟨w0.heap.size, 0, none⟩) 0 0)
    (A : Option Addr) (m c : Nat) (r : List Int) (hx : a.eval x = .slice A m c) (hr : Ia w0 A m c r) (hm : m * 8 ≤ 140737488355328)
    (h : ∀ A' c' w', Il w' A' m c' r → (∀ b off, A' = some ⟨b, off, none⟩ → w0.heap.size ≤ b) → Below w0.heap.size w0 w' → wpList Tryd.prog ops Q rest (a.put o.dst (.slice A' m c')) w') : wpList Tryd.prog ops Q (o :: rest) a w := by
  subst hw
  obtain ⟨i0, hi0, hz0, hz1, hz2⟩ := info_parts int_info
  have hown := World.ownsRow_made (base := w0.heap.size) (e := 3) (size := 1) w0 #[] 0 (Nat.le_refl _) (Nat.zero_le _) rfl
  have hr' := hr.on (on_alloc w0 (.cells #[] 3))
  cases A with
  | none =>
    obtain rfl : c = 0 := hr.nil rfl
    obtain rfl : m = 0 := by have := hr.cap; omega
    have hl : r = [] := List.eq_nil_of_length_eq_zero hr.len
    subst hl
    refine wpList_append_own_none hgd s x 24 ho w0.heap.size 3 i0 1 Tryd.underlying24 hi0 _ 0 [] hs hown hx ?_
    obtain ⟨A', c', hv, hi, hlo⟩ := il_of_own (l := []) hown
    rw [hv]
    exact h A' c' _ hi hlo (on_alloc _ _)
  | some ad =>
    have hl := hr.len
    refine wpList_append_own _ hgd s x 24 ho w0.heap.size 3 i0 (.int .i64 0) 1 8 Tryd.underlying24 hi0 hz0 hz1 hz2 rfl (by omega) _ 0 [] hs hown ad m c (cellsI r) hx (by rw [cellsI_len, hl, Nat.mul_one]) hr'.read (cellsI_one r) (by simp only [maxLen]; omega) (by omega) (by simp) ?_
    intro v' w' h1 h2 _
    rw [Nat.zero_add, List.nil_append] at h1
    obtain ⟨A', c', hv, hi, hlo⟩ := il_of_own h1
    rw [hv]
    exact h A' c' w' hi hlo ((on_alloc w0 (.cells #[] 3)).trans ((Below.refl w0.heap.size _).grown h2 (by simp) (fun j hj => by cases hj; exact Nat.le_refl _)))

/-- one less -/
def bumpD (P : List Int) (v : Nat) : List Int := P.set v (wrap64 (P.getD v 0 - 1))
theorem occ_cons (t v : Nat) (s : Sym) (r : List Sym) : occ t v (s :: r) = occ t v r + if s.1 = t ∧ s.2.1 = v then 1 else 0 := by
  unfold occ
  rw [List.countP_cons]
  by_cases h : s.1 = t ∧ s.2.1 = v
  · rw [if_pos h, if_pos (by simp [h.1, h.2])]
  · rw [if_neg h, if_neg (by simpa using h)]
theorem cntL_other (D : List Int) (t : Nat) (s : Sym) (r : List Sym) (h : s.1 ≠ t) : cntL D t (s :: r) = cntL D t r := by
  unfold cntL
  apply List.map_congr_left
  intro i _
  rw [occ_cons, if_neg (fun h' => h h'.1)]
  simp
theorem cntL_less (D : List Int) (t : Nat) (s : Sym) (r : List Sym) (h : s.1 = t) (hv : s.2.1 < 256) : bumpD (cntL D t (s :: r)) s.2.1 = cntL D t r := by
  apply List.ext_getElem?
  intro i
  have hl : (bumpD (cntL D t (s :: r)) s.2.1).length = 256 := by unfold bumpD; rw [List.length_set, cntL_len]
  by_cases hi : i < 256
  · have h1 : (bumpD (cntL D t (s :: r)) s.2.1).getD i 0 = (cntL D t r).getD i 0 := by
      rw [cntL_at _ _ _ hi]
      by_cases e : s.2.1 = i
      · unfold bumpD
        rw [← e, List.getD_eq_getElem?_getD, List.getElem?_set_self (by rw [cntL_len]; exact hv), Option.getD_some, cntL_at _ _ _ hv, occ_cons, if_pos ⟨h, rfl⟩, Int.sub_eq_add_neg, wrap_wrap]
        congr 1
        omega
      · unfold bumpD
        rw [List.getD_eq_getElem?_getD, List.getElem?_set_ne e, ← List.getD_eq_getElem?_getD, cntL_at _ _ _ hi, occ_cons, if_neg (fun h' => e h'.2)]
        simp
    rw [List.getD_eq_getElem?_getD, List.getD_eq_getElem?_getD, List.getElem?_eq_getElem (by omega), List.getElem?_eq_getElem (by rw [cntL_len]; exact hi)] at h1
    rw [List.getElem?_eq_getElem (by omega), List.getElem?_eq_getElem (by rw [cntL_len]; exact hi)]
    exact congrArg some h1
  · rw [List.getElem?_eq_none (by omega), List.getElem?_eq_none (by rw [cntL_len]; omega)]

theorem Te.far {w w' : World} {S : Nat → Prop} {A : Option Addr} {n : Nat} {L : List En} (h : Te w A n L) (k : Kept S w w') (hS : ∀ b off, A = some ⟨b, off, none⟩ → ¬ S b) : Te w' A n L :=
  ⟨h.len, fun h0 => by
    obtain ⟨b, off, e, hb, hc⟩ := h.at_ h0
    have hs := hS b off e
    exact ⟨b, off, e, Nat.lt_of_lt_of_le hb k.size, fun i e he => ⟨(k.cell (p := ⟨b, off + i * 3, none⟩) hb hs).trans (hc i e he).1, (k.cell (p := ⟨b, off + i * 3 + 1, none⟩) hb hs).trans (hc i e he).2.1, (k.cell (p := ⟨b, off + i * 3 + 2, none⟩) hb hs).trans (hc i e he).2.2⟩⟩⟩

/-- how things stand while the counts go down again: the symbols r are still counted -/
structure Down (w wr : World) (g p q : Nat) (b : List Int) (D D' : List Int) (A A' Ax Ay : Option Addr) (c c' cx cy : Nat) (r : List Sym) : Prop where
  bel : Below w.heap.size w wr
  blk : Blk wr g b
  bp : Box wr p 3 (cellsI (cntL D 0 r)).toArray
  bq : Box wr q 3 (cellsI (cntL D' 1 r)).toArray
  arg : Ia wr A 256 c D ∧ Ia wr A' 256 c' D'
  own : Il wr Ax 256 cx D ∧ Il wr Ay 256 cy D'
  tab : Tab wr
  ne : p ≠ q ∧ w.heap.size ≤ p ∧ w.heap.size ≤ q ∧ (∀ bb off, Ax = some ⟨bb, off, none⟩ → bb ≠ p ∧ bb ≠ q) ∧ (∀ bb off, Ay = some ⟨bb, off, none⟩ → bb ≠ p ∧ bb ≠ q)
  old : (∀ bb off, A = some ⟨bb, off, none⟩ → bb < w.heap.size) ∧ (∀ bb off, A' = some ⟨bb, off, none⟩ → bb < w.heap.size) ∧ 0 < w.heap.size

section
variable {w wr w' : World} {g p q : Nat} {b D D' : List Int} {A A' Ax Ay : Option Addr} {c c' cx cy : Nat} {r : List Sym}
theorem Ia.kept' {S : Nat → Prop} {A : Option Addr} {n c : Nat} {xs : List Int} (h : Ia w A n c xs) (k : Kept S w w') (hS : ∀ bb off, A = some ⟨bb, off, none⟩ → ¬ S bb) : Ia w' A n c xs :=
  ⟨h.len, h.cap, h.max, h.nil, fun h0 => by
    obtain ⟨bb, off, e, hb, hc⟩ := h.at_ h0
    exact ⟨bb, off, e, Nat.lt_of_lt_of_le hb k.size, fun i hi => (k.cell (p := ⟨bb, off + i, none⟩) hb (hS bb off e)).trans (hc i hi)⟩⟩
theorem Down.on (h : Down w wr g p q b D D' A A' Ax Ay c c' cx cy r) (k : Below wr.heap.size wr w') : Down w w' g p q b D D' A A' Ax Ay c c' cx cy r :=
  ⟨on_trans h.bel k, h.blk.on k, h.bp.on k, h.bq.on k, ⟨h.arg.1.on k, h.arg.2.on k⟩, ⟨h.own.1.on k, h.own.2.on k⟩, h.tab.on k, h.ne, h.old⟩
theorem Down.putp {s : Sym} (h : Down w wr g p q b D D' A A' Ax Ay c c' cx cy (s :: r)) (h0 : s.1 = 0) (hv : s.2.1 < 256) :
    Down w (wr.setCell ⟨p, s.2.1, none⟩ (.int .i64 (wrap64 ((cntL D 0 (s :: r)).getD s.2.1 0 - 1)))) g p q b D D' A A' Ax Ay c c' cx cy r := by
  obtain ⟨n1, n2, n3, n4, n5⟩ := h.ne
  have kk : Kept (fun i => i = p) wr (wr.setCell ⟨p, s.2.1, none⟩ (.int .i64 (wrap64 ((cntL D 0 (s :: r)).getD s.2.1 0 - 1)))) := (Kept.refl (fun i => i = p) wr).setCell (p := ⟨p, s.2.1, none⟩) (fun _ => rfl) _
  have hgp : g ≠ p := h.blk.box.apart h.bp (by decide)
  have hb := h.bp.put s.2.1 (.int .i64 (wrap64 ((cntL D 0 (s :: r)).getD s.2.1 0 - 1)))
  rw [put_cellsI] at hb
  have e1 := cntL_less D 0 s r h0 hv
  unfold bumpD at e1
  rw [e1] at hb
  have hbq := kk.box h.bq (fun e => n1 e.symm)
  rw [cntL_other D' 1 s r (by omega)] at hbq
  exact ⟨h.bel.trans (kk.below h.bel.size (fun i hi e => by omega)), h.blk.kept kk hgp, hb, hbq,
    ⟨h.arg.1.kept' kk (fun bb off e e2 => by have := h.old.1 bb off e; omega), h.arg.2.kept' kk (fun bb off e e2 => by have := h.old.2.1 bb off e; omega)⟩,
    ⟨h.own.1.kept kk (fun bb off e e2 => (n4 bb off e).1 e2), h.own.2.kept kk (fun bb off e e2 => (n5 bb off e).1 e2)⟩, h.tab.kept kk (fun e => by have := h.old.2.2; omega), h.ne, h.old⟩
theorem Down.putq {s : Sym} (h : Down w wr g p q b D D' A A' Ax Ay c c' cx cy (s :: r)) (h0 : s.1 = 1) (hv : s.2.1 < 256) :
    Down w (wr.setCell ⟨q, s.2.1, none⟩ (.int .i64 (wrap64 ((cntL D' 1 (s :: r)).getD s.2.1 0 - 1)))) g p q b D D' A A' Ax Ay c c' cx cy r := by
  obtain ⟨n1, n2, n3, n4, n5⟩ := h.ne
  have kk : Kept (fun i => i = q) wr (wr.setCell ⟨q, s.2.1, none⟩ (.int .i64 (wrap64 ((cntL D' 1 (s :: r)).getD s.2.1 0 - 1)))) := (Kept.refl (fun i => i = q) wr).setCell (p := ⟨q, s.2.1, none⟩) (fun _ => rfl) _
  have hgp : g ≠ q := h.blk.box.apart h.bq (by decide)
  have hb := h.bq.put s.2.1 (.int .i64 (wrap64 ((cntL D' 1 (s :: r)).getD s.2.1 0 - 1)))
  rw [put_cellsI] at hb
  have e1 := cntL_less D' 1 s r h0 hv
  unfold bumpD at e1
  rw [e1] at hb
  have hbp := kk.box h.bp n1
  rw [cntL_other D 0 s r (by omega)] at hbp
  exact ⟨h.bel.trans (kk.below h.bel.size (fun i hi e => by omega)), h.blk.kept kk hgp, hbp, hb,
    ⟨h.arg.1.kept' kk (fun bb off e e2 => by have := h.old.1 bb off e; omega), h.arg.2.kept' kk (fun bb off e e2 => by have := h.old.2.1 bb off e; omega)⟩,
    ⟨h.own.1.kept kk (fun bb off e e2 => (n4 bb off e).2 e2), h.own.2.kept kk (fun bb off e e2 => (n5 bb off e).2 e2)⟩, h.tab.kept kk (fun e => by have := h.old.2.2; omega), h.ne, h.old⟩
end

/-- the law's copies -/
structure Twin (w wr : World) (g : Nat) (b D D' : List Int) (Ax Ay : Option Addr) (n n' cx cy : Nat) : Prop where
  bel : Below w.heap.size w wr
  blk : Blk wr g b
  x : Il wr Ax n cx D
  y : Il wr Ay n' cy D'
  tab : Tab wr

section
variable (w : World) (prev : Int) (b D : List Int) (A : Option Addr) (n c : Nat) (D' : List Int) (A' : Option Addr) (n' c' : Nat)
set_option maxRecDepth 10000 in
set_option maxHeartbeats 3200000 in
theorem tallies_calls (hT : Tab w) (hb : b.length = 64) (hD : Ia w A n c D) (hi : ∀ i, isInt (D.getD i 0)) (hz : n * 8 ≤ 140737488355328) (hD' : Ia w A' n' c' D') (hi' : ∀ i, isInt (D'.getD i 0)) (hz' : n' * 8 ≤ 140737488355328) :
    Calls Tryd.prog 4 #[.int .i64 prev, blkV b, .slice A n c, .slice A' n' c'] w (Law w) := by
  have hvc : blkV b = .agg (cellsI b).toArray := rfl
  rw [hvc]
  obtain ⟨w1, hw1⟩ : ∃ w1, w1 = w.alloc (.cells (cellsI b).toArray 23) := ⟨_, rfl⟩
  have bel : Below w.heap.size w w1 := by rw [hw1]; exact on_alloc _ _
  have hB : Blk w1 w.heap.size b := ⟨by rw [hw1]; exact Box.made _ _ _, hb⟩
  have HB := Lib.hid (And.intro hB (And.intro bel (And.intro hw1 (And.intro (hT.on bel) (And.intro (hD.on bel) (hD'.on bel))))))
  have HI := Lib.hid (And.intro hb (And.intro hi (And.intro hi' (And.intro hD (And.intro hD' (And.intro hz hz'))))))
  have HT := Lib.hid hT.zero
  have HS1 := Lib.hid (show w1.heap.size = w.heap.size + 1 by rw [hw1]; simp)
  have hn63 : n ≤ 9223372036854775807 := by omega
  have hn63' : n' ≤ 9223372036854775807 := by omega
  clear hB bel hw1 hb hvc hT hD hD' hi hi' hz hz'
  go_enter Tryd.func4, Tryd.ntmps4
  go_wp2_with (first
    | (at_builtin; refine wpList_copy_ints (o := ⟨some 19, _, _, _, _, _⟩) rfl (.tmp 17) (.tmp 18) rfl w1 (by rw [HB.out.2.2.1]) (by rw [HS1.out]; rfl) A n c D rfl HB.out.2.2.2.2.1 HI.out.2.2.2.2.2.1 ?_; intro Ax cx w3 hx3 hlo3 b3; have H3 := Lib.hid (And.intro hx3 (And.intro hlo3 b3)); clear hx3 hlo3 b3)
    | (at_builtin; refine wpList_copy_ints (o := ⟨some 22, _, _, _, _, _⟩) rfl (.tmp 20) (.tmp 21) rfl w3 rfl rfl A' n' c' D' rfl (HB.out.2.2.2.2.2.on H3.out.2.2) HI.out.2.2.2.2.2.2 ?_; intro Ay cy w5 hx5 hlo5 b5; have H5 := Lib.hid (And.intro (Twin.mk (w := w) (on_trans (on_trans HB.out.2.1 H3.out.2.2) b5) ((HB.out.1.on H3.out.2.2).on b5) (H3.out.1.on b5) hx5 ((HB.out.2.2.2.1.on H3.out.2.2).on b5)) (And.intro hlo5 b5)); clear hx5 hlo5 b5)
    | (with_reducible refine wpList_load_to (op := ⟨some 27, _, _, _, _, _⟩) rfl 23 (.tmp 5) rfl (.pointer (some ⟨w.heap.size, 0, none⟩)) rfl (blkV b) H5.out.1.blk.load ?_)
    | fail)
  by_cases hc1 : n ≠ 256 ∨ n' ≠ 256
  · refine (tally_arg w5 Ax Ay n cx n' cy prev b hc1).mono ?_
    rintro e w6 ⟨rfl, b6⟩
    have H6 := Lib.hid (And.intro (H5.out.1.tab.on b6) (on_trans H5.out.1.bel b6))
    clear b6
    by_cases h1 : n = 256
    · have h2 : ¬ (n' : Int) = 256 := by omega
      subst h1
      go_wp2_with fail
      refine (awake7_any w6 H6.out.1).mono ?_
      rintro e w7 ⟨rfl, b7⟩
      have H7 := Lib.hid (on_trans H6.out.2 b7)
      clear b7
      go_wp2
      go_ret
      exact ⟨rfl, H7.out⟩
    · have h2 : ¬ (n : Int) = 256 := by omega
      go_wp2_with fail
      refine (awake7_any w6 H6.out.1).mono ?_
      rintro e w7 ⟨rfl, b7⟩
      have H7 := Lib.hid (on_trans H6.out.2 b7)
      clear b7
      go_wp2
      go_ret
      exact ⟨rfl, H7.out⟩
  obtain ⟨rfl, rfl⟩ : n = 256 ∧ n' = 256 := by omega
  clear hc1
  by_cases hc2 : In prev ∧ RightB b
  · obtain ⟨hin, hr⟩ := hc2
    have hd1 : decide (In prev) = true := by simpa using hin
    have hd2 : decide (RightB b) = true := by simpa using hr
    have HD := Lib.hid (And.intro hd1 (And.intro hd2 (And.intro hin hr)))
    clear hd1 hd2 hin hr
    refine (tally_done w5 Ax Ay 256 cx 256 cy prev b D D' H5.out.1.tab rfl rfl HI.out.1 HD.out.2.2.1 HD.out.2.2.2 H5.out.1.x.ia H5.out.1.y.ia HI.out.2.1 HI.out.2.2.1).mono ?_
    rintro e w6 ⟨p, q, rfl, hbp, hbq, hpq, hlp, hlq, b6⟩
    have hsz5 := H5.out.1.bel.size
    have hdown : Down w w6 w.heap.size p q b D D' A A' Ax Ay c c' cx cy (allS prev b) := by
      refine ⟨on_trans H5.out.1.bel b6, H5.out.1.blk.on b6, hbp, hbq, ⟨HI.out.2.2.2.1.on (on_trans H5.out.1.bel b6), HI.out.2.2.2.2.1.on (on_trans H5.out.1.bel b6)⟩, ⟨H5.out.1.x.on b6, H5.out.1.y.on b6⟩, H5.out.1.tab.on b6, ⟨hpq, by omega, by omega, fun bb off e => ?_, fun bb off e => ?_⟩, fun bb off e => ?_, fun bb off e => ?_, HT.out⟩
      · obtain ⟨cs, fr, hh⟩ := H5.out.1.x.typ bb off e
        have := (Array.getElem?_eq_some_iff.1 hh).1
        omega
      · obtain ⟨cs, fr, hh⟩ := H5.out.1.y.typ bb off e
        have := (Array.getElem?_eq_some_iff.1 hh).1
        omega
      · obtain ⟨b', off', e', h', _⟩ := HI.out.2.2.2.1.at_ (by omega)
        rw [e] at e'
        cases e'
        exact h'
      · obtain ⟨b', off', e', h', _⟩ := HI.out.2.2.2.2.1.at_ (by omega)
        rw [e] at e'
        cases e'
        exact h'
    have H6 := Lib.hid hdown
    clear hbp hbq hpq hlp hlq b6 hsz5 hdown
    go_wp2_with fail
    refine (refIn_any w6 prev).mono ?_
    rintro e w7 ⟨rfl, rfl⟩
    rw [HD.out.1]
    go_wp2_with (first
      | ((with_reducible refine wpList_load_when (op := ⟨some 59, _, _, _, _, _⟩) ?hw 23 (.tmp 5) rfl (.pointer (some ⟨w.heap.size, 0, none⟩)) rfl (blkV b) H6.out.blk.load ?_)
         case hw => rfl)
      | fail)
    refine (refRight_any w6 b HI.out.1).mono ?_
    rintro e w7 ⟨rfl, b7⟩
    rw [HD.out.2.1]
    have H7 := Lib.hid (H6.out.on b7)
    clear b7
    go_wp2_with (first
      | (with_reducible refine wpList_load_to (op := ⟨some 91, _, _, _, _, _⟩) rfl 23 (.tmp 5) rfl (.pointer (some ⟨w.heap.size, 0, none⟩)) rfl (blkV b) H7.out.blk.load ?_)
      | fail)
    refine (symbols_any w7 prev b HI.out.1 HD.out.2.2.2 HD.out.2.2.1).mono ?_
    rintro e w8 ⟨As, ns, cs, rfl, hTe, hns, hlo, b8⟩
    have hns64 : ns ≤ 64 := by have := allS_len prev b; omega
    have hpq8 : p < w7.heap.size ∧ q < w7.heap.size := ⟨H7.out.bp.lt, H7.out.bq.lt⟩
    have H8 := Lib.hid (And.intro (H7.out.on b8) (And.intro hTe (And.intro hns (fun bb off e => show ¬ (bb = p ∨ bb = q) by have := hlo bb off e; omega))))
    clear hTe hns hlo b8 hpq8
    go_wp2_with fail
    go_loopw [94] (fun i wr => ∃ k : Nat, k ≤ ns ∧ i = .int .i64 (k : Int) ∧ Down w wr w.heap.size p q b D D' A A' Ax Ay c c' cx cy ((allS prev b).drop k) ∧ Te wr As ns ((allS prev b).map syE)) (fun i _ => ns - (intOf i).toNat)
    case atStart => exact ⟨0, by omega, rfl, H8.out.1, H8.out.2.1⟩
    case round =>
      obtain ⟨k, hk, rfl, hP, hTe⟩ := hrel
      have HR := Lib.hid (And.intro hP hTe)
      clear hP hTe
      by_cases hlt : k < ns
      · have hka : k < (allS prev b).length := by have := H8.out.2.2.1; omega
        obtain ⟨s, hs⟩ : ∃ s, s = (allS prev b)[k]'hka := ⟨_, rfl⟩
        have hdrop : (allS prev b).drop k = s :: (allS prev b).drop (k + 1) := by rw [List.drop_eq_getElem_cons hka, hs]
        have hsm : s ∈ allS prev b := by rw [hs]; exact List.getElem_mem hka
        have hsok := allS_ok HD.out.2.2.2 HD.out.2.2.1 s hsm
        have hmap : ((allS prev b).map syE)[k]? = some (syE s) := by rw [List.getElem?_map, List.getElem?_eq_getElem hka, hs]; rfl
        have htab : s.1 = if k = 0 then 0 else 1 := by
          have h1 := (List.getElem?_eq_getElem hka).trans (congrArg some hs.symm)
          unfold allS at h1
          cases k with
          | zero => simp at h1; rw [← h1]; rfl
          | succ k =>
            rw [List.getElem?_cons_succ] at h1
            rw [if_neg (by omega)]
            exact (symsF_ok HD.out.2.2.2 63 1 0 (by omega) s (List.mem_of_getElem? h1)).2
        obtain ⟨bb, off, rfl, _, hcell⟩ := HR.out.2.at_ (by omega)
        obtain ⟨s0, s1, s2⟩ := hcell k _ hmap
        obtain ⟨v, hv0⟩ : ∃ v, v = s.2.1 := ⟨_, rfl⟩
        obtain ⟨y1, hy1⟩ : ∃ y1, y1 = numB s.2.2 := ⟨_, rfl⟩
        obtain ⟨y2, hy2⟩ : ∃ y2, y2 = sz s.2.2 := ⟨_, rfl⟩
        have hv := hsok.val
        rw [← hv0] at hv
        unfold syE at s0 s1 s2
        dsimp only at s0 s1 s2
        rw [← hv0] at s0
        rw [← hy1] at s1
        rw [← hy2] at s2
        have hvi : (v : Int) < 256 := by omega
        have hz38 : ∀ w, (zeroValue 38).run Tryd.prog w = .ok (.agg #[.int .i64 0, .int .i64 0, .int .i64 0]) w := fun w => by kernel_rfl
        by_cases hk0 : k = 0
        · rw [if_pos hk0] at htab
          have HS := Lib.hid (And.intro hdrop (And.intro (rfl : (allS prev b).drop (k + 1) = (allS prev b).drop (k + 1)) (And.intro htab (And.intro hv0.symm True.intro))))
          obtain ⟨z, hz⟩ : ∃ z, z = (cntL D 0 ((allS prev b).drop k)).getD v 0 := ⟨_, rfl⟩
          subst hk0
          rw [Nat.zero_mul, Nat.add_zero] at s0 s1 s2
          clear hdrop htab hv0 hs hsm hsok hmap hcell hy1 hy2 hka
          have c5 : (wr.alloc (.cells #[.int .i64 (v : Int), .int .i64 (y1 : Int), .int .i64 (y2 : Int)] 38)).cell? ⟨p, v, none⟩ = some (.int .i64 z) := by
            rw [hz, (HR.out.1.on (on_alloc _ _)).bp.cell v, List.getElem?_toArray, cellsI_get _ _ (by rw [cntL_len]; exact hv)]
          have f5 : (wr.alloc (.cells #[.int .i64 (v : Int), .int .i64 (y1 : Int), .int .i64 (y2 : Int)] 38)).frozen? ⟨p, v, none⟩ = false := (HR.out.1.on (on_alloc _ _)).bp.free v
          have HZ := Lib.hid hz
          clear hz
          go_wp2_with fail
          go_roundw
          case rel =>
            have hd := HR.out.1.on (on_alloc wr (.cells #[.int .i64 (v : Int), .int .i64 (y1 : Int), .int .i64 (y2 : Int)] 38))
            have ht := HR.out.2.on (on_alloc wr (.cells #[.int .i64 (v : Int), .int .i64 (y1 : Int), .int .i64 (y2 : Int)] 38))
            rw [HS.out.1] at hd
            have hp := hd.putp (s := s) HS.out.2.2.1 (by rw [HS.out.2.2.2.1]; exact hv)
            rw [HS.out.2.2.2.1, ← HS.out.1, ← HZ.out] at hp
            refine ⟨0 + 1, by omega, by go_num, ?_, ?_⟩
            · rw [HS.out.2.1]
              exact hp
            · exact ht.far ((Kept.refl (fun i => i = p) _).setCell (p := ⟨p, v, none⟩) (fun _ => rfl) _) (fun bb off e e2 => H8.out.2.2.2 bb off e (.inl e2))
          case measure => simp [intOf]; omega
        · rw [if_neg hk0] at htab
          have HS := Lib.hid (And.intro hdrop (And.intro (rfl : (allS prev b).drop (k + 1) = (allS prev b).drop (k + 1)) (And.intro htab (And.intro hv0.symm True.intro))))
          obtain ⟨z, hz⟩ : ∃ z, z = (cntL D' 1 ((allS prev b).drop k)).getD v 0 := ⟨_, rfl⟩
          have hk0i : ¬ (k : Int) = 0 := by omega
          clear hdrop htab hv0 hs hsm hsok hmap hcell hy1 hy2 hka
          have c5 : (wr.alloc (.cells #[.int .i64 (v : Int), .int .i64 (y1 : Int), .int .i64 (y2 : Int)] 38)).cell? ⟨q, v, none⟩ = some (.int .i64 z) := by
            rw [hz, (HR.out.1.on (on_alloc _ _)).bq.cell v, List.getElem?_toArray, cellsI_get _ _ (by rw [cntL_len]; exact hv)]
          have f5 : (wr.alloc (.cells #[.int .i64 (v : Int), .int .i64 (y1 : Int), .int .i64 (y2 : Int)] 38)).frozen? ⟨q, v, none⟩ = false := (HR.out.1.on (on_alloc _ _)).bq.free v
          have HZ := Lib.hid hz
          clear hz
          go_wp2_with fail
          go_roundw
          case rel =>
            have hd := HR.out.1.on (on_alloc wr (.cells #[.int .i64 (v : Int), .int .i64 (y1 : Int), .int .i64 (y2 : Int)] 38))
            have ht := HR.out.2.on (on_alloc wr (.cells #[.int .i64 (v : Int), .int .i64 (y1 : Int), .int .i64 (y2 : Int)] 38))
            rw [HS.out.1] at hd
            have hp := hd.putq (s := s) HS.out.2.2.1 (by rw [HS.out.2.2.2.1]; exact hv)
            rw [HS.out.2.2.2.1, ← HS.out.1, ← HZ.out] at hp
            refine ⟨k + 1, by omega, by go_num, ?_, ?_⟩
            · rw [HS.out.2.1]
              exact hp
            · exact ht.far ((Kept.refl (fun i => i = q) _).setCell (p := ⟨q, v, none⟩) (fun _ => rfl) _) (fun bb off e e2 => H8.out.2.2.2 bb off e (.inr e2))
          case measure => simp [intOf]; omega
      · have hkn : k = ns := by omega
        have hdn : (allS prev b).drop k = [] := by rw [hkn, H8.out.2.2.1]; exact List.drop_length
        have hP := HR.out.1
        rw [hdn] at hP
        have HP := Lib.hid hP
        clear hP hdn hkn
        go_wp2_with fail
        go_loopw [116] (fun i w9 => ∃ k : Nat, k ≤ 256 ∧ i = .int .i64 (k : Int) ∧ Down w w9 w.heap.size p q b D D' A A' Ax Ay c c' cx cy []) (fun i _ => 256 - (intOf i).toNat)
        case atStart => exact ⟨0, by omega, rfl, HP.out⟩
        case round =>
          obtain ⟨j, hj, rfl, hQ⟩ := hrel
          by_cases hjl : j < 256
          · have cp := hQ.bp.cell j
            have cq := hQ.bq.cell j
            rw [List.getElem?_toArray, cellsI_get _ _ (by rw [cntL_len]; exact hjl), cntL_nil 0 HI.out.2.2.2.1.len HI.out.2.1] at cp
            rw [List.getElem?_toArray, cellsI_get _ _ (by rw [cntL_len]; exact hjl), cntL_nil 1 HI.out.2.2.2.2.1.len HI.out.2.2.1] at cq
            obtain ⟨ba, oa, hA, _, ca⟩ := hQ.arg.1.at_ (by omega)
            obtain ⟨ba', oa', hA', _, ca'⟩ := hQ.arg.2.at_ (by omega)
            obtain ⟨bx, ox, hAx, _, cx1⟩ := hQ.own.1.at_ (by omega)
            obtain ⟨by', oy, hAy, _, cy1⟩ := hQ.own.2.at_ (by omega)
            have da := ca j hjl
            have da' := ca' j hjl
            have dx := cx1 j hjl
            have dy := cy1 j hjl
            obtain ⟨u, hu⟩ : ∃ u, u = D.getD j 0 := ⟨_, rfl⟩
            obtain ⟨u', hu'⟩ : ∃ u', u' = D'.getD j 0 := ⟨_, rfl⟩
            rw [← hu] at cp da dx
            rw [← hu'] at cq da' dy
            have hji : (j : Int) < 256 := by omega
            have HQ := Lib.hid hQ
            subst hA hA' hAx hAy
            clear ca ca' cx1 cy1 hu hu' hQ
            go_wp2_with fail
            go_quiet (fail)
            go_wp2
            exact ⟨⟨j + 1, by omega, by go_num, HQ.out.on (below_drewN_refl _ _)⟩, by simp [intOf]; omega⟩
          · have hj256 : j = 256 := by omega
            have HQ := Lib.hid hQ
            clear hQ
            subst hj256
            go_wp2_with fail
            refine (awake7_any wr HQ.out.tab).mono ?_
            rintro e w10 ⟨rfl, b10⟩
            have H10 := Lib.hid (on_trans HQ.out.bel b10)
            clear b10
            go_wp2
            go_ret
            exact ⟨rfl, H10.out⟩
  · have hd2 : ¬ (In prev ∧ RightB b) := hc2
    refine (tally_range w5 Ax Ay 256 cx 256 cy prev b rfl rfl HI.out.1 hc2).mono ?_
    rintro e w6 ⟨rfl, b6⟩
    have H6 := Lib.hid (And.intro (H5.out.1.tab.on b6) (And.intro (on_trans H5.out.1.bel b6) (H5.out.1.blk.on b6)))
    clear b6
    by_cases h1 : In prev
    · have hd1 : decide (In prev) = true := by simpa using h1
      have hd3 : decide (RightB b) = false := decide_eq_false_iff_not.2 (fun h => hc2 ⟨h1, h⟩)
      have HD := Lib.hid (And.intro hd1 hd3)
      clear hd1 hd3 hd2 hc2 h1
      go_wp2_with fail
      refine (refIn_any w6 prev).mono ?_
      rintro e w7 ⟨rfl, rfl⟩
      rw [HD.out.1]
      go_wp2_with (first
        | ((with_reducible refine wpList_load_when (op := ⟨some 59, _, _, _, _, _⟩) ?hw 23 (.tmp 5) rfl (.pointer (some ⟨w.heap.size, 0, none⟩)) rfl (blkV b) H6.out.2.2.load ?_)
           case hw => rfl)
        | fail)
      refine (refRight_any w6 b HI.out.1).mono ?_
      rintro e w7 ⟨rfl, b7⟩
      rw [HD.out.2]
      have H7 := Lib.hid (And.intro (H6.out.1.on b7) (on_trans H6.out.2.1 b7))
      clear b7
      go_wp2_with fail
      refine (awake7_any w7 H7.out.1).mono ?_
      rintro e w8 ⟨rfl, b8⟩
      have H8 := Lib.hid (on_trans H7.out.2 b8)
      clear b8
      go_wp2
      go_ret
      exact ⟨rfl, H8.out⟩
    · have hd1 : decide (In prev) = false := by simpa using h1
      have HD := Lib.hid hd1
      clear hd1 hd2 hc2 h1
      go_wp2_with fail
      refine (refIn_any w6 prev).mono ?_
      rintro e w7 ⟨rfl, rfl⟩
      rw [HD.out]
      go_wp2_with fail
      refine (awake7_any w6 H6.out.1).mono ?_
      rintro e w8 ⟨rfl, b8⟩
      have H8 := Lib.hid (on_trans H6.out.2.1 b8)
      clear b8
      go_wp2
      go_ret
      exact ⟨rfl, H8.out⟩
end
end Go.Proofs.YthfpdebpepbejaaDoor
