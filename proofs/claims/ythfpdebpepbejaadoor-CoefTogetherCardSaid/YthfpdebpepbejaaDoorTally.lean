/-
  Tally: the contracts of copied, of the closure that counts, and of Tally itself. Tally: the contract of the closure that counts. Tally: its contract.
-/
import Derived.Test.YthfpdebpepbejaaDoorEach
import Derived.Test.YthfpdebpepbejaaDoorOrder
namespace Go.Proofs.YthfpdebpepbejaaDoor
open Go.RowKit

theorem ia_copy {w : World} {A : Option Addr} {n c : Nat} {l : List Int} (h : Ia w A n c l) (h0 : 0 < (cellsI l).length) : ∃ ad, A = some ad ∧ ∀ j v, (cellsI l)[j]? = some v → w.cell? (ad.add j) = some v := by
  obtain ⟨b, off, e, _⟩ := h.at_ (by have := h.len; rw [cellsI_len] at h0; omega)
  subst e
  exact ⟨_, rfl, h.read⟩

/-- numbers of one's own, just so many -/
def CopiedC (w : World) (n : Nat) (xs : List Int) (e : Ending) (w' : World) : Prop :=
  e = .returned (.slice (some ⟨w.heap.size, 0, none⟩) n n) ∧ Box w' w.heap.size 3 (cellsI xs).toArray ∧ Below w.heap.size w w'

set_option maxRecDepth 20000 in
set_option maxHeartbeats 1600000 in
theorem copiedC_any (w : World) (A : Option Addr) (n c : Nat) (xs : List Int) (h : Ia w A n c xs) (hn : n ≤ 300) :
    Calls Tryd.prog 33 #[.slice A n c] w (CopiedC w n xs) := by
  have hmk := run_make_row' (P := Tryd.prog) 24 3 (.int .i64 0) 8 Tryd.underlying24 int_info rfl .i64 .i64 n (by omega) (by omega)
  obtain ⟨M, hM⟩ : ∃ M, M = madeCells #[.int .i64 0] n := ⟨_, rfl⟩
  rw [← hM] at hmk
  have hM2 : M = (cellsI (List.replicate n 0)).toArray := by
    apply Array.toList_inj.1
    rw [hM, toList_madeCells_one]
    simp [cellsI]
  rw [hM2] at hmk
  clear hM hM2
  obtain ⟨Z, hZ⟩ : ∃ Z, Z = List.replicate n (0 : Int) := ⟨_, rfl⟩
  rw [← hZ] at hmk
  have hZl : Z.length = n := by rw [hZ, List.length_replicate]
  have HF := Lib.hid (And.intro (h.alloc (.cells (cellsI Z).toArray 3)) (And.intro (Box.made w 3 (cellsI Z).toArray) hZl))
  clear hZ hZl h
  go_enter Tryd.func33, Tryd.ntmps33
  go_wp2_with (first
    | ((with_reducible refine wpList_copy_splice (o := ⟨some 9, _, _, _, _, _⟩) rfl (.tmp 7) (.tmp 8) 24 24 rfl 3 Tryd.underlying24 int_size (some ⟨w.heap.size, 0, none⟩) A n n n c rfl rfl w.heap.size 0 (cellsI Z) 3 ?hg (cellsI xs) ?hn ?hpos ?hfit (cellsI_one _) w.heap.size ?w0 ?hb ?hgg ?_)
       case hb => exact on_alloc _ _
       case hg => exact HF.out.2.1
       case hn => have := HF.out.1.len; rw [cellsI_len]; simp [this]
       case hpos => exact fun h0 => ⟨rfl, ia_copy HF.out.1 h0⟩
       case hfit => have := HF.out.1.len; have := HF.out.2.2; rw [cellsI_len, cellsI_len]; omega
       case hgg => exact Nat.le_refl _
       intro w3 hb3 hbel
       have H3 := Lib.hid (And.intro hb3 hbel)
       clear hb3 hbel)
    | fail)
  go_ret
  obtain ⟨hb3, hbel⟩ := H3.out
  have hb := hb3.out
  have hl := HF.out.1.len
  rw [splice_all _ _ (by rw [cellsI_len, cellsI_len, hl, HF.out.2.2]; exact Nat.le_refl _)] at hb
  exact ⟨rfl, hb, hbel⟩
end Go.Proofs.YthfpdebpepbejaaDoor

namespace Go.Proofs.YthfpdebpepbejaaDoor
open Go.RowKit

/-- both counts, and the array that the closure has -/
structure Cnts (w : World) (cb p q : Nat) (P Q : List Int) : Prop where
  box : Box w cb 71 #[.slice (some ⟨p, 0, none⟩) 256 256, .slice (some ⟨q, 0, none⟩) 256 256]
  bp : Box w p 3 (cellsI P).toArray
  bq : Box w q 3 (cellsI Q).toArray
  lp : P.length = 256
  lq : Q.length = 256
  ne : p ≠ q
/-- one more -/
def bump (P : List Int) (v : Nat) : List Int := P.set v (wrap64 (P.getD v 0 + 1))
section
variable {w w' : World} {cb p q : Nat} {P Q : List Int}
theorem Cnts.on (h : Cnts w cb p q P Q) (k : Below w.heap.size w w') : Cnts w' cb p q P Q := ⟨h.box.on k, h.bp.on k, h.bq.on k, h.lp, h.lq, h.ne⟩
theorem Cnts.drewN (h : Cnts w cb p q P Q) (n : Nat) : Cnts (w.drewN n) cb p q P Q := ⟨h.box.drewN n, h.bp.drewN n, h.bq.drewN n, h.lp, h.lq, h.ne⟩
theorem Cnts.putp (h : Cnts w cb p q P Q) (v : Nat) : Cnts (w.setCell ⟨p, v, none⟩ (.int .i64 (wrap64 (P.getD v 0 + 1)))) cb p q (bump P v) Q := by
  have hne : cb ≠ p := h.box.apart h.bp (by decide)
  have hb := h.bp.put v (.int .i64 (wrap64 (P.getD v 0 + 1)))
  rw [put_cellsI] at hb
  exact ⟨h.box.beside (p := ⟨p, v, none⟩) hne _, hb, h.bq.beside (p := ⟨p, v, none⟩) h.ne.symm _, by unfold bump; rw [List.length_set, h.lp], h.lq, h.ne⟩
theorem Cnts.putq (h : Cnts w cb p q P Q) (v : Nat) : Cnts (w.setCell ⟨q, v, none⟩ (.int .i64 (wrap64 (Q.getD v 0 + 1)))) cb p q P (bump Q v) := by
  have hne : cb ≠ q := h.box.apart h.bq (by decide)
  have hb := h.bq.put v (.int .i64 (wrap64 (Q.getD v 0 + 1)))
  rw [put_cellsI] at hb
  exact ⟨h.box.beside (p := ⟨q, v, none⟩) hne _, h.bp.beside (p := ⟨q, v, none⟩) h.ne _, hb, h.lp, by unfold bump; rw [List.length_set, h.lq], h.ne⟩
end

/-- what the closure leaves -/
def Counted1 (w : World) (cb p q : Nat) (P Q : List Int) (s : Sym) (e : Ending) (w' : World) : Prop :=
  e = .returned (.tuple #[]) ∧ Cnts w' cb p q (if s.1 = 0 then bump P s.2.1 else P) (if s.1 = 0 then Q else bump Q s.2.1) ∧ Kept (fun i => i = p ∨ i = q) w w'

set_option maxRecDepth 10000 in
set_option maxHeartbeats 1600000 in
theorem tally1_any (w : World) (cb p q : Nat) (P Q : List Int) (s : Sym) (hs : SymOk s) (h : Cnts w cb p q P Q) :
    Calls Tryd.prog 35 #[symV s, .pointer (some ⟨cb, 0, none⟩)] w (Counted1 w cb p q P Q s) := by
  obtain ⟨t, v, x⟩ := s
  obtain ⟨ht, hv, -⟩ := hs
  dsimp only at ht hv
  unfold symV Counted1
  dsimp only
  obtain ⟨T, hT⟩ : ∃ T : Int, T = (t : Int) := ⟨_, rfl⟩
  rw [← hT]
  obtain ⟨w1, hw1⟩ : ∃ w1, w1 = w.alloc (.cells #[.int .i64 T, .int .i64 (v : Int), .int .i64 x] 74) := ⟨_, rfl⟩
  have bel : Below w.heap.size w w1 := by rw [hw1]; exact on_alloc _ _
  have h1 := h.on bel
  have hb1 : Box w1 w.heap.size 74 #[.int .i64 T, .int .i64 (v : Int), .int .i64 x] := by rw [hw1]; exact Box.made _ _ _
  have c0 : w1.cell? ⟨w.heap.size, 0, none⟩ = some (.int .i64 T) := hb1.cell 0
  have c1 : w1.cell? ⟨w.heap.size, 1, none⟩ = some (.int .i64 (v : Int)) := hb1.cell 1
  have c3 : w1.cell? ⟨cb, 0, none⟩ = some (.slice (some ⟨p, 0, none⟩) 256 256) := h1.box.cell 0
  have c4 : w1.cell? ⟨cb, 1, none⟩ = some (.slice (some ⟨q, 0, none⟩) 256 256) := h1.box.cell 1
  have hvi : (v : Int) < 256 := by omega
  have ht2 : t = 0 ∨ t = 1 := by omega
  rcases ht2 with rfl | rfl
  · obtain rfl : T = 0 := hT
    obtain ⟨z, hz⟩ : ∃ z, z = P.getD v 0 := ⟨_, rfl⟩
    have c5 : w1.cell? ⟨p, v, none⟩ = some (.int .i64 z) := by
      rw [hz, h1.bp.cell v, List.getElem?_toArray, cellsI_get _ _ (by rw [h1.lp]; exact hv)]
    have f5 : w1.frozen? ⟨p, v, none⟩ = false := h1.bp.free v
    have HH := Lib.hid (And.intro h1 (And.intro bel (And.intro hw1 hz)))
    clear h1 bel hz hw1 h hb1
    go_enter Tryd.func35, Tryd.ntmps35
    go_wp2_with fail
    rw [← HH.out.2.2.1]
    go_region
    all_goals
      (go_wp2
       go_end0
       refine ⟨rfl, ?_, ?_⟩
       · have hput := HH.out.1.putp v
         rw [← HH.out.2.2.2] at hput
         exact hput.on (on_drew _)
       · exact ((Kept.of_below HH.out.2.1 _).setCell (p := ⟨p, v, none⟩) (fun _ => .inl rfl) _).drew)
  · obtain rfl : T = 1 := hT
    obtain ⟨z, hz⟩ : ∃ z, z = Q.getD v 0 := ⟨_, rfl⟩
    have c5 : w1.cell? ⟨q, v, none⟩ = some (.int .i64 z) := by
      rw [hz, h1.bq.cell v, List.getElem?_toArray, cellsI_get _ _ (by rw [h1.lq]; exact hv)]
    have f5 : w1.frozen? ⟨q, v, none⟩ = false := h1.bq.free v
    have HH := Lib.hid (And.intro h1 (And.intro bel (And.intro hw1 hz)))
    clear h1 bel hz hw1 h hb1
    go_enter Tryd.func35, Tryd.ntmps35
    go_wp2_with fail
    rw [← HH.out.2.2.1]
    go_region
    all_goals
      (go_wp2
       go_end0
       refine ⟨rfl, ?_, ?_⟩
       · have hput := HH.out.1.putq v
         rw [← HH.out.2.2.2] at hput
         exact hput.on (on_drew _)
       · exact ((Kept.of_below HH.out.2.1 _).setCell (p := ⟨q, v, none⟩) (fun _ => .inr rfl) _).drew)
end Go.Proofs.YthfpdebpepbejaaDoor

namespace Go.Proofs.YthfpdebpepbejaaDoor
open Go.RowKit

/-- how often a value occurs among symbols of a table -/
def occ (t v : Nat) (l : List Sym) : Nat := l.countP fun s => s.1 == t && s.2.1 == v
/-- counts behind the symbols l -/
def cntL (D : List Int) (t : Nat) (l : List Sym) : List Int := (List.range 256).map fun i => wrap64 (D.getD i 0 + occ t i l)
theorem cntL_len (D : List Int) (t : Nat) (l : List Sym) : (cntL D t l).length = 256 := by simp [cntL]
theorem cntL_at (D : List Int) (t : Nat) (l : List Sym) {i : Nat} (hi : i < 256) : (cntL D t l).getD i 0 = wrap64 (D.getD i 0 + occ t i l) := by
  simp [cntL, List.getD_eq_getElem?_getD, hi]
theorem wrap_wrap (a b : Int) : wrap64 (wrap64 a + b) = wrap64 (a + b) := by unfold wrap64; omega
theorem occ_more (t v : Nat) (l : List Sym) (s : Sym) : occ t v (l ++ [s]) = occ t v l + if s.1 = t ∧ s.2.1 = v then 1 else 0 := by
  unfold occ
  rw [List.countP_append, List.countP_singleton]
  by_cases h : s.1 = t ∧ s.2.1 = v
  · rw [if_pos h, if_pos (by simp [h.1, h.2])]
  · rw [if_neg h, if_neg (by simpa using h)]
theorem cntL_nil {D : List Int} (t : Nat) (hl : D.length = 256) (hD : ∀ i, isInt (D.getD i 0)) : cntL D t [] = D := by
  apply List.ext_getElem?
  intro i
  by_cases hi : i < 256
  · have h1 := cntL_at D t [] hi
    have h2 : wrap64 (D.getD i 0 + occ t i []) = D.getD i 0 := by
      have := hD i
      unfold isInt at this
      unfold wrap64 occ
      simp only [List.countP_nil]
      omega
    rw [h2] at h1
    rw [List.getD_eq_getElem?_getD, List.getD_eq_getElem?_getD, List.getElem?_eq_getElem (by rw [cntL_len]; exact hi), List.getElem?_eq_getElem (by omega)] at h1
    rw [List.getElem?_eq_getElem (by rw [cntL_len]; exact hi), List.getElem?_eq_getElem (by omega)]
    exact congrArg some h1
  · rw [List.getElem?_eq_none (by rw [cntL_len]; omega), List.getElem?_eq_none (by omega)]
theorem cntL_same (D : List Int) (t : Nat) (l : List Sym) (s : Sym) (h : s.1 ≠ t) : cntL D t (l ++ [s]) = cntL D t l := by
  unfold cntL
  apply List.map_congr_left
  intro i _
  rw [occ_more, if_neg (fun h' => h h'.1)]
  simp
theorem cntL_bump (D : List Int) (t : Nat) (l : List Sym) (s : Sym) (h : s.1 = t) (hv : s.2.1 < 256) : bump (cntL D t l) s.2.1 = cntL D t (l ++ [s]) := by
  apply List.ext_getElem?
  intro i
  have hl : (bump (cntL D t l) s.2.1).length = 256 := by unfold bump; rw [List.length_set, cntL_len]
  by_cases hi : i < 256
  · have h1 : (bump (cntL D t l) s.2.1).getD i 0 = (cntL D t (l ++ [s])).getD i 0 := by
      rw [cntL_at _ _ _ hi, occ_more]
      by_cases e : s.2.1 = i
      · rw [if_pos ⟨h, e⟩, ← e]
        unfold bump
        rw [List.getD_eq_getElem?_getD, List.getElem?_set_self (by rw [cntL_len]; exact hv), Option.getD_some, cntL_at _ _ _ hv, wrap_wrap]
        congr 1
        omega
      · rw [if_neg (fun h' => e h'.2)]
        unfold bump
        rw [List.getD_eq_getElem?_getD, List.getElem?_set_ne e, ← List.getD_eq_getElem?_getD, cntL_at _ _ _ hi]
        simp
    rw [List.getD_eq_getElem?_getD, List.getD_eq_getElem?_getD, List.getElem?_eq_getElem (by omega), List.getElem?_eq_getElem (by rw [cntL_len]; exact hi)] at h1
    rw [List.getElem?_eq_getElem (by omega), List.getElem?_eq_getElem (by rw [cntL_len]; exact hi)]
    exact congrArg some h1
  · rw [List.getElem?_eq_none (by omega), List.getElem?_eq_none (by rw [cntL_len]; omega)]

/-- a guarded load whose guard says yes -/
theorem wpList_load_when {ops : Array Oper} {rest : List Oper} {op : Oper} {a : Act} {w : World} {Q : Exit → Act → World → Prop} (hw : Region.wanted op (yielded ops a.tmps) = true) (ty : TypeId) (x : Operand) (ho : op.op = .load ty x)
    (u : Value) (hx : a.eval x = u) (v : Value) (hl : (Instr.loadAt ty u).run Tryd.prog w = .ok v w)
    (hK : wpList Tryd.prog ops Q rest (a.put op.dst v) w) : wpList Tryd.prog ops Q (op :: rest) a w := by
  unfold wpList
  rw [if_pos hw]
  refine .inl ?_
  unfold Oper.wp execOp
  simp only [ho, hx, Sem.run_bind, hl, Result.andThen_ok]
  exact hK

theorem calls35 (args : Array Value) (w : World) : (callFunc 35 args).run Tryd.prog w = .ok (.enter 35 args) w := by kernel_rfl

/-- no counts, and why -/
def NoTally (w : World) (k : Int) (e : Ending) (w' : World) : Prop := e = .returned (.tuple #[.slice none 0 0, .slice none 0 0, .int .i64 k]) ∧ Below w.heap.size w w'
/-- counts of one's own -/
def Tallied (w : World) (prev : Int) (b : List Int) (D D' : List Int) (e : Ending) (w' : World) : Prop :=
  ∃ p q, e = .returned (.tuple #[.slice (some ⟨p, 0, none⟩) 256 256, .slice (some ⟨q, 0, none⟩) 256 256, .int .i64 0]) ∧ Box w' p 3 (cellsI (cntL D 0 (allS prev b))).toArray ∧ Box w' q 3 (cellsI (cntL D' 1 (allS prev b))).toArray ∧ p ≠ q ∧ w.heap.size ≤ p ∧ w.heap.size ≤ q ∧ Below w.heap.size w w'

section
variable (w : World) (A A' : Option Addr) (n c n' c' : Nat) (prev : Int) (b : List Int)

set_option maxRecDepth 10000 in
set_option maxHeartbeats 800000 in
theorem tally_arg (hn : n ≠ 256 ∨ n' ≠ 256) : Calls Tryd.prog 17 #[.slice A n c, .slice A' n' c', .int .i64 prev, blkV b] w (NoTally w 1) := by
  have hvc : blkV b = .agg (cellsI b).toArray := rfl
  rw [hvc]
  by_cases h1 : n = 256
  · have h2 : ¬ (n' : Int) = 256 := by omega
    subst h1
    go_enter Tryd.func17, Tryd.ntmps17
    go_wp2
    go_ret3
    exact ⟨rfl, on_alloc _ _⟩
  · have h2 : ¬ (n : Int) = 256 := by omega
    go_enter Tryd.func17, Tryd.ntmps17
    go_wp2
    go_ret3
    exact ⟨rfl, on_alloc _ _⟩

set_option maxRecDepth 10000 in
set_option maxHeartbeats 1600000 in
theorem tally_range (hn : n = 256) (hn' : n' = 256) (hb : b.length = 64) (h : ¬ (In prev ∧ RightB b)) : Calls Tryd.prog 17 #[.slice A n c, .slice A' n' c', .int .i64 prev, blkV b] w (NoTally w 2) := by
  subst hn hn'
  have hvc : blkV b = .agg (cellsI b).toArray := rfl
  rw [hvc]
  obtain ⟨w1, hw1⟩ : ∃ w1, w1 = w.alloc (.cells (cellsI b).toArray 23) := ⟨_, rfl⟩
  have bel : Below w.heap.size w w1 := by rw [hw1]; exact on_alloc _ _
  have hB : Blk w1 w.heap.size b := ⟨by rw [hw1]; exact Box.made _ _ _, hb⟩
  have HL := Lib.hid hB.load
  have HB := Lib.hid (And.intro hB (And.intro bel hw1))
  have HI := Lib.hid hb
  clear hB bel hw1 hb hvc
  by_cases h1 : In prev
  · have h2 : ¬ RightB b := fun h' => h ⟨h1, h'⟩
    have hd1 : decide (In prev) = true := by simpa using h1
    have hd2 : decide (RightB b) = false := by simpa using h2
    have HD := Lib.hid (And.intro hd1 hd2)
    clear h h1 h2 hd1 hd2
    go_enter Tryd.func17, Tryd.ntmps17
    go_wp2_with fail
    rw [← HB.out.2.2]
    refine (inRange_any _ prev).mono ?_
    rintro e w2 ⟨rfl, rfl⟩
    rw [HD.out.1]
    go_wp2_with (first
      | ((with_reducible refine wpList_load_when (op := ⟨some 24, _, _, _, _, _⟩) ?hw 23 (.tmp 7) rfl (.pointer (some ⟨w.heap.size, 0, none⟩)) rfl (blkV b) HL.out ?_)
         case hw => rfl)
      | fail)
    refine (right64_any _ b HI.out).mono ?_
    rintro e w2 ⟨rfl, b2⟩
    rw [HD.out.2]
    have H2 := Lib.hid b2
    clear b2
    go_wp2
    go_ret3
    exact ⟨rfl, on_trans HB.out.2.1 H2.out⟩
  · have hd1 : decide (In prev) = false := by simpa using h1
    have HD := Lib.hid hd1
    clear h h1 hd1
    go_enter Tryd.func17, Tryd.ntmps17
    go_wp2_with fail
    rw [← HB.out.2.2]
    refine (inRange_any _ prev).mono ?_
    rintro e w2 ⟨rfl, rfl⟩
    rw [HD.out]
    go_wp2
    go_ret3
    exact ⟨rfl, HB.out.2.1⟩

/-- the state of the counting -/
structure TallyI (w0 w : World) (cb p q : Nat) (D D' : List Int) (l : List Sym) : Prop where
  cnt : Cnts w cb p q (cntL D 0 l) (cntL D' 1 l)

theorem build71 (w : World) (p q : Nat) : (Instr.build 71 #[(0, .slice (some ⟨p, 0, none⟩) 256 256), (1, .slice (some ⟨q, 0, none⟩) 256 256)]).run Tryd.prog w = .ok (.agg #[.slice (some ⟨p, 0, none⟩) 256 256, .slice (some ⟨q, 0, none⟩) 256 256]) w := run_build w 71 _ _ (by show Program.built _ _ _ = _; kernel_rfl)

set_option maxRecDepth 10000 in
set_option maxHeartbeats 1600000 in
theorem tally_done (D D' : List Int) (hT : Tab w) (hn : n = 256) (hn' : n' = 256) (hb : b.length = 64) (hp : In prev) (hr : RightB b) (hD : Ia w A n c D) (hD' : Ia w A' n' c' D') (hi : ∀ i, isInt (D.getD i 0)) (hi' : ∀ i, isInt (D'.getD i 0)) :
    Calls Tryd.prog 17 #[.slice A n c, .slice A' n' c', .int .i64 prev, blkV b] w (Tallied w prev b D D') := by
  subst hn hn'
  have hvc : blkV b = .agg (cellsI b).toArray := rfl
  rw [hvc]
  obtain ⟨w1, hw1⟩ : ∃ w1, w1 = w.alloc (.cells (cellsI b).toArray 23) := ⟨_, rfl⟩
  have bel : Below w.heap.size w w1 := by rw [hw1]; exact on_alloc _ _
  have hB : Blk w1 w.heap.size b := ⟨by rw [hw1]; exact Box.made _ _ _, hb⟩
  have hd1 : decide (In prev) = true := by simpa using hp
  have hd2 : decide (RightB b) = true := by simpa using hr
  have HD := Lib.hid (And.intro hd1 (And.intro hd2 (And.intro hp hr)))
  have HL := Lib.hid hB.load
  have HZ := Lib.hid hT.zero
  have HB := Lib.hid (And.intro hB (And.intro bel (And.intro hw1 (hT.on bel))))
  have HI := Lib.hid (And.intro hb (And.intro (hD.on bel) (And.intro (hD'.on bel) (And.intro hi hi'))))
  clear hB bel hw1 hb hvc hd1 hd2 hp hr hT hD hD' hi hi'
  go_enter Tryd.func17, Tryd.ntmps17
  go_wp2_with fail
  rw [← HB.out.2.2.1]
  refine (inRange_any _ prev).mono ?_
  rintro e w2 ⟨rfl, rfl⟩
  rw [HD.out.1]
  go_wp2_with (first
    | ((with_reducible refine wpList_load_when (op := ⟨some 24, _, _, _, _, _⟩) ?hw 23 (.tmp 7) rfl (.pointer (some ⟨w.heap.size, 0, none⟩)) rfl (blkV b) HL.out ?_)
       case hw => rfl)
    | fail)
  refine (right64_any _ b HI.out.1).mono ?_
  rintro e w2 ⟨rfl, b2⟩
  rw [HD.out.2.1]
  have H2 := Lib.hid (And.intro (HB.out.1.on b2) (And.intro (on_trans HB.out.2.1 b2) (And.intro (HI.out.2.1.on b2) (And.intro (HI.out.2.2.1.on b2) (HB.out.2.2.2.on b2)))))
  clear b2
  go_wp2_with fail
  refine (copiedC_any w2 A 256 c D H2.out.2.2.1 (by omega)).mono ?_
  rintro e w3 ⟨rfl, hb3, b3⟩
  have H3 := Lib.hid (And.intro hb3 (And.intro b3 (And.intro (H2.out.1.on b3) (And.intro (H2.out.2.2.2.1.on b3) (H2.out.2.2.2.2.on b3)))))
  clear hb3 b3
  go_wp2_with fail
  refine (copiedC_any w3 A' 256 c' D' H3.out.2.2.2.1 (by omega)).mono ?_
  rintro e w4 ⟨rfl, hb4, b4⟩
  have H4 := Lib.hid (And.intro (H3.out.1.on b4) (And.intro hb4 (And.intro (on_trans (on_trans H2.out.2.1 H3.out.2.1) b4) (And.intro (H3.out.2.2.1.on b4) (And.intro (H3.out.2.2.2.2.on b4) b4)))))
  clear hb4 b4
  obtain ⟨p, hp⟩ : ∃ p, p = w2.heap.size := ⟨_, rfl⟩
  obtain ⟨q, hq⟩ : ∃ q, q = w3.heap.size := ⟨_, rfl⟩
  rw [← hp, ← hq] at H4 ⊢
  have hz71 : ∀ w, (zeroValue 71).run Tryd.prog w = .ok (.agg #[.slice none 0 0, .slice none 0 0]) w := fun w => by kernel_rfl
  have HP := Lib.hid (And.intro hp hq)
  clear hp hq
  have hbl := build71
  obtain ⟨cb, hcb⟩ : ∃ cb, cb = w4.heap.size := ⟨_, rfl⟩
  obtain ⟨w5, hw5⟩ : ∃ w5, w5 = w4.alloc (.cells #[.slice (some ⟨p, 0, none⟩) 256 256, .slice (some ⟨q, 0, none⟩) 256 256] 71) := ⟨_, rfl⟩
  have b5 : Below w4.heap.size w4 w5 := by rw [hw5]; exact on_alloc _ _
  have hbox : Box w5 cb 71 #[.slice (some ⟨p, 0, none⟩) 256 256, .slice (some ⟨q, 0, none⟩) 256 256] := by rw [hw5, hcb]; exact Box.made _ _ _
  have H5 := Lib.hid (And.intro hbox (And.intro b5 (And.intro hw5 hcb)))
  have HL5 := Lib.hid (show (Instr.loadAt 23 (.pointer (some ⟨w.heap.size, 0, none⟩))).run Tryd.prog (w4.alloc (.cells #[.slice (some ⟨p, 0, none⟩) 256 256, .slice (some ⟨q, 0, none⟩) 256 256] 71)) = .ok (blkV b) (w4.alloc (.cells #[.slice (some ⟨p, 0, none⟩) 256 256, .slice (some ⟨q, 0, none⟩) 256 256] 71)) by rw [← hw5]; exact (H4.out.2.2.2.1.on b5).load)
  have hmf : ∀ (fn : Fn) (first cap : Array Value) (w : World), (Instr.makeFunc fn first cap).run Tryd.prog w = .ok (.func fn first cap) w := fun _ _ _ _ => rfl
  clear hbox b5 hw5 hcb
  go_wp2_with (first
    | (with_reducible refine wpList_load_to (op := ⟨some 34, _, _, _, _, _⟩) rfl 23 (.tmp 7) rfl (.pointer (some ⟨w.heap.size, 0, none⟩)) rfl (blkV b) HL5.out ?_)
    | fail)
  rw [← H5.out.2.2.1, ← H5.out.2.2.2]
  have hle2 := H2.out.2.1.size
  have hle3 := H3.out.2.1.size
  have hle4 := H4.out.2.2.2.2.2.size
  have hle5 := H5.out.2.1.size
  have hl3 := H3.out.1.lt
  have hl4 := H4.out.2.1.lt
  have hp := HP.out.1
  have hq := HP.out.2
  have hDl := H2.out.2.2.1.len
  have hDl' := H3.out.2.2.2.1.len
  have hcn : Cnts w5 cb p q (cntL D 0 []) (cntL D' 1 []) := by
    rw [cntL_nil 0 hDl HI.out.2.2.2.1, cntL_nil 1 hDl' HI.out.2.2.2.2]
    refine ⟨H5.out.1, ?_, ?_, hDl, hDl', by omega⟩
    · exact H4.out.1.on H5.out.2.1
    · exact H4.out.2.1.on H5.out.2.1
  have hzero := HZ.out
  refine (each_any (fun i => i = p ∨ i = q) (fun l w => Cnts w cb p q (cntL D 0 l) (cntL D' 1 l)) 35 #[.pointer (some ⟨cb, 0, none⟩)] calls35 (fun l w1 w2 h k => h.on k) w5 prev b (H4.out.2.2.2.2.1.on H5.out.2.1) HI.out.1 HD.out.2.2.2 HD.out.2.2.1 ?_ hcn ?_).mono ?_
  · intro i hi
    have hi : i = p ∨ i = q := hi
    omega
  · intro l s w6 ⟨r, hr⟩ hc hk
    have hs : SymOk s := allS_ok HD.out.2.2.2 HD.out.2.2.1 s (by rw [← hr]; simp)
    refine (tally1_any w6 cb p q _ _ s hs hc).mono ?_
    rintro e w7 ⟨rfl, h7, k7⟩
    refine ⟨rfl, ?_, k7⟩
    by_cases h0 : s.1 = 0
    · rw [if_pos h0, if_pos h0, cntL_bump D 0 l s h0 hs.val] at h7
      rw [cntL_same D' 1 l s (by omega)]
      exact h7
    · rw [if_neg h0, if_neg h0, cntL_bump D' 1 l s (by have := hs.tab; omega) hs.val] at h7
      rw [cntL_same D 0 l s h0]
      exact h7
  · rintro e w6 ⟨rfl, hc6, k6⟩
    have c0 : w6.cell? ⟨cb, 0, none⟩ = some (.slice (some ⟨p, 0, none⟩) 256 256) := hc6.box.cell 0
    have c1 : w6.cell? ⟨cb, 1, none⟩ = some (.slice (some ⟨q, 0, none⟩) 256 256) := hc6.box.cell 1
    have H6 := Lib.hid (And.intro hc6 k6)
    have HW := Lib.hid (And.intro hle2 (And.intro hle3 (And.intro hle4 (And.intro hle5 (And.intro hl3 (And.intro hp hq))))))
    clear hc6 k6 hcn hDl hDl' hle2 hle3 hle4 hle5 hl3 hp hq hzero
    go_wp2
    go_region
    all_goals
      (go_wp2
       go_ret3
       obtain ⟨hle2, hle3, hle4, hle5, hl3, hp, hq⟩ := HW.out
       have hb5 := on_trans H4.out.2.2.1 H5.out.2.1
       exact ⟨p, q, rfl, H6.out.1.bp.drewN _, H6.out.1.bq.drewN _, H6.out.1.ne, by omega, by omega, hb5.trans ((H6.out.2.drewN _).below hb5.size (fun i hi h => by rcases h with rfl | rfl <;> omega))⟩)

end
end Go.Proofs.YthfpdebpepbejaaDoor
