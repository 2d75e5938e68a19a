/-
  The contract of copied.
-/
import Derived.Test.YthfpdebpepbejaaDoorSpec
namespace Go.Proofs.YthfpdebpepbejaaDoor
open Go.RowKit

theorem int_size : (Tryd.prog.info? 3).map (·.size) = some 1 := by kernel_rfl
theorem il_copy {w : World} {A : Option Addr} {n c : Nat} {l : List Int} (h : Il w A n c l) (h0 : 0 < (cellsI l).length) : ∃ ad, A = some ad ∧ ∀ j v, (cellsI l)[j]? = some v → w.cell? (ad.add j) = some v := by
  obtain ⟨b, off, e, _⟩ := h.at_ (by have := h.len; rw [cellsI_len] at h0; omega)
  subst e
  exact ⟨_, rfl, h.read⟩
theorem il_of_box {w : World} {b n : Nat} {l : List Int} (h : Box w b 3 (cellsI l).toArray) (hl : l.length = n) (hm : n ≤ maxLen) : Il w (some ⟨b, 0, none⟩) n n l := by
  refine ⟨hl, Nat.le_refl _, hm, (fun e => by cases e), (fun b off e => by cases e; exact ⟨_, _, h⟩), fun _ => ⟨b, 0, rfl, h.lt, fun i hi => ?_⟩⟩
  rw [Nat.zero_add, h.cell i]
  simp [cellsI, List.getD_eq_getElem?_getD, List.getElem?_eq_getElem (show i < l.length by omega)]
/-- an operation that builds, at a plain region's list -/
theorem wpList_build_to {ops : Array Oper} {rest : List Oper} {op : Oper} {a : Act} {w : World} {Q : Exit → Act → World → Prop} (hgd : op.guard = none) (t : TypeId) (parts : Array (Nat × Operand)) (ho : op.op = .build t parts)
    (v : Value) (ps : Array (Nat × Value)) (hps : (parts.map fun (i, x) => (i, a.eval x)) = ps) (h : (Instr.build t ps).run Tryd.prog w = .ok v w)
    (hK : wpList Tryd.prog ops Q rest (a.put op.dst v) w) : wpList Tryd.prog ops Q (op :: rest) a w :=
  wpList_plain hgd fun _ hQ => by
    unfold Oper.wp execOp
    simp only [ho, hps, Sem.run_bind, h, Result.andThen_ok]
    exact hQ _ _ hK

/-- a load, at a plain region's list -/
theorem wpList_load_to {ops : Array Oper} {rest : List Oper} {op : Oper} {a : Act} {w : World} {Q : Exit → Act → World → Prop} (hgd : op.guard = none) (ty : TypeId) (x : Operand) (ho : op.op = .load ty x)
    (u : Value) (hx : a.eval x = u) (v : Value) (hl : (Instr.loadAt ty u).run Tryd.prog w = .ok v w)
    (hK : wpList Tryd.prog ops Q rest (a.put op.dst v) w) : wpList Tryd.prog ops Q (op :: rest) a w :=
  wpList_plain hgd fun _ hQ => by
    unfold Oper.wp execOp
    simp only [ho, hx, Sem.run_bind, hl, Result.andThen_ok]
    exact hQ _ _ hK
structure CopyFacts (w w2 : World) (g m : Nat) (B V : List Int) (A : Option Addr) (n c : Nat) (Z : List Int) : Prop where
  b1 : Box w2 g 42 (specC B (.slice A n c))
  b2 : Box w2 (g + 1) 42 zeroC
  b3 : Box w2 m 3 (cellsI Z).toArray
  vals : Il w2 A n c V
  bel : Below w.heap.size w w2
  hg : g = w.heap.size
  hm : m = g + 1 + 1
  hz : Z.length = n

set_option maxRecDepth 20000 in
set_option maxHeartbeats 1600000 in
theorem copied_any (w : World) (B V : List Int) (A : Option Addr) (n c : Nat) (hB : B.length = 16) (h : Il w A n c V) (hn : n ≤ 300) :
    Calls Tryd.prog 56 #[specV B (.slice A n c)] w (OwnSpec w B n V) := by
  have hz := zero25
  unfold specV
  have hmk := run_make_row' (P := Tryd.prog) 24 3 (.int .i64 0) 8 Tryd.underlying24 int_info rfl .i64 .i64 n (by omega) (by omega)
  obtain ⟨M, hM⟩ : ∃ M, M = madeCells #[.int .i64 0] n := ⟨_, rfl⟩
  rw [← hM] at hmk
  have hM2 : M = (cellsI (List.replicate n 0)).toArray := by
    apply Array.toList_inj.1
    rw [hM, toList_madeCells_one]
    simp [cellsI]
  rw [hM2] at hmk
  clear hM hM2
  obtain ⟨Z, hZ⟩ : ∃ Z, Z = List.replicate n (0 : Int) := ⟨_, rfl⟩
  rw [← hZ] at hmk
  obtain ⟨C, hC⟩ : ∃ C, C = specC B (.slice A n c) := ⟨_, rfl⟩
  rw [← hC]
  obtain ⟨g, hg⟩ : ∃ g, g = w.heap.size := ⟨_, rfl⟩
  obtain ⟨w1, hw1⟩ : ∃ w1, w1 = (w.alloc (.cells C 42)).alloc (.cells zeroC 42) := ⟨_, rfl⟩
  have b1 : Box w1 g 42 C := by rw [hw1, hg]; exact (Box.made w 42 C).alloc _
  have b2 : Box w1 (g + 1) 42 zeroC := by rw [hw1, hg]; have := Box.made (w.alloc (.cells C 42)) 42 zeroC; simpa using this
  have bel : Below w.heap.size w w1 := by rw [hw1]; exact on_trans (on_alloc _ _) (on_alloc _ _)
  have hs1 : w1.heap.size = g + 1 + 1 := by rw [hw1, hg]; simp
  obtain ⟨m, hm⟩ : ∃ m, m = g + 1 + 1 := ⟨_, rfl⟩
  obtain ⟨w2, hw2⟩ : ∃ w2, w2 = w1.alloc (.cells (cellsI Z).toArray 3) := ⟨_, rfl⟩
  have c1 : ((w.alloc (.cells C 42)).alloc (.cells #[.int .i64 0, .int .i64 0, .int .i64 0, .int .i64 0, .int .i64 0, .int .i64 0, .int .i64 0, .int .i64 0, .int .i64 0, .int .i64 0, .int .i64 0, .int .i64 0, .int .i64 0, .int .i64 0, .int .i64 0, .int .i64 0, .slice none 0 0] 42)).cell? ⟨w.heap.size, 16, none⟩ = some (.slice A n c) := by
    rw [← hg]
    show ((w.alloc (.cells C 42)).alloc (.cells zeroC 42)).cell? ⟨g, 16, none⟩ = _
    rw [← hw1, b1.cell 16, hC]; exact specC_last hB
  have hF : CopyFacts w w2 g m B V A n c Z := by
    rw [hC] at b1
    refine ⟨?_, ?_, ?_, ?_, ?_, hg, hm, by rw [hZ, List.length_replicate]⟩
    · rw [hw2]; exact b1.alloc _
    · rw [hw2]; exact b2.alloc _
    · rw [hw2, hm, ← hs1]; exact Box.made _ _ _
    · rw [hw2]; exact (h.on bel).alloc _
    · rw [hw2]; exact on_trans bel (on_alloc _ _)
  have c2 : (((w.alloc (.cells C 42)).alloc (.cells #[.int .i64 0, .int .i64 0, .int .i64 0, .int .i64 0, .int .i64 0, .int .i64 0, .int .i64 0, .int .i64 0, .int .i64 0, .int .i64 0, .int .i64 0, .int .i64 0, .int .i64 0, .int .i64 0, .int .i64 0, .int .i64 0, .slice none 0 0] 42)).alloc (.cells (cellsI Z).toArray 3)).cell? ⟨w.heap.size, 16, none⟩ = some (.slice A n c) := by
    rw [← hg]
    show (((w.alloc (.cells C 42)).alloc (.cells zeroC 42)).alloc (.cells (cellsI Z).toArray 3)).cell? ⟨g, 16, none⟩ = _
    rw [← hw1, ← hw2, hF.b1.cell 16]; exact specC_last hB
  rw [hw2, hw1, hm, hg] at hF
  have HF := Lib.hid hF
  have HW := Lib.hid hB
  clear b1 b2 bel h hs1 hC hF hZ hw2 hm w2 m hw1 w1 hg g
  go_enter Tryd.func56, Tryd.ntmps56
  go_wp2_with (first
    | ((with_reducible refine wpList_copy_splice (o := ⟨some 11, _, _, _, _, _⟩) rfl (.tmp 8) (.tmp 10) 24 24 rfl 3 Tryd.underlying24 int_size (some ⟨w.heap.size + 1 + 1, 0, none⟩) A n n n c rfl rfl (w.heap.size + 1 + 1) 0 (cellsI Z) 3 ?hg (cellsI V) ?hn ?hpos ?hfit (cellsI_one _) (w.heap.size + 1 + 1) ?w0 ?hb ?hgg ?_)
       case hb => exact Below.refl _ _
       case hg => exact HF.out.b3
       case hn => have := HF.out.vals.len; rw [cellsI_len]; simp [this]
       case hpos => exact fun h0 => ⟨rfl, il_copy HF.out.vals h0⟩
       case hfit => have := HF.out.vals.len; have := HF.out.hz; rw [cellsI_len, cellsI_len]; omega
       case hgg => exact Nat.le_refl _
       intro w3 hb3 hbel
       have H3 := Lib.hid (And.intro hb3 hbel)
       have H4 := Lib.hid (HF.out.b1.bel hbel (by omega))
       have H5 := Lib.hid (HF.out.b2.bel hbel (by omega))
       clear hb3 hbel)
    | (with_reducible refine wpList_load_to (op := ⟨some 10, _, _, _, _, _⟩) rfl 24 (.tmp 9) rfl _ rfl (.slice A n c) (by go_simp) ?_)
    | (with_reducible refine wpList_load_mid (op := ⟨some 13, _, _, _, _, _⟩) rfl 40 (.tmp 12) rfl w.heap.size 0 rfl (cellsI B) _ (Box.spec_range H4.out HW.out) Tryd.underlying40 rfl (by rw [arr_size, cellsI_len, HW.out]) ?_)
    | (with_reducible refine wpList_build_to (op := ⟨some 15, _, _, _, _, _⟩) rfl 42 _ rfl (specV B (.slice (some ⟨w.heap.size + 1 + 1, 0, none⟩) n n)) _ (by simp [Act.eval]) (build_spec _ _ n n HW.out) ?_)
    | ((with_reducible refine wpList_store_spec (o := ⟨none, _, _, _, _, _⟩) rfl (.tmp 2) (.tmp 15) rfl rfl (w.heap.size + 1) B (.slice (some ⟨w.heap.size + 1 + 1, 0, none⟩) n n) rfl rfl zeroC H5.out rfl HW.out rfl ?_)
       intro w4 b4 k4
       have H6 := Lib.hid (And.intro b4 k4)
       clear b4 k4)
    | fail)
  refine bodyPost_ret (v := specV B (.slice (some ⟨w.heap.size + 1 + 1, 0, none⟩) n n)) (results_cell_row (fn := Tryd.f56) Tryd.results56 _ _ (w.heap.size + 1) 42 _ (0, 0) _ rfl H6.out.1 Tryd.underlying42 rfl (by rw [spec_size, specC_size HW.out])) rfl ?_
  obtain ⟨b4, k4⟩ := H6.out
  obtain ⟨hb3, hbel⟩ := H3.out
  have hl := HF.out.vals.len
  have hb := hb3.out
  rw [splice_all _ _ (by rw [cellsI_len, cellsI_len, hl, HF.out.hz]; exact Nat.le_refl _)] at hb
  have hbx : Box w3 (w.heap.size + 1 + 1) 3 (cellsI V).toArray := hb
  have k5 : Box w4 (w.heap.size + 1 + 1) 3 (cellsI V).toArray := k4.box hbx (by omega)
  have hs2 := HF.out.b3.lt
  have h3 : Below w.heap.size w w3 := HF.out.bel.trans (hbel.mono (by omega))
  exact ⟨_, _, rfl, il_of_box k5 hl (by unfold maxLen; omega), (fun b off e => by cases e; exact ⟨by omega, fun i => k5.free _⟩), h3.trans (k4.below (by have := h3.size; omega) (fun i hi e => by omega))⟩
end Go.Proofs.YthfpdebpepbejaaDoor
