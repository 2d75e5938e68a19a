/-
  HuffNobody: the walk.
-/
import Derived.Test.YtgnkbopnkllgaaaAwake5
import Derived.Test.YtgnkbopnkllgaaaBegin
namespace Go.Proofs.Ytgnkbopnkllgaaa
open Go.RowKit

/-- a field that is wanted, at a region's list -/
theorem wpList_field_when {ops : Array Oper} {rest : List Oper} {op : Oper} {a : Act} {w : World} {Q : Exit → Act → World → Prop} (hw : Region.wanted op (yielded ops a.tmps) = true) (ty : TypeId) (x : Operand) (k : Nat) (ho : op.op = .field ty x k)
    (u : Value) (hx : a.eval x = u) (v : Value) (hl : (Instr.field ty u k).run Try.prog w = .ok v w)
    (hK : wpList Try.prog ops Q rest (a.put op.dst v) w) : wpList Try.prog ops Q (op :: rest) a w :=
  wpList_step fun _ hQ => by
    rw [if_pos hw]
    unfold Oper.wp execOp
    simp only [ho, hx, Sem.run_bind, hl, Result.andThen_ok]
    exact hQ _ _ hK
theorem field_vals (w : World) {B : List Int} (A : Option Addr) (n c : Nat) (hB : B.length = 16) : (Instr.field 25 (specV B (.slice A n c)) 1).run Try.prog w = .ok (.slice A n c) w := by
  match B, hB with
  | [b0, b1, b2, b3, b4, b5, b6, b7, b8, b9, b10, b11, b12, b13, b14, b15], _ =>
    show Sem.run _ _ _ = _
    kernel_rfl

/-- what nobody's Get tells -/
def NoGet (w : World) (e : Ending) (w' : World) : Prop := e = .returned (.tuple #[.int .i64 0, .int .i64 6]) ∧ Below w.heap.size w w'
set_option maxHeartbeats 400000 in
theorem getT_nil (w : World) (r : Value) : Calls Try.prog 19 #[.pointer none, r] w (NoGet w) := by
  go_enter Try.func19, Try.ntmps19
  go_wp2
  go_ret2
  exact ⟨rfl, Below.refl _ _⟩
set_option maxHeartbeats 400000 in
theorem putT_nil (w : World) (u : Value) (v : Int) : Calls Try.prog 24 #[.pointer none, u, .int .i64 v] w fun e w' => e = .returned (.int .i64 6) ∧ Below w.heap.size w w' := by
  go_enter Try.func24, Try.ntmps24
  go_wp2_with fail
  refine (code_nil w v).mono ?_
  rintro e w1 ⟨rfl, b1⟩
  have H1 := Lib.hid b1
  clear b1
  go_wp2
  go_ret
  exact ⟨rfl, H1.out⟩

/-- a reader of whatever bytes is made -/
def SomeRd (w : World) (e : Ending) (w' : World) : Prop := ∃ r, e = .returned (.pointer (some ⟨r, 0, none⟩)) ∧ Below w.heap.size w w'
set_option maxRecDepth 10000 in
set_option maxHeartbeats 800000 in
theorem someReader_any (w : World) (K : Nat → Prop) (A : Option Addr) (n c : Nat) (l : List Int) (h : Sl w K A n c l) (hn : n ≤ 140737488355328) : Calls Try.prog 18 #[.slice A n c] w (SomeRd w) := by
  have hmk := run_make_row' (P := Try.prog) 44 5 (.int .u8 0) 1 Try.underlying44 byte_info rfl .i64 .i64 n (by omega) (by omega)
  obtain ⟨M, hM⟩ : ∃ M, M = madeCells #[.int .u8 0] n := ⟨_, rfl⟩
  rw [← hM] at hmk
  have hM2 : M = (cellsOf (List.replicate n 0)).toArray := by
    apply Array.toList_inj.1
    rw [hM, toList_madeCells_one]
    simp [cellsOf]
  rw [hM2] at hmk
  clear hM hM2
  obtain ⟨g, hg⟩ : ∃ g, g = w.heap.size := ⟨_, rfl⟩
  obtain ⟨w1, hw1⟩ : ∃ w1, w1 = w.alloc (.cells (cellsOf (List.replicate n 0)).toArray 5) := ⟨_, rfl⟩
  have HF := Lib.hid (newReader_facts h hg hw1)
  have hmw := hmk w
  rw [← hw1, ← hg] at hmw
  have hz : ∀ w, (zeroValue 76).run Try.prog w = .ok (.agg #[.int .i64 0, .int .i64 0, .int .i64 0, .slice none 0 0]) w := fun w => by kernel_rfl
  obtain ⟨Z, hZ⟩ : ∃ Z, Z = List.replicate n (0 : Int) := ⟨_, rfl⟩
  rw [← hZ] at HF
  have HH := Lib.hid (And.intro hg hZ)
  clear h hmk hw1 hg hZ
  go_enter Try.func18, Try.ntmps18
  go_wp2_with (first
    | ((with_reducible refine wpList_copy_splice (o := ⟨some 9, _, _, _, _, _⟩) rfl (.tmp 7) (.tmp 8) 44 44 rfl 5 Try.underlying44 byte_size (some ⟨g, 0, none⟩) A n n n c rfl rfl g 0 (cellsOf Z) 5 ?hg (cellsOf l) ?hn ?hpos ?hfit (cellsOf_one _) w.heap.size w ?hb ?hgg ?_)
       case hg => exact HF.out.1
       case hn => exact HF.out.2.1
       case hpos => exact HF.out.2.2.1
       case hfit => exact HF.out.2.2.2.1
       case hb => exact HF.out.2.2.2.2
       case hgg => exact Nat.le_of_eq HH.out.1.symm
       intro w2 hb2 hbel
       have H2 := Lib.hid hbel
       clear hb2 hbel)
    | fail)
  go_ret
  exact ⟨_, rfl, H2.out.alloc H2.out.size _⟩

set_option maxRecDepth 10000 in
set_option maxHeartbeats 1600000 in
theorem nobody5_calls (w : World) (v : Int) (K : Nat → Prop) (A : Option Addr) (n c : Nat) (l : List Int) (h : Sl w K A n c l) (hn : n ≤ 140737488355328) : Calls Try.prog 7 #[.int .i64 v, .slice A n c] w (Law w) := by
  have HS := Lib.hid (h.mono (K' := fun _ => True) (fun _ _ _ => trivial))
  clear h
  go_enter Try.func7, Try.ntmps7
  go_wp2_with fail
  refine (code_nil w v).mono ?_
  rintro e w1 ⟨rfl, b1⟩
  have H1 := Lib.hid b1
  clear b1
  go_wp2_with fail
  refine (newWriter_wr w1).mono ?_
  rintro e w2 ⟨d, rfl, hd, hw2, b2⟩
  have H2 := Lib.hid (And.intro hw2 (on_trans H1.out b2))
  clear hd hw2 b2
  go_wp2_with fail
  refine (someReader_any w2 _ A n c l (HS.out.on H2.out.2) hn).mono ?_
  rintro e w3 ⟨r, rfl, b3⟩
  have H3 := Lib.hid (And.intro (on_trans H2.out.2 b3) b3)
  clear b3
  go_wp2_with fail
  refine (getT_nil w3 _).mono ?_
  rintro e w4 ⟨rfl, b4⟩
  have H4 := Lib.hid (And.intro (on_trans H3.out.1 b4) (on_trans H3.out.2 b4))
  clear b4
  go_wp2_with fail
  refine (putT_nil w4 _ v).mono ?_
  rintro e w5 ⟨rfl, b5⟩
  have H5 := Lib.hid (And.intro (on_trans H4.out.1 b5) (on_trans H4.out.2 b5))
  clear b5
  go_wp2_with fail
  refine (count_wr w5 d [] (H2.out.1.on H5.out.2)).mono ?_
  rintro e w6 ⟨rfl, b6⟩
  have H6 := Lib.hid (on_trans H5.out.1 b6)
  clear b6
  go_wp2_with fail
  refine (spec_nil w6).mono ?_
  rintro e w7 ⟨A', c', rfl, _, _, b7⟩
  have H7 := Lib.hid (on_trans H6.out b7)
  clear b7
  go_wp2_with (first
    | (refine wpList_field_when (op := ⟨some 60, _, _, _, _, _⟩) (by rfl) 25 (.tmp 59) 1 rfl (specV (List.replicate 16 0) (.slice A' 0 c')) rfl (.slice A' 0 c') (field_vals _ A' 0 c' rfl) ?_)
    | fail)
  refine (awake5_any w7).mono ?_
  rintro e w8 ⟨rfl, b8⟩
  have H8 := Lib.hid (on_trans H7.out b8)
  clear b8
  go_wp2
  go_ret
  exact ⟨rfl, H8.out⟩
end Go.Proofs.Ytgnkbopnkllgaaa
