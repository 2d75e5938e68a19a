/-
  Two arrays that are alike are not unlike.
-/
import Derived.Test.YtmaffonnekgekaaFits
import Derived.ChangeKeysEq
import Derived.Laws.StructEq
namespace Go.Proofs.Ytmaffonnekgekaa
open Go.RowKit

theorem part_bits (w : World) {B : List Int} (hB : B.length = 16) {k : Nat} (hk : k < 16) : (part 3 (cellsI B).toArray (k * 1)).run Try.prog w = .ok (.int .i64 (B.getD k 0)) w := by
  match B, hB with
  | [b0, b1, b2, b3, b4, b5, b6, b7, b8, b9, b10, b11, b12, b13, b14, b15], _ =>
    have hc : k = 0 ∨ k = 1 ∨ k = 2 ∨ k = 3 ∨ k = 4 ∨ k = 5 ∨ k = 6 ∨ k = 7 ∨ k = 8 ∨ k = 9 ∨ k = 10 ∨ k = 11 ∨ k = 12 ∨ k = 13 ∨ k = 14 ∨ k = 15 := by omega
    rcases hc with rfl | rfl | rfl | rfl | rfl | rfl | rfl | rfl | rfl | rfl | rfl | rfl | rfl | rfl | rfl | rfl
    · show Sem.run _ _ _ = _; kernel_rfl
    · show Sem.run _ _ _ = _; kernel_rfl
    · show Sem.run _ _ _ = _; kernel_rfl
    · show Sem.run _ _ _ = _; kernel_rfl
    · show Sem.run _ _ _ = _; kernel_rfl
    · show Sem.run _ _ _ = _; kernel_rfl
    · show Sem.run _ _ _ = _; kernel_rfl
    · show Sem.run _ _ _ = _; kernel_rfl
    · show Sem.run _ _ _ = _; kernel_rfl
    · show Sem.run _ _ _ = _; kernel_rfl
    · show Sem.run _ _ _ = _; kernel_rfl
    · show Sem.run _ _ _ = _; kernel_rfl
    · show Sem.run _ _ _ = _; kernel_rfl
    · show Sem.run _ _ _ = _; kernel_rfl
    · show Sem.run _ _ _ = _; kernel_rfl
    · show Sem.run _ _ _ = _; kernel_rfl
theorem items_eq (w : World) {B : List Int} (hB : B.length = 16) (d : Nat) : ∀ is : List Nat, (∀ i ∈ is, i < 16) → (Op.eqItems (d + 1) 3 1 (cellsI B).toArray (cellsI B).toArray is).run Try.prog w = .ok true w
  | [], _ => by simp [Op.eqItems]
  | i :: is, h => by
    have hp := part_bits w hB (h i (by simp))
    have he := run_equalIn_int w d 3 .i64 .i64 (B.getD i 0) (B.getD i 0) Try.underlying3
    have ih := items_eq w hB d is (fun j hj => h j (by simp [hj]))
    simp only [Op.eqItems, Sem.run_bind, hp, he, Result.andThen_ok, beq_self_eq_true]
    simp
    exact ih
theorem arr_equal (w : World) {B : List Int} (hB : B.length = 16) : (Op.equalIn 10000 24 (.agg (cellsI B).toArray) (.agg (cellsI B).toArray)).run Try.prog w = .ok true w := by
  obtain ⟨i, hi⟩ : ∃ i, Try.prog.info? 3 = some i := by
    obtain ⟨i, h, _⟩ := Option.map_eq_some_iff.1 int_size
    exact ⟨i, h⟩
  have h1 : Try.prog.cellsOf 3 = 1 := by kernel_rfl
  rw [show (10000 : Nat) = 9999 + 1 from rfl, run_equalIn_array (P := Try.prog) w 9999 _ _ Try.underlying24 hi, h1]
  exact items_eq w hB 9998 (List.range 16) (fun i hi => List.mem_range.1 hi)
/-- an operation that yields, and is wanted, at a region's list -/
theorem wpList_neq_when {ops : Array Oper} {rest : List Oper} {op : Oper} {a : Act} {w : World} {Q : Exit → Act → World → Prop} (hw : Region.wanted op (yielded ops a.tmps) = true) (x y : Operand) (ho : op.op = .binOp .neq 24 x y 24)
    (B : List Int) (hB : B.length = 16) (hx : a.eval x = .agg (cellsI B).toArray) (hy : a.eval y = .agg (cellsI B).toArray)
    (hK : wpList Try.prog ops Q rest (a.put op.dst (.bool false)) w) : wpList Try.prog ops Q (op :: rest) a w :=
  wpList_step fun _ hQ => by
    have hg : Try.prog.eqGuardType Try.prog.depth 24 = false := by kernel_rfl
    rw [if_pos hw]
    unfold Oper.wp execOp
    simp only [ho, hx, hy, Sem.run_bind, run_eqGuard_agg w .neq 24 x y _ _ hg, run_neq_struct, arr_equal w hB, Result.andThen_ok]
    exact hQ _ _ hK
end Go.Proofs.Ytmaffonnekgekaa
