/-
  Loads of a scan, a tile and of steps.
-/
import Derived.Test.YtdnjnbfmmgkpjaaDoorPH
namespace Go.Proofs.YtdnjnbfmmgkpjaaDoor
open Go.RowKit

theorem wp_load_at {o : Oper} {a : Act} {w : World} {K : Act → World → Prop} {Q : Exit → Act → World → Prop} (t : TypeId) (x : Operand) (ho : o.op = .load t x) (u : Value) (hx : a.eval x = u) (v : Value) (h : (Instr.loadAt t u).run Tryd.prog w = .ok v w)
    (hK : K (a.put o.dst v) w) : o.wp Tryd.prog a w K Q := by
  unfold Oper.wp execOp
  simp only [ho, hx, Sem.run_bind, h, Result.andThen_ok, Sem.run_pure]
  exact hK
theorem load_scan {w : World} {g : Nat} {W H K R : Int} (h : Box w g 23 #[.int .i64 W, .int .i64 H, .int .i64 K, .int .i64 R]) : (Instr.loadAt 23 (.pointer (some ⟨g, 0, none⟩))).run Tryd.prog w = .ok (.agg #[.int .i64 W, .int .i64 H, .int .i64 K, .int .i64 R]) w :=
  run_loadAt_mid w g 0 23 [.int .i64 W, .int .i64 H, .int .i64 K, .int .i64 R] _ (fun k u hu => by rw [Nat.zero_add, h.cell k]; simpa using hu) Tryd.underlying23 rfl (by kernel_rfl)
theorem load_tile {w : World} {g : Nat} {A : Option Addr} {n c : Nat} (h : Box w g 36 #[.slice A n c]) : (Instr.loadAt 36 (.pointer (some ⟨g, 0, none⟩))).run Tryd.prog w = .ok (.agg #[.slice A n c]) w :=
  run_loadAt_mid w g 0 36 [.slice A n c] _ (fun k u hu => by rw [Nat.zero_add, h.cell k]; simpa using hu) Tryd.underlying36 rfl (by kernel_rfl)
theorem load_two {w : World} {g : Nat} {s : Nat → List Int} (hs : ∀ i, i < 2 → (s i).length = 64) (h : Box w g 26 (twoC s).toArray) : (Instr.loadAt 26 (.pointer (some ⟨g, 0, none⟩))).run Tryd.prog w = .ok (.agg (twoC s).toArray) w :=
  run_loadAt_mid w g 0 26 (twoC s) _ (fun k u hu => by rw [Nat.zero_add, h.cell k]; simpa using hu) Tryd.underlying26 rfl (by rw [two_size]; simp [twoC, cellsI_len, hs 0 (by omega), hs 1 (by omega)])
theorem Xs.bel {w w' : World} {T : Tbs} {X : Nat → Value} (h : Xs w T X) (k : Below w.heap.size w w') (s : Nat → List Int) : Xs w' ⟨s, T.B, T.V⟩ X := h.on k
end Go.Proofs.YtdnjnbfmmgkpjaaDoor
