/-
  The contract of fit.
-/
import Derived.Test.YthfpdebpepbejaaDoorDiffer
namespace Go.Proofs.YthfpdebpepbejaaDoor
open Go.RowKit

/-- an index into an array's value, at a plain region's list -/
theorem wpList_index_to {ops : Array Oper} {rest : List Oper} {op : Oper} {a : Act} {w : World} {Q : Exit → Act → World → Prop} (hgd : op.guard = none) (ty : TypeId) (x y : Operand) (ho : op.op = .index ty x y)
    (u z : Value) (hx : a.eval x = u) (hy : a.eval y = z) (v : Value) (hl : (Instr.index ty u z).run Tryd.prog w = .ok v w)
    (hK : wpList Tryd.prog ops Q rest (a.put op.dst v) w) : wpList Tryd.prog ops Q (op :: rest) a w :=
  wpList_plain hgd fun _ hQ => by
    unfold Oper.wp execOp
    simp only [ho, hx, hy, Sem.run_bind, hl, Result.andThen_ok]
    exact hQ _ _ hK
theorem index_bits (w : World) {B : List Int} (hB : B.length = 16) {k : Nat} (hk : k < 16) : (Instr.index 40 (.agg (cellsI B).toArray) (.int .i64 (k : Int))).run Tryd.prog w = .ok (.int .i64 (B.getD k 0)) w := by
  match B, hB with
  | [b0, b1, b2, b3, b4, b5, b6, b7, b8, b9, b10, b11, b12, b13, b14, b15], _ =>
    have hc : k = 0 ∨ k = 1 ∨ k = 2 ∨ k = 3 ∨ k = 4 ∨ k = 5 ∨ k = 6 ∨ k = 7 ∨ k = 8 ∨ k = 9 ∨ k = 10 ∨ k = 11 ∨ k = 12 ∨ k = 13 ∨ k = 14 ∨ k = 15 := by omega
    rcases hc with rfl | rfl | rfl | rfl | rfl | rfl | rfl | rfl | rfl | rfl | rfl | rfl | rfl | rfl | rfl | rfl
    · show Sem.run _ _ _ = _; kernel_rfl
    · show Sem.run _ _ _ = _; kernel_rfl
    · show Sem.run _ _ _ = _; kernel_rfl
    · show Sem.run _ _ _ = _; kernel_rfl
    · show Sem.run _ _ _ = _; kernel_rfl
    · show Sem.run _ _ _ = _; kernel_rfl
    · show Sem.run _ _ _ = _; kernel_rfl
    · show Sem.run _ _ _ = _; kernel_rfl
    · show Sem.run _ _ _ = _; kernel_rfl
    · show Sem.run _ _ _ = _; kernel_rfl
    · show Sem.run _ _ _ = _; kernel_rfl
    · show Sem.run _ _ _ = _; kernel_rfl
    · show Sem.run _ _ _ = _; kernel_rfl
    · show Sem.run _ _ _ = _; kernel_rfl
    · show Sem.run _ _ _ = _; kernel_rfl
    · show Sem.run _ _ _ = _; kernel_rfl
/-- the array is read whole -/
theorem load_arr {w : World} {g : Nat} {B : List Int} (h : Box w g 40 (cellsI B).toArray) (hB : B.length = 16) : (Instr.loadAt 40 (.pointer (some ⟨g, 0, none⟩))).run Tryd.prog w = .ok (.agg (cellsI B).toArray) w := by
  refine run_loadAt_mid w g 0 40 (cellsI B) _ (fun j u hu => ?_) Tryd.underlying40 rfl (by rw [arr_size, cellsI_len, hB])
  rw [Nat.zero_add, h.cell j]
  simpa using hu

/-- counts that fit so many values -/
structure FitOk (B : List Int) (n : Nat) : Prop where
  nn : ∀ i, i < 16 → 0 ≤ B.getD i 0
  sum : sm (cnt B) 16 = n
  pos : 0 < n
  fits : ∀ i, i < 16 → nx (cnt B) (i + 1) < 2 ^ (i + 1)
/-- the first k counts may be -/
structure FitTo (B : List Int) (n k : Nat) : Prop where
  nn : ∀ i, i < k → 0 ≤ B.getD i 0
  sum : sm (cnt B) k ≤ n
  fits : ∀ i, i < k → nx (cnt B) (i + 1) < 2 ^ (i + 1)
theorem FitOk.to {B : List Int} {n k : Nat} (h : FitOk B n) (hk : k ≤ 16) : FitTo B n k := ⟨fun i hi => h.nn i (by omega), by rw [← h.sum]; exact sm_mono hk, fun i hi => h.fits i (by omega)⟩
theorem FitTo.more {B : List Int} {n k : Nat} (h : FitTo B n k) (h0 : 0 ≤ B.getD k 0) (h1 : sm (cnt B) (k + 1) ≤ n) (h2 : nx (cnt B) (k + 1) < 2 ^ (k + 1)) : FitTo B n (k + 1) := by
  refine ⟨fun i hi => ?_, h1, fun i hi => ?_⟩
  · rcases Nat.lt_or_ge i k with h' | h'
    · exact h.nn i h'
    · obtain rfl : i = k := by omega
      exact h0
  · rcases Nat.lt_or_ge i k with h' | h'
    · exact h.fits i h'
    · obtain rfl : i = k := by omega
      exact h2
theorem FitTo.nx {B : List Int} {n k : Nat} (h : FitTo B n k) : nx (cnt B) k < 2 ^ k := by
  cases k with
  | zero => show 0 < 1; omega
  | succ k => exact h.fits k (by omega)
/-- what fit answers -/
def Fitted (w : World) (B : List Int) (n : Nat) (e : Ending) (w' : World) : Prop := ∃ b, e = .returned (.bool b) ∧ (b = true ↔ FitOk B n) ∧ Below w.heap.size w w'

set_option maxRecDepth 20000 in
set_option maxHeartbeats 1600000 in
theorem fit_any (w : World) (B : List Int) (n : Nat) (hB : B.length = 16) (hn : n ≤ 300) :
    Calls Tryd.prog 64 #[.agg (cellsI B).toArray, .int .i64 (n : Int)] w (Fitted w B n) := by
  obtain ⟨w1, hw1⟩ : ∃ w1, w1 = w.alloc (.cells (cellsI B).toArray 40) := ⟨_, rfl⟩
  have hb : Box w1 w.heap.size 40 (cellsI B).toArray := by rw [hw1]; exact Box.made _ _ _
  have bel : Below w.heap.size w w1 := by rw [hw1]; exact on_alloc _ _
  have hl := load_arr hb hB
  rw [hw1] at hl
  have HH := Lib.hid (And.intro hw1 (And.intro bel (And.intro hl hB)))
  clear hb hw1 bel hB hl
  obtain ⟨C, hC⟩ : ∃ C, C = (cellsI B).toArray := ⟨_, rfl⟩
  rw [← hC] at HH ⊢
  have HC := Lib.hid hC
  clear hC
  have h0 : FitTo B n 0 := ⟨fun i hi => absurd hi (by omega), Nat.zero_le _, fun i hi => absurd hi (by omega)⟩
  have H0 := Lib.hid h0
  clear h0
  go_enter Tryd.func64, Tryd.ntmps64
  go_wp2_with (first
    | (with_reducible refine wpList_load_to (op := ⟨some 10, _, _, _, _, _⟩) rfl 40 (.tmp 2) rfl (.pointer (some ⟨w.heap.size, 0, none⟩)) rfl (.agg C) HH.out.2.2.1 ?_)
    | fail)
  rw [← HH.out.1]
  go_loopw [11, 5, 6] (fun i l x wr => ∃ k : Nat, k ≤ 16 ∧ i = .int .i64 k ∧ l = .int .i64 ((n - sm (cnt B) k : Nat) : Int) ∧ x = .int .i64 ((2 * nx (cnt B) k : Nat) : Int) ∧ FitTo B n k ∧ wr = w1) (fun i _ _ _ => 16 - (intOf i).toNat)
  case atStart => exact ⟨0, Nat.zero_le _, rfl, by show _ = Value.int .i64 ((n - 0 : Nat) : Int); rw [Nat.sub_zero], rfl, H0.out, rfl⟩
  case round =>
    obtain ⟨k, hk, rfl, rfl, rfl, hF, rfl⟩ := hrel
    by_cases hlt : k < 16
    · have hix := index_bits wr HH.out.2.2.2 hlt
      rw [← HC.out] at hix
      have hnx := hF.nx
      have hp := pow16 (i := k + 1) (by omega)
      obtain ⟨S, hS⟩ : ∃ S, S = sm (cnt B) k := ⟨_, rfl⟩
      obtain ⟨N, hN⟩ : ∃ N, N = nx (cnt B) k := ⟨_, rfl⟩
      obtain ⟨p, hpp⟩ : ∃ p : Nat, p = 2 ^ k := ⟨_, rfl⟩
      have hp2 : (2 : Int) ^ k = (p : Int) := by rw [hpp]; simp
      have hpk : 2 ^ (k + 1) = 2 * p := by rw [hpp, Nat.pow_succ, Nat.mul_comm]
      obtain ⟨v, hv⟩ : ∃ v, v = B.getD k 0 := ⟨_, rfl⟩
      have hS1 : S ≤ n := by rw [hS]; exact hF.sum
      rw [hpk] at hp
      rw [← hN, ← hpp] at hnx
      rw [← hv] at hix
      have e1 : sm (cnt B) (k + 1) = S + v.toNat := by rw [sm, ← hS, hv]; rfl
      have e2 : nx (cnt B) (k + 1) = 2 * N + v.toNat := by rw [nx, ← hN, hv]; rfl
      have HR := Lib.hid (And.intro hF (And.intro hv (And.intro hix (And.intro e1 (And.intro e2 (And.intro hpk hpp))))))
      rw [← hS, ← hN]
      clear hF hix hS hN hpp e1 e2 hv hpk
      by_cases hv0 : v < 0
      · go_wp2_with (first
          | (with_reducible refine wpList_index_to (op := ⟨some 14, _, _, _, _, _⟩) rfl 40 (.tmp 10) (.tmp 11) rfl (.agg C) (.int .i64 (k : Int)) rfl rfl _ HR.out.2.2.1 ?_)
          | fail)
        go_ret
        refine ⟨false, rfl, ⟨(fun e => by cases e), fun hf => ?_⟩, HH.out.2.1⟩
        have := hf.nn k hlt
        rw [← HR.out.2.1] at this
        omega
      obtain ⟨m, rfl⟩ := Int.eq_ofNat_of_zero_le (show 0 ≤ v by omega)
      have e1 := HR.out.2.2.2.1
      have e2 := HR.out.2.2.2.2.1
      rw [Int.toNat_natCast] at e1 e2
      have HE := Lib.hid (And.intro e1 e2)
      clear e1 e2
      have hl2 : ((n - S : Nat) : Int) = (n : Int) - S := by omega
      rw [hl2]
      by_cases h1 : n < S + m
      · go_wp2_with (first
          | (with_reducible refine wpList_index_to (op := ⟨some 14, _, _, _, _, _⟩) rfl 40 (.tmp 10) (.tmp 11) rfl (.agg C) (.int .i64 (k : Int)) rfl rfl _ HR.out.2.2.1 ?_)
          | fail)
        go_ret
        refine ⟨false, rfl, ⟨(fun e => by cases e), fun hf => ?_⟩, HH.out.2.1⟩
        have := (hf.to (k := k + 1) (by omega)).sum
        rw [HE.out.1] at this
        omega
      by_cases h2 : 2 * p ≤ 2 * N + m
      · go_wp2_with (first
          | (with_reducible refine wpList_index_to (op := ⟨some 14, _, _, _, _, _⟩) rfl 40 (.tmp 10) (.tmp 11) rfl (.agg C) (.int .i64 (k : Int)) rfl rfl _ HR.out.2.2.1 ?_)
          | fail)
        go_ret
        refine ⟨false, rfl, ⟨(fun e => by cases e), fun hf => ?_⟩, HH.out.2.1⟩
        have := hf.fits k hlt
        rw [HE.out.2, HR.out.2.2.2.2.2.1] at this
        omega
      · go_wp2_with (first
          | (with_reducible refine wpList_index_to (op := ⟨some 14, _, _, _, _, _⟩) rfl 40 (.tmp 10) (.tmp 11) rfl (.agg C) (.int .i64 (k : Int)) rfl rfl _ HR.out.2.2.1 ?_)
          | fail)
        go_roundw
        case rel =>
          refine ⟨k + 1, by omega, by go_num, ?_, ?_, HR.out.1.more ?_ ?_ ?_, trivial⟩
          · rw [HE.out.1]; go_num
          · rw [HE.out.2]; go_num
          · rw [← HR.out.2.1]; omega
          · rw [HE.out.1]; omega
          · rw [HE.out.2, HR.out.2.2.2.2.2.1]; omega
        case measure => simp [intOf]; omega
    · have ek : k = 16 := by omega
      have HE := Lib.hid hF
      clear hF
      subst ek
      obtain ⟨S, hS⟩ : ∃ S, S = sm (cnt B) 16 := ⟨_, rfl⟩
      have hS1 : S ≤ n := by rw [hS]; exact HE.out.sum
      have HS := Lib.hid hS
      rw [← hS]
      clear hS
      have hl2 : ((n - S : Nat) : Int) = (n : Int) - S := by omega
      rw [hl2]
      by_cases h0 : n = 0
      · go_wp2
        go_ret
        refine ⟨false, by simp [h0], ⟨(fun e => by cases e), fun hf => ?_⟩, HH.out.2.1⟩
        have := hf.pos
        omega
      · by_cases h1 : S = n
        · go_wp2
          go_ret
          exact ⟨true, by simp, ⟨fun _ => ⟨HE.out.nn, by rw [← HS.out]; exact h1, by omega, HE.out.fits⟩, fun _ => rfl⟩, HH.out.2.1⟩
        · go_wp2
          go_ret
          refine ⟨false, by simp; omega, ⟨(fun e => by cases e), fun hf => ?_⟩, HH.out.2.1⟩
          have := hf.sum
          rw [← HS.out] at this
          omega
end Go.Proofs.YthfpdebpepbejaaDoor
