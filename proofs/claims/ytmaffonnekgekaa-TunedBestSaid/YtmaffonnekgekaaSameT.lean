/-
  The contract of same: two specifications that are alike.
-/
import Derived.Test.YtmaffonnekgekaaArrEq
import Derived.Test.YtmaffonnekgekaaAgain
import Derived.Test.YtmaffonnekgekaaRises
import Derived.BigQuiet
namespace Go.Proofs.Ytmaffonnekgekaa
open Go.RowKit

/-- an operation that yields, and is wanted, at a region's list -/
theorem wpList_neq_to {ops : Array Oper} {rest : List Oper} {op : Oper} {a : Act} {w : World} {Q : Exit → Act → World → Prop} (hgd : op.guard = none) (x y : Operand) (ho : op.op = .binOp .neq 24 x y 24)
    (B : List Int) (hB : B.length = 16) (hx : a.eval x = .agg (cellsI B).toArray) (hy : a.eval y = .agg (cellsI B).toArray)
    (hK : wpList Try.prog ops Q rest (a.put op.dst (.bool false)) w) : wpList Try.prog ops Q (op :: rest) a w :=
  wpList_plain hgd fun _ hQ => by
    have hg : Try.prog.eqGuardType Try.prog.depth 24 = false := by kernel_rfl
    unfold Oper.wp execOp
    simp only [ho, hx, hy, Sem.run_bind, run_eqGuard_agg w .neq 24 x y _ _ hg, run_neq_struct, arr_equal w hB, Result.andThen_ok]
    exact hQ _ _ hK

/-- two specifications in memory -/
structure Two (w wr : World) (g : Nat) (B V : List Int) (A : Option Addr) (n c : Nat) (A' : Option Addr) (c' : Nat) : Prop where
  b1 : Box wr g 26 (specC B (.slice A n c))
  b2 : Box wr (g + 1) 26 (specC B (.slice A' n c'))
  v1 : Ia wr A n c V
  v2 : Ia wr A' n c' V
  bel : Below w.heap.size w wr
  len : B.length = 16
theorem Two.bel_ {w wr w' : World} {g : Nat} {B V : List Int} {A : Option Addr} {n c : Nat} {A' : Option Addr} {c' : Nat} (h : Two w wr g B V A n c A' c') (k : Below wr.heap.size wr w') : Two w w' g B V A n c A' c' :=
  ⟨h.b1.on k, h.b2.on k, h.v1.on k, h.v2.on k, on_trans h.bel k, h.len⟩

set_option maxRecDepth 20000 in
set_option maxHeartbeats 1600000 in
theorem same_any (w : World) (B V : List Int) (A A' : Option Addr) (n c c' : Nat) (hB : B.length = 16) (h : Ia w A n c V) (h' : Ia w A' n c' V) (hn : n ≤ 300) :
    Calls Try.prog 12 #[specV B (.slice A n c), specV B (.slice A' n c')] w (Law w) := by
  obtain ⟨C1, hC1⟩ : ∃ C1, C1 = specC B (.slice A n c) := ⟨_, rfl⟩
  obtain ⟨C2, hC2⟩ : ∃ C2, C2 = specC B (.slice A' n c') := ⟨_, rfl⟩
  rw [show specV B (.slice A n c) = .agg C1 by rw [hC1]; rfl, show specV B (.slice A' n c') = .agg C2 by rw [hC2]; rfl]
  obtain ⟨g, hg⟩ : ∃ g, g = w.heap.size := ⟨_, rfl⟩
  obtain ⟨w1, hw1⟩ : ∃ w1, w1 = (w.alloc (.cells C1 26)).alloc (.cells C2 26) := ⟨_, rfl⟩
  have hT : Two w w1 g B V A n c A' c' := by
    have bel : Below w.heap.size w w1 := by rw [hw1]; exact on_trans (on_alloc _ _) (on_alloc _ _)
    refine ⟨?_, ?_, h.on bel, h'.on bel, bel, hB⟩
    · rw [hw1, hg, ← hC1]; exact (Box.made w 26 C1).alloc _
    · rw [hw1, hg, ← hC2]; have := Box.made (w.alloc (.cells C1 26)) 26 C2; simpa using this
  have c1 := (hT.b1.cell 16).trans (specC_last hB)
  have c2 := (hT.b2.cell 16).trans (specC_last hB)
  rw [hw1, hg] at c1 c2
  have HT := Lib.hid (And.intro hT (And.intro hw1 (And.intro hg (And.intro (load_bits hT.b1 hB) (And.intro (load_bits hT.b2 hB) h.len)))))
  clear hT hw1 hg hC1 hC2 h h' hB
  go_enter Try.func12, Try.ntmps12
  go_wp2_with (first
    | (refine wpList_load_to (op := ⟨some 7, _, _, _, _, _⟩) rfl 24 (.tmp 6) rfl (.pointer (some ⟨w.heap.size, 0, none⟩)) rfl (.agg (cellsI B).toArray) (by rw [← HT.out.2.1, ← HT.out.2.2.1]; exact HT.out.2.2.2.1) ?_)
    | (refine wpList_load_to (op := ⟨some 9, _, _, _, _, _⟩) rfl 24 (.tmp 8) rfl (.pointer (some ⟨w.heap.size + 1, 0, none⟩)) rfl (.agg (cellsI B).toArray) (by rw [← HT.out.2.1, ← HT.out.2.2.1]; exact HT.out.2.2.2.2.1) ?_)
    | (with_reducible refine wpList_neq_to (op := ⟨some 10, _, _, _, _, _⟩) rfl (.tmp 7) (.tmp 9) rfl B HT.out.1.len rfl rfl ?_)
    | fail)
  rw [← HT.out.2.1, ← HT.out.2.2.1]
  clear c1 c2
  go_loopw [23] (fun i wr => ∃ k : Nat, k ≤ n ∧ i = .int .i64 k ∧ Two w wr g B V A n c A' c') (fun i _ => n - (intOf i).toNat)
  case atStart => exact ⟨0, Nat.zero_le _, rfl, HT.out.1⟩
  case round =>
    obtain ⟨k, hk, rfl, hR⟩ := hrel
    by_cases hlt : k < n
    · have hlti : (k : Int) < (n : Int) := by omega
      have c1 := (hR.b1.cell 16).trans (specC_last hR.len)
      have c2 := (hR.b2.cell 16).trans (specC_last hR.len)
      obtain ⟨b, off, hA, _, hc⟩ := hR.v1.at_ (by omega)
      obtain ⟨b', off', hA', _, hc'⟩ := hR.v2.at_ (by omega)
      have d1 := hc k hlt
      have d2 := hc' k hlt
      obtain ⟨v, hv⟩ : ∃ v, v = V.getD k 0 := ⟨_, rfl⟩
      rw [← hv] at d1 d2
      have HR := Lib.hid hR
      clear hR hc hc' hv
      subst hA hA'
      go_wp2_with fail
      go_quiet (fail)
      go_wp2
      go_roundw
      case rel => exact ⟨k + 1, by omega, by go_num, HR.out.bel_ (below_drewN_refl _ _)⟩
      case measure => simp [intOf]; omega
    · have ek : k = n := by omega
      have HR := Lib.hid (And.intro hR ek)
      clear hR ek
      go_wp2
      go_ret
      exact ⟨rfl, HR.out.1.bel⟩
end Go.Proofs.Ytmaffonnekgekaa
