/-
  What the laws of layer 6 ask of a table; an append of an argument's numbers to a row of one's own.
-/
import Derived.Test.YtmaffonnekgekaaAwakeT
import Derived.Test.YtmaffonnekgekaaCostT
namespace Go.Proofs.Ytmaffonnekgekaa
open Go.RowKit

/-- an append of numbers, in whatever block, to a row of one's own -/
theorem wpList_append_ia {w : World} {ops : Array Oper} {rest : List Oper} {o : Oper} {a : Act} {Q : Exit → Act → World → Prop} (hgd : o.guard = none) (s x : Operand)
    (ho : o.op = .call { callee := .builtin .append, args := #[s, x], argTypes := #[22, 22] })
    (base : Nat) (v : Value) (n : Nat) (l : List Int) (hs : a.eval s = v) (hown : w.ownsRow base 3 1 v n (cellsI l))
    (A : Option Addr) (m c : Nat) (r : List Int) (hx : a.eval x = .slice A m c) (hr : Ia w A m c r) (h63 : n + m ≤ 1000000) (hbase : base ≤ w.heap.size)
    (h : ∀ v' w', w'.ownsRow base 3 1 v' (n + m) (cellsI (l ++ r)) → Below base w w' → wpList Try.prog ops Q rest (a.put o.dst v') w') : wpList Try.prog ops Q (o :: rest) a w :=
  wpList_plain hgd fun _ hQ => by
    obtain ⟨v', w', h0, h1, h2⟩ := run_append_il w o.type base v n l hown A m c r hr h63 hbase
    unfold Oper.wp
    simp [execOp, ho, resolve, invoke, builtin, hs, hx, h0, Result.andThen]
    exact hQ _ _ (h v' w' h1 h2)
/-- a copy of an argument's numbers -/
theorem copied_row {w w1 : World} {n : Nat} {C : List Int} {v : Value} (hown : w1.ownsRow w.heap.size 3 1 v (0 + n) (cellsI ([] ++ C))) (hb : Below w.heap.size (w.alloc (.cells #[] 3)) w1) :
    ∃ A c, v = .slice A n c ∧ Il w1 A n c C ∧ (∀ b off, A = some ⟨b, off, none⟩ → w.heap.size ≤ b ∧ b < w1.heap.size ∧ ∀ i, w1.frozen? ⟨b, off + i, none⟩ = false) ∧ Below w.heap.size w w1 := by
  rw [Nat.zero_add, List.nil_append] at hown
  obtain ⟨A, c, hv, hi, hlo⟩ := il_of_own2 hown
  exact ⟨A, c, hv, hi, hlo, (on_alloc w _).trans hb⟩

section
variable {C B V : List Int}
theorem SpecOf.valid (h : SpecOf C B V) (hg : Good C) (ha : Any C C.length) : Valid B V := by
  obtain ⟨fin, m, h1, h2, h3, _, hV⟩ := h
  rw [hV]
  exact h1.valid hg.counted (usF_ne ha) h2 h3
theorem SpecOf.has (h : SpecOf C B V) (hg : Good C) (ha : Any C C.length) (k : Nat) : (codeOf (codes B V) (k : Int)).2 ≠ 0 ↔ (k < C.length ∧ 0 < C.getD k 0) := by
  rw [Ne, (h.valid hg ha).none_]
  obtain ⟨fin, m, h1, h2, h3, _, hV⟩ := h
  rw [hV]
  have hf := h1.found hg.counted (usF_ne ha) h2 h3 (k : Int)
  refine hf.trans ⟨fun ⟨u, hu, e⟩ => ?_, fun hk => ⟨k, mem_usF.2 hk, rfl⟩⟩
  obtain rfl : k = u := by omega
  exact mem_usF.1 hu
end
end Go.Proofs.Ytmaffonnekgekaa
