/-
  Two rows of bytes of one's own, side by side; an append to one of them.
-/
import Derived.Test.YtnakfdaneejcfaaExt
import Derived.Maps.AppendAt
namespace Go.Proofs.Ytnakfdaneejcfaa
open Go.RowKit

theorem own_lo {w : World} {lo e size n : Nat} {v : Value} {xs : List Value} (h : w.ownsRow lo e size v n xs) {i : Nat} (hi : v.ownBlock = some i) : lo ≤ i ∧ i < w.heap.size := by
  rcases h.2 with ⟨rfl, _⟩ | ⟨g, cap, cur, rfl, hg, hh, _⟩
  · simp [Value.ownBlock] at hi
  · have : g = i := by simpa [Value.ownBlock] using hi
    subst this
    exact ⟨hg, (Array.getElem?_eq_some_iff.1 hh).1⟩
section
variable {ty e : TypeId} {z : Value} {size bytes : Nat}
theorem run_append_own3 (E : Elems ty e z size bytes) (w : World) (t0 : TypeId) (base : Nat) (v : Value) (n : Nat) (xs : List Value) (hown : w.ownsRow base e size v n xs) (K : Nat → Prop) (A : Option Addr) (m c : Nat) (ys : List Value)
    (hr : Rd size K w A m c ys) (h1 : ∀ u ∈ ys, u.oneCell' = true) (h63 : n + m ≤ 1000000) (hbase : base ≤ w.heap.size) :
    ∃ v' w', (Builtin.append_ #[ty, ty] t0 #[v, .slice A m c]).run Try.prog w = .ok v' w' ∧ w'.ownsRow base e size v' (n + m) (xs ++ ys) ∧ Kept (fun i => v.ownBlock = some i) w w' ∧ (v'.ownBlock = v.ownBlock ∨ v'.ownBlock = some w.heap.size) := by
  obtain ⟨i0, hi0, h2⟩ := Option.map_eq_some_iff.1 E.info
  simp only [Prod.mk.injEq] at h2
  obtain ⟨hz0, hz1, hz2⟩ := h2
  have hb : (n + m) * bytes ≤ 140737488355328 := by
    have := Nat.mul_le_mul h63 E.few
    omega
  cases A with
  | none =>
    obtain rfl : c = 0 := hr.nil rfl
    obtain rfl : m = 0 := by have := hr.cap; omega
    obtain rfl : ys = [] := List.eq_nil_of_length_eq_zero (by rw [hr.len]; omega)
    exact ⟨v, w, run_append_owned_none (P := Try.prog) (w := w) base ty t0 e i0 size E.und hi0 v n xs hown, by simpa using hown, Kept.refl _ _, .inl rfl⟩
  | some ad =>
    obtain ⟨v', w', h0, h1, h2, _, h3⟩ := run_append_own_at (P := Try.prog) w base ty t0 e i0 z size bytes E.und hi0 hz0 hz1 hz2 E.zc E.pos v n xs hown ad m c ys hr.len hr.read h1 (by simp only [maxLen]; omega) hb hbase
    exact ⟨v', w', h0, h1, ⟨h2.os, h2.tape, h2.output, h2.size, fun k hk hn => h2.block k hk (fun e => hn e.symm)⟩, h3⟩
theorem wpList_append_own3 (E : Elems ty e z size bytes) {w : World} {ops : Array Oper} {rest : List Oper} {o : Oper} {a : Act} {Q : Exit → Act → World → Prop} (hgd : o.guard = none) (s x : Operand)
    (ho : o.op = .call { callee := .builtin .append, args := #[s, x], argTypes := #[ty, ty] }) (base : Nat) (v : Value) (n : Nat) (xs : List Value) (hs : a.eval s = v) (hown : w.ownsRow base e size v n xs) (K : Nat → Prop) (A : Option Addr) (m c : Nat) (ys : List Value)
    (hx : a.eval x = .slice A m c) (hr : Rd size K w A m c ys) (h1 : ∀ u ∈ ys, u.oneCell' = true) (h63 : n + m ≤ 1000000) (hbase : base ≤ w.heap.size)
    (h : ∀ v' w', w'.ownsRow base e size v' (n + m) (xs ++ ys) → Kept (fun i => v.ownBlock = some i) w w' → (v'.ownBlock = v.ownBlock ∨ v'.ownBlock = some w.heap.size) → wpList Try.prog ops Q rest (a.put o.dst v') w') : wpList Try.prog ops Q (o :: rest) a w :=
  wpList_plain hgd fun _ hQ => by
    obtain ⟨v', w', h0, h1, h2, h3⟩ := run_append_own3 E w o.type base v n xs hown K A m c ys hr h1 h63 hbase
    unfold Oper.wp
    simp [execOp, ho, resolve, invoke, builtin, hs, hx, h0, Result.andThen]
    exact hQ _ _ (h v' w' h1 h2 h3)
end
/-- two rows of bytes of one's own -/
structure Rw (B : Nat) (w : World) (v1 v2 : Value) (n1 n2 : Nat) (l1 l2 : List Int) : Prop where
  r1 : w.ownsRow B 5 1 v1 n1 (cellsOf l1)
  r2 : w.ownsRow B 5 1 v2 n2 (cellsOf l2)
  f1 : Fit l1
  f2 : Fit l2
  ap : ∀ g, v1.ownBlock = some g → v2.ownBlock ≠ some g
section
variable {B : Nat} {w w' : World} {v1 v2 v' : Value} {n1 n2 m : Nat} {l1 l2 ys : List Int}
theorem own_on {lo e size n : Nat} {v : Value} {xs : List Value} (h : w.ownsRow lo e size v n xs) (k : Below w.heap.size w w') : w'.ownsRow lo e size v n xs :=
  ownsRow_block h (fun g _ _ hh => k.block g (Array.getElem?_eq_some_iff.1 hh).1)
theorem own_kept {S : Nat → Prop} {lo e size n : Nat} {v : Value} {xs : List Value} (h : w.ownsRow lo e size v n xs) (k : Kept S w w') (hS : ∀ g, v.ownBlock = some g → ¬ S g) : w'.ownsRow lo e size v n xs :=
  ownsRow_block h (fun g _ e hh => k.block g (Array.getElem?_eq_some_iff.1 hh).1 (hS g e))
theorem Rw.on (h : Rw B w v1 v2 n1 n2 l1 l2) (k : Below w.heap.size w w') : Rw B w' v1 v2 n1 n2 l1 l2 := ⟨own_on h.r1 k, own_on h.r2 k, h.f1, h.f2, h.ap⟩
theorem Rw.app1 (h : Rw B w v1 v2 n1 n2 l1 l2) (hy : Fit ys) (o : w'.ownsRow B 5 1 v' (n1 + m) (cellsOf l1 ++ cellsOf ys)) (k : Kept (fun i => v1.ownBlock = some i) w w') (a : v'.ownBlock = v1.ownBlock ∨ v'.ownBlock = some w.heap.size) : Rw B w' v' v2 (n1 + m) n2 (l1 ++ ys) l2 := by
  refine ⟨by rw [show cellsOf (l1 ++ ys) = cellsOf l1 ++ cellsOf ys by simp [cellsOf]]; exact o, own_kept h.r2 k (fun g e1 e2 => h.ap g e2 e1), h.f1.app hy, h.f2, fun g e1 e2 => ?_⟩
  rcases a with a | a
  · exact h.ap g (a ▸ e1) e2
  · rw [a] at e1
    have := (own_lo h.r2 e2).2
    simp at e1
    omega
theorem Rw.app2 (h : Rw B w v1 v2 n1 n2 l1 l2) (hy : Fit ys) (o : w'.ownsRow B 5 1 v' (n2 + m) (cellsOf l2 ++ cellsOf ys)) (k : Kept (fun i => v2.ownBlock = some i) w w') (a : v'.ownBlock = v2.ownBlock ∨ v'.ownBlock = some w.heap.size) : Rw B w' v1 v' n1 (n2 + m) l1 (l2 ++ ys) := by
  refine ⟨own_kept h.r1 k (fun g e1 e2 => h.ap g e1 e2), by rw [show cellsOf (l2 ++ ys) = cellsOf l2 ++ cellsOf ys by simp [cellsOf]]; exact o, h.f1, h.f2.app hy, fun g e1 e2 => ?_⟩
  rcases a with a | a
  · exact h.ap g e1 (a ▸ e2)
  · rw [a] at e2
    have := (own_lo h.r1 e1).2
    simp at e2
    omega
theorem Rw.new1 {l : List Int} {n : Nat} {r : Ending} (h : Rw B w v1 v2 n1 n2 l1 l2) (hB : B ≤ w.heap.size) (o : OwnB w n l r w') : ∃ g, r = .returned (.slice (some ⟨g, 0, none⟩) n n) ∧ Rw B w' (.slice (some ⟨g, 0, none⟩) n n) v2 n n2 l l2 ∧ Below w.heap.size w w' := by
  obtain ⟨g, hr, hg, hb, ⟨f, hl, hm⟩, k⟩ := o
  refine ⟨g, hr, ⟨own_of_box hb hl (Nat.le_trans hB hg) hm, own_on h.r2 k, f, h.f2, fun g' e1 e2 => ?_⟩, k⟩
  have h9 : g = g' := by simpa [Value.ownBlock] using e1
  have := (own_lo h.r2 e2).2
  omega
theorem below_kept {w0 : World} {S : Nat → Prop} (h : Below B w0 w) (hB : B ≤ w.heap.size) (k : Kept S w w') (hS : ∀ i, S i → B ≤ i) : Below B w0 w' := h.trans (k.below hB (fun i hi hs => by have := hS i hs; omega))
end
end Go.Proofs.Ytnakfdaneejcfaa
