/-
  An append to a row of one's own, of any type of elements: only the row's own block turns. Rows of pairs, of places, of slices.
-/
import Derived.Test.YtmadkpnkmkajoaaDoorSA
import Derived.Test.YtmadkpnkmkajoaaDoorMA
namespace Go.Proofs.YtmadkpnkmkajoaaDoor
open Go.RowKit

/-- a type of slices, its elements' type, zero, cells, bytes -/
structure Elems (ty e : TypeId) (z : Value) (size bytes : Nat) : Prop where
  und : Tryd.prog.underlying ty = some (.slice e)
  info : (Tryd.prog.info? e).map (fun i => (i.zero, i.size, i.bytes)) = some (some z, size, bytes)
  zc : z.cells.size = size
  pos : 0 < size
  few : bytes ≤ 1000
theorem run_append_gk {ty e : TypeId} {z : Value} {size bytes : Nat} (E : Elems ty e z size bytes) (w : World) (t0 : TypeId) (base : Nat) (v : Value) (n : Nat) (xs : List Value) (hown : w.ownsRow base e size v n xs) (ad : Addr) (m c : Nat) (ys : List Value)
    (hl : ys.length = m * size) (hr : ∀ j u, ys[j]? = some u → w.cell? (ad.add j) = some u) (h1 : ∀ u ∈ ys, u.oneCell' = true) (h63 : n + m ≤ 1000000) (hbase : base ≤ w.heap.size) :
    ∃ v' w', (Builtin.append_ #[ty, ty] t0 #[v, .slice (some ad) m c]).run Tryd.prog w = .ok v' w' ∧ w'.ownsRow base e size v' (n + m) (xs ++ ys) ∧ Kept (fun i => v.ownBlock = some i) w w' := by
  obtain ⟨i0, hi0, h2⟩ := Option.map_eq_some_iff.1 E.info
  simp only [Prod.mk.injEq] at h2
  obtain ⟨hz0, hz1, hz2⟩ := h2
  have hb : (n + m) * bytes ≤ 140737488355328 := by
    have := Nat.mul_le_mul h63 E.few
    omega
  obtain ⟨v', w', h0, h1, h2, _⟩ := run_append_own (P := Tryd.prog) w base ty t0 e i0 z size bytes E.und hi0 hz0 hz1 hz2 E.zc E.pos v n xs hown ad m c ys hl hr h1 (by simp only [maxLen]; omega) hb hbase
  exact ⟨v', w', h0, h1, ⟨h2.os, h2.tape, h2.output, h2.size, fun k hk hn => h2.block k hk (fun e => hn e.symm)⟩⟩
theorem step_append_gk {ty e : TypeId} {z : Value} {size bytes : Nat} (E : Elems ty e z size bytes) {ops : Array Oper} {o : Oper} {a : Act} {w : World} {K : Act → World → Prop} {Q : Exit → Act → World → Prop} {F : Prop} (hgd : o.guard = none) (s x : Operand)
    (ho : o.op = .call { callee := .builtin .append, args := #[s, x], argTypes := #[ty, ty] }) (base : Nat) (v : Value) (n : Nat) (xs : List Value) (hs : a.eval s = v) (hown : w.ownsRow base e size v n xs) (ad : Addr) (m c : Nat) (ys : List Value)
    (hx : a.eval x = .slice (some ad) m c) (hl : ys.length = m * size) (hr : ∀ j u, ys[j]? = some u → w.cell? (ad.add j) = some u) (h1 : ∀ u ∈ ys, u.oneCell' = true) (h63 : n + m ≤ 1000000) (hbase : base ≤ w.heap.size) (d : Option Tmp) (hd : o.dst = d)
    (h : ∀ v' w', w'.ownsRow base e size v' (n + m) (xs ++ ys) → Kept (fun i => v.ownBlock = some i) w w' → K (a.put d v') w') :
    if Region.wanted o (yielded ops a.tmps) = true then Oper.wp Tryd.prog o a w K Q else F := by
  have hw : Region.wanted o (yielded ops a.tmps) = true := by simp [Region.wanted, hgd]
  rw [if_pos hw]
  subst hd
  obtain ⟨v', w', h0, h1, h2⟩ := run_append_gk E w o.type base v n xs hown ad m c ys hl hr h1 h63 hbase
  unfold Oper.wp
  simp [execOp, ho, resolve, invoke, builtin, hs, hx, h0, Result.andThen]
  exact h v' w' h1 h2
/-- the cells of a block of one's own as what an append reads -/
theorem box_read {w : World} {g : Nat} {t : TypeId} {ys : List Value} (h : Box w g t ys.toArray) : ∀ j u, ys[j]? = some u → w.cell? ((⟨g, 0, none⟩ : Addr).add j) = some u := by
  intro j u hu
  rw [plain_add, Nat.zero_add, h.cell]
  simpa using hu
theorem el_pair : Elems 58 60 (.agg #[.int .i64 0, .int .i64 0]) 2 16 := ⟨Tryd.underlying58, by kernel_rfl, rfl, by omega, by omega⟩
theorem cellsP2_app (a b : List (Nat × Nat)) : cellsP2 (a ++ b) = cellsP2 a ++ cellsP2 b := by simp [cellsP2]
theorem cellsP2_len (l : List (Nat × Nat)) : (cellsP2 l).length = l.length * 2 := by
  induction l with
  | nil => rfl
  | cons x r ih => rw [show x :: r = [x] ++ r from rfl, cellsP2_app, List.length_append, ih]; simp [cellsP2, cells2]; omega
theorem ps_of_own {w : World} {base : Nat} {v : Value} {n : Nat} {l : List (Nat × Nat)} (h : w.ownsRow base 60 2 v n (cellsP2 l)) : ∃ A c, v = .slice A n c ∧ n ≤ c ∧ Ps w base A n l := by
  have hl : l.length = n := by have := h.1; rw [cellsP2_len] at this; omega
  have hown := h
  rcases h.2 with ⟨rfl, rfl⟩ | ⟨g, cap, cur, rfl, hg, hh, hn, hm, _, _⟩
  · exact ⟨_, 0, rfl, Nat.le_refl _, hl, fun h0 => by omega⟩
  · refine ⟨some ⟨g, 0, none⟩, cap, rfl, hn, hl, fun _ => ⟨g, 0, rfl, hg, (Array.getElem?_eq_some_iff.1 hh).1, fun i x hx => ?_⟩⟩
    have hi : i < n := by have := (List.getElem?_eq_some_iff.1 hx).1; omega
    obtain ⟨h1, h2⟩ := cells2_at l i x hx
    exact ⟨by rw [Nat.zero_add, hown.cellAt (i * 2) (by omega), h1], by rw [Nat.zero_add, hown.cellAt (i * 2 + 1) (by omega), h2]⟩
end Go.Proofs.YtmadkpnkmkajoaaDoor
