/-
  What the contracts say of slices: slices that read as cells, rows of one's own, appends to either; .
-/
import Derived.Test.YtnakfdaneejcfaaEnt
import Derived.ArgAppend
import Derived.Deep.AppendLies
namespace Go.Proofs.Ytnakfdaneejcfaa
open Go.RowKit

/-- a slice of n elements that reads as the cells cs; its block is one of K's -/
structure Rd (size : Nat) (K : Nat → Prop) (w : World) (A : Option Addr) (n c : Nat) (cs : List Value) : Prop where
  len : cs.length = n * size
  cap : n ≤ c
  max : c ≤ maxLen
  nil : A = none → c = 0
  at_ : 0 < n → ∃ b off, A = some ⟨b, off, none⟩ ∧ b < w.heap.size ∧ K b ∧ ∀ i, i < n * size → w.cell? ⟨b, off + i, none⟩ = cs[i]?

section
variable {size n c m : Nat} {K K' : Nat → Prop} {w w' : World} {A : Option Addr} {cs : List Value}
theorem Rd.kept {S : Nat → Prop} (h : Rd size K w A n c cs) (k : Kept S w w') (hS : ∀ b, K b → ¬ S b) : Rd size K w' A n c cs :=
  ⟨h.len, h.cap, h.max, h.nil, fun h0 => by
    obtain ⟨b, off, e, hb, hk, hc⟩ := h.at_ h0
    exact ⟨b, off, e, Nat.lt_of_lt_of_le hb k.size, hk, fun i hi => (k.cell (p := ⟨b, off + i, none⟩) hb (hS b hk)).trans (hc i hi)⟩⟩
theorem Rd.mono (h : Rd size K w A n c cs) (hK : ∀ b, b < w.heap.size → K b → K' b) : Rd size K' w A n c cs :=
  ⟨h.len, h.cap, h.max, h.nil, fun h0 => by obtain ⟨b, off, e, hb, hk, hc⟩ := h.at_ h0; exact ⟨b, off, e, hb, hK b hb hk, hc⟩⟩
theorem Rd.below {B : Nat} (h : Rd size K w A n c cs) (k : Below B w w') (hB : ∀ b, b < w.heap.size → K b → b < B) : Rd size K w' A n c cs :=
  ⟨h.len, h.cap, h.max, h.nil, fun h0 => by
    obtain ⟨b, off, e, hb, hk, hc⟩ := h.at_ h0
    exact ⟨b, off, e, Nat.lt_of_lt_of_le hb k.size, hk, fun i hi => (k.cell (p := ⟨b, off + i, none⟩) (hB b hb hk)).trans (hc i hi)⟩⟩
theorem Rd.on (h : Rd size K w A n c cs) (k : Below w.heap.size w w') : Rd size K w' A n c cs := h.below k fun _ hb _ => hb
theorem Rd.any (h : Rd size K w A n c cs) : Rd size (fun _ => True) w A n c cs := h.mono fun _ _ _ => trivial
theorem Rd.drewN (h : Rd size K w A n c cs) (q : Nat) : Rd size K (w.drewN q) A n c cs := ⟨h.len, h.cap, h.max, h.nil, h.at_⟩
theorem Rd.nil_ (w : World) : Rd size K w none 0 0 [] := ⟨by simp, Nat.le_refl _, Nat.zero_le _, fun _ => rfl, fun h => absurd h (by omega)⟩
theorem Rd.read {ad : Addr} (h : Rd size K w (some ad) n c cs) : ∀ j u, cs[j]? = some u → w.cell? (ad.add j) = some u := by
  intro j u hu
  have hj := (List.getElem?_eq_some_iff.1 hu).1
  have hl := h.len
  have h0 : 0 < n := by
    rcases Nat.eq_zero_or_pos n with rfl | h
    · rw [Nat.zero_mul] at hl; omega
    · exact h
  obtain ⟨b, off, e, _, _, hc⟩ := h.at_ h0
  injection e with e
  subst e
  rw [plain_add, hc j (by omega), hu]
/-- a slice cut off at k -/
def cutRd (A : Option Addr) (c k size : Nat) : Option Addr := if c = k then A else A.map (·.add (k * size))
theorem Rd.cut (h : Rd size K w A n c cs) (k m c' : Nat) (hk : k + m ≤ n) (hm : m ≤ c') (hc : k + c' ≤ c) : Rd size K w (cutRd A c k size) m c' ((cs.drop (k * size)).take (m * size)) := by
  have hl := h.len
  have hms : k * size + m * size ≤ n * size := by rw [← Nat.add_mul]; exact Nat.mul_le_mul_right _ hk
  refine ⟨by rw [List.length_take, List.length_drop]; omega, hm, by have := h.max; omega, ?_, fun h0 => ?_⟩
  · intro e
    unfold cutRd at e
    split at e
    · have := h.nil e; omega
    · cases A with
      | none => have := h.nil rfl; omega
      | some x => simp at e
  · obtain ⟨b, off, e, hb, hk2, hcell⟩ := h.at_ (by omega)
    subst e
    have hne : c ≠ k := by have := h.cap; omega
    refine ⟨b, off + k * size, by unfold cutRd; rw [if_neg hne]; simp [plain_add], hb, hk2, fun i hi => ?_⟩
    rw [Nat.add_assoc, hcell _ (by omega), List.getElem?_take_of_lt hi, List.getElem?_drop]
theorem rd_of_own {base e : Nat} {v : Value} (h : w.ownsRow base e size v n cs) : ∃ A c, v = .slice A n c ∧ Rd size (fun b => base ≤ b) w A n c cs := by
  have hl : cs.length = n * size := h.1
  have hown := h
  rcases h.2 with ⟨rfl, rfl⟩ | ⟨g, cap, cur, rfl, hg, hh, hn, hm, hcs, htk⟩
  · refine ⟨Option.none, 0, rfl, ⟨hl, Nat.le_refl _, Nat.zero_le _, fun _ => rfl, fun h0 => absurd h0 (by omega)⟩⟩
  · refine ⟨some ⟨g, 0, none⟩, cap, rfl, ⟨hl, hn, hm, (fun e => by cases e), fun _ => ⟨g, 0, rfl, (Array.getElem?_eq_some_iff.1 hh).1, hg, fun i hi => ?_⟩⟩⟩
    rw [Nat.zero_add, hown.cellAt i hi]
end

/-- a type of slices, its elements' type, zero, cells, bytes -/
structure Elems (ty e : TypeId) (z : Value) (size bytes : Nat) : Prop where
  und : Try.prog.underlying ty = some (.slice e)
  info : (Try.prog.info? e).map (fun i => (i.zero, i.size, i.bytes)) = some (some z, size, bytes)
  zc : z.cells.size = size
  pos : 0 < size
  few : bytes ≤ 1000
theorem el_byte : Elems 32 5 (.int .u8 0) 1 1 := ⟨Try.underlying32, by kernel_rfl, rfl, by omega, by omega⟩
theorem el_int : Elems 25 3 (.int .i64 0) 1 8 := ⟨Try.underlying25, by kernel_rfl, rfl, by omega, by omega⟩

section
variable {ty e : TypeId} {z : Value} {size bytes : Nat}
/-- an append of cells that are read to a row of one's own: only the row's own block turns -/
theorem run_append_own2 (E : Elems ty e z size bytes) (w : World) (t0 : TypeId) (base : Nat) (v : Value) (n : Nat) (xs : List Value) (hown : w.ownsRow base e size v n xs) (K : Nat → Prop) (A : Option Addr) (m c : Nat) (ys : List Value)
    (hr : Rd size K w A m c ys) (h1 : ∀ u ∈ ys, u.oneCell' = true) (h63 : n + m ≤ 1000000) (hbase : base ≤ w.heap.size) :
    ∃ v' w', (Builtin.append_ #[ty, ty] t0 #[v, .slice A m c]).run Try.prog w = .ok v' w' ∧ w'.ownsRow base e size v' (n + m) (xs ++ ys) ∧ Kept (fun i => v.ownBlock = some i) w w' ∧ (v' = .slice none 0 0 ↔ v = .slice none 0 0 ∧ m = 0) := by
  obtain ⟨i0, hi0, h2⟩ := Option.map_eq_some_iff.1 E.info
  simp only [Prod.mk.injEq] at h2
  obtain ⟨hz0, hz1, hz2⟩ := h2
  have hb : (n + m) * bytes ≤ 140737488355328 := by
    have := Nat.mul_le_mul h63 E.few
    omega
  cases A with
  | none =>
    obtain rfl : c = 0 := hr.nil rfl
    obtain rfl : m = 0 := by have := hr.cap; omega
    obtain rfl : ys = [] := List.eq_nil_of_length_eq_zero (by rw [hr.len]; omega)
    exact ⟨v, w, run_append_owned_none (P := Try.prog) (w := w) base ty t0 e i0 size E.und hi0 v n xs hown, by simpa using hown, Kept.refl _ _, by simp⟩
  | some ad =>
    obtain ⟨v', w', h0, h1, h2, h3⟩ := run_append_own (P := Try.prog) w base ty t0 e i0 z size bytes E.und hi0 hz0 hz1 hz2 E.zc E.pos v n xs hown ad m c ys hr.len hr.read h1 (by simp only [maxLen]; omega) hb hbase
    exact ⟨v', w', h0, h1, ⟨h2.os, h2.tape, h2.output, h2.size, fun k hk hn => h2.block k hk (fun e => hn e.symm)⟩, h3⟩
/-- an append to what is only read and has no room: new memory, or, if nothing is appended, as it was -/
theorem run_append_rd (E : Elems ty e z size bytes) (w : World) (t0 : TypeId) (K : Nat → Prop) (A : Option Addr) (n c : Nat) (xs : List Value) (hx : Rd size K w A n c xs) (K2 : Nat → Prop) (A2 : Option Addr) (m c2 : Nat) (ys : List Value)
    (hr : Rd size K2 w A2 m c2 ys) (h1 : ∀ u ∈ ys, u.oneCell' = true) (h63 : n + m ≤ 1000000) (hfull : 0 < m → c < n + m) :
    ∃ A' c' w', (Builtin.append_ #[ty, ty] t0 #[.slice A n c, .slice A2 m c2]).run Try.prog w = .ok (.slice A' (n + m) c') w' ∧ Rd size (fun b => K b ∨ w.heap.size ≤ b) w' A' (n + m) c' (xs ++ ys) ∧ Below w.heap.size w w' ∧ (0 < m → (n + m ≤ c' ∧ w'.ownsRow w.heap.size e size (.slice A' (n + m) c') (n + m) (xs ++ ys))) ∧ (m = 0 → c' = c) := by
  obtain ⟨i0, hi0, h2⟩ := Option.map_eq_some_iff.1 E.info
  simp only [Prod.mk.injEq] at h2
  obtain ⟨hz0, hz1, hz2⟩ := h2
  have hb : (n + m) * bytes ≤ 140737488355328 := by
    have := Nat.mul_le_mul h63 E.few
    omega
  by_cases hm : m = 0
  · subst hm
    obtain rfl : ys = [] := List.eq_nil_of_length_eq_zero (by rw [hr.len]; omega)
    have hc := hx.cap
    refine ⟨A, c, w, ?_, ?_, Below.refl _ _, fun h => absurd h (by omega), fun _ => rfl⟩
    · cases A2 <;> cases A <;> simp [Builtin.append_, run_underlying E.und, sizeOf, typeInfo, hi0, Builtin.lenOf, Builtin.firstCells, storeCells, loadCells, loadCellsFrom, hc]
    · simpa using hx.mono fun b _ h => Or.inl h
  · cases A2 with
    | none => have := hr.nil rfl; have := hr.cap; omega
    | some ad =>
      have fin : ∀ v' w', w'.ownsRow w.heap.size e size v' (n + m) (xs ++ ys) → w.grownBy w' none → (Builtin.append_ #[ty, ty] t0 #[.slice A n c, .slice (some ad) m c2]).run Try.prog w = .ok v' w' →
          ∃ A' c' w', (Builtin.append_ #[ty, ty] t0 #[.slice A n c, .slice (some ad) m c2]).run Try.prog w = .ok (.slice A' (n + m) c') w' ∧ Rd size (fun b => K b ∨ w.heap.size ≤ b) w' A' (n + m) c' (xs ++ ys) ∧ Below w.heap.size w w' ∧ (0 < m → (n + m ≤ c' ∧ w'.ownsRow w.heap.size e size (.slice A' (n + m) c') (n + m) (xs ++ ys))) ∧ (m = 0 → c' = c) := by
        intro v' w' r1 r2 r3
        obtain ⟨A', c', rfl, h4⟩ := rd_of_own r1
        exact ⟨A', c', w', r3, h4.mono fun b _ h => Or.inr h, ⟨r2.os, r2.tape, r2.output, r2.size, fun k hk => r2.block k hk (by simp)⟩, fun _ => ⟨h4.cap, r1⟩, fun h => absurd h hm⟩
      cases A with
      | some b =>
        obtain ⟨v', w', r3, r1, r2⟩ := run_append_arg_grows (P := Try.prog) w ty t0 e i0 z size bytes E.und hi0 hz0 hz1 hz2 E.zc E.pos b n c xs hx.len hx.read ad m c2 ys hr.len hr.read (hfull (by omega)) (by simp only [maxLen]; omega) hb
        exact fin v' w' r1 r2 r3
      | none =>
        obtain rfl : c = 0 := hx.nil rfl
        obtain rfl : n = 0 := by have := hx.cap; omega
        obtain rfl : xs = [] := List.eq_nil_of_length_eq_zero (by rw [hx.len]; omega)
        obtain ⟨v', w', r3, r1, r2, _⟩ := run_append_own (P := Try.prog) w w.heap.size ty t0 e i0 z size bytes E.und hi0 hz0 hz1 hz2 E.zc E.pos (.slice none 0 0) 0 [] (World.ownsRow_nil w _ e size) ad m c2 ys hr.len hr.read h1 (by simp only [maxLen]; omega) hb (Nat.le_refl _)
        exact fin v' w' r1 r2 r3
theorem wpList_append_own2 (E : Elems ty e z size bytes) {w : World} {ops : Array Oper} {rest : List Oper} {o : Oper} {a : Act} {Q : Exit → Act → World → Prop} (hgd : o.guard = none) (s x : Operand)
    (ho : o.op = .call { callee := .builtin .append, args := #[s, x], argTypes := #[ty, ty] }) (base : Nat) (v : Value) (n : Nat) (xs : List Value) (hs : a.eval s = v) (hown : w.ownsRow base e size v n xs) (K : Nat → Prop) (A : Option Addr) (m c : Nat) (ys : List Value)
    (hx : a.eval x = .slice A m c) (hr : Rd size K w A m c ys) (h1 : ∀ u ∈ ys, u.oneCell' = true) (h63 : n + m ≤ 1000000) (hbase : base ≤ w.heap.size)
    (h : ∀ v' w', w'.ownsRow base e size v' (n + m) (xs ++ ys) → Kept (fun i => v.ownBlock = some i) w w' → (v' = .slice none 0 0 ↔ v = .slice none 0 0 ∧ m = 0) → wpList Try.prog ops Q rest (a.put o.dst v') w') : wpList Try.prog ops Q (o :: rest) a w :=
  wpList_plain hgd fun _ hQ => by
    obtain ⟨v', w', h0, h1, h2, h3⟩ := run_append_own2 E w o.type base v n xs hown K A m c ys hr h1 h63 hbase
    unfold Oper.wp
    simp [execOp, ho, resolve, invoke, builtin, hs, hx, h0, Result.andThen]
    exact hQ _ _ (h v' w' h1 h2 h3)
end
theorem rd_of_sl {w : World} {K : Nat → Prop} {A : Option Addr} {n c : Nat} {l : List Int} (h : Sl w K A n c l) : Rd 1 K w A n c (cellsOf l) := by
  refine ⟨by rw [cellsOf_len, h.len]; omega, h.cap, h.max, h.nil, fun h0 => ?_⟩
  obtain ⟨b, off, e, hb, hk, hc⟩ := h.bts.at_ (by rw [h.len]; exact h0)
  refine ⟨b, off, e, hb, hk, fun i hi => ?_⟩
  have hi2 : i < l.length := by rw [h.len]; omega
  rw [hc i hi2]
  simp [cellsOf, List.getD_eq_getElem?_getD, List.getElem?_eq_getElem hi2]
/-- a row of one's own, from its whole block -/
theorem own_of_box {w : World} {g n lo : Nat} {l : List Int} (h : Box w g 5 (cellsOf l).toArray) (hl : l.length = n) (hg : lo ≤ g) (hm : n ≤ maxLen) : w.ownsRow lo 5 1 (.slice (some ⟨g, 0, none⟩) n n) n (cellsOf l) :=
  ⟨by rw [cellsOf_len, hl]; omega, .inr ⟨g, n, _, rfl, hg, h, Nat.le_refl _, hm, by simp [cellsOf_len, hl], by simp [cellsOf_len, hl, List.take_of_length_le]⟩⟩
end Go.Proofs.Ytnakfdaneejcfaa
