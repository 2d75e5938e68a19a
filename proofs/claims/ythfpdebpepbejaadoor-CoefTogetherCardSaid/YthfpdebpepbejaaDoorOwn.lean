/-
  Rows of one's own: bytes, numbers, pairs of numbers.
-/
import Derived.Test.YthfpdebpepbejaaDoorBase
import Derived.Laws.AppendOwnNone
namespace Go.Proofs.YthfpdebpepbejaaDoor
open Go.RowKit

theorem Box.on {w w' : World} {g : Nat} {t : TypeId} {cs : Array Value} (h : Box w g t cs) (k : Below w.heap.size w w') : Box w' g t cs := (k.block g h.lt).trans h
theorem ownsRow_block {w w' : World} {lo : Nat} {e size : Nat} {v : Value} {n : Nat} {xs : List Value} (h : w.ownsRow lo e size v n xs) (k : ∀ g cs, v.ownBlock = some g → w.heap[g]? = some (.cells cs e (0, 0)) → w'.heap[g]? = w.heap[g]?) : w'.ownsRow lo e size v n xs := by
  refine ⟨h.1, h.2.imp id ?_⟩
  rintro ⟨g, cap, cur, rfl, h1, hh, h2⟩
  exact ⟨g, cap, cur, rfl, h1, (k g cur rfl hh).trans hh, h2⟩

theorem own_slice {w : World} {lo e size n : Nat} {v : Value} {xs : List Value} (h : w.ownsRow lo e size v n xs) : ∃ A c, v = .slice A n c := by
  rcases h.2 with ⟨rfl, h0⟩ | ⟨g, cap, cur, rfl, _⟩
  · exact ⟨none, 0, by rw [h0]⟩
  · exact ⟨_, _, rfl⟩

/-- an append of bytes to a row of one's own -/
theorem wpList_append_sl {w : World} {ops : Array Oper} {rest : List Oper} {o : Oper} {a : Act} {Q : Exit → Act → World → Prop} (hgd : o.guard = none) (s x : Operand)
    (ho : o.op = .call { callee := .builtin .append, args := #[s, x], argTypes := #[54, 54] })
    (base : Nat) (v : Value) (n : Nat) (l : List Int) (hs : a.eval s = v) (hown : w.ownsRow base 5 1 v n (cellsOf l))
    (K : Nat → Prop) (A : Option Addr) (m c : Nat) (r : List Int) (hx : a.eval x = .slice A m c) (hr : Sl w K A m c r) (h63 : n + m ≤ 140737488351232) (hbase : base ≤ w.heap.size)
    (h : ∀ v' w', w'.ownsRow base 5 1 v' (n + m) (cellsOf (l ++ r)) → Below base w w' → wpList Tryd.prog ops Q rest (a.put o.dst v') w') : wpList Tryd.prog ops Q (o :: rest) a w := by
  obtain ⟨i0, hi0, hz0, hz1, hz2⟩ := info_parts byte_info
  cases A with
  | none =>
    obtain rfl : c = 0 := hr.nil rfl
    obtain rfl : m = 0 := by have := hr.cap; omega
    have hl : r = [] := List.eq_nil_of_length_eq_zero hr.len
    subst hl
    exact wpList_append_own_none hgd s x 54 ho base 5 i0 1 Tryd.underlying54 hi0 v n (cellsOf l) hs hown hx (h v w (by simpa using hown) (Below.refl _ _))
  | some ad =>
    refine wpList_append_own _ hgd s x 54 ho base 5 i0 (.int .u8 0) 1 1 Tryd.underlying54 hi0 hz0 hz1 hz2 rfl (by omega) v n (cellsOf l) hs hown ad m c (cellsOf r) hx (by rw [cellsOf_len, hr.len, Nat.mul_one]) hr.bts.read (cellsOf_one r) (by simp only [maxLen]; omega) (by omega) hbase ?_
    intro v' w' h1 h2 _
    have e : cellsOf l ++ cellsOf r = cellsOf (l ++ r) := by simp [cellsOf]
    rw [e] at h1
    exact h v' w' h1 ((Below.refl base w).grown h2 hbase (fun j hj => (hown.lt j hj).1))


/-- bytes at the head of a block of one's own -/
structure Head (w : World) (g n cap : Nat) (l : List Int) (rest : List Value) : Prop where
  box : Box w g 5 (cellsOf l ++ rest).toArray
  len : l.length = n
  fit : Fit l
  room : n ≤ cap
  max : cap ≤ maxLen

theorem Fit.set {l : List Int} (h : Fit l) (i : Nat) (z : Int) (h0 : 0 ≤ z) (h1 : z ≤ 255) : Fit (l.set i z) := fun y hy => by
  rcases List.mem_or_eq_of_mem_set hy with h2 | rfl
  · exact h y h2
  · exact ⟨h0, h1⟩
theorem head_of_own {w : World} {base : Nat} {v : Value} {n : Nat} {l : List Int} (h : w.ownsRow base 5 1 v n (cellsOf l)) (hf : Fit l) (h0 : 0 < n) : ∃ g cap rest, v = .slice (some ⟨g, 0, none⟩) n cap ∧ base ≤ g ∧ Head w g n cap l rest := by
  have hl : l.length = n := by have := h.1; simpa [cellsOf] using this
  rcases h.2 with ⟨_, h1⟩ | ⟨g, cap, cur, hv, hg, hh, hn, hm, hc, ht⟩
  · omega
  · refine ⟨g, cap, cur.toList.drop n, hv, hg, ⟨?_, hl, hf, hn, hm⟩⟩
    rw [Nat.mul_one] at ht
    unfold Box
    rw [hh, ← ht, List.take_append_drop]
theorem Head.cell {w : World} {g n cap : Nat} {l : List Int} {rest : List Value} (h : Head w g n cap l rest) (i : Nat) (hi : i < n) : w.cell? ⟨g, i, none⟩ = some (.int .u8 (l.getD i 0)) := by
  have hl := h.len
  rw [h.box.cell i]
  rw [List.getElem?_toArray, List.getElem?_append_left (by rw [cellsOf_len]; omega)]
  simp [cellsOf, List.getD_eq_getElem?_getD, List.getElem?_eq_getElem (show i < l.length by omega)]
theorem Head.put {w : World} {g n cap : Nat} {l : List Int} {rest : List Value} (h : Head w g n cap l rest) (i : Nat) (hi : i < n) (z : Int) (h0 : 0 ≤ z) (h1 : z ≤ 255) : Head (w.setCell ⟨g, i, none⟩ (.int .u8 z)) g n cap (l.set i z) rest := by
  have hl := h.len
  refine ⟨?_, by rw [List.length_set]; exact hl, h.fit.set i z h0 h1, h.room, h.max⟩
  have := h.box.put i (.int .u8 z)
  have e : (cellsOf l ++ rest).toArray.setIfInBounds i (.int .u8 z) = (cellsOf (l.set i z) ++ rest).toArray := by
    rw [List.setIfInBounds_toArray, List.set_append_left _ _ (by rw [cellsOf_len]; omega)]
    simp [cellsOf, List.map_set]
  rwa [e] at this
theorem Head.sl {w : World} {g n cap : Nat} {l : List Int} {rest : List Value} (h : Head w g n cap l rest) : Sl w (fun _ => True) (some ⟨g, 0, none⟩) n cap l :=
  ⟨⟨h.fit, fun _ => ⟨g, 0, rfl, h.box.lt, trivial, fun i hi => by rw [Nat.zero_add]; exact h.cell i (by rw [← h.len]; exact hi)⟩⟩, h.len, h.room, h.max, fun e => by cases e⟩
theorem Head.drew {w : World} {g n cap : Nat} {l : List Int} {rest : List Value} (h : Head w g n cap l rest) : Head w.drew g n cap l rest := ⟨h.box, h.len, h.fit, h.room, h.max⟩
theorem Head.on {w w' : World} {g n cap : Nat} {l : List Int} {rest : List Value} (h : Head w g n cap l rest) (k : Below w.heap.size w w') : Head w' g n cap l rest := ⟨h.box.on k, h.len, h.fit, h.room, h.max⟩


/-- the cells of numbers -/
def cellsI (l : List Int) : List Value := l.map (Value.int .i64)
theorem cellsI_len (l : List Int) : (cellsI l).length = l.length := by simp [cellsI]
theorem cellsI_one (l : List Int) : ∀ u ∈ cellsI l, u.oneCell' = true := by
  intro u hu
  obtain ⟨z, _, rfl⟩ := List.mem_map.1 hu
  rfl
theorem int_info : (Tryd.prog.info? 3).map (fun i => (i.zero, i.size, i.bytes)) = some (some (.int .i64 0), 1, 8) := by kernel_rfl

/-- a slice of numbers that reads as xs -/
structure Il (w : World) (A : Option Addr) (n c : Nat) (xs : List Int) : Prop where
  len : xs.length = n
  cap : n ≤ c
  max : c ≤ maxLen
  nil : A = none → c = 0
  typ : ∀ b off, A = some ⟨b, off, none⟩ → ∃ cs fr, w.heap[b]? = some (.cells cs 3 fr)
  at_ : 0 < n → ∃ b off, A = some ⟨b, off, none⟩ ∧ b < w.heap.size ∧ ∀ i, i < n → w.cell? ⟨b, off + i, none⟩ = some (.int .i64 (xs.getD i 0))

theorem Il.on {w w' : World} {A : Option Addr} {n c : Nat} {xs : List Int} (h : Il w A n c xs) (k : Below w.heap.size w w') : Il w' A n c xs :=
  ⟨h.len, h.cap, h.max, h.nil, fun b off e => by
    obtain ⟨cs, fr, hh⟩ := h.typ b off e
    exact ⟨cs, fr, (k.block b (Array.getElem?_eq_some_iff.1 hh).1).trans hh⟩, fun h0 => by
    obtain ⟨b, off, e, hb, hc⟩ := h.at_ h0
    exact ⟨b, off, e, Nat.lt_of_lt_of_le hb k.size, fun i hi => (k.cell (p := ⟨b, off + i, none⟩) hb).trans (hc i hi)⟩⟩
theorem Il.kept {w w' : World} {S : Nat → Prop} {A : Option Addr} {n c : Nat} {xs : List Int} (h : Il w A n c xs) (k : Kept S w w') (hS : ∀ b off, A = some ⟨b, off, none⟩ → ¬ S b) : Il w' A n c xs :=
  ⟨h.len, h.cap, h.max, h.nil, fun b off e => by
    obtain ⟨cs, fr, hh⟩ := h.typ b off e
    exact ⟨cs, fr, (k.block b (Array.getElem?_eq_some_iff.1 hh).1 (hS b off e)).trans hh⟩, fun h0 => by
    obtain ⟨b, off, e, hb, hc⟩ := h.at_ h0
    exact ⟨b, off, e, Nat.lt_of_lt_of_le hb k.size, fun i hi => (k.cell (p := ⟨b, off + i, none⟩) hb (hS b off e)).trans (hc i hi)⟩⟩
theorem Il.none (w : World) : Il w none 0 0 [] := ⟨rfl, Nat.le_refl _, Nat.zero_le _, fun _ => rfl, (fun b off e => by cases e), fun h => absurd h (by omega)⟩
theorem plain_add (b off i : Nat) : (⟨b, off, none⟩ : Addr).add i = ⟨b, off + i, none⟩ := by
  unfold Addr.add
  split
  · next h => subst h; simp
  · rfl
theorem Il.read {w : World} {ad : Addr} {n c : Nat} {l : List Int} (h : Il w (some ad) n c l) : ∀ j u, (cellsI l)[j]? = some u → w.cell? (ad.add j) = some u := by
  intro j u hu
  have hj : j < l.length := by
    have := (List.getElem?_eq_some_iff.1 hu).1
    simpa [cellsI] using this
  have hl := h.len
  obtain ⟨b, off, e, _, hc⟩ := h.at_ (by omega)
  injection e with e
  subst e
  rw [plain_add, hc j (by omega)]
  simp only [cellsI, List.getElem?_map, List.getElem?_eq_getElem hj, Option.map_some, Option.some.injEq] at hu
  subst hu
  simp [List.getD_eq_getElem?_getD, List.getElem?_eq_getElem hj]
theorem il_of_own {w : World} {base : Nat} {v : Value} {n : Nat} {l : List Int} (h : w.ownsRow base 3 1 v n (cellsI l)) : ∃ A c, v = .slice A n c ∧ Il w A n c l ∧ ∀ b off, A = some ⟨b, off, none⟩ → base ≤ b := by
  have hl : l.length = n := by have := h.1; simpa [cellsI] using this
  have hown := h
  rcases h.2 with ⟨rfl, rfl⟩ | ⟨g, cap, cur, rfl, hg, hh, hn, hm, _, _⟩
  · exact ⟨_, 0, rfl, ⟨hl, Nat.le_refl _, Nat.zero_le _, fun _ => rfl, (fun b off e => by cases e), fun h0 => by omega⟩, fun b off e => by cases e⟩
  · refine ⟨some ⟨g, 0, none⟩, cap, rfl, ⟨hl, hn, hm, (fun e => by cases e), (fun b off e => by cases e; exact ⟨_, _, hh⟩), fun _ => ⟨g, 0, rfl, (Array.getElem?_eq_some_iff.1 hh).1, fun i hi => ?_⟩⟩, fun b off e => by cases e; exact hg⟩
    rw [Nat.zero_add, hown.cellAt i (by omega)]
    simp [cellsI, List.getD_eq_getElem?_getD, List.getElem?_eq_getElem (show i < l.length by omega)]
/-- an append of numbers to a row of one's own -/
theorem wpList_append_il {w : World} {ops : Array Oper} {rest : List Oper} {o : Oper} {a : Act} {Q : Exit → Act → World → Prop} (hgd : o.guard = none) (s x : Operand)
    (ho : o.op = .call { callee := .builtin .append, args := #[s, x], argTypes := #[24, 24] })
    (base : Nat) (v : Value) (n : Nat) (l : List Int) (hs : a.eval s = v) (hown : w.ownsRow base 3 1 v n (cellsI l))
    (A : Option Addr) (m c : Nat) (r : List Int) (hx : a.eval x = .slice A m c) (hr : Il w A m c r) (h63 : n + m ≤ 1000000) (hbase : base ≤ w.heap.size)
    (h : ∀ v' w', w'.ownsRow base 3 1 v' (n + m) (cellsI (l ++ r)) → Below base w w' → wpList Tryd.prog ops Q rest (a.put o.dst v') w') : wpList Tryd.prog ops Q (o :: rest) a w := by
  obtain ⟨i0, hi0, hz0, hz1, hz2⟩ := info_parts int_info
  cases A with
  | none =>
    obtain rfl : c = 0 := hr.nil rfl
    obtain rfl : m = 0 := by have := hr.cap; omega
    have hl : r = [] := List.eq_nil_of_length_eq_zero hr.len
    subst hl
    exact wpList_append_own_none hgd s x 24 ho base 3 i0 1 Tryd.underlying24 hi0 v n (cellsI l) hs hown hx (h v w (by simpa using hown) (Below.refl _ _))
  | some ad =>
    refine wpList_append_own _ hgd s x 24 ho base 3 i0 (.int .i64 0) 1 8 Tryd.underlying24 hi0 hz0 hz1 hz2 rfl (by omega) v n (cellsI l) hs hown ad m c (cellsI r) hx (by rw [cellsI_len, hr.len, Nat.mul_one]) hr.read (cellsI_one r) (by simp only [maxLen]; omega) (by omega) hbase ?_
    intro v' w' h1 h2 _
    have e : cellsI l ++ cellsI r = cellsI (l ++ r) := by simp [cellsI]
    rw [e] at h1
    exact h v' w' h1 ((Below.refl base w).grown h2 hbase (fun j hj => (hown.lt j hj).1))

/-- a slice of structs of two numbers that reads as ks; its block is one of K's -/
structure Pl (w : World) (K : Nat → Prop) (A : Option Addr) (n : Nat) (ks : List (Int × Int)) : Prop where
  len : ks.length = n
  at_ : 0 < n → ∃ b off, A = some ⟨b, off, none⟩ ∧ b < w.heap.size ∧ K b ∧ ∀ i, i < n → w.cell? ⟨b, off + i * 2, none⟩ = some (.int .i64 (ks.getD i (0, 0)).1) ∧ w.cell? ⟨b, off + i * 2 + 1, none⟩ = some (.int .i64 (ks.getD i (0, 0)).2)
theorem Pl.kept {S : Nat → Prop} {w w' : World} {K : Nat → Prop} {A : Option Addr} {n : Nat} {ks : List (Int × Int)} (h : Pl w K A n ks) (k : Kept S w w') (hS : ∀ b, K b → ¬ S b) : Pl w' K A n ks :=
  ⟨h.len, fun h0 => by
    obtain ⟨b, off, e, hb, hk, hc⟩ := h.at_ h0
    exact ⟨b, off, e, Nat.lt_of_lt_of_le hb k.size, hk, fun i hi => ⟨(k.cell (p := ⟨b, off + i * 2, none⟩) hb (hS b hk)).trans (hc i hi).1, (k.cell (p := ⟨b, off + i * 2 + 1, none⟩) hb (hS b hk)).trans (hc i hi).2⟩⟩⟩
theorem Pl.mono {w : World} {K K' : Nat → Prop} {A : Option Addr} {n : Nat} {ks : List (Int × Int)} (h : Pl w K A n ks) (hK : ∀ b, b < w.heap.size → K b → K' b) : Pl w K' A n ks :=
  ⟨h.len, fun h0 => by obtain ⟨b, off, e, hb, hk, hc⟩ := h.at_ h0; exact ⟨b, off, e, hb, hK b hb hk, hc⟩⟩
theorem Pl.below {B : Nat} {w w' : World} {A : Option Addr} {n : Nat} {ks : List (Int × Int)} {K : Nat → Prop} (h : Pl w K A n ks) (k : Below B w w') (hB : ∀ b, b < w.heap.size → K b → b < B) : Pl w' K A n ks :=
  ⟨h.len, fun h0 => by
    obtain ⟨b, off, e, hb, hk, hc⟩ := h.at_ h0
    exact ⟨b, off, e, Nat.lt_of_lt_of_le hb k.size, hk, fun i hi => ⟨(k.cell (p := ⟨b, off + i * 2, none⟩) (hB b hb hk)).trans (hc i hi).1, (k.cell (p := ⟨b, off + i * 2 + 1, none⟩) (hB b hb hk)).trans (hc i hi).2⟩⟩⟩
theorem Pl.get {w : World} {K : Nat → Prop} {A : Option Addr} {n : Nat} {ks : List (Int × Int)} (h : Pl w K A n ks) {k : Nat} (hk : k < n) : ∃ b off, A = some ⟨b, off, none⟩ ∧ w.cell? ⟨b, off + k * 2, none⟩ = some (.int .i64 (ks.getD k (0, 0)).1) ∧ w.cell? ⟨b, off + k * 2 + 1, none⟩ = some (.int .i64 (ks.getD k (0, 0)).2) := by
  obtain ⟨b, off, e, _, _, hc⟩ := h.at_ (by omega)
  exact ⟨b, off, e, hc k hk⟩
theorem Sl.get {w : World} {K : Nat → Prop} {A : Option Addr} {n c : Nat} {l : List Int} (h : Sl w K A n c l) {k : Nat} (hk : k < n) : ∃ b off, A = some ⟨b, off, none⟩ ∧ w.cell? ⟨b, off + k, none⟩ = some (.int .u8 (l.getD k 0)) := by
  obtain ⟨b, off, e, _, _, hc⟩ := h.bts.at_ (by rw [h.len]; omega)
  exact ⟨b, off, e, hc k (by rw [h.len]; exact hk)⟩

end Go.Proofs.YthfpdebpepbejaaDoor
