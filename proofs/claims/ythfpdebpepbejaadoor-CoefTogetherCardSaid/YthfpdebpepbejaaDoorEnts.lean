/-
  The reference's list of codes in memory.
-/
import Derived.Test.YthfpdebpepbejaaDoorAgain
namespace Go.Proofs.YthfpdebpepbejaaDoor
open Go.RowKit

/-- the cells of an entry, and of a list of them -/
def cellsEn (e : En) : List Value := [.int .i64 e.1, .int .i64 (e.2.1 : Int), .int .i64 (e.2.2 : Int)]
def cellsE (L : List En) : List Value := L.flatMap cellsEn
theorem cellsE_len : ∀ L : List En, (cellsE L).length = L.length * 3
  | [] => rfl
  | e :: L => by
    have := cellsE_len L
    simp only [cellsE] at this
    simp [cellsE, cellsEn, this]
    omega
theorem cellsE_app (L M : List En) : cellsE (L ++ M) = cellsE L ++ cellsE M := by simp [cellsE]
theorem cellsE_at : ∀ (L : List En) (i : Nat) (e : En), L[i]? = some e → (cellsE L)[i * 3]? = some (.int .i64 e.1) ∧ (cellsE L)[i * 3 + 1]? = some (.int .i64 (e.2.1 : Int)) ∧ (cellsE L)[i * 3 + 2]? = some (.int .i64 (e.2.2 : Int))
  | [], i, e, h => by cases h
  | a :: L, 0, e, h => by
    simp at h
    subst h
    exact ⟨rfl, rfl, rfl⟩
  | a :: L, i + 1, e, h => by
    have := cellsE_at L i e (by simpa using h)
    have e1 : cellsE (a :: L) = cellsEn a ++ cellsE L := by simp [cellsE]
    have hl : (cellsEn a).length = 3 := rfl
    rw [e1]
    refine ⟨?_, ?_, ?_⟩
    · rw [List.getElem?_append_right (by omega), hl, show (i + 1) * 3 - 3 = i * 3 by omega]; exact this.1
    · rw [List.getElem?_append_right (by omega), hl, show (i + 1) * 3 + 1 - 3 = i * 3 + 1 by omega]; exact this.2.1
    · rw [List.getElem?_append_right (by omega), hl, show (i + 1) * 3 + 2 - 3 = i * 3 + 2 by omega]; exact this.2.2

/-- a slice that reads as a list of entries -/
structure Te (w : World) (A : Option Addr) (n : Nat) (L : List En) : Prop where
  len : L.length = n
  at_ : 0 < n → ∃ b off, A = some ⟨b, off, none⟩ ∧ b < w.heap.size ∧ ∀ (i : Nat) (e : En), L[i]? = some e →
    w.cell? ⟨b, off + i * 3, none⟩ = some (.int .i64 e.1) ∧ w.cell? ⟨b, off + i * 3 + 1, none⟩ = some (.int .i64 (e.2.1 : Int)) ∧ w.cell? ⟨b, off + i * 3 + 2, none⟩ = some (.int .i64 (e.2.2 : Int))
theorem Te.on {w w' : World} {A : Option Addr} {n : Nat} {L : List En} (h : Te w A n L) (k : Below w.heap.size w w') : Te w' A n L :=
  ⟨h.len, fun h0 => by
    obtain ⟨b, off, e, hb, hc⟩ := h.at_ h0
    exact ⟨b, off, e, Nat.lt_of_lt_of_le hb k.size, fun i e he => ⟨(k.cell (p := ⟨b, off + i * 3, none⟩) hb).trans (hc i e he).1, (k.cell (p := ⟨b, off + i * 3 + 1, none⟩) hb).trans (hc i e he).2.1, (k.cell (p := ⟨b, off + i * 3 + 2, none⟩) hb).trans (hc i e he).2.2⟩⟩⟩
theorem Te.kept {w w' : World} {S : Nat → Prop} {A : Option Addr} {n : Nat} {L : List En} (h : Te w A n L) (k : Kept S w w') (hS : ∀ b, b < w.heap.size → ¬ S b) : Te w' A n L :=
  ⟨h.len, fun h0 => by
    obtain ⟨b, off, e, hb, hc⟩ := h.at_ h0
    exact ⟨b, off, e, Nat.lt_of_lt_of_le hb k.size, fun i e he => ⟨(k.cell (p := ⟨b, off + i * 3, none⟩) hb (hS b hb)).trans (hc i e he).1, (k.cell (p := ⟨b, off + i * 3 + 1, none⟩) hb (hS b hb)).trans (hc i e he).2.1, (k.cell (p := ⟨b, off + i * 3 + 2, none⟩) hb (hS b hb)).trans (hc i e he).2.2⟩⟩⟩
theorem te_of_own {w : World} {base : Nat} {v : Value} {n : Nat} {L : List En} (h : w.ownsRow base 95 3 v n (cellsE L)) : ∃ A c, v = .slice A n c ∧ Te w A n L ∧ ∀ b off, A = some ⟨b, off, none⟩ → base ≤ b := by
  have hl : L.length = n := by have := h.1; rw [cellsE_len] at this; omega
  have hown := h
  rcases h.2 with ⟨rfl, rfl⟩ | ⟨g, cap, cur, rfl, hg, hh, hn, hm, _, _⟩
  · exact ⟨_, 0, rfl, ⟨hl, fun h0 => by omega⟩, fun b off e => by cases e⟩
  · refine ⟨some ⟨g, 0, none⟩, cap, rfl, ⟨hl, fun _ => ⟨g, 0, rfl, (Array.getElem?_eq_some_iff.1 hh).1, fun i e he => ?_⟩⟩, fun b off e => by cases e; exact hg⟩
    have hi : i < n := by have := (List.getElem?_eq_some_iff.1 he).1; omega
    obtain ⟨h1, h2, h3⟩ := cellsE_at L i e he
    refine ⟨?_, ?_, ?_⟩
    · rw [Nat.zero_add, hown.cellAt (i * 3) (by omega), h1]
    · rw [Nat.zero_add, hown.cellAt (i * 3 + 1) (by omega), h2]
    · rw [Nat.zero_add, hown.cellAt (i * 3 + 2) (by omega), h3]

theorem en_info : (Tryd.prog.info? 95).map (fun i => (i.zero, i.size, i.bytes)) = some (some (.agg #[.int .i64 0, .int .i64 0, .int .i64 0]), 3, 24) := by kernel_rfl
theorem info_parts3 : ∃ i, Tryd.prog.info? 95 = some i ∧ i.zero = some (.agg #[.int .i64 0, .int .i64 0, .int .i64 0]) ∧ i.size = 3 ∧ i.bytes = 24 := by
  obtain ⟨i, h1, h2⟩ := Option.map_eq_some_iff.1 en_info
  simp only [Prod.mk.injEq] at h2
  exact ⟨i, h1, h2.1, h2.2.1, h2.2.2⟩
/-- an append of one entry to a row of one's own -/
theorem wpList_append_en {w : World} {ops : Array Oper} {rest : List Oper} {o : Oper} {a : Act} {Q : Exit → Act → World → Prop} (hgd : o.guard = none) (s x : Operand)
    (ho : o.op = .call { callee := .builtin .append, args := #[s, x], argTypes := #[44, 44] })
    (base : Nat) (v : Value) (n : Nat) (L : List En) (e : En) (hs : a.eval s = v) (hown : w.ownsRow base 95 3 v n (cellsE L)) (g : Nat)
    (hx : a.eval x = .slice (some ⟨g, 0, none⟩) 1 1) (hb : Box w g 95 (cellsEn e).toArray) (hn : n ≤ 1000) (hbase : base ≤ w.heap.size)
    (h : ∀ v' w', w'.ownsRow base 95 3 v' (n + 1) (cellsE (L ++ [e])) → Below base w w' → wpList Tryd.prog ops Q rest (a.put o.dst v') w') : wpList Tryd.prog ops Q (o :: rest) a w := by
  obtain ⟨i0, hi0, hz0, hz1, hz2⟩ := info_parts3
  refine wpList_append_own _ hgd s x 44 ho base 95 i0 _ 3 24 Tryd.underlying44 hi0 hz0 hz1 hz2 rfl (by omega) v n (cellsE L) hs hown ⟨g, 0, none⟩ 1 1 (cellsEn e) hx rfl ?_ ?_ (by unfold maxLen; omega) (by omega) hbase ?_
  · intro j u hu
    rw [plain_add, Nat.zero_add, hb.cell j]
    simpa using hu
  · intro u hu
    simp [cellsEn] at hu
    rcases hu with rfl | rfl | rfl <;> rfl
  · intro v' w' h1 h2 _
    have e1 : cellsE (L ++ [e]) = cellsE L ++ cellsEn e := by rw [cellsE_app]; simp [cellsE]
    rw [← e1] at h1
    exact h v' w' h1 ((Below.refl base w).grown h2 hbase (fun j hj => (hown.lt j hj).1))
theorem ents_nil_own (w : World) (base : Nat) : w.ownsRow base 95 3 (.slice none 0 0) 0 (cellsE []) := ⟨rfl, .inl ⟨rfl, rfl⟩⟩
end Go.Proofs.YthfpdebpepbejaaDoor
