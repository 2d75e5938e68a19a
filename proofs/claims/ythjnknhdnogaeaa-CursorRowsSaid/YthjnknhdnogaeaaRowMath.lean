/-
  CursorRows: numbers one behind the other, as bytes: plain mathematics; and slices of ints.
-/
import Derived.Test.YthjnknhdnogaeaaBackFun
namespace Go.Proofs.Ythjnknhdnogaeaa
open Go.RowKit

/-- the width that a byte of the law asks for -/
def wdOf (z : Int) : Nat := 2 ^ (z % 4).toNat

theorem wd_cases (z : Int) : (z % 4 = 0 ∧ wdOf z = 1) ∨ (z % 4 = 1 ∧ wdOf z = 2) ∨ (z % 4 = 2 ∧ wdOf z = 4) ∨ (z % 4 = 3 ∧ wdOf z = 8) := by
  have h0 := Int.emod_nonneg z (show (4 : Int) ≠ 0 by omega)
  have h1 := Int.emod_lt_of_pos z (show (0 : Int) < 4 by omega)
  rcases (by omega : z % 4 = 0 ∨ z % 4 = 1 ∨ z % 4 = 2 ∨ z % 4 = 3) with h | h | h | h
  · exact .inl ⟨h, by rw [wdOf, h]; rfl⟩
  · exact .inr (.inl ⟨h, by rw [wdOf, h]; rfl⟩)
  · exact .inr (.inr (.inl ⟨h, by rw [wdOf, h]; rfl⟩))
  · exact .inr (.inr (.inr ⟨h, by rw [wdOf, h]; rfl⟩))
theorem wd_ok (z : Int) : okWidth (wdOf z) := by
  unfold okWidth
  rcases wd_cases z with ⟨_, h⟩ | ⟨_, h⟩ | ⟨_, h⟩ | ⟨_, h⟩ <;> rw [h] <;> decide
theorem wd_wrap (z : Int) : wrap64 (2 ^ (z % 4).toNat) = ((wdOf z : Nat) : Int) := by
  rcases wd_cases z with ⟨h, e⟩ | ⟨h, e⟩ | ⟨h, e⟩ | ⟨h, e⟩ <;> rw [h, e] <;> decide +kernel
theorem wd_bd {m : Nat} (h : okWidth m) : 1 ≤ m ∧ m ≤ 8 := by have := of_decide_eq_true h; omega
theorem wd_pow {m : Nat} (h : okWidth m) (h8 : m < 8) : wrap64 (2 ^ (8 * m)) = (256 : Int) ^ m := by
  have h2 := of_decide_eq_true h
  obtain rfl | rfl | rfl : m = 1 ∨ m = 2 ∨ m = 4 := by omega
  all_goals decide +kernel

/-- the bytes of the first k numbers -/
def rowsTo (big : Bool) (xs zs : List Int) : Nat → List Int
  | 0 => []
  | k + 1 => rowsTo big xs zs k ++ told (max (xs.getD k 0) 0) (wdOf (zs.getD k 0)) big

section
variable (big : Bool) (xs zs : List Int)
theorem rows_fit (k : Nat) : Fit (rowsTo big xs zs k) := by
  induction k with
  | zero => intro z hz; cases hz
  | succ k ih => exact ih.app (told_fit _ _ _)
theorem rows_len (k : Nat) : (rowsTo big xs zs (k + 1)).length = (rowsTo big xs zs k).length + wdOf (zs.getD k 0) := by
  simp [rowsTo, told_len]
theorem rows_le (k : Nat) : (rowsTo big xs zs k).length ≤ 8 * k := by
  induction k with
  | zero => simp [rowsTo]
  | succ k ih => rw [rows_len]; have := (wd_bd (wd_ok (zs.getD k 0))).2; omega
theorem rows_more (k m : Nat) (h : k ≤ m) : ∃ r, rowsTo big xs zs m = rowsTo big xs zs k ++ r := by
  induction m with
  | zero =>
    obtain rfl : k = 0 := by omega
    exact ⟨[], by simp⟩
  | succ m ih =>
    by_cases e : k = m + 1
    · subst e; exact ⟨[], by simp⟩
    · obtain ⟨r, hr⟩ := ih (by omega)
      exact ⟨r ++ told (max (xs.getD m 0) 0) (wdOf (zs.getD m 0)) big, by rw [rowsTo, hr, List.append_assoc]⟩
theorem rows_mono (k m : Nat) (h : k ≤ m) : (rowsTo big xs zs k).length ≤ (rowsTo big xs zs m).length := by
  obtain ⟨r, hr⟩ := rows_more big xs zs k m h
  rw [hr, List.length_append]
  omega
theorem rows_at (k m : Nat) (h : k < m) : ((rowsTo big xs zs m).drop (rowsTo big xs zs k).length).take (wdOf (zs.getD k 0)) = told (max (xs.getD k 0) 0) (wdOf (zs.getD k 0)) big := by
  obtain ⟨r, hr⟩ := rows_more big xs zs (k + 1) m h
  rw [hr, rowsTo, List.append_assoc, List.drop_left, List.take_left' (told_len _ _ _)]
end

/-- a slice of ints that reads as xs; its block is one of K's -/
structure Il (w : World) (K : Nat → Prop) (A : Option Addr) (n : Nat) (xs : List Int) : Prop where
  len : xs.length = n
  bd : ∀ i, -9223372036854775808 ≤ xs.getD i 0 ∧ xs.getD i 0 ≤ 9223372036854775807
  at_ : 0 < n → ∃ b off, A = some ⟨b, off, none⟩ ∧ b < w.heap.size ∧ K b ∧ ∀ i, i < n → w.cell? ⟨b, off + i, none⟩ = some (.int .i64 (xs.getD i 0))

theorem Il.kept {S : Nat → Prop} {w w' : World} {K : Nat → Prop} {A : Option Addr} {n : Nat} {xs : List Int} (h : Il w K A n xs) (k : Kept S w w') (hS : ∀ b, K b → ¬ S b) : Il w' K A n xs :=
  ⟨h.len, h.bd, fun h0 => by
    obtain ⟨b, off, e, hb, hk, hc⟩ := h.at_ h0
    exact ⟨b, off, e, Nat.lt_of_lt_of_le hb k.size, hk, fun i hi => (k.cell (p := ⟨b, off + i, none⟩) hb (hS b hk)).trans (hc i hi)⟩⟩
theorem Il.below {B : Nat} {w w' : World} {A : Option Addr} {n : Nat} {xs : List Int} {K : Nat → Prop} (h : Il w K A n xs) (k : Below B w w') (hB : ∀ b, b < w.heap.size → K b → b < B) : Il w' K A n xs :=
  ⟨h.len, h.bd, fun h0 => by
    obtain ⟨b, off, e, hb, hk, hc⟩ := h.at_ h0
    exact ⟨b, off, e, Nat.lt_of_lt_of_le hb k.size, hk, fun i hi => (k.cell (p := ⟨b, off + i, none⟩) (hB b hb hk)).trans (hc i hi)⟩⟩
theorem Il.mono {w : World} {K K' : Nat → Prop} {A : Option Addr} {n : Nat} {xs : List Int} (h : Il w K A n xs) (hK : ∀ b, b < w.heap.size → K b → K' b) : Il w K' A n xs :=
  ⟨h.len, h.bd, fun h0 => by obtain ⟨b, off, e, hb, hk, hc⟩ := h.at_ h0; exact ⟨b, off, e, hb, hK b hb hk, hc⟩⟩
theorem Il.get {w : World} {K : Nat → Prop} {A : Option Addr} {n : Nat} {xs : List Int} (h : Il w K A n xs) {k : Nat} (hk : k < n) : ∃ b off, A = some ⟨b, off, none⟩ ∧ w.cell? ⟨b, off + k, none⟩ = some (.int .i64 (xs.getD k 0)) := by
  obtain ⟨b, off, e, _, _, hc⟩ := h.at_ (by omega)
  exact ⟨b, off, e, hc k hk⟩
theorem Sl.get {w : World} {K : Nat → Prop} {A : Option Addr} {n c : Nat} {l : List Int} (h : Sl w K A n c l) {k : Nat} (hk : k < n) : ∃ b off, A = some ⟨b, off, none⟩ ∧ w.cell? ⟨b, off + k, none⟩ = some (.int .u8 (l.getD k 0)) := by
  obtain ⟨b, off, e, _, _, hc⟩ := h.bts.at_ (by rw [h.len]; omega)
  exact ⟨b, off, e, hc k (by rw [h.len]; exact hk)⟩

end Go.Proofs.Ythjnknhdnogaeaa
