/-
  Codes by counts: mathematics, no code.
-/
import Derived.Test.YthfpdebpepbejaaDoorTake
namespace Go.Proofs.YthfpdebpepbejaaDoor
open Go.RowKit

/-- a value and its code -/
abbrev En := Int × Nat × Nat
/-- the counts as numbers -/
def cnt (B : List Int) (i : Nat) : Nat := (B.getD i 0).toNat
/-- the number behind the last code of i bits -/
def nx (c : Nat → Nat) : Nat → Nat
  | 0 => 0
  | i + 1 => 2 * nx c i + c i
/-- how many codes have at most i bits -/
def sm (c : Nat → Nat) : Nat → Nat
  | 0 => 0
  | i + 1 => sm c i + c i
/-- the first j codes of i + 1 bits -/
def row (c : Nat → Nat) (i j : Nat) : List (Nat × Nat) := (List.range j).map fun k => (2 * nx c i + k, i + 1)
/-- all codes of at most i bits -/
def pre (c : Nat → Nat) : Nat → List (Nat × Nat)
  | 0 => []
  | i + 1 => pre c i ++ row c i (c i)

section
variable {c : Nat → Nat}
theorem row_len (i j : Nat) : (row c i j).length = j := by simp [row]
theorem row_more (i j : Nat) : row c i (j + 1) = row c i j ++ [(2 * nx c i + j, i + 1)] := by simp [row, List.range_succ]
theorem pre_len : ∀ i, (pre c i).length = sm c i
  | 0 => rfl
  | i + 1 => by rw [pre, List.length_append, pre_len i, row_len, sm]
theorem mem_row {i j : Nat} {x : Nat × Nat} (h : x ∈ row c i j) : ∃ k, k < j ∧ x = (2 * nx c i + k, i + 1) := by
  obtain ⟨k, hk, rfl⟩ := List.mem_map.1 h
  exact ⟨k, List.mem_range.1 hk, rfl⟩
theorem mem_pre : ∀ {i : Nat} {x : Nat × Nat}, x ∈ pre c i → 1 ≤ x.2 ∧ x.2 ≤ i ∧ x.1 + 1 ≤ nx c x.2 ∧ (x.1 + 1) * 2 ^ (i - x.2) ≤ nx c i
  | 0, x, h => by cases h
  | i + 1, x, h => by
    rcases List.mem_append.1 h with h | h
    · obtain ⟨h1, h2, h3, h4⟩ := mem_pre h
      refine ⟨h1, by omega, h3, ?_⟩
      rw [show i + 1 - x.2 = (i - x.2) + 1 by omega, Nat.pow_succ, ← Nat.mul_assoc, nx]
      omega
    · obtain ⟨k, hk, rfl⟩ := mem_row h
      have : nx c (i + 1) = 2 * nx c i + c i := rfl
      refine ⟨by simp, Nat.le_refl _, ?_, ?_⟩
      · show 2 * nx c i + k + 1 ≤ nx c (i + 1)
        omega
      · show (2 * nx c i + k + 1) * 2 ^ (i + 1 - (i + 1)) ≤ _
        rw [Nat.sub_self, Nat.pow_zero]
        omega
/-- a code that comes later is no shorter, and greater than the earlier one however it is gone on with -/
def Later (x y : Nat × Nat) : Prop := x.2 ≤ y.2 ∧ (x.1 + 1) * 2 ^ (y.2 - x.2) ≤ y.1
theorem row_later (i : Nat) : ∀ j, (row c i j).Pairwise Later
  | 0 => List.Pairwise.nil
  | j + 1 => by
    rw [row_more, List.pairwise_append]
    refine ⟨row_later i j, List.pairwise_singleton _ _, ?_⟩
    intro x hx y hy
    obtain ⟨k, hk, rfl⟩ := mem_row hx
    simp at hy
    subst hy
    refine ⟨Nat.le_refl _, ?_⟩
    show (2 * nx c i + k + 1) * 2 ^ (i + 1 - (i + 1)) ≤ 2 * nx c i + j
    rw [Nat.sub_self, Nat.pow_zero]
    omega
theorem pre_later : ∀ i, (pre c i).Pairwise Later
  | 0 => List.Pairwise.nil
  | i + 1 => by
    rw [pre, List.pairwise_append]
    refine ⟨pre_later i, row_later i _, ?_⟩
    intro x hx y hy
    obtain ⟨h1, h2, h3, h4⟩ := mem_pre hx
    obtain ⟨k, hk, rfl⟩ := mem_row hy
    refine ⟨by show x.2 ≤ i + 1; omega, ?_⟩
    show (x.1 + 1) * 2 ^ (i + 1 - x.2) ≤ 2 * nx c i + k
    rw [show i + 1 - x.2 = (i - x.2) + 1 by omega, Nat.pow_succ, ← Nat.mul_assoc]
    omega
/-- one code and the next one -/
theorem pre_next : ∀ (i p : Nat) (x y : Nat × Nat), (pre c i)[p]? = some x → (pre c i)[p + 1]? = some y → x.2 < y.2 ∨ (x.2 = y.2 ∧ y.1 = x.1 + 1)
  | 0, p, x, y, h, _ => by cases h
  | i + 1, p, x, y, h, h' => by
    rw [pre] at h h'
    by_cases h1 : p + 1 < (pre c i).length
    · rw [List.getElem?_append_left (by omega)] at h
      rw [List.getElem?_append_left h1] at h'
      exact pre_next i p x y h h'
    · rw [List.getElem?_append_right (by omega)] at h'
      obtain ⟨k', hk', rfl⟩ := mem_row (List.mem_of_getElem? h')
      by_cases h2 : p < (pre c i).length
      · rw [List.getElem?_append_left h2] at h
        have := mem_pre (List.mem_of_getElem? h)
        left
        show x.2 < i + 1
        omega
      · rw [List.getElem?_append_right (by omega)] at h
        obtain ⟨hp, hx⟩ := List.getElem?_eq_some_iff.1 h
        obtain ⟨hp', hy⟩ := List.getElem?_eq_some_iff.1 h'
        simp [row] at hx hy
        right
        rw [← hx]
        refine ⟨rfl, ?_⟩
        show 2 * nx c i + k' = 2 * nx c i + _ + 1
        omega
theorem row_new (i j : Nat) : (2 * nx c i + j, i + 1) ∉ pre c i ++ row c i j := by
  intro h
  rcases List.mem_append.1 h with h | h
  · have := (mem_pre h).2.1
    simp at this
    omega
  · obtain ⟨k, hk, e⟩ := mem_row h
    simp at e
    omega
end

/-- values with their codes -/
def ents (V : List Int) (cs : List (Nat × Nat)) : List En := V.zip cs
theorem ents_more : ∀ (cs : List (Nat × Nat)) (V : List Int) (x : Nat × Nat), cs.length < V.length → ents V (cs ++ [x]) = ents V cs ++ [(V.getD cs.length 0, x)]
  | [], V, x, h => by
    cases V with
    | nil => simp at h
    | cons a V => simp [ents]
  | y :: cs, V, x, h => by
    cases V with
    | nil => simp at h
    | cons a V =>
      have := ents_more cs V x (by simpa using h)
      simp only [ents] at this
      simp [ents, this]
theorem ents_len {V : List Int} {cs : List (Nat × Nat)} (h : cs.length ≤ V.length) : (ents V cs).length = cs.length := by simp [ents]; omega
theorem ents_at {V : List Int} {cs : List (Nat × Nat)} {p : Nat} {e : En} : (ents V cs)[p]? = some e ↔ V[p]? = some e.1 ∧ cs[p]? = some e.2 := by
  rw [ents, List.getElem?_zip_eq_some]
theorem mem_ents {V : List Int} {cs : List (Nat × Nat)} {e : En} (h : e ∈ ents V cs) : e.1 ∈ V ∧ e.2 ∈ cs := by
  obtain ⟨a, b⟩ := e
  exact List.of_mem_zip h
theorem fst_ents {V : List Int} : ∀ {cs : List (Nat × Nat)} {e : En}, e ∈ ents V cs → e.1 ∈ V.take cs.length := by
  intro cs e h
  obtain ⟨p, hp⟩ := List.getElem?_of_mem h
  obtain ⟨h1, h2⟩ := ents_at.1 hp
  have hl := (List.getElem?_eq_some_iff.1 h2).1
  exact List.mem_of_getElem? (by rw [List.getElem?_take_of_lt hl]; exact h1)

/-- a value's entry -/
def fnd (L : List En) (v : Int) : Option En := L.find? fun e => e.1 == v
/-- a value's code; 0 of no bits: it has none -/
def codeOf (L : List En) (v : Int) : Nat × Nat := ((fnd L v).map (·.2)).getD (0, 0)
/-- a code's entry -/
def get (L : List En) (x : Nat × Nat) : Option En := L.find? fun e => e.2 == x
theorem fnd_some {L : List En} {v : Int} {e : En} (h : fnd L v = some e) : e ∈ L ∧ e.1 = v := ⟨List.mem_of_find?_eq_some h, by simpa using List.find?_some h⟩
theorem get_some {L : List En} {x : Nat × Nat} {e : En} (h : get L x = some e) : e ∈ L ∧ e.2 = x := ⟨List.mem_of_find?_eq_some h, by simpa using List.find?_some h⟩
theorem fnd_more {L : List En} {e : En} (h : ∀ y ∈ L, y.1 ≠ e.1) (v : Int) : fnd (L ++ [e]) v = if v = e.1 then some e else fnd L v := by
  unfold fnd
  rw [List.find?_append]
  by_cases hv : v = e.1
  · subst hv
    rw [if_pos rfl, List.find?_eq_none.2 (fun y hy => by simpa using h y hy)]
    simp
  · rw [if_neg hv]
    have : [e].find? (fun e => e.1 == v) = none := by simp; exact fun e' => hv e'.symm
    rw [this]; simp
theorem get_more {L : List En} {e : En} (h : ∀ y ∈ L, y.2 ≠ e.2) (x : Nat × Nat) : get (L ++ [e]) x = if x = e.2 then some e else get L x := by
  unfold get
  rw [List.find?_append]
  by_cases hv : x = e.2
  · subst hv
    rw [if_pos rfl, List.find?_eq_none.2 (fun y hy => by simpa using h y hy)]
    simp
  · rw [if_neg hv]
    have : [e].find? (fun e => e.2 == x) = none := by simp; exact fun e' => hv e'.symm
    rw [this]; simp

/-- a specification that may be -/
structure Valid (B V : List Int) : Prop where
  nn : ∀ i, i < 16 → 0 ≤ B.getD i 0
  sum : sm (cnt B) 16 = V.length
  pos : 0 < V.length
  few : V.length ≤ 256
  rng : ∀ v ∈ V, 0 ≤ v ∧ v ≤ 255
  dif : V.Nodup
  fits : ∀ i, i < 16 → nx (cnt B) (i + 1) < 2 ^ (i + 1)
/-- its codes -/
def codes (B V : List Int) : List En := ents V (pre (cnt B) 16)

theorem erase_nodup_mem {V : List Int} (h : V.Nodup) (z v : Int) (hv : v ∈ V.erase z) : v ≠ z ∧ v ∈ V := by
  have := (h.mem_erase_iff).1 hv
  exact this
theorem nodup_few : ∀ (n : Nat) (V : List Int), V.Nodup → (∀ v ∈ V, 0 ≤ v ∧ v < (n : Int)) → V.length ≤ n
  | 0, V, _, h => by
    cases V with
    | nil => simp
    | cons a V => have := h a (by simp); omega
  | n + 1, V, hd, h => by
    have := nodup_few n (V.erase n) (hd.erase _) (fun v hv => by
      obtain ⟨h1, h2⟩ := erase_nodup_mem hd _ v hv
      have := h v h2
      omega)
    have h2 : V.length ≤ (V.erase (n : Int)).length + 1 := by
      rw [List.length_erase]
      split <;> omega
    omega

theorem sm_mono {c : Nat → Nat} {i j : Nat} (h : i ≤ j) : sm c i ≤ sm c j := by
  induction j with
  | zero => obtain rfl : i = 0 := by omega
            exact Nat.le_refl _
  | succ j ih =>
    by_cases e : i = j + 1
    · subst e; exact Nat.le_refl _
    · exact Nat.le_trans (ih (by omega)) (by rw [sm]; omega)
theorem pow16 {i : Nat} (h : i ≤ 16) : 2 ^ i ≤ 65536 := Nat.le_trans (Nat.pow_le_pow_right (by omega) h) (by decide)
theorem Valid.code {B V : List Int} (h : Valid B V) {e : En} (he : e ∈ codes B V) : 1 ≤ e.2.2 ∧ e.2.2 ≤ 16 ∧ e.2.1 + 1 < 2 ^ e.2.2 ∧ 0 ≤ e.1 ∧ e.1 ≤ 255 := by
  obtain ⟨h1, h2⟩ := mem_ents he
  obtain ⟨a, b, c, _⟩ := mem_pre h2
  have := h.rng _ h1
  refine ⟨a, b, ?_, this.1, this.2⟩
  have h3 := h.fits (e.2.2 - 1) (by omega)
  rw [show e.2.2 - 1 + 1 = e.2.2 by omega] at h3
  omega
theorem Valid.lens {B V : List Int} (h : Valid B V) : (pre (cnt B) 16).length = V.length := by rw [pre_len, h.sum]
end Go.Proofs.YthfpdebpepbejaaDoor
