/-
  Codes by counts: mathematics, no code. A specification in memory; the contracts of own and copied. The contract of copied. The contract of differ. The contract of fit. Blocks of 64 numbers in memory; the contracts of inRange, Right and Order. HuffAgain: the walk. HuffRises: the walk.
-/
import Derived.Test.YtgipngedmblnmaaDoorBase
import Derived.Deep.MidRow
import Derived.Deep.RegionHeld3
import Derived.Laws.Rows
namespace Go.Proofs.YtgipngedmblnmaaDoor
open Go.RowKit

/-- a value and its code -/
abbrev En := Int × Nat × Nat
/-- the counts as numbers -/
def cnt (B : List Int) (i : Nat) : Nat := (B.getD i 0).toNat
/-- the number behind the last code of i bits -/
def nx (c : Nat → Nat) : Nat → Nat
  | 0 => 0
  | i + 1 => 2 * nx c i + c i
/-- how many codes have at most i bits -/
def sm (c : Nat → Nat) : Nat → Nat
  | 0 => 0
  | i + 1 => sm c i + c i
/-- the first j codes of i + 1 bits -/
def row (c : Nat → Nat) (i j : Nat) : List (Nat × Nat) := (List.range j).map fun k => (2 * nx c i + k, i + 1)
/-- all codes of at most i bits -/
def pre (c : Nat → Nat) : Nat → List (Nat × Nat)
  | 0 => []
  | i + 1 => pre c i ++ row c i (c i)

section
variable {c : Nat → Nat}
theorem row_len (i j : Nat) : (row c i j).length = j := by simp [row]
theorem row_more (i j : Nat) : row c i (j + 1) = row c i j ++ [(2 * nx c i + j, i + 1)] := by simp [row, List.range_succ]
theorem pre_len : ∀ i, (pre c i).length = sm c i
  | 0 => rfl
  | i + 1 => by rw [pre, List.length_append, pre_len i, row_len, sm]
theorem mem_row {i j : Nat} {x : Nat × Nat} (h : x ∈ row c i j) : ∃ k, k < j ∧ x = (2 * nx c i + k, i + 1) := by
  obtain ⟨k, hk, rfl⟩ := List.mem_map.1 h
  exact ⟨k, List.mem_range.1 hk, rfl⟩
theorem mem_pre : ∀ {i : Nat} {x : Nat × Nat}, x ∈ pre c i → 1 ≤ x.2 ∧ x.2 ≤ i ∧ x.1 + 1 ≤ nx c x.2 ∧ (x.1 + 1) * 2 ^ (i - x.2) ≤ nx c i
  | 0, x, h => by cases h
  | i + 1, x, h => by
    rcases List.mem_append.1 h with h | h
    · obtain ⟨h1, h2, h3, h4⟩ := mem_pre h
      refine ⟨h1, by omega, h3, ?_⟩
      rw [show i + 1 - x.2 = (i - x.2) + 1 by omega, Nat.pow_succ, ← Nat.mul_assoc, nx]
      omega
    · obtain ⟨k, hk, rfl⟩ := mem_row h
      have : nx c (i + 1) = 2 * nx c i + c i := rfl
      refine ⟨by simp, Nat.le_refl _, ?_, ?_⟩
      · show 2 * nx c i + k + 1 ≤ nx c (i + 1)
        omega
      · show (2 * nx c i + k + 1) * 2 ^ (i + 1 - (i + 1)) ≤ _
        rw [Nat.sub_self, Nat.pow_zero]
        omega
/-- a code that comes later is no shorter, and greater than the earlier one however it is gone on with -/
def Later (x y : Nat × Nat) : Prop := x.2 ≤ y.2 ∧ (x.1 + 1) * 2 ^ (y.2 - x.2) ≤ y.1
theorem row_later (i : Nat) : ∀ j, (row c i j).Pairwise Later
  | 0 => List.Pairwise.nil
  | j + 1 => by
    rw [row_more, List.pairwise_append]
    refine ⟨row_later i j, List.pairwise_singleton _ _, ?_⟩
    intro x hx y hy
    obtain ⟨k, hk, rfl⟩ := mem_row hx
    simp at hy
    subst hy
    refine ⟨Nat.le_refl _, ?_⟩
    show (2 * nx c i + k + 1) * 2 ^ (i + 1 - (i + 1)) ≤ 2 * nx c i + j
    rw [Nat.sub_self, Nat.pow_zero]
    omega
theorem pre_later : ∀ i, (pre c i).Pairwise Later
  | 0 => List.Pairwise.nil
  | i + 1 => by
    rw [pre, List.pairwise_append]
    refine ⟨pre_later i, row_later i _, ?_⟩
    intro x hx y hy
    obtain ⟨h1, h2, h3, h4⟩ := mem_pre hx
    obtain ⟨k, hk, rfl⟩ := mem_row hy
    refine ⟨by show x.2 ≤ i + 1; omega, ?_⟩
    show (x.1 + 1) * 2 ^ (i + 1 - x.2) ≤ 2 * nx c i + k
    rw [show i + 1 - x.2 = (i - x.2) + 1 by omega, Nat.pow_succ, ← Nat.mul_assoc]
    omega
/-- one code and the next one -/
theorem pre_next : ∀ (i p : Nat) (x y : Nat × Nat), (pre c i)[p]? = some x → (pre c i)[p + 1]? = some y → x.2 < y.2 ∨ (x.2 = y.2 ∧ y.1 = x.1 + 1)
  | 0, p, x, y, h, _ => by cases h
  | i + 1, p, x, y, h, h' => by
    rw [pre] at h h'
    by_cases h1 : p + 1 < (pre c i).length
    · rw [List.getElem?_append_left (by omega)] at h
      rw [List.getElem?_append_left h1] at h'
      exact pre_next i p x y h h'
    · rw [List.getElem?_append_right (by omega)] at h'
      obtain ⟨k', hk', rfl⟩ := mem_row (List.mem_of_getElem? h')
      by_cases h2 : p < (pre c i).length
      · rw [List.getElem?_append_left h2] at h
        have := mem_pre (List.mem_of_getElem? h)
        left
        show x.2 < i + 1
        omega
      · rw [List.getElem?_append_right (by omega)] at h
        obtain ⟨hp, hx⟩ := List.getElem?_eq_some_iff.1 h
        obtain ⟨hp', hy⟩ := List.getElem?_eq_some_iff.1 h'
        simp [row] at hx hy
        right
        rw [← hx]
        refine ⟨rfl, ?_⟩
        show 2 * nx c i + k' = 2 * nx c i + _ + 1
        omega
theorem row_new (i j : Nat) : (2 * nx c i + j, i + 1) ∉ pre c i ++ row c i j := by
  intro h
  rcases List.mem_append.1 h with h | h
  · have := (mem_pre h).2.1
    simp at this
    omega
  · obtain ⟨k, hk, e⟩ := mem_row h
    simp at e
    omega
end

/-- values with their codes -/
def ents (V : List Int) (cs : List (Nat × Nat)) : List En := V.zip cs
theorem ents_more : ∀ (cs : List (Nat × Nat)) (V : List Int) (x : Nat × Nat), cs.length < V.length → ents V (cs ++ [x]) = ents V cs ++ [(V.getD cs.length 0, x)]
  | [], V, x, h => by
    cases V with
    | nil => simp at h
    | cons a V => simp [ents]
  | y :: cs, V, x, h => by
    cases V with
    | nil => simp at h
    | cons a V =>
      have := ents_more cs V x (by simpa using h)
      simp only [ents] at this
      simp [ents, this]
theorem ents_len {V : List Int} {cs : List (Nat × Nat)} (h : cs.length ≤ V.length) : (ents V cs).length = cs.length := by simp [ents]; omega
theorem ents_at {V : List Int} {cs : List (Nat × Nat)} {p : Nat} {e : En} : (ents V cs)[p]? = some e ↔ V[p]? = some e.1 ∧ cs[p]? = some e.2 := by
  rw [ents, List.getElem?_zip_eq_some]
theorem mem_ents {V : List Int} {cs : List (Nat × Nat)} {e : En} (h : e ∈ ents V cs) : e.1 ∈ V ∧ e.2 ∈ cs := by
  obtain ⟨a, b⟩ := e
  exact List.of_mem_zip h
theorem fst_ents {V : List Int} : ∀ {cs : List (Nat × Nat)} {e : En}, e ∈ ents V cs → e.1 ∈ V.take cs.length := by
  intro cs e h
  obtain ⟨p, hp⟩ := List.getElem?_of_mem h
  obtain ⟨h1, h2⟩ := ents_at.1 hp
  have hl := (List.getElem?_eq_some_iff.1 h2).1
  exact List.mem_of_getElem? (by rw [List.getElem?_take_of_lt hl]; exact h1)

/-- a value's entry -/
def fnd (L : List En) (v : Int) : Option En := L.find? fun e => e.1 == v
/-- a value's code; 0 of no bits: it has none -/
def codeOf (L : List En) (v : Int) : Nat × Nat := ((fnd L v).map (·.2)).getD (0, 0)
/-- a code's entry -/
def get (L : List En) (x : Nat × Nat) : Option En := L.find? fun e => e.2 == x
theorem fnd_some {L : List En} {v : Int} {e : En} (h : fnd L v = some e) : e ∈ L ∧ e.1 = v := ⟨List.mem_of_find?_eq_some h, by simpa using List.find?_some h⟩
theorem get_some {L : List En} {x : Nat × Nat} {e : En} (h : get L x = some e) : e ∈ L ∧ e.2 = x := ⟨List.mem_of_find?_eq_some h, by simpa using List.find?_some h⟩
theorem fnd_more {L : List En} {e : En} (h : ∀ y ∈ L, y.1 ≠ e.1) (v : Int) : fnd (L ++ [e]) v = if v = e.1 then some e else fnd L v := by
  unfold fnd
  rw [List.find?_append]
  by_cases hv : v = e.1
  · subst hv
    rw [if_pos rfl, List.find?_eq_none.2 (fun y hy => by simpa using h y hy)]
    simp
  · rw [if_neg hv]
    have : [e].find? (fun e => e.1 == v) = none := by simp; exact fun e' => hv e'.symm
    rw [this]; simp
theorem get_more {L : List En} {e : En} (h : ∀ y ∈ L, y.2 ≠ e.2) (x : Nat × Nat) : get (L ++ [e]) x = if x = e.2 then some e else get L x := by
  unfold get
  rw [List.find?_append]
  by_cases hv : x = e.2
  · subst hv
    rw [if_pos rfl, List.find?_eq_none.2 (fun y hy => by simpa using h y hy)]
    simp
  · rw [if_neg hv]
    have : [e].find? (fun e => e.2 == x) = none := by simp; exact fun e' => hv e'.symm
    rw [this]; simp

/-- a specification that may be -/
structure Valid (B V : List Int) : Prop where
  nn : ∀ i, i < 16 → 0 ≤ B.getD i 0
  sum : sm (cnt B) 16 = V.length
  pos : 0 < V.length
  few : V.length ≤ 256
  rng : ∀ v ∈ V, 0 ≤ v ∧ v ≤ 255
  dif : V.Nodup
  fits : ∀ i, i < 16 → nx (cnt B) (i + 1) < 2 ^ (i + 1)
/-- its codes -/
def codes (B V : List Int) : List En := ents V (pre (cnt B) 16)

theorem erase_nodup_mem {V : List Int} (h : V.Nodup) (z v : Int) (hv : v ∈ V.erase z) : v ≠ z ∧ v ∈ V := by
  have := (h.mem_erase_iff).1 hv
  exact this
theorem nodup_few : ∀ (n : Nat) (V : List Int), V.Nodup → (∀ v ∈ V, 0 ≤ v ∧ v < (n : Int)) → V.length ≤ n
  | 0, V, _, h => by
    cases V with
    | nil => simp
    | cons a V => have := h a (by simp); omega
  | n + 1, V, hd, h => by
    have := nodup_few n (V.erase n) (hd.erase _) (fun v hv => by
      obtain ⟨h1, h2⟩ := erase_nodup_mem hd _ v hv
      have := h v h2
      omega)
    have h2 : V.length ≤ (V.erase (n : Int)).length + 1 := by
      rw [List.length_erase]
      split <;> omega
    omega

theorem sm_mono {c : Nat → Nat} {i j : Nat} (h : i ≤ j) : sm c i ≤ sm c j := by
  induction j with
  | zero => obtain rfl : i = 0 := by omega
            exact Nat.le_refl _
  | succ j ih =>
    by_cases e : i = j + 1
    · subst e; exact Nat.le_refl _
    · exact Nat.le_trans (ih (by omega)) (by rw [sm]; omega)
theorem pow16 {i : Nat} (h : i ≤ 16) : 2 ^ i ≤ 65536 := Nat.le_trans (Nat.pow_le_pow_right (by omega) h) (by decide)
theorem Valid.code {B V : List Int} (h : Valid B V) {e : En} (he : e ∈ codes B V) : 1 ≤ e.2.2 ∧ e.2.2 ≤ 16 ∧ e.2.1 + 1 < 2 ^ e.2.2 ∧ 0 ≤ e.1 ∧ e.1 ≤ 255 := by
  obtain ⟨h1, h2⟩ := mem_ents he
  obtain ⟨a, b, c, _⟩ := mem_pre h2
  have := h.rng _ h1
  refine ⟨a, b, ?_, this.1, this.2⟩
  have h3 := h.fits (e.2.2 - 1) (by omega)
  rw [show e.2.2 - 1 + 1 = e.2.2 by omega] at h3
  omega
theorem Valid.lens {B V : List Int} (h : Valid B V) : (pre (cnt B) 16).length = V.length := by rw [pre_len, h.sum]
end Go.Proofs.YtgipngedmblnmaaDoor

namespace Go.Proofs.YtgipngedmblnmaaDoor
open Go.RowKit

/-- a specification's cells -/
def specC (B : List Int) (v : Value) : Array Value := (cellsI B ++ [v]).toArray
/-- a specification as a value -/
def specV (B : List Int) (v : Value) : Value := .agg (specC B v)

section
variable {B : List Int} {v : Value}
theorem specC_size (h : B.length = 16) : (specC B v).size = 17 := by simp [specC, cellsI_len, h]
theorem specC_last (h : B.length = 16) : (specC B v)[16]? = some v := by
  simp only [specC, List.getElem?_toArray]
  rw [List.getElem?_append_right (by rw [cellsI_len, h]; omega), cellsI_len, h]
  rfl
theorem specC_at (h : B.length = 16) {i : Nat} (hi : i < 16) : (specC B v)[i]? = some (.int .i64 (B.getD i 0)) := by
  simp only [specC, List.getElem?_toArray]
  rw [List.getElem?_append_left (by rw [cellsI_len, h]; omega)]
  simp [cellsI, List.getD_eq_getElem?_getD, List.getElem?_eq_getElem (show i < B.length by omega)]
theorem specC_one (hv : v.oneCell' = true) : (specC B v).all (·.oneCell') = true :=
  all_oneCell_toArray fun u hu => by
    rcases List.mem_append.1 hu with hu | hu
    · exact cellsI_one B u hu
    · simp at hu; subst hu; exact hv
end
theorem spec_size : (Tryd.prog.info? 28).map (·.size) = some 17 := by kernel_rfl
theorem arr_size : (Tryd.prog.info? 25).map (·.size) = some 16 := by kernel_rfl

theorem Box.spec_range {w : World} {g : Nat} {B : List Int} {v : Value} (h : Box w g 28 (specC B v)) (hB : B.length = 16) : w.rangeAt g 0 (cellsI B) := by
  intro j u hu
  have hj : j < (cellsI B).length := (List.getElem?_eq_some_iff.1 hu).1
  rw [cellsI_len, hB] at hj
  rw [Nat.zero_add, h.cell j, specC_at hB hj, ← hu]
  simp [cellsI, List.getD_eq_getElem?_getD, List.getElem?_eq_getElem (show j < B.length by omega)]
/-- the array of a specification is read -/
theorem load_bits {w : World} {g : Nat} {B : List Int} {v : Value} (h : Box w g 28 (specC B v)) (hB : B.length = 16) :
    (Instr.loadAt 25 (.pointer (some ⟨g, 0, none⟩))).run Tryd.prog w = .ok (.agg (cellsI B).toArray) w :=
  run_loadAt_mid w g 0 25 (cellsI B) _ (h.spec_range hB) Tryd.underlying25 rfl (by rw [arr_size, cellsI_len, hB])
/-- a specification is read whole -/
theorem load_spec {w : World} {g : Nat} {B : List Int} {v : Value} (h : Box w g 28 (specC B v)) (hB : B.length = 16) :
    (Instr.loadAt 28 (.pointer (some ⟨g, 0, none⟩))).run Tryd.prog w = .ok (specV B v) w := by
  refine run_loadAt_mid w g 0 28 (cellsI B ++ [v]) _ ?_ Tryd.underlying28 rfl (by rw [spec_size]; simp [cellsI_len, hB])
  intro j u hu
  rw [Nat.zero_add, h.cell j]
  simpa [specC] using hu
/-- a specification is written whole -/
theorem store_spec {w : World} {g : Nat} {cs : Array Value} {B : List Int} {v : Value} (h : Box w g 28 cs) (hcs : cs.size = 17) (hB : B.length = 16) (hv : v.oneCell' = true) :
    ∃ w', (Instr.storeAt 28 (.pointer (some ⟨g, 0, none⟩)) (specV B v)).run Tryd.prog w = .ok () w' ∧ Box w' g 28 (specC B v) ∧ Kept (fun i => i = g) w w' := by
  refine ⟨w.setRow g (specC B v), ?_, setRow_heap w g cs _ 28 _ h, ⟨rfl, rfl, rfl, by simp, fun k _ hk => setRow_other w g k _ hk⟩⟩
  have := run_storeVar_row (P := Tryd.prog) w g 28 28 cs (specC B v) h (by rw [spec_size, specC_size hB]) (by rw [hcs, specC_size hB]) (specC_one hv)
  simp only [Instr.storeAt, Instr.sureAddr, Sem.run_bind, Sem.run_pure, Result.andThen_ok, specV, this]
/-- a specification is built -/
theorem build_spec (w : World) {B : List Int} (A : Option Addr) (n c : Nat) (hB : B.length = 16) : (Instr.build 28 #[(0, .agg (cellsI B).toArray), (1, .slice A n c)]).run Tryd.prog w = .ok (specV B (.slice A n c)) w := by
  refine run_build w 28 _ _ ?_
  match B, hB with
  | [b0, b1, b2, b3, b4, b5, b6, b7, b8, b9, b10, b11, b12, b13, b14, b15], _ =>
    show Program.built _ _ _ = _
    kernel_rfl

theorem Il.alloc {w : World} {A : Option Addr} {n c : Nat} {xs : List Int} (h : Il w A n c xs) (o : Obj) : Il (w.alloc o) A n c xs := h.on (on_alloc w o)
theorem Il.drew {w : World} {A : Option Addr} {n c : Nat} {xs : List Int} (h : Il w A n c xs) : Il w.drew A n c xs := h.on (on_drew w)
theorem Box.bel {B : Nat} {w w' : World} {g : Nat} {t : TypeId} {cs : Array Value} (h : Box w g t cs) (k : Below B w w') (hg : g < B) : Box w' g t cs := (k.block g hg).trans h
/-- a slice of numbers that reads as xs, in whatever block -/
structure Ia (w : World) (A : Option Addr) (n c : Nat) (xs : List Int) : Prop where
  len : xs.length = n
  cap : n ≤ c
  max : c ≤ maxLen
  nil : A = none → c = 0
  at_ : 0 < n → ∃ b off, A = some ⟨b, off, none⟩ ∧ b < w.heap.size ∧ ∀ i, i < n → w.cell? ⟨b, off + i, none⟩ = some (.int .i64 (xs.getD i 0))
theorem Il.ia {w : World} {A : Option Addr} {n c : Nat} {xs : List Int} (h : Il w A n c xs) : Ia w A n c xs := ⟨h.len, h.cap, h.max, h.nil, h.at_⟩
theorem Ia.on {w w' : World} {A : Option Addr} {n c : Nat} {xs : List Int} (h : Ia w A n c xs) (k : Below w.heap.size w w') : Ia w' A n c xs :=
  ⟨h.len, h.cap, h.max, h.nil, fun h0 => by
    obtain ⟨b, off, e, hb, hc⟩ := h.at_ h0
    exact ⟨b, off, e, Nat.lt_of_lt_of_le hb k.size, fun i hi => (k.cell (p := ⟨b, off + i, none⟩) hb).trans (hc i hi)⟩⟩
theorem Ia.alloc {w : World} {A : Option Addr} {n c : Nat} {xs : List Int} (h : Ia w A n c xs) (o : Obj) : Ia (w.alloc o) A n c xs := h.on (on_alloc w o)
theorem Ia.drew {w : World} {A : Option Addr} {n c : Nat} {xs : List Int} (h : Ia w A n c xs) : Ia w.drew A n c xs := h.on (on_drew w)
theorem Ia.read {w : World} {ad : Addr} {n c : Nat} {l : List Int} (h : Ia w (some ad) n c l) : ∀ j u, (cellsI l)[j]? = some u → w.cell? (ad.add j) = some u := by
  intro j u hu
  have hj : j < l.length := by
    have := (List.getElem?_eq_some_iff.1 hu).1
    simpa [cellsI] using this
  have hl := h.len
  obtain ⟨b, off, e, _, hc⟩ := h.at_ (by omega)
  injection e with e
  subst e
  rw [plain_add, hc j (by omega)]
  simp only [cellsI, List.getElem?_map, List.getElem?_eq_getElem hj, Option.map_some, Option.some.injEq] at hu
  subst hu
  simp [List.getD_eq_getElem?_getD, List.getElem?_eq_getElem hj]
/-- what is appended to a row of one's own -/
theorem run_append_il (w : World) (ty : TypeId) (base : Nat) (v : Value) (n : Nat) (l : List Int) (hown : w.ownsRow base 3 1 v n (cellsI l)) (A : Option Addr) (m c : Nat) (r : List Int) (hr : Ia w A m c r) (h63 : n + m ≤ 1000000) (hbase : base ≤ w.heap.size) :
    ∃ v' w', (Builtin.append_ #[26, 26] ty #[v, .slice A m c]).run Tryd.prog w = .ok v' w' ∧ w'.ownsRow base 3 1 v' (n + m) (cellsI (l ++ r)) ∧ Below base w w' := by
  obtain ⟨i0, hi0, hz0, hz1, hz2⟩ := info_parts int_info
  cases A with
  | none =>
    obtain rfl : c = 0 := hr.nil rfl
    obtain rfl : m = 0 := by have := hr.cap; omega
    have hl : r = [] := List.eq_nil_of_length_eq_zero hr.len
    subst hl
    exact ⟨v, w, run_append_owned_none (P := Tryd.prog) (w := w) base 26 ty 3 i0 1 Tryd.underlying26 hi0 v n (cellsI l) hown, by simpa using hown, Below.refl _ _⟩
  | some ad =>
    obtain ⟨v', w', h0, h1, h2, _⟩ := run_append_own (P := Tryd.prog) w base 26 ty 3 i0 (.int .i64 0) 1 8 Tryd.underlying26 hi0 hz0 hz1 hz2 rfl (by omega) v n (cellsI l) hown ad m c (cellsI r) (by rw [cellsI_len, hr.len, Nat.mul_one]) hr.read (cellsI_one r) (by simp only [maxLen]; omega) (by omega) hbase
    have e : cellsI l ++ cellsI r = cellsI (l ++ r) := by simp [cellsI]
    rw [e] at h1
    exact ⟨v', w', h0, h1, (Below.refl base w).grown h2 hbase (fun j hj => (hown.lt j hj).1)⟩
theorem step_append_il {ops : Array Oper} {o : Oper} {a : Act} {w : World} {K : Act → World → Prop} {Q : Exit → Act → World → Prop} {E : Prop} (hgd : o.guard = none) (s x : Operand)
    (ho : o.op = .call { callee := .builtin .append, args := #[s, x], argTypes := #[26, 26] })
    (base : Nat) (v : Value) (n : Nat) (l : List Int) (hs : a.eval s = v) (hown : w.ownsRow base 3 1 v n (cellsI l))
    (A : Option Addr) (m c : Nat) (r : List Int) (hx : a.eval x = .slice A m c) (hr : Ia w A m c r) (h63 : n + m ≤ 1000000) (hbase : base ≤ w.heap.size) (d : Option Tmp) (hd : o.dst = d)
    (h : ∀ v' w', w'.ownsRow base 3 1 v' (n + m) (cellsI (l ++ r)) → Below base w w' → K (a.put d v') w') :
    if Region.wanted o (yielded ops a.tmps) = true then Oper.wp Tryd.prog o a w K Q else E := by
  have hw : Region.wanted o (yielded ops a.tmps) = true := by simp [Region.wanted, hgd]
  rw [if_pos hw]
  subst hd
  obtain ⟨v', w', h0, h1, h2⟩ := run_append_il w o.type base v n l hown A m c r hr h63 hbase
  unfold Oper.wp
  simp [execOp, ho, resolve, invoke, builtin, hs, hx, h0, Result.andThen]
  exact h v' w' h1 h2

def zeroC : Array Value := #[.int .i64 0, .int .i64 0, .int .i64 0, .int .i64 0, .int .i64 0, .int .i64 0, .int .i64 0, .int .i64 0, .int .i64 0, .int .i64 0, .int .i64 0, .int .i64 0, .int .i64 0, .int .i64 0, .int .i64 0, .int .i64 0, .slice none 0 0]
theorem zero25 (w : World) : (zeroValue 28).run Tryd.prog w = .ok (.agg #[.int .i64 0, .int .i64 0, .int .i64 0, .int .i64 0, .int .i64 0, .int .i64 0, .int .i64 0, .int .i64 0, .int .i64 0, .int .i64 0, .int .i64 0, .int .i64 0, .int .i64 0, .int .i64 0, .int .i64 0, .int .i64 0, .slice none 0 0]) w := by kernel_rfl
theorem zeroC_spec : zeroC = specC (List.replicate 16 0) (.slice none 0 0) := rfl

theorem Kept.frozen {S : Nat → Prop} {w w' : World} (h : Kept S w w') {b o : Nat} (hb : b < w.heap.size) (hS : ¬ S b) : w'.frozen? ⟨b, o, none⟩ = w.frozen? ⟨b, o, none⟩ := by
  unfold World.frozen?
  rw [show (⟨b, o, none⟩ : Addr).block = b from rfl, h.block b hb hS]
/-- the numbers of a row of one's own, and that they may be written -/
theorem il_of_own2 {w : World} {base : Nat} {v : Value} {n : Nat} {l : List Int} (h : w.ownsRow base 3 1 v n (cellsI l)) : ∃ A c, v = .slice A n c ∧ Il w A n c l ∧ ∀ b off, A = some ⟨b, off, none⟩ → base ≤ b ∧ b < w.heap.size ∧ ∀ i, w.frozen? ⟨b, off + i, none⟩ = false := by
  obtain ⟨A, c, hv, hi, hlo⟩ := il_of_own h
  refine ⟨A, c, hv, hi, fun b off e => ⟨hlo b off e, ?_⟩⟩
  rcases h.2 with ⟨e0, _⟩ | ⟨g, cap, cur, e0, _, hh, _⟩
  · rw [hv] at e0
    cases e0
    cases e
  · rw [hv] at e0
    cases e0
    cases e
    exact ⟨(Array.getElem?_eq_some_iff.1 hh).1, fun i => by simp [World.frozen?, hh]⟩
/-- a specification of one's own: its values lie in new memory -/
def OwnSpec (w : World) (B : List Int) (n : Nat) (V : List Int) (e : Ending) (w' : World) : Prop :=
  ∃ A c, e = .returned (specV B (.slice A n c)) ∧ Il w' A n c V ∧ (∀ b off, A = some ⟨b, off, none⟩ → w.heap.size ≤ b ∧ ∀ i, w'.frozen? ⟨b, off + i, none⟩ = false) ∧ Below w.heap.size w w'

/-- an operation is taken first, and its slot is named -/
theorem take_to {ops : Array Oper} {Q : Exit → Act → World → Prop} {md : Region.Mode} {S : World → Prop} {i : Nat} {oi : Oper} {v : Value} {fuel : Nat} {listed : Array Bool} {a : Act} {w : World} (hi : ops[i]? = some oi)
    (hs : Region.noSelect ops = true) (hf : Region.free md ops listed i = true) (hr : (Region.ready md ops listed).contains i = true)
    (hQ : ∀ c a w, Q (.panic c) (a.put oi.dst v) w → Q (.panic c) a w) (hy : YieldsIf Tryd.prog ops S oi v a) (hS : S w) (d : Option Tmp) (hd : oi.dst = d)
    (h : wpAnyH Tryd.prog md ops Q S fuel (listed.setIfInBounds i true) (a.put d v) w) : wpAnyH Tryd.prog md ops Q S (fuel + 1) listed a w :=
  wpAnyH_take hi hs hf hr hQ hy hS (by rw [hd]; exact h)
/-- a specification is stored whole -/
theorem wp_store_spec {o : Oper} {a : Act} {w : World} {K : Act → World → Prop} {Q : Exit → Act → World → Prop} (x y : Operand) (ho : o.op = .store 28 x y) (hd : o.dst = none)
    (g : Nat) (B : List Int) (v : Value) (hx : a.eval x = .pointer (some ⟨g, 0, none⟩)) (hy : a.eval y = specV B v) (old : Array Value) (hg : Box w g 28 old) (hold : old.size = 17) (hB : B.length = 16) (hv : v.oneCell' = true)
    (h : ∀ w', Box w' g 28 (specC B v) → Kept (fun i => i = g) w w' → K a w') : o.wp Tryd.prog a w K Q := by
  refine wp_store_row 28 x y ho g (specC B v) hx hy 28 old hg (by rw [spec_size, specC_size hB]) (by rw [hold, specC_size hB]) (specC_one hv) ?_
  rw [hd]
  exact h _ (setRow_heap w g old _ 28 _ hg) ⟨rfl, rfl, rfl, by simp, fun k _ hk => setRow_other w g k _ hk⟩
theorem wpList_store_spec {ops : Array Oper} {rest : List Oper} {o : Oper} {a : Act} {w : World} {Q : Exit → Act → World → Prop} (hgd : o.guard = none) (x y : Operand) (ho : o.op = .store 28 x y) (hd : o.dst = none)
    (g : Nat) (B : List Int) (v : Value) (hx : a.eval x = .pointer (some ⟨g, 0, none⟩)) (hy : a.eval y = specV B v) (old : Array Value) (hg : Box w g 28 old) (hold : old.size = 17) (hB : B.length = 16) (hv : v.oneCell' = true)
    (h : ∀ w', Box w' g 28 (specC B v) → Kept (fun i => i = g) w w' → wpList Tryd.prog ops Q rest a w') : wpList Tryd.prog ops Q (o :: rest) a w :=
  wpList_plain hgd fun _ hK => wp_store_spec x y ho hd g B v hx hy old hg hold hB hv (fun w' h1 h2 => hK _ _ (h w' h1 h2))

/-- an operation that builds may be taken first -/
theorem yieldsIf_build {ops : Array Oper} {S : World → Prop} {op : Oper} {a : Act} (hw : Region.wanted op (yielded ops a.tmps) = true) (t : TypeId) (parts : Array (Nat × Operand)) (ho : op.op = .build t parts)
    (v : Value) (ps : Array (Nat × Value)) (hps : (parts.map fun (i, x) => (i, a.eval x)) = ps) (h : ∀ w, (Instr.build t ps).run Tryd.prog w = .ok v w) : YieldsIf Tryd.prog ops S op v a :=
  .inl ⟨hw, fun w _ => by
    unfold execOp
    simp only [ho, hps, Sem.run_bind, h w, Result.andThen_ok, Sem.run_pure]⟩

end Go.Proofs.YtgipngedmblnmaaDoor

namespace Go.Proofs.YtgipngedmblnmaaDoor
open Go.RowKit

theorem int_size : (Tryd.prog.info? 3).map (·.size) = some 1 := by kernel_rfl
theorem il_copy {w : World} {A : Option Addr} {n c : Nat} {l : List Int} (h : Il w A n c l) (h0 : 0 < (cellsI l).length) : ∃ ad, A = some ad ∧ ∀ j v, (cellsI l)[j]? = some v → w.cell? (ad.add j) = some v := by
  obtain ⟨b, off, e, _⟩ := h.at_ (by have := h.len; rw [cellsI_len] at h0; omega)
  subst e
  exact ⟨_, rfl, h.read⟩
theorem il_of_box {w : World} {b n : Nat} {l : List Int} (h : Box w b 3 (cellsI l).toArray) (hl : l.length = n) (hm : n ≤ maxLen) : Il w (some ⟨b, 0, none⟩) n n l := by
  refine ⟨hl, Nat.le_refl _, hm, (fun e => by cases e), (fun b off e => by cases e; exact ⟨_, _, h⟩), fun _ => ⟨b, 0, rfl, h.lt, fun i hi => ?_⟩⟩
  rw [Nat.zero_add, h.cell i]
  simp [cellsI, List.getD_eq_getElem?_getD, List.getElem?_eq_getElem (show i < l.length by omega)]
/-- an operation that builds, at a plain region's list -/
theorem wpList_build_to {ops : Array Oper} {rest : List Oper} {op : Oper} {a : Act} {w : World} {Q : Exit → Act → World → Prop} (hgd : op.guard = none) (t : TypeId) (parts : Array (Nat × Operand)) (ho : op.op = .build t parts)
    (v : Value) (ps : Array (Nat × Value)) (hps : (parts.map fun (i, x) => (i, a.eval x)) = ps) (h : (Instr.build t ps).run Tryd.prog w = .ok v w)
    (hK : wpList Tryd.prog ops Q rest (a.put op.dst v) w) : wpList Tryd.prog ops Q (op :: rest) a w :=
  wpList_plain hgd fun _ hQ => by
    unfold Oper.wp execOp
    simp only [ho, hps, Sem.run_bind, h, Result.andThen_ok]
    exact hQ _ _ hK

/-- a load, at a plain region's list -/
theorem wpList_load_to {ops : Array Oper} {rest : List Oper} {op : Oper} {a : Act} {w : World} {Q : Exit → Act → World → Prop} (hgd : op.guard = none) (ty : TypeId) (x : Operand) (ho : op.op = .load ty x)
    (u : Value) (hx : a.eval x = u) (v : Value) (hl : (Instr.loadAt ty u).run Tryd.prog w = .ok v w)
    (hK : wpList Tryd.prog ops Q rest (a.put op.dst v) w) : wpList Tryd.prog ops Q (op :: rest) a w :=
  wpList_plain hgd fun _ hQ => by
    unfold Oper.wp execOp
    simp only [ho, hx, Sem.run_bind, hl, Result.andThen_ok]
    exact hQ _ _ hK
structure CopyFacts (w w2 : World) (g m : Nat) (B V : List Int) (A : Option Addr) (n c : Nat) (Z : List Int) : Prop where
  b1 : Box w2 g 28 (specC B (.slice A n c))
  b2 : Box w2 (g + 1) 28 zeroC
  b3 : Box w2 m 3 (cellsI Z).toArray
  vals : Il w2 A n c V
  bel : Below w.heap.size w w2
  hg : g = w.heap.size
  hm : m = g + 1 + 1
  hz : Z.length = n

end Go.Proofs.YtgipngedmblnmaaDoor

namespace Go.Proofs.YtgipngedmblnmaaDoor
open Go.RowKit

/-- numbers of 0 to 255, no two alike -/
def Diff (V : List Int) : Prop := (∀ v ∈ V, 0 ≤ v ∧ v ≤ 255) ∧ V.Nodup
/-- which numbers are in a list -/
def seenC (L : List Int) : Array Value := ((List.range 256).map fun i : Nat => Value.bool (decide ((i : Int) ∈ L))).toArray
theorem seenC_at (L : List Int) {i : Nat} (hi : i < 256) : (seenC L)[i]? = some (.bool (decide ((i : Int) ∈ L))) := by
  simp [seenC, hi]
theorem seenC_put (L : List Int) (i : Nat) : (seenC L).setIfInBounds i (.bool true) = seenC (L ++ [(i : Int)]) := by
  unfold seenC
  rw [List.setIfInBounds_toArray]
  congr 1
  apply List.ext_getElem?
  intro k
  rw [List.getElem?_set]
  by_cases hk : k < 256
  · by_cases e : i = k
    · subst e
      simp [hk]
    · simp [hk, e]
      intro h
      exact absurd (by omega) e
  · simp [hk]
    omega
theorem zero91 (w : World) : (zeroValue 106).run Tryd.prog w = .ok (.agg (seenC [])) w := by kernel_rfl

/-- what differ answers -/
def Differ (w : World) (V : List Int) (e : Ending) (w' : World) : Prop := ∃ b, e = .returned (.bool b) ∧ (b = true ↔ Diff V) ∧ Below w.heap.size w w'
structure Diffing (w wr : World) (g : Nat) (V : List Int) (k : Nat) : Prop where
  box : Box wr g 106 (seenC (V.take k))
  dif : Diff (V.take k)
  bel : Below w.heap.size w wr
  new : w.heap.size ≤ g
theorem diff_take {V : List Int} (h : Diff V) (k : Nat) : Diff (V.take k) := ⟨fun v hv => h.1 v (List.mem_of_mem_take hv), h.2.sublist (List.take_sublist _ _)⟩
theorem diff_more {V : List Int} {k : Nat} (hk : k < V.length) : Diff (V.take (k + 1)) ↔ Diff (V.take k) ∧ (0 ≤ V.getD k 0 ∧ V.getD k 0 ≤ 255) ∧ V.getD k 0 ∉ V.take k := by
  rw [take_more V k hk]
  unfold Diff
  rw [List.nodup_append]
  constructor
  · rintro ⟨h1, h2, _, h3⟩
    exact ⟨⟨fun v hv => h1 v (List.mem_append_left _ hv), h2⟩, h1 _ (by simp), fun hm => h3 _ hm _ (by simp) rfl⟩
  · rintro ⟨⟨h1, h2⟩, h3, h4⟩
    refine ⟨fun v hv => ?_, h2, by simp, fun a ha b hb e => ?_⟩
    · rcases List.mem_append.1 hv with hv | hv
      · exact h1 v hv
      · simp only [List.mem_singleton] at hv; rw [hv]; exact h3
    · simp only [List.mem_singleton] at hb
      rw [← e] at hb
      subst hb
      exact h4 ha

set_option maxRecDepth 20000 in
set_option maxHeartbeats 1600000 in
theorem differ_any (w : World) (A : Option Addr) (n c : Nat) (V : List Int) (h : Ia w A n c V) (hn : n ≤ 5000) :
    Calls Tryd.prog 45 #[.slice A n c] w (Differ w V) := by
  have hz := zero91
  obtain ⟨Z, hZ⟩ : ∃ Z, Z = seenC [] := ⟨_, rfl⟩
  rw [← hZ] at hz
  have hD : Diffing w (w.alloc (.cells Z 106)) w.heap.size V 0 := ⟨by rw [hZ]; exact Box.made _ _ _, ⟨(fun v hv => by cases hv), List.Pairwise.nil⟩, on_alloc _ _, Nat.le_refl _⟩
  have HD := Lib.hid hD
  have HL := Lib.hid h.len
  have HI := Lib.hid h
  clear hD hZ h
  go_enter Tryd.func45, Tryd.ntmps45
  go_wp2_with fail
  generalize hg : w.heap.size = g at HD ⊢
  have HG := Lib.hid hg
  clear hg hz
  go_loopw [8] (fun i wr => ∃ k : Nat, k ≤ n ∧ i = .int .i64 k ∧ Diffing w wr g V k) (fun i _ => n - (intOf i).toNat)
  case atStart => exact ⟨0, Nat.zero_le _, rfl, HD.out⟩
  case round =>
    obtain ⟨k, hk, rfl, hR⟩ := hrel
    by_cases hlt : k < n
    · obtain ⟨b, off, hA, _, hc⟩ := (HI.out.on hR.bel).at_ (by omega)
      have hck := hc k hlt
      obtain ⟨v, hv⟩ : ∃ v, v = V.getD k 0 := ⟨_, rfl⟩
      rw [← hv] at hck
      have hmore := diff_more (V := V) (k := k) (by have := HL.out; omega)
      rw [← hv] at hmore
      have HR := Lib.hid (And.intro hR (And.intro hmore hv))
      clear hc hR hmore hv
      subst hA
      by_cases h0 : v < 0
      · go_wp2
        go_ret
        refine ⟨false, rfl, ⟨(fun e => by cases e), fun hd => ?_⟩, HR.out.1.bel⟩
        have := (HR.out.2.1.1 (diff_take hd _)).2.1
        omega
      by_cases h1 : 256 ≤ v
      · go_wp2
        go_ret
        refine ⟨false, rfl, ⟨(fun e => by cases e), fun hd => ?_⟩, HR.out.1.bel⟩
        have := (HR.out.2.1.1 (diff_take hd _)).2.1
        omega
      obtain ⟨m, rfl⟩ := Int.eq_ofNat_of_zero_le (show 0 ≤ v by omega)
      have hm : m < 256 := by omega
      have s1 : wr.cell? ⟨g, m, none⟩ = some (.bool (decide ((m : Int) ∈ V.take k))) := (HR.out.1.box.cell m).trans (seenC_at _ hm)
      by_cases h2 : (m : Int) ∈ V.take k
      · rw [decide_eq_true h2] at s1
        have H2 := Lib.hid h2
        clear h2
        go_wp2
        go_ret
        refine ⟨false, rfl, ⟨(fun e => by cases e), fun hd => ?_⟩, HR.out.1.bel⟩
        exact absurd H2.out (HR.out.2.1.1 (diff_take hd _)).2.2
      · rw [decide_eq_false h2] at s1
        have H2 := Lib.hid h2
        have f1 := HR.out.1.box.free m
        clear h2
        go_wp2
        go_roundw
        case rel =>
          refine ⟨k + 1, by omega, by go_num, ?_⟩
          have hb := HR.out.1.box.put m (.bool true)
          rw [seenC_put, HR.out.2.2, ← take_more V k (by have := HL.out; omega)] at hb
          exact ⟨hb, HR.out.2.1.2 ⟨HR.out.1.dif, by omega, H2.out⟩, HR.out.1.bel.setCell (p := ⟨g, m, none⟩) HR.out.1.new _, HR.out.1.new⟩
        case measure => simp [intOf]; omega
    · have ek : k = n := by omega
      have HE := Lib.hid (And.intro hR ek)
      clear hR ek
      go_wp2
      go_ret
      obtain ⟨hR, ek⟩ := HE.out
      have hd := hR.dif
      rw [ek, List.take_of_length_le (by have := HL.out; omega)] at hd
      exact ⟨true, rfl, ⟨fun _ => hd, fun _ => rfl⟩, hR.bel⟩
end Go.Proofs.YtgipngedmblnmaaDoor

namespace Go.Proofs.YtgipngedmblnmaaDoor
open Go.RowKit

/-- an index into an array's value, at a plain region's list -/
theorem wpList_index_to {ops : Array Oper} {rest : List Oper} {op : Oper} {a : Act} {w : World} {Q : Exit → Act → World → Prop} (hgd : op.guard = none) (ty : TypeId) (x y : Operand) (ho : op.op = .index ty x y)
    (u z : Value) (hx : a.eval x = u) (hy : a.eval y = z) (v : Value) (hl : (Instr.index ty u z).run Tryd.prog w = .ok v w)
    (hK : wpList Tryd.prog ops Q rest (a.put op.dst v) w) : wpList Tryd.prog ops Q (op :: rest) a w :=
  wpList_plain hgd fun _ hQ => by
    unfold Oper.wp execOp
    simp only [ho, hx, hy, Sem.run_bind, hl, Result.andThen_ok]
    exact hQ _ _ hK
theorem index_bits (w : World) {B : List Int} (hB : B.length = 16) {k : Nat} (hk : k < 16) : (Instr.index 25 (.agg (cellsI B).toArray) (.int .i64 (k : Int))).run Tryd.prog w = .ok (.int .i64 (B.getD k 0)) w := by
  match B, hB with
  | [b0, b1, b2, b3, b4, b5, b6, b7, b8, b9, b10, b11, b12, b13, b14, b15], _ =>
    have hc : k = 0 ∨ k = 1 ∨ k = 2 ∨ k = 3 ∨ k = 4 ∨ k = 5 ∨ k = 6 ∨ k = 7 ∨ k = 8 ∨ k = 9 ∨ k = 10 ∨ k = 11 ∨ k = 12 ∨ k = 13 ∨ k = 14 ∨ k = 15 := by omega
    rcases hc with rfl | rfl | rfl | rfl | rfl | rfl | rfl | rfl | rfl | rfl | rfl | rfl | rfl | rfl | rfl | rfl
    · show Sem.run _ _ _ = _; kernel_rfl
    · show Sem.run _ _ _ = _; kernel_rfl
    · show Sem.run _ _ _ = _; kernel_rfl
    · show Sem.run _ _ _ = _; kernel_rfl
    · show Sem.run _ _ _ = _; kernel_rfl
    · show Sem.run _ _ _ = _; kernel_rfl
    · show Sem.run _ _ _ = _; kernel_rfl
    · show Sem.run _ _ _ = _; kernel_rfl
    · show Sem.run _ _ _ = _; kernel_rfl
    · show Sem.run _ _ _ = _; kernel_rfl
    · show Sem.run _ _ _ = _; kernel_rfl
    · show Sem.run _ _ _ = _; kernel_rfl
    · show Sem.run _ _ _ = _; kernel_rfl
    · show Sem.run _ _ _ = _; kernel_rfl
    · show Sem.run _ _ _ = _; kernel_rfl
    · show Sem.run _ _ _ = _; kernel_rfl
/-- the array is read whole -/
theorem load_arr {w : World} {g : Nat} {B : List Int} (h : Box w g 25 (cellsI B).toArray) (hB : B.length = 16) : (Instr.loadAt 25 (.pointer (some ⟨g, 0, none⟩))).run Tryd.prog w = .ok (.agg (cellsI B).toArray) w := by
  refine run_loadAt_mid w g 0 25 (cellsI B) _ (fun j u hu => ?_) Tryd.underlying25 rfl (by rw [arr_size, cellsI_len, hB])
  rw [Nat.zero_add, h.cell j]
  simpa using hu

/-- counts that fit so many values -/
structure FitOk (B : List Int) (n : Nat) : Prop where
  nn : ∀ i, i < 16 → 0 ≤ B.getD i 0
  sum : sm (cnt B) 16 = n
  pos : 0 < n
  fits : ∀ i, i < 16 → nx (cnt B) (i + 1) < 2 ^ (i + 1)
/-- the first k counts may be -/
structure FitTo (B : List Int) (n k : Nat) : Prop where
  nn : ∀ i, i < k → 0 ≤ B.getD i 0
  sum : sm (cnt B) k ≤ n
  fits : ∀ i, i < k → nx (cnt B) (i + 1) < 2 ^ (i + 1)
theorem FitOk.to {B : List Int} {n k : Nat} (h : FitOk B n) (hk : k ≤ 16) : FitTo B n k := ⟨fun i hi => h.nn i (by omega), by rw [← h.sum]; exact sm_mono hk, fun i hi => h.fits i (by omega)⟩
theorem FitTo.more {B : List Int} {n k : Nat} (h : FitTo B n k) (h0 : 0 ≤ B.getD k 0) (h1 : sm (cnt B) (k + 1) ≤ n) (h2 : nx (cnt B) (k + 1) < 2 ^ (k + 1)) : FitTo B n (k + 1) := by
  refine ⟨fun i hi => ?_, h1, fun i hi => ?_⟩
  · rcases Nat.lt_or_ge i k with h' | h'
    · exact h.nn i h'
    · obtain rfl : i = k := by omega
      exact h0
  · rcases Nat.lt_or_ge i k with h' | h'
    · exact h.fits i h'
    · obtain rfl : i = k := by omega
      exact h2
theorem FitTo.nx {B : List Int} {n k : Nat} (h : FitTo B n k) : nx (cnt B) k < 2 ^ k := by
  cases k with
  | zero => show 0 < 1; omega
  | succ k => exact h.fits k (by omega)
/-- what fit answers -/
def Fitted (w : World) (B : List Int) (n : Nat) (e : Ending) (w' : World) : Prop := ∃ b, e = .returned (.bool b) ∧ (b = true ↔ FitOk B n) ∧ Below w.heap.size w w'

set_option maxRecDepth 20000 in
set_option maxHeartbeats 1600000 in
theorem fit_any (w : World) (B : List Int) (n : Nat) (hB : B.length = 16) (hn : n ≤ 5000) :
    Calls Tryd.prog 46 #[.agg (cellsI B).toArray, .int .i64 (n : Int)] w (Fitted w B n) := by
  obtain ⟨w1, hw1⟩ : ∃ w1, w1 = w.alloc (.cells (cellsI B).toArray 25) := ⟨_, rfl⟩
  have hb : Box w1 w.heap.size 25 (cellsI B).toArray := by rw [hw1]; exact Box.made _ _ _
  have bel : Below w.heap.size w w1 := by rw [hw1]; exact on_alloc _ _
  have hl := load_arr hb hB
  rw [hw1] at hl
  have HH := Lib.hid (And.intro hw1 (And.intro bel (And.intro hl hB)))
  clear hb hw1 bel hB hl
  obtain ⟨C, hC⟩ : ∃ C, C = (cellsI B).toArray := ⟨_, rfl⟩
  rw [← hC] at HH ⊢
  have HC := Lib.hid hC
  clear hC
  have h0 : FitTo B n 0 := ⟨fun i hi => absurd hi (by omega), Nat.zero_le _, fun i hi => absurd hi (by omega)⟩
  have H0 := Lib.hid h0
  clear h0
  go_enter Tryd.func46, Tryd.ntmps46
  go_wp2_with (first
    | (with_reducible refine wpList_load_to (op := ⟨some 10, _, _, _, _, _⟩) rfl 25 (.tmp 2) rfl (.pointer (some ⟨w.heap.size, 0, none⟩)) rfl (.agg C) HH.out.2.2.1 ?_)
    | fail)
  rw [← HH.out.1]
  go_loopw [11, 5, 6] (fun i l x wr => ∃ k : Nat, k ≤ 16 ∧ i = .int .i64 k ∧ l = .int .i64 ((n - sm (cnt B) k : Nat) : Int) ∧ x = .int .i64 ((2 * nx (cnt B) k : Nat) : Int) ∧ FitTo B n k ∧ wr = w1) (fun i _ _ _ => 16 - (intOf i).toNat)
  case atStart => exact ⟨0, Nat.zero_le _, rfl, by show _ = Value.int .i64 ((n - 0 : Nat) : Int); rw [Nat.sub_zero], rfl, H0.out, rfl⟩
  case round =>
    obtain ⟨k, hk, rfl, rfl, rfl, hF, rfl⟩ := hrel
    by_cases hlt : k < 16
    · have hix := index_bits wr HH.out.2.2.2 hlt
      rw [← HC.out] at hix
      have hnx := hF.nx
      have hp := pow16 (i := k + 1) (by omega)
      obtain ⟨S, hS⟩ : ∃ S, S = sm (cnt B) k := ⟨_, rfl⟩
      obtain ⟨N, hN⟩ : ∃ N, N = nx (cnt B) k := ⟨_, rfl⟩
      obtain ⟨p, hpp⟩ : ∃ p : Nat, p = 2 ^ k := ⟨_, rfl⟩
      have hp2 : (2 : Int) ^ k = (p : Int) := by rw [hpp]; simp
      have hpk : 2 ^ (k + 1) = 2 * p := by rw [hpp, Nat.pow_succ, Nat.mul_comm]
      obtain ⟨v, hv⟩ : ∃ v, v = B.getD k 0 := ⟨_, rfl⟩
      have hS1 : S ≤ n := by rw [hS]; exact hF.sum
      rw [hpk] at hp
      rw [← hN, ← hpp] at hnx
      rw [← hv] at hix
      have e1 : sm (cnt B) (k + 1) = S + v.toNat := by rw [sm, ← hS, hv]; rfl
      have e2 : nx (cnt B) (k + 1) = 2 * N + v.toNat := by rw [nx, ← hN, hv]; rfl
      have HR := Lib.hid (And.intro hF (And.intro hv (And.intro hix (And.intro e1 (And.intro e2 (And.intro hpk hpp))))))
      rw [← hS, ← hN]
      clear hF hix hS hN hpp e1 e2 hv hpk
      by_cases hv0 : v < 0
      · go_wp2_with (first
          | (with_reducible refine wpList_index_to (op := ⟨some 14, _, _, _, _, _⟩) rfl 25 (.tmp 10) (.tmp 11) rfl (.agg C) (.int .i64 (k : Int)) rfl rfl _ HR.out.2.2.1 ?_)
          | fail)
        go_ret
        refine ⟨false, rfl, ⟨(fun e => by cases e), fun hf => ?_⟩, HH.out.2.1⟩
        have := hf.nn k hlt
        rw [← HR.out.2.1] at this
        omega
      obtain ⟨m, rfl⟩ := Int.eq_ofNat_of_zero_le (show 0 ≤ v by omega)
      have e1 := HR.out.2.2.2.1
      have e2 := HR.out.2.2.2.2.1
      rw [Int.toNat_natCast] at e1 e2
      have HE := Lib.hid (And.intro e1 e2)
      clear e1 e2
      have hl2 : ((n - S : Nat) : Int) = (n : Int) - S := by omega
      rw [hl2]
      by_cases h1 : n < S + m
      · go_wp2_with (first
          | (with_reducible refine wpList_index_to (op := ⟨some 14, _, _, _, _, _⟩) rfl 25 (.tmp 10) (.tmp 11) rfl (.agg C) (.int .i64 (k : Int)) rfl rfl _ HR.out.2.2.1 ?_)
          | fail)
        go_ret
        refine ⟨false, rfl, ⟨(fun e => by cases e), fun hf => ?_⟩, HH.out.2.1⟩
        have := (hf.to (k := k + 1) (by omega)).sum
        rw [HE.out.1] at this
        omega
      by_cases h2 : 2 * p ≤ 2 * N + m
      · go_wp2_with (first
          | (with_reducible refine wpList_index_to (op := ⟨some 14, _, _, _, _, _⟩) rfl 25 (.tmp 10) (.tmp 11) rfl (.agg C) (.int .i64 (k : Int)) rfl rfl _ HR.out.2.2.1 ?_)
          | fail)
        go_ret
        refine ⟨false, rfl, ⟨(fun e => by cases e), fun hf => ?_⟩, HH.out.2.1⟩
        have := hf.fits k hlt
        rw [HE.out.2, HR.out.2.2.2.2.2.1] at this
        omega
      · go_wp2_with (first
          | (with_reducible refine wpList_index_to (op := ⟨some 14, _, _, _, _, _⟩) rfl 25 (.tmp 10) (.tmp 11) rfl (.agg C) (.int .i64 (k : Int)) rfl rfl _ HR.out.2.2.1 ?_)
          | fail)
        go_roundw
        case rel =>
          refine ⟨k + 1, by omega, by go_num, ?_, ?_, HR.out.1.more ?_ ?_ ?_, trivial⟩
          · rw [HE.out.1]; go_num
          · rw [HE.out.2]; go_num
          · rw [← HR.out.2.1]; omega
          · rw [HE.out.1]; omega
          · rw [HE.out.2, HR.out.2.2.2.2.2.1]; omega
        case measure => simp [intOf]; omega
    · have ek : k = 16 := by omega
      have HE := Lib.hid hF
      clear hF
      subst ek
      obtain ⟨S, hS⟩ : ∃ S, S = sm (cnt B) 16 := ⟨_, rfl⟩
      have hS1 : S ≤ n := by rw [hS]; exact HE.out.sum
      have HS := Lib.hid hS
      rw [← hS]
      clear hS
      have hl2 : ((n - S : Nat) : Int) = (n : Int) - S := by omega
      rw [hl2]
      by_cases h0 : n = 0
      · go_wp2
        go_ret
        refine ⟨false, by simp [h0], ⟨(fun e => by cases e), fun hf => ?_⟩, HH.out.2.1⟩
        have := hf.pos
        omega
      · by_cases h1 : S = n
        · go_wp2
          go_ret
          exact ⟨true, by simp, ⟨fun _ => ⟨HE.out.nn, by rw [← HS.out]; exact h1, by omega, HE.out.fits⟩, fun _ => rfl⟩, HH.out.2.1⟩
        · go_wp2
          go_ret
          refine ⟨false, by simp; omega, ⟨(fun e => by cases e), fun hf => ?_⟩, HH.out.2.1⟩
          have := hf.sum
          rw [← HS.out] at this
          omega
end Go.Proofs.YtgipngedmblnmaaDoor

namespace Go.Proofs.YtgipngedmblnmaaDoor
open Go.RowKit

/-- the zigzag order -/
def zz : List Int := [0, 1, 8, 16, 9, 2, 3, 10, 17, 24, 32, 25, 18, 11, 4, 5, 12, 19, 26, 33, 40, 48, 41, 34, 27, 20, 13, 6, 7, 14, 21, 28, 35, 42, 49, 56, 57, 50, 43, 36, 29, 22, 15, 23, 30, 37, 44, 51, 58, 59, 52, 45, 38, 31, 39, 46, 53, 60, 61, 54, 47, 55, 62, 63]
/-- the order as natural numbers -/
def zn (i : Nat) : Nat := (zz.getD i 0).toNat
theorem zz_len : zz.length = 64 := by decide
theorem zn_at : ∀ i, i < 64 → zz.getD i 0 = (zn i : Int) ∧ zn i < 64 := by decide
/-- the table lies in the program's memory as its text lays it -/
def Tab (w : World) : Prop := ∀ i, i < 64 → w.cell? ⟨0, i, none⟩ = some (.int .i64 (zz.getD i 0))
theorem Tab.zero {w : World} (h : Tab w) : 0 < w.heap.size := World.block_lt_of_cell? w ⟨0, 0, none⟩ (h 0 (by omega))
theorem Tab.on {w w' : World} (h : Tab w) (k : Below w.heap.size w w') : Tab w' := fun i hi => (k.cell (p := ⟨0, i, none⟩) h.zero).trans (h i hi)
theorem Tab.kept {S : Nat → Prop} {w w' : World} (h : Tab w) (k : Kept S w w') (hS : ¬ S 0) : Tab w' := fun i hi => (k.cell (p := ⟨0, i, none⟩) h.zero hS).trans (h i hi)
theorem Tab.bel {B : Nat} {w w' : World} (h : Tab w) (k : Below B w w') (hB : 0 < B) : Tab w' := fun i hi => (k.cell (p := ⟨0, i, none⟩) hB).trans (h i hi)

/-- a block as a value -/
def blkV (b : List Int) : Value := .agg (cellsI b).toArray
/-- a block in memory -/
structure Blk (w : World) (g : Nat) (b : List Int) : Prop where
  box : Box w g 23 (cellsI b).toArray
  len : b.length = 64
theorem arr23_size : (Tryd.prog.info? 23).map (·.size) = some 64 := by kernel_rfl
theorem arr22_size : (Tryd.prog.info? 22).map (·.size) = some 64 := by kernel_rfl
theorem cellsI_get (l : List Int) (k : Nat) (hk : k < l.length) : (cellsI l)[k]? = some (.int .i64 (l.getD k 0)) := by
  simp [cellsI, List.getD_eq_getElem?_getD, List.getElem?_eq_getElem hk]
section
variable {w w' : World} {g : Nat} {b : List Int}
theorem Blk.cell (h : Blk w g b) {k : Nat} (hk : k < 64) : w.cell? ⟨g, k, none⟩ = some (.int .i64 (b.getD k 0)) := by
  rw [h.box.cell k, List.getElem?_toArray, cellsI_get _ _ (by rw [h.len]; exact hk)]
theorem Blk.on (h : Blk w g b) (k : Below w.heap.size w w') : Blk w' g b := ⟨h.box.on k, h.len⟩
theorem Blk.kept {S : Nat → Prop} (h : Blk w g b) (k : Kept S w w') (hS : ¬ S g) : Blk w' g b := ⟨k.box h.box hS, h.len⟩
theorem Blk.range (h : Blk w g b) : w.rangeAt g 0 (cellsI b) := by
  intro j u hu
  rw [Nat.zero_add, h.box.cell j]
  simpa using hu
theorem Blk.load (h : Blk w g b) : (Instr.loadAt 23 (.pointer (some ⟨g, 0, none⟩))).run Tryd.prog w = .ok (blkV b) w :=
  run_loadAt_mid w g 0 23 (cellsI b) _ h.range Tryd.underlying23 rfl (by rw [arr23_size, cellsI_len, h.len])
theorem put_cellsI (l : List Int) (i : Nat) (z : Int) : (cellsI l).toArray.setIfInBounds i (.int .i64 z) = (cellsI (l.set i z)).toArray := by
  simp [cellsI, List.map_set]
theorem Blk.put (h : Blk w g b) (k : Nat) (z : Int) : Blk (w.setCell ⟨g, k, none⟩ (.int .i64 z)) g (b.set k z) := by
  refine ⟨?_, by rw [List.length_set, h.len]⟩
  have := h.box.put k (.int .i64 z)
  rwa [put_cellsI] at this
end
theorem Tab.range {w : World} (h : Tab w) : w.rangeAt 0 0 (cellsI zz) := by
  intro j u hu
  have hj : j < (cellsI zz).length := (List.getElem?_eq_some_iff.1 hu).1
  rw [cellsI_len, zz_len] at hj
  rw [Nat.zero_add, h j hj, ← hu, cellsI_get _ _ (by rw [zz_len]; exact hj)]
theorem Tab.load {w : World} (h : Tab w) : (Instr.loadAt 22 (.pointer (some ⟨0, 0, none⟩))).run Tryd.prog w = .ok (blkV zz) w :=
  run_loadAt_mid w 0 0 22 (cellsI zz) _ h.range Tryd.underlying22 rfl (by rw [arr22_size, cellsI_len, zz_len])
/-- a block's numbers are read -/
theorem index23 (w : World) {l : List Int} (hl : l.length = 64) {k : Nat} (hk : k < 64) : (Instr.index 23 (blkV l) (.int .i64 (k : Int))).run Tryd.prog w = .ok (.int .i64 (l.getD k 0)) w := by
  have hp : (part 3 (cellsI l).toArray k).run Tryd.prog w = .ok (.int .i64 (l.getD k 0)) w := run_part_plain w (by kernel_rfl) (by simpa using cellsI_get l k (by omega))
  simp [blkV, Instr.index, run_underlying Tryd.underlying23, asIntOf, hp, Result.andThen]
  intro h
  omega
theorem index22 (w : World) {l : List Int} (hl : l.length = 64) {k : Nat} (hk : k < 64) : (Instr.index 22 (blkV l) (.int .i64 (k : Int))).run Tryd.prog w = .ok (.int .i64 (l.getD k 0)) w := by
  have hp : (part 3 (cellsI l).toArray k).run Tryd.prog w = .ok (.int .i64 (l.getD k 0)) w := run_part_plain w (by kernel_rfl) (by simpa using cellsI_get l k (by omega))
  simp [blkV, Instr.index, run_underlying Tryd.underlying22, asIntOf, hp, Result.andThen]
  intro h
  omega
theorem zero23 (w : World) : (zeroValue 23).run Tryd.prog w = .ok (blkV (List.replicate 64 0)) w := by kernel_rfl
theorem zero22 (w : World) : (zeroValue 22).run Tryd.prog w = .ok (blkV (List.replicate 64 0)) w := by kernel_rfl
theorem build0 (w : World) : (Instr.build 23 #[]).run Tryd.prog w = .ok (blkV (List.replicate 64 0)) w := run_build w 23 _ _ (by kernel_rfl)
theorem build1 (w : World) (z : Int) : (Instr.build 23 #[(0, .int .i64 z)]).run Tryd.prog w = .ok (blkV (z :: List.replicate 63 0)) w := run_build w 23 _ _ (by show Program.built _ _ _ = _; kernel_rfl)
/-- a block is written whole -/
theorem wpList_store_blk {t : TypeId} {ops : Array Oper} {rest : List Oper} {o : Oper} {a : Act} {w : World} {Q : Exit → Act → World → Prop} (ht : (Tryd.prog.info? t).map (·.size) = some 64) (hgd : o.guard = none) (x y : Operand) (ho : o.op = .store t x y) (hd : o.dst = none)
    (g : Nat) (b : List Int) (hx : a.eval x = .pointer (some ⟨g, 0, none⟩)) (hy : a.eval y = blkV b) (old : Array Value) (hg : Box w g t old) (hold : old.size = 64) (hb : b.length = 64)
    (h : ∀ w', Box w' g t (cellsI b).toArray → Kept (fun i => i = g) w w' → wpList Tryd.prog ops Q rest a w') : wpList Tryd.prog ops Q (o :: rest) a w := by
  refine wpList_plain hgd fun _ hK => ?_
  refine wp_store_row t x y ho g (cellsI b).toArray hx hy t old hg (by rw [ht]; simp [cellsI_len, hb]) (by rw [hold]; simp [cellsI_len, hb]) (all_oneCell_toArray (cellsI_one b)) ?_
  rw [hd]
  exact hK _ _ (h _ (setRow_heap w g old _ t _ hg) ⟨rfl, rfl, rfl, by simp, fun k _ hk => setRow_other w g k _ hk⟩)
end Go.Proofs.YtgipngedmblnmaaDoor

namespace Go.Proofs.YtgipngedmblnmaaDoor
open Go.RowKit

/-- a law's specification in memory -/
structure Boxed (w w1 : World) (g : Nat) (B V : List Int) (A : Option Addr) (n c : Nat) : Prop where
  box : Box w1 g 28 (specC B (.slice A n c))
  vals : Ia w1 A n c V
  bel : Below w.heap.size w w1
  len : B.length = 16
theorem Boxed.on {w w1 w2 : World} {g : Nat} {B V : List Int} {A : Option Addr} {n c : Nat} (h : Boxed w w1 g B V A n c) (k : Below w1.heap.size w1 w2) : Boxed w w2 g B V A n c :=
  ⟨h.box.on k, h.vals.on k, on_trans h.bel k, h.len⟩
theorem boxed_made {w w1 : World} {g : Nat} {B V : List Int} {A : Option Addr} {n c : Nat} (hB : B.length = 16) (h : Ia w A n c V) (hw : w1 = w.alloc (.cells (specC B (.slice A n c)) 28)) (hg : g = w.heap.size) : Boxed w w1 g B V A n c := by
  subst hw hg
  exact ⟨Box.made _ _ _, h.alloc _, on_alloc _ _, hB⟩
theorem Boxed.slice {w w1 : World} {g : Nat} {B V : List Int} {A : Option Addr} {n c : Nat} (h : Boxed w w1 g B V A n c) : w1.cell? ⟨g, 16, none⟩ = some (.slice A n c) := (h.box.cell 16).trans (specC_last h.len)
end Go.Proofs.YtgipngedmblnmaaDoor

namespace Go.Proofs.YtgipngedmblnmaaDoor
open Go.RowKit

theorem nodup_inj {V : List Int} (h : V.Nodup) {i j : Nat} (hi : i < V.length) (hj : j < V.length) (e : V[i] = V[j]) : i = j := by
  rcases Nat.lt_trichotomy i j with h1 | h1 | h1
  · exact absurd e (List.pairwise_iff_getElem.1 h i j hi hj h1)
  · exact h1
  · exact absurd e.symm (List.pairwise_iff_getElem.1 h j i hj hi h1)
/-- a value's code is the one in its place -/
theorem code_at {B V : List Int} (h : Valid B V) {p : Nat} (hp : p < V.length) : ∃ x, (pre (cnt B) 16)[p]? = some x ∧ codeOf (codes B V) (V.getD p 0) = x := by
  have hl := h.lens
  have hx : (pre (cnt B) 16)[p]? = some ((pre (cnt B) 16)[p]'(by omega)) := List.getElem?_eq_getElem (by omega)
  generalize (pre (cnt B) 16)[p]'(by omega) = x at hx
  refine ⟨x, hx, ?_⟩
  have hv : V[p]? = some (V.getD p 0) := by rw [List.getD_eq_getElem?_getD, List.getElem?_eq_getElem hp]; rfl
  have he : (codes B V)[p]? = some (V.getD p 0, x) := ents_at.2 ⟨hv, hx⟩
  have hs : (fnd (codes B V) (V.getD p 0)).isSome = true := by
    unfold fnd
    rw [List.find?_isSome]
    exact ⟨_, List.mem_of_getElem? he, by simp⟩
  obtain ⟨e, hf⟩ := Option.isSome_iff_exists.1 hs
  obtain ⟨h1, h2⟩ := fnd_some hf
  obtain ⟨j, hj⟩ := List.getElem?_of_mem h1
  obtain ⟨h3, h4⟩ := ents_at.1 hj
  obtain ⟨hjl, h3'⟩ := List.getElem?_eq_some_iff.1 h3
  have ej : j = p := nodup_inj h.dif hjl hp (by
    rw [h3', h2, List.getD_eq_getElem?_getD, List.getElem?_eq_getElem hp]
    rfl)
  subst ej
  rw [hx] at h4
  unfold codeOf
  rw [hf]
  exact (Option.some.inj h4).symm

theorem Ia.get {w : World} {b off n c k : Nat} {V : List Int} (h : Ia w (some ⟨b, off, none⟩) n c V) (hk : k < n) : w.cell? ⟨b, off + k, none⟩ = some (.int .i64 (V.getD k 0)) := by
  obtain ⟨b', off', e, _, hc⟩ := h.at_ (by omega)
  cases e
  exact hc k hk
end Go.Proofs.YtgipngedmblnmaaDoor
