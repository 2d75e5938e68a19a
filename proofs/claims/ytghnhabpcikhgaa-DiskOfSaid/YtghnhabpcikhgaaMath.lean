/-
  The mathematics of sectors: what writes leave, and all sectors in a row. No code.
-/
import Derived.Test.YtghnhabpcikhgaaBase
namespace Go.Proofs.Ytghnhabpcikhgaa
open Go.RowKit

/-- a sector of noughts -/
def zeros : List Int := List.replicate 128 0
/-- a sector of one byte -/
def ful (x : Int) : List Int := List.replicate 128 x
/-- sector i is l now -/
def upd (f : Nat → List Int) (i : Nat) (l : List Int) : Nat → List Int := fun k => if k = i then l else f k
/-- a write that is pending: its sector, the block that its bytes lie in, and these -/
structure Ent where
  i : Nat
  g : Nat
  l : List Int
/-- a write: its sector and its bytes -/
abbrev Wr := Nat × List Int
def Ent.w (e : Ent) : Wr := (e.i, e.l)
/-- the writes that b keeps, of the first k, are done -/
def runTo (b : Nat → Bool) (f : Nat → List Int) (p : List Wr) : Nat → Nat → List Int
  | 0 => f
  | k + 1 => if b k = true then upd (runTo b f p k) (p.getD k (0, [])).1 (p.getD k (0, [])).2 else runTo b f p k
theorem runTo_succ (b : Nat → Bool) (f : Nat → List Int) (p : List Wr) (k : Nat) : runTo b f p (k + 1) = if b k = true then upd (runTo b f p k) (p.getD k (0, [])).1 (p.getD k (0, [])).2 else runTo b f p k := rfl
/-- all writes are done -/
def after (f : Nat → List Int) (p : List Wr) : Nat → List Int := runTo (fun _ => true) f p p.length
/-- is bit k modulo 64 set? -/
def bitOf (keep k : Nat) : Bool := decide (keep / 2 ^ (k % 64) % 2 = 1)
/-- the writes that a number keeps are done -/
def keeps (keep : Nat) (f : Nat → List Int) (p : List Wr) : Nat → List Int := runTo (bitOf keep) f p p.length
/-- the first n sectors in a row -/
def flat (n : Nat) (f : Nat → List Int) : List Int := (List.range n).flatMap f
/-- the first n are sectors -/
def Good (n : Nat) (f : Nat → List Int) : Prop := ∀ i, i < n → (f i).length = 128 ∧ Fit (f i)
/-- these are writes of sectors -/
def GoodW (n : Nat) (p : List Wr) : Prop := ∀ x ∈ p, x.1 < n ∧ x.2.length = 128 ∧ Fit x.2

theorem zeros_len : zeros.length = 128 := by simp [zeros]
theorem ful_len (x : Int) : (ful x).length = 128 := by simp [ful]
theorem ful_fit {x : Int} (h0 : 0 ≤ x) (h1 : x ≤ 255) : Fit (ful x) := by
  intro z hz
  have := List.eq_of_mem_replicate hz
  omega
theorem zeros_fit : Fit zeros := ful_fit (x := 0) (by omega) (by omega)
theorem good_zeros (n : Nat) : Good n (fun _ => zeros) := fun _ _ => ⟨zeros_len, zeros_fit⟩
theorem good_upd {n : Nat} {f : Nat → List Int} (h : Good n f) {i : Nat} {l : List Int} (hl : l.length = 128) (hf : Fit l) : Good n (upd f i l) := by
  intro k hk
  unfold upd
  split
  · exact ⟨hl, hf⟩
  · exact h k hk
theorem GoodW.app {n : Nat} {p q : List Wr} (h : GoodW n p) (h2 : GoodW n q) : GoodW n (p ++ q) := fun x hx => (List.mem_append.1 hx).elim (h x) (h2 x)
theorem GoodW.get {n : Nat} {p : List Wr} (h : GoodW n p) {k : Nat} (hk : k < p.length) : (p.getD k (0, [])).1 < n ∧ (p.getD k (0, [])).2.length = 128 ∧ Fit (p.getD k (0, [])).2 := by
  rw [List.getD_eq_getElem?_getD, List.getElem?_eq_getElem hk]
  exact h _ (List.getElem_mem hk)
theorem good_runTo {n : Nat} {b : Nat → Bool} {f : Nat → List Int} {p : List Wr} (h : Good n f) (hp : GoodW n p) : ∀ k, k ≤ p.length → Good n (runTo b f p k)
  | 0, _ => h
  | k + 1, hk => by
    unfold runTo
    have := hp.get (show k < p.length by omega)
    split
    · exact good_upd (good_runTo h hp k (by omega)) this.2.1 this.2.2
    · exact good_runTo h hp k (by omega)
theorem runTo_app (b : Nat → Bool) (f : Nat → List Int) (p q : List Wr) : ∀ k, k ≤ p.length → runTo b f (p ++ q) k = runTo b f p k
  | 0, _ => rfl
  | k + 1, hk => by
    have e : (p ++ q).getD k (0, []) = p.getD k (0, []) := by
      simp only [List.getD_eq_getElem?_getD]
      rw [List.getElem?_append_left (by omega)]
    unfold runTo
    rw [e, runTo_app b f p q k (by omega)]
theorem after_nil (f : Nat → List Int) : after f [] = f := rfl
theorem after_snoc (f : Nat → List Int) (p : List Wr) (x : Wr) : after f (p ++ [x]) = upd (after f p) x.1 x.2 := by
  unfold after
  rw [List.length_append]
  show runTo _ f (p ++ [x]) (p.length + 1) = _
  rw [runTo_succ, if_pos rfl, runTo_app _ f p [x] p.length (Nat.le_refl _)]
  simp [List.getD_eq_getElem?_getD]
theorem keeps_snoc (keep : Nat) (f : Nat → List Int) (p : List Wr) (x : Wr) : keeps keep f (p ++ [x]) = if bitOf keep p.length = true then upd (keeps keep f p) x.1 x.2 else keeps keep f p := by
  unfold keeps
  rw [List.length_append]
  show runTo _ f (p ++ [x]) (p.length + 1) = _
  rw [runTo_succ, runTo_app _ f p [x] p.length (Nat.le_refl _)]
  simp [List.getD_eq_getElem?_getD]
theorem good_after {n : Nat} {f : Nat → List Int} {p : List Wr} (h : Good n f) (hp : GoodW n p) : Good n (after f p) := good_runTo h hp _ (Nat.le_refl _)
theorem good_keeps {n : Nat} {keep : Nat} {f : Nat → List Int} {p : List Wr} (h : Good n f) (hp : GoodW n p) : Good n (keeps keep f p) := good_runTo h hp _ (Nat.le_refl _)
theorem runTo_congr {b b' : Nat → Bool} (f : Nat → List Int) (p : List Wr) (h : ∀ k, b k = b' k) : ∀ k, runTo b f p k = runTo b' f p k
  | 0 => rfl
  | k + 1 => by unfold runTo; rw [h k, runTo_congr f p h k]
theorem runTo_none (f : Nat → List Int) (p : List Wr) : ∀ k, runTo (fun _ => false) f p k = f
  | 0 => rfl
  | k + 1 => by unfold runTo; simp [runTo_none f p k]
theorem bit_all (k : Nat) : bitOf 18446744073709551615 k = true := by
  have h : k % 64 < 64 := Nat.mod_lt _ (by omega)
  unfold bitOf
  generalize k % 64 = r at h
  have : ∀ r, r < 64 → decide (18446744073709551615 / 2 ^ r % 2 = 1) = true := by decide
  exact this r h
theorem bit_none (k : Nat) : bitOf 0 k = false := by simp [bitOf]
theorem keeps_all (f : Nat → List Int) (p : List Wr) : keeps 18446744073709551615 f p = after f p := runTo_congr f p bit_all _
theorem keeps_none (f : Nat → List Int) (p : List Wr) : keeps 0 f p = f := (runTo_congr f p bit_none _).trans (runTo_none f p _)

/-! ### all sectors in a row -/
theorem flat_succ (n : Nat) (f : Nat → List Int) : flat (n + 1) f = flat n f ++ f n := by simp [flat, List.range_succ]
theorem flat_len {n : Nat} {f : Nat → List Int} (h : Good n f) : (flat n f).length = n * 128 := by
  induction n with
  | zero => rfl
  | succ n ih =>
    rw [flat_succ, List.length_append, ih (fun i hi => h i (by omega)), (h n (by omega)).1]
    omega
theorem flat_fit {n : Nat} {f : Nat → List Int} (h : Good n f) : Fit (flat n f) := by
  intro z hz
  obtain ⟨i, hi, hz⟩ := List.mem_flatMap.1 hz
  exact (h i (List.mem_range.1 hi)).2 z hz
theorem flat_congr {n : Nat} {f g : Nat → List Int} (h : ∀ i, i < n → f i = g i) : flat n f = flat n g := by
  unfold flat
  induction n with
  | zero => rfl
  | succ n ih =>
    rw [List.range_succ, List.flatMap_append, List.flatMap_append, ih (fun i hi => h i (by omega))]
    simp [h n (by omega)]
theorem splice_app {α : Type} (L R : List α) (off : Nat) (cs : List α) (h : off + cs.length ≤ L.length) : splice (L ++ R) off cs = splice L off cs ++ R := by
  unfold splice
  rw [List.take_append_of_le_length (by omega), List.drop_append_of_le_length h]
  simp
theorem splice_last {α : Type} (L R cs : List α) (off : Nat) (ho : off = L.length) (hc : cs.length = R.length) : splice (L ++ R) off cs = L ++ cs := by
  subst ho
  unfold splice
  rw [List.take_append_of_le_length (Nat.le_refl _), List.take_length, hc, List.drop_of_length_le (by simp), List.append_nil]
theorem splice_flat {n : Nat} {f : Nat → List Int} (h : Good n f) {i : Nat} (hi : i < n) {l : List Int} (hl : l.length = 128) : splice (flat n f) (i * 128) l = flat n (upd f i l) := by
  induction n with
  | zero => omega
  | succ n ih =>
    have hg : Good n f := fun i hi => h i (by omega)
    have hlen := flat_len hg
    by_cases e : i = n
    · subst e
      rw [flat_succ, flat_succ, splice_last _ _ _ _ hlen.symm (by rw [hl, (h i (by omega)).1])]
      congr 1
      · exact flat_congr fun k hk => by unfold upd; rw [if_neg (by omega)]
      · unfold upd; rw [if_pos rfl]
    · rw [flat_succ, flat_succ, splice_app _ _ _ _ (by rw [hlen, hl]; omega), ih hg (by omega)]
      congr 1
      unfold upd; rw [if_neg (fun h => e h.symm)]
theorem splice_cells (L : List Int) (off : Nat) (cs : List Int) : splice (cellsOf L) off (cellsOf cs) = cellsOf (splice L off cs) := by
  simp [splice, cellsOf, List.map_take, List.map_drop]
/-- of the first k sectors some bytes are put, the others are noughts -/
def part (f : Nat → List Int) (k : Nat) : Nat → List Int := fun i => if i < k then f i else zeros
theorem part_zero (f : Nat → List Int) : part f 0 = fun _ => zeros := by funext i; simp [part]
theorem part_succ (f : Nat → List Int) (k : Nat) : part f (k + 1) = upd (part f k) k (f k) := by
  funext i
  by_cases e : i = k
  · subst e; simp [part, upd]
  · by_cases h : i < k
    · simp [part, upd, e, h, show i < k + 1 by omega]
    · simp [part, upd, e, h, show ¬ i < k + 1 by omega]
theorem flat_part (n : Nat) (f : Nat → List Int) : flat n (part f n) = flat n f := flat_congr fun i hi => by simp [part, hi]
theorem good_part {n : Nat} {f : Nat → List Int} (h : Good n f) (k : Nat) : Good n (part f k) := by
  intro i hi
  unfold part
  split
  · exact h i hi
  · exact ⟨zeros_len, zeros_fit⟩
theorem flat_zeros (n : Nat) : flat n (fun _ => zeros) = List.replicate (n * 128) 0 := by
  induction n with
  | zero => rfl
  | succ n ih => rw [flat_succ, ih, zeros, List.replicate_append_replicate, Nat.succ_mul]

end Go.Proofs.Ytghnhabpcikhgaa
