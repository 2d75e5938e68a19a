/-
  What the contracts say of memory (blocks that are known whole, worlds in which only named blocks have turned, slices that read as lists of bytes). Rows of one's own: bytes, numbers, pairs of numbers. The contract of take.
-/
import Derived.Test.YtnakfdaneejcfaaRows
import Derived.WalkKit
import Derived.WalkSpells
import Derived.WalkLawsBesides
import Derived.Lib.Hide
import Derived.Deep.Draws
import Derived.Deep.QuietTactic
import Derived.BigQuiet
import Derived.Deep.RegionWith
import Derived.Laws.AppendOwnNone
import Derived.Laws.CopyOwn
import Derived.Laws.BytesArg
import Derived.Deep.OwnRows
namespace Go.Proofs.Ytnakfdaneejcfaa
open Go.RowKit



/-- block g is the cells cs of type t, all of them free to be written -/
def Box (w : World) (g : Nat) (t : TypeId) (cs : Array Value) : Prop := w.heap[g]? = some (.cells cs t (0, 0))

section
variable {w w' : World} {g : Nat} {t : TypeId} {cs : Array Value}
theorem Box.lt (h : Box w g t cs) : g < w.heap.size := by
  unfold Box at h
  exact (Array.getElem?_eq_some_iff.1 h).1
theorem Box.cell (h : Box w g t cs) (i : Nat) : w.cell? ⟨g, i, none⟩ = cs[i]? := cell_of_row w g i cs t (0, 0) h
theorem Box.free (h : Box w g t cs) (i : Nat) : w.frozen? ⟨g, i, none⟩ = false := by
  unfold Box at h
  simp [World.frozen?, h]
theorem Box.made (w : World) (t : TypeId) (cs : Array Value) : Box (w.alloc (.cells cs t)) w.heap.size t cs := by
  unfold Box
  exact heap_alloc_new w _
theorem Box.drewN (h : Box w g t cs) (n : Nat) : Box (w.drewN n) g t cs := h
theorem Box.alloc (h : Box w g t cs) (o : Obj) : Box (w.alloc o) g t cs := (Below.heap_alloc w o g h.lt).trans h
theorem Box.put (h : Box w g t cs) (i : Nat) (u : Value) : Box (w.setCell ⟨g, i, none⟩ u) g t (cs.setIfInBounds i u) := by
  unfold Box at h ⊢
  simp [World.setCell, Array.getElem?_modify, h]
theorem Box.beside (h : Box w g t cs) {p : Addr} (hp : g ≠ p.block) (u : Value) : Box (w.setCell p u) g t cs := (Below.heap_setCell w p u g hp).trans h
theorem Box.apart {g' : Nat} {t' : TypeId} {cs' : Array Value} (h : Box w g t cs) (h' : Box w g' t' cs') (hne : t ≠ t') : g ≠ g' := by
  intro e
  subst e
  unfold Box at h h'
  rw [h] at h'
  simp at h'
  exact hne h'.2
end

/-- from w to w' only blocks of S have turned, and new ones have come -/
structure Kept (S : Nat → Prop) (w w' : World) : Prop where
  os : w'.os = w.os
  tape : w'.tape = w.tape
  output : w'.output = w.output
  size : w.heap.size ≤ w'.heap.size
  block : ∀ k, k < w.heap.size → ¬ S k → w'.heap[k]? = w.heap[k]?

section
variable {S S' : Nat → Prop} {a w w' : World}
theorem Kept.refl (S : Nat → Prop) (w : World) : Kept S w w := ⟨rfl, rfl, rfl, Nat.le_refl _, fun _ _ _ => rfl⟩
theorem Kept.trans (h : Kept S a w) (k : Kept S' w w') (hS : ∀ i, i < a.heap.size → S' i → S i) : Kept S a w' :=
  ⟨k.os.trans h.os, k.tape.trans h.tape, k.output.trans h.output, Nat.le_trans h.size k.size,
    fun i hi hn => (k.block i (Nat.lt_of_lt_of_le hi h.size) (fun e => hn (hS i hi e))).trans (h.block i hi hn)⟩
theorem Kept.mono (h : Kept S a w) (hS : ∀ i, i < a.heap.size → S i → S' i) : Kept S' a w := ⟨h.os, h.tape, h.output, h.size, fun i hi hn => h.block i hi (fun e => hn (hS i hi e))⟩
theorem Kept.drewN (h : Kept S a w) (n : Nat) : Kept S a (w.drewN n) := ⟨h.os, h.tape, h.output, h.size, h.block⟩
theorem Kept.drew (h : Kept S a w) : Kept S a w.drew := ⟨h.os, h.tape, h.output, h.size, h.block⟩
theorem Kept.alloc (h : Kept S a w) (o : Obj) : Kept S a (w.alloc o) :=
  ⟨h.os, h.tape, h.output, Nat.le_trans h.size (by simp), fun i hi hn => (Below.heap_alloc w o i (Nat.lt_of_lt_of_le hi h.size)).trans (h.block i hi hn)⟩
theorem Kept.setCell (h : Kept S a w) {p : Addr} (hp : p.block < a.heap.size → S p.block) (u : Value) : Kept S a (w.setCell p u) :=
  ⟨h.os, h.tape, h.output, by simpa [World.setCell] using h.size, fun i hi hn => (Below.heap_setCell w p u i (fun e => hn (by subst e; exact hp hi))).trans (h.block i hi hn)⟩
theorem Kept.of_below (h : Below a.heap.size a w) (S : Nat → Prop) : Kept S a w := ⟨h.os, h.tape, h.output, h.size, fun i hi _ => h.block i hi⟩
theorem Kept.below {B : Nat} (h : Kept S a w) (hB : B ≤ a.heap.size) (hS : ∀ i, i < B → ¬ S i) : Below B a w := ⟨h.os, h.tape, h.output, h.size, fun i hi => h.block i (Nat.lt_of_lt_of_le hi hB) (hS i hi)⟩
theorem Kept.box {g : Nat} {t : TypeId} {cs : Array Value} (h : Kept S a w) (hb : Box a g t cs) (hg : ¬ S g) : Box w g t cs := (h.block g hb.lt hg).trans hb
theorem Kept.cell (h : Kept S a w) {p : Addr} (hp : p.block < a.heap.size) (hg : ¬ S p.block) : w.cell? p = a.cell? p := World.cell?_of_block (w := a) (h.block p.block hp hg)
end

/-- all of them are bytes -/
def Fit (l : List Int) : Prop := ∀ z ∈ l, 0 ≤ z ∧ z ≤ 255

theorem Fit.take {l : List Int} (h : Fit l) (k : Nat) : Fit (l.take k) := fun z hz => h z (List.mem_of_mem_take hz)
theorem Fit.drop {l : List Int} (h : Fit l) (k : Nat) : Fit (l.drop k) := fun z hz => h z (List.mem_of_mem_drop hz)
theorem Fit.rev {l : List Int} (h : Fit l) : Fit l.reverse := fun z hz => h z (List.mem_reverse.1 hz)
theorem Fit.app {l r : List Int} (h : Fit l) (k : Fit r) : Fit (l ++ r) := fun z hz => (List.mem_append.1 hz).elim (h z) (k z)
theorem Fit.getD {l : List Int} (h : Fit l) (i : Nat) : 0 ≤ l.getD i 0 ∧ l.getD i 0 ≤ 255 := by
  by_cases hi : i < l.length
  · rw [List.getD_eq_getElem?_getD, List.getElem?_eq_getElem hi]
    exact h _ (List.getElem_mem hi)
  · rw [List.getD_eq_getElem?_getD, List.getElem?_eq_none (by omega)]
    decide

theorem take_more (l : List Int) (k : Nat) (h : k < l.length) : l.take (k + 1) = l.take k ++ [l.getD k 0] := by
  rw [List.take_succ_eq_append_getElem h, List.getD_eq_getElem?_getD, List.getElem?_eq_getElem h]
  rfl

/-- a slice cut off at k -/
def cutAt (A : Option Addr) (c k : Nat) : Option Addr := if c = k then A else A.map (·.add k)

/-- a slice's address A leads to the bytes l; their block is one of K's -/
structure Bts (w : World) (K : Nat → Prop) (A : Option Addr) (l : List Int) : Prop where
  fit : Fit l
  at_ : 0 < l.length → ∃ b off, A = some ⟨b, off, none⟩ ∧ b < w.heap.size ∧ K b ∧ ∀ i, i < l.length → w.cell? ⟨b, off + i, none⟩ = some (.int .u8 (l.getD i 0))

theorem Bts.drewN {w : World} {K : Nat → Prop} {A : Option Addr} {l : List Int} (h : Bts w K A l) (n : Nat) : Bts (w.drewN n) K A l := ⟨h.fit, h.at_⟩
theorem Bts.kept {S : Nat → Prop} {w w' : World} {K : Nat → Prop} {A : Option Addr} {l : List Int} (h : Bts w K A l) (k : Kept S w w') (hS : ∀ b, K b → ¬ S b) : Bts w' K A l :=
  ⟨h.fit, fun h0 => by
    obtain ⟨b, off, e, hb, hk, hc⟩ := h.at_ h0
    exact ⟨b, off, e, Nat.lt_of_lt_of_le hb k.size, hk, fun i hi => (k.cell (p := ⟨b, off + i, none⟩) hb (hS b hk)).trans (hc i hi)⟩⟩
theorem Bts.cut {w : World} {K : Nat → Prop} {A : Option Addr} {l : List Int} {c k m : Nat} (h : Bts w K A l) (hk : k + m ≤ l.length) (hc : l.length ≤ c) : Bts w K (cutAt A c k) ((l.drop k).take m) := by
  refine ⟨(h.fit.drop k).take m, fun h0 => ?_⟩
  rw [List.length_take, List.length_drop] at h0
  obtain ⟨b, off, e, hb, hK, hcell⟩ := h.at_ (by omega)
  subst e
  refine ⟨b, off + k, ?_, hb, hK, fun i hi => ?_⟩
  · unfold cutAt
    rw [if_neg (by omega)]
    simp [Addr.add]
  · rw [List.length_take, List.length_drop] at hi
    rw [Nat.add_assoc, hcell (k + i) (by omega)]
    congr 2
    simp only [List.getD_eq_getElem?_getD]
    rw [List.getElem?_take_of_lt (by omega), List.getElem?_drop]

theorem drew_drewN (w : World) (k : Nat) : w.drew.drewN k = w.drewN (1 + k) := by rw [← World.drewN_drewN]; rfl




/-- a slice of bytes that reads as l; its block is one of K's -/
structure Sl (w : World) (K : Nat → Prop) (A : Option Addr) (n c : Nat) (l : List Int) : Prop where
  bts : Bts w K A l
  len : l.length = n
  cap : n ≤ c
  max : c ≤ maxLen
  nil : A = none → c = 0

theorem Sl.kept {S : Nat → Prop} {w w' : World} {K : Nat → Prop} {A : Option Addr} {n c : Nat} {l : List Int} (h : Sl w K A n c l) (k : Kept S w w') (hS : ∀ b, K b → ¬ S b) : Sl w' K A n c l :=
  ⟨h.bts.kept k hS, h.len, h.cap, h.max, h.nil⟩
theorem Sl.drewN {w : World} {K : Nat → Prop} {A : Option Addr} {n c : Nat} {l : List Int} (h : Sl w K A n c l) (k : Nat) : Sl (w.drewN k) K A n c l := ⟨h.bts.drewN k, h.len, h.cap, h.max, h.nil⟩
theorem Bts.mono {w : World} {K K' : Nat → Prop} {A : Option Addr} {l : List Int} (h : Bts w K A l) (hK : ∀ b, b < w.heap.size → K b → K' b) : Bts w K' A l :=
  ⟨h.fit, fun h0 => by obtain ⟨b, off, e, hb, hk, hc⟩ := h.at_ h0; exact ⟨b, off, e, hb, hK b hb hk, hc⟩⟩
theorem Sl.mono {w : World} {K K' : Nat → Prop} {A : Option Addr} {n c : Nat} {l : List Int} (h : Sl w K A n c l) (hK : ∀ b, b < w.heap.size → K b → K' b) : Sl w K' A n c l := ⟨h.bts.mono hK, h.len, h.cap, h.max, h.nil⟩
theorem Bts.below {B : Nat} {w w' : World} {A : Option Addr} {l : List Int} {K : Nat → Prop} (h : Bts w K A l) (k : Below B w w') (hB : ∀ b, b < w.heap.size → K b → b < B) : Bts w' K A l :=
  ⟨h.fit, fun h0 => by
    obtain ⟨b, off, e, hb, hk, hc⟩ := h.at_ h0
    exact ⟨b, off, e, Nat.lt_of_lt_of_le hb k.size, hk, fun i hi => (k.cell (p := ⟨b, off + i, none⟩) (hB b hb hk)).trans (hc i hi)⟩⟩
theorem Sl.below {B : Nat} {w w' : World} {A : Option Addr} {n c : Nat} {l : List Int} {K : Nat → Prop} (h : Sl w K A n c l) (k : Below B w w') (hB : ∀ b, b < w.heap.size → K b → b < B) : Sl w' K A n c l := ⟨h.bts.below k hB, h.len, h.cap, h.max, h.nil⟩

/-- the cells of bytes -/
def cellsOf (l : List Int) : List Value := l.map (Value.int .u8)

theorem sl_of_own {w : World} {base : Nat} {v : Value} {n : Nat} {l : List Int} (h : w.ownsRow base 5 1 v n (cellsOf l)) (hf : Fit l) : ∃ A c, v = .slice A n c ∧ Sl w (fun b => base ≤ b) A n c l := by
  have hl : l.length = n := by have := h.1; simpa [cellsOf] using this
  have hown := h
  rcases h.2 with ⟨rfl, rfl⟩ | ⟨g, cap, cur, rfl, hg, hh, hn, hm, _, _⟩
  · exact ⟨none, 0, rfl, ⟨hf, fun h0 => by omega⟩, hl, Nat.le_refl _, Nat.zero_le _, fun _ => rfl⟩
  · refine ⟨some ⟨g, 0, none⟩, cap, rfl, ⟨hf, fun _ => ⟨g, 0, rfl, (Array.getElem?_eq_some_iff.1 hh).1, hg, fun i hi => ?_⟩⟩, hl, hn, hm, fun e => by cases e⟩
    rw [Nat.zero_add, hown.cellAt i (by omega)]
    simp [cellsOf, List.getD_eq_getElem?_getD, List.getElem?_eq_getElem hi]

theorem Bts.read {w : World} {K : Nat → Prop} {ad : Addr} {l : List Int} (h : Bts w K (some ad) l) : ∀ j u, (cellsOf l)[j]? = some u → w.cell? (ad.add j) = some u := by
  intro j u hu
  have hj : j < l.length := by
    have := (List.getElem?_eq_some_iff.1 hu).1
    simpa [cellsOf] using this
  obtain ⟨b, off, e, _, _, hc⟩ := h.at_ (by omega)
  injection e with e
  subst e
  have h1 := hc j hj
  have h2 : (⟨b, off, none⟩ : Addr).add j = ⟨b, off + j, none⟩ := by
    unfold Addr.add
    split
    · next h => subst h; simp
    · rfl
  rw [h2, h1]
  simp only [cellsOf, List.getElem?_map, List.getElem?_eq_getElem hj, Option.map_some, Option.some.injEq] at hu
  subst hu
  simp [List.getD_eq_getElem?_getD, List.getElem?_eq_getElem hj]

theorem cellsOf_one (l : List Int) : ∀ u ∈ cellsOf l, u.oneCell' = true := by
  intro u hu
  obtain ⟨z, _, rfl⟩ := List.mem_map.1 hu
  rfl

theorem byte_info : (Try.prog.info? 5).map (fun i => (i.zero, i.size, i.bytes)) = some (some (.int .u8 0), 1, 1) := by kernel_rfl

theorem sl_of_box {w : World} {K : Nat → Prop} {b n : Nat} {l : List Int} (h : Box w b 5 (cellsOf l).toArray) (hf : Fit l) (hl : l.length = n) (hm : n ≤ maxLen) (hK : K b) : Sl w K (some ⟨b, 0, none⟩) n n l := by
  refine ⟨⟨hf, fun _ => ⟨b, 0, rfl, h.lt, hK, fun i hi => ?_⟩⟩, hl, Nat.le_refl _, hm, fun e => by cases e⟩
  rw [Nat.zero_add, h.cell i]
  simp [cellsOf, List.getD_eq_getElem?_getD, List.getElem?_eq_getElem hi]

theorem below_drewN_refl (w : World) (k : Nat) : Below w.heap.size w (w.drewN k) := ⟨rfl, rfl, rfl, Nat.le_refl _, fun _ _ => rfl⟩
theorem splice_all {α : Type} (L cs : List α) (h : L.length ≤ cs.length) : splice L 0 cs = cs := by
  unfold splice
  rw [List.take_zero, List.nil_append, Nat.zero_add, List.drop_of_length_le h, List.append_nil]

theorem byte_size : (Try.prog.info? 5).map (·.size) = some 1 := by kernel_rfl

theorem cellsOf_len (l : List Int) : (cellsOf l).length = l.length := by simp [cellsOf]

theorem set_cells (l : List Int) (i : Nat) (z : Int) : (cellsOf l).toArray.setIfInBounds i (.int .u8 z) = (cellsOf (l.set i z)).toArray := by
  simp [cellsOf, List.map_set]

theorem sl_copy {w : World} {K : Nat → Prop} {A : Option Addr} {n c : Nat} {l : List Int} (h : Sl w K A n c l) (o : Obj) (h0 : 0 < (cellsOf l).length) :
    ∃ ad, A = some ad ∧ ∀ j v, (cellsOf l)[j]? = some v → (w.alloc o).cell? (ad.add j) = some v := by
  have hb := h.bts.kept ((Kept.refl (fun _ => False) w).alloc o) (fun _ _ h => h)
  obtain ⟨b, off, e, _⟩ := hb.at_ (by simpa [cellsOf] using h0)
  subst e
  exact ⟨_, rfl, hb.read⟩

theorem Sl.drew {w : World} {K : Nat → Prop} {A : Option Addr} {n c : Nat} {l : List Int} (h : Sl w K A n c l) : Sl w.drew K A n c l := ⟨⟨h.bts.fit, h.bts.at_⟩, h.len, h.cap, h.max, h.nil⟩

theorem sl_str {w : World} {K : Nat → Prop} {A : Option Addr} {n c : Nat} {l : List Int} (h : Sl w K A n c l) : (convert 32 9 (.slice A n c)).run Try.prog w = .ok (.string (strOfNums l)) w := by
  by_cases h0 : 0 < l.length
  · obtain ⟨b, off, e, _, _, hc⟩ := h.bts.at_ h0
    subst e
    exact run_convert_bytes_arg w 32 5 Try.underlying32 Try.underlying5 b off n c l h.len (fun i hi => hc i (by rw [h.len]; exact hi)) 9 Try.underlying9
  · have hl : l = [] := List.eq_nil_of_length_eq_zero (by omega)
    subst hl
    obtain rfl : n = 0 := by have := h.len; simpa using this.symm
    cases A with
    | none => exact run_convert_bytes_nil w 32 5 Try.underlying32 Try.underlying5 0 c 9 Try.underlying9
    | some ad =>
      rw [run_convert_bytes_string w 32 9 5 _ 0 c Try.underlying32 Try.underlying5 Try.underlying9]
      exact run_bytesToString w ad 0 c [] (by simp [loadCells, loadCellsFrom])





theorem Sl.alloc {w : World} {K : Nat → Prop} {A : Option Addr} {n c : Nat} {l : List Int} (h : Sl w K A n c l) (o : Obj) : Sl (w.alloc o) K A n c l := h.kept ((Kept.refl (fun _ => False) w).alloc o) (fun _ _ h => h)
theorem on_trans {w w1 w2 : World} (a : Below w.heap.size w w1) (b : Below w1.heap.size w1 w2) : Below w.heap.size w w2 := a.trans (b.mono a.size)
theorem on_alloc (w : World) (o : Obj) : Below w.heap.size w (w.alloc o) := (Below.refl _ _).alloc (Nat.le_refl _) _
theorem on_drew (w : World) : Below w.heap.size w w.drew := (Below.refl _ _).drew
/-- what reads as bytes reads so when only new memory has come -/
theorem Sl.on {w w' : World} {K : Nat → Prop} {A : Option Addr} {n c : Nat} {l : List Int} (h : Sl w K A n c l) (k : Below w.heap.size w w') : Sl w' (fun _ => True) A n c l :=
  ((h.mono (K' := fun b => b < w.heap.size) (fun _ hb _ => hb)).below k (fun _ _ h => h)).mono (fun _ _ _ => trivial)

/-- what the laws answer -/
def Law (w : World) (e : Ending) (w' : World) : Prop := e = .returned (.bool true) ∧ Below w.heap.size w w'

end Go.Proofs.Ytnakfdaneejcfaa

namespace Go.Proofs.Ytnakfdaneejcfaa
open Go.RowKit

theorem Box.on {w w' : World} {g : Nat} {t : TypeId} {cs : Array Value} (h : Box w g t cs) (k : Below w.heap.size w w') : Box w' g t cs := (k.block g h.lt).trans h
theorem ownsRow_block {w w' : World} {lo : Nat} {e size : Nat} {v : Value} {n : Nat} {xs : List Value} (h : w.ownsRow lo e size v n xs) (k : ∀ g cs, v.ownBlock = some g → w.heap[g]? = some (.cells cs e (0, 0)) → w'.heap[g]? = w.heap[g]?) : w'.ownsRow lo e size v n xs := by
  refine ⟨h.1, h.2.imp id ?_⟩
  rintro ⟨g, cap, cur, rfl, h1, hh, h2⟩
  exact ⟨g, cap, cur, rfl, h1, (k g cur rfl hh).trans hh, h2⟩

theorem own_slice {w : World} {lo e size n : Nat} {v : Value} {xs : List Value} (h : w.ownsRow lo e size v n xs) : ∃ A c, v = .slice A n c := by
  rcases h.2 with ⟨rfl, h0⟩ | ⟨g, cap, cur, rfl, _⟩
  · exact ⟨none, 0, by rw [h0]⟩
  · exact ⟨_, _, rfl⟩

/-- an append of bytes to a row of one's own -/
theorem wpList_append_sl {w : World} {ops : Array Oper} {rest : List Oper} {o : Oper} {a : Act} {Q : Exit → Act → World → Prop} (hgd : o.guard = none) (s x : Operand)
    (ho : o.op = .call { callee := .builtin .append, args := #[s, x], argTypes := #[32, 32] })
    (base : Nat) (v : Value) (n : Nat) (l : List Int) (hs : a.eval s = v) (hown : w.ownsRow base 5 1 v n (cellsOf l))
    (K : Nat → Prop) (A : Option Addr) (m c : Nat) (r : List Int) (hx : a.eval x = .slice A m c) (hr : Sl w K A m c r) (h63 : n + m ≤ 140737488351232) (hbase : base ≤ w.heap.size)
    (h : ∀ v' w', w'.ownsRow base 5 1 v' (n + m) (cellsOf (l ++ r)) → Below base w w' → wpList Try.prog ops Q rest (a.put o.dst v') w') : wpList Try.prog ops Q (o :: rest) a w := by
  obtain ⟨i0, hi0, hz0, hz1, hz2⟩ := info_parts byte_info
  cases A with
  | none =>
    obtain rfl : c = 0 := hr.nil rfl
    obtain rfl : m = 0 := by have := hr.cap; omega
    have hl : r = [] := List.eq_nil_of_length_eq_zero hr.len
    subst hl
    exact wpList_append_own_none hgd s x 32 ho base 5 i0 1 Try.underlying32 hi0 v n (cellsOf l) hs hown hx (h v w (by simpa using hown) (Below.refl _ _))
  | some ad =>
    refine wpList_append_own _ hgd s x 32 ho base 5 i0 (.int .u8 0) 1 1 Try.underlying32 hi0 hz0 hz1 hz2 rfl (by omega) v n (cellsOf l) hs hown ad m c (cellsOf r) hx (by rw [cellsOf_len, hr.len, Nat.mul_one]) hr.bts.read (cellsOf_one r) (by simp only [maxLen]; omega) (by omega) hbase ?_
    intro v' w' h1 h2 _
    have e : cellsOf l ++ cellsOf r = cellsOf (l ++ r) := by simp [cellsOf]
    rw [e] at h1
    exact h v' w' h1 ((Below.refl base w).grown h2 hbase (fun j hj => (hown.lt j hj).1))


/-- bytes at the head of a block of one's own -/
structure Head (w : World) (g n cap : Nat) (l : List Int) (rest : List Value) : Prop where
  box : Box w g 5 (cellsOf l ++ rest).toArray
  len : l.length = n
  fit : Fit l
  room : n ≤ cap
  max : cap ≤ maxLen

theorem Fit.set {l : List Int} (h : Fit l) (i : Nat) (z : Int) (h0 : 0 ≤ z) (h1 : z ≤ 255) : Fit (l.set i z) := fun y hy => by
  rcases List.mem_or_eq_of_mem_set hy with h2 | rfl
  · exact h y h2
  · exact ⟨h0, h1⟩
theorem head_of_own {w : World} {base : Nat} {v : Value} {n : Nat} {l : List Int} (h : w.ownsRow base 5 1 v n (cellsOf l)) (hf : Fit l) (h0 : 0 < n) : ∃ g cap rest, v = .slice (some ⟨g, 0, none⟩) n cap ∧ base ≤ g ∧ Head w g n cap l rest := by
  have hl : l.length = n := by have := h.1; simpa [cellsOf] using this
  rcases h.2 with ⟨_, h1⟩ | ⟨g, cap, cur, hv, hg, hh, hn, hm, hc, ht⟩
  · omega
  · refine ⟨g, cap, cur.toList.drop n, hv, hg, ⟨?_, hl, hf, hn, hm⟩⟩
    rw [Nat.mul_one] at ht
    unfold Box
    rw [hh, ← ht, List.take_append_drop]
theorem Head.cell {w : World} {g n cap : Nat} {l : List Int} {rest : List Value} (h : Head w g n cap l rest) (i : Nat) (hi : i < n) : w.cell? ⟨g, i, none⟩ = some (.int .u8 (l.getD i 0)) := by
  have hl := h.len
  rw [h.box.cell i]
  rw [List.getElem?_toArray, List.getElem?_append_left (by rw [cellsOf_len]; omega)]
  simp [cellsOf, List.getD_eq_getElem?_getD, List.getElem?_eq_getElem (show i < l.length by omega)]
theorem Head.put {w : World} {g n cap : Nat} {l : List Int} {rest : List Value} (h : Head w g n cap l rest) (i : Nat) (hi : i < n) (z : Int) (h0 : 0 ≤ z) (h1 : z ≤ 255) : Head (w.setCell ⟨g, i, none⟩ (.int .u8 z)) g n cap (l.set i z) rest := by
  have hl := h.len
  refine ⟨?_, by rw [List.length_set]; exact hl, h.fit.set i z h0 h1, h.room, h.max⟩
  have := h.box.put i (.int .u8 z)
  have e : (cellsOf l ++ rest).toArray.setIfInBounds i (.int .u8 z) = (cellsOf (l.set i z) ++ rest).toArray := by
    rw [List.setIfInBounds_toArray, List.set_append_left _ _ (by rw [cellsOf_len]; omega)]
    simp [cellsOf, List.map_set]
  rwa [e] at this
theorem Head.sl {w : World} {g n cap : Nat} {l : List Int} {rest : List Value} (h : Head w g n cap l rest) : Sl w (fun _ => True) (some ⟨g, 0, none⟩) n cap l :=
  ⟨⟨h.fit, fun _ => ⟨g, 0, rfl, h.box.lt, trivial, fun i hi => by rw [Nat.zero_add]; exact h.cell i (by rw [← h.len]; exact hi)⟩⟩, h.len, h.room, h.max, fun e => by cases e⟩
theorem Head.drew {w : World} {g n cap : Nat} {l : List Int} {rest : List Value} (h : Head w g n cap l rest) : Head w.drew g n cap l rest := ⟨h.box, h.len, h.fit, h.room, h.max⟩
theorem Head.on {w w' : World} {g n cap : Nat} {l : List Int} {rest : List Value} (h : Head w g n cap l rest) (k : Below w.heap.size w w') : Head w' g n cap l rest := ⟨h.box.on k, h.len, h.fit, h.room, h.max⟩


/-- the cells of numbers -/
def cellsI (l : List Int) : List Value := l.map (Value.int .i64)
theorem cellsI_len (l : List Int) : (cellsI l).length = l.length := by simp [cellsI]
theorem cellsI_one (l : List Int) : ∀ u ∈ cellsI l, u.oneCell' = true := by
  intro u hu
  obtain ⟨z, _, rfl⟩ := List.mem_map.1 hu
  rfl
theorem int_info : (Try.prog.info? 3).map (fun i => (i.zero, i.size, i.bytes)) = some (some (.int .i64 0), 1, 8) := by kernel_rfl

/-- a slice of numbers that reads as xs -/
structure Il (w : World) (A : Option Addr) (n c : Nat) (xs : List Int) : Prop where
  len : xs.length = n
  cap : n ≤ c
  max : c ≤ maxLen
  nil : A = none → c = 0
  at_ : 0 < n → ∃ b off, A = some ⟨b, off, none⟩ ∧ b < w.heap.size ∧ ∀ i, i < n → w.cell? ⟨b, off + i, none⟩ = some (.int .i64 (xs.getD i 0))

theorem Il.on {w w' : World} {A : Option Addr} {n c : Nat} {xs : List Int} (h : Il w A n c xs) (k : Below w.heap.size w w') : Il w' A n c xs :=
  ⟨h.len, h.cap, h.max, h.nil, fun h0 => by
    obtain ⟨b, off, e, hb, hc⟩ := h.at_ h0
    exact ⟨b, off, e, Nat.lt_of_lt_of_le hb k.size, fun i hi => (k.cell (p := ⟨b, off + i, none⟩) hb).trans (hc i hi)⟩⟩
theorem Il.kept {w w' : World} {S : Nat → Prop} {A : Option Addr} {n c : Nat} {xs : List Int} (h : Il w A n c xs) (k : Kept S w w') (hS : ∀ b off, A = some ⟨b, off, none⟩ → ¬ S b) : Il w' A n c xs :=
  ⟨h.len, h.cap, h.max, h.nil, fun h0 => by
    obtain ⟨b, off, e, hb, hc⟩ := h.at_ h0
    exact ⟨b, off, e, Nat.lt_of_lt_of_le hb k.size, fun i hi => (k.cell (p := ⟨b, off + i, none⟩) hb (hS b off e)).trans (hc i hi)⟩⟩
theorem Il.none (w : World) : Il w none 0 0 [] := ⟨rfl, Nat.le_refl _, Nat.zero_le _, fun _ => rfl, fun h => absurd h (by omega)⟩
theorem plain_add (b off i : Nat) : (⟨b, off, none⟩ : Addr).add i = ⟨b, off + i, none⟩ := by
  unfold Addr.add
  split
  · next h => subst h; simp
  · rfl
theorem Il.read {w : World} {ad : Addr} {n c : Nat} {l : List Int} (h : Il w (some ad) n c l) : ∀ j u, (cellsI l)[j]? = some u → w.cell? (ad.add j) = some u := by
  intro j u hu
  have hj : j < l.length := by
    have := (List.getElem?_eq_some_iff.1 hu).1
    simpa [cellsI] using this
  have hl := h.len
  obtain ⟨b, off, e, _, hc⟩ := h.at_ (by omega)
  injection e with e
  subst e
  rw [plain_add, hc j (by omega)]
  simp only [cellsI, List.getElem?_map, List.getElem?_eq_getElem hj, Option.map_some, Option.some.injEq] at hu
  subst hu
  simp [List.getD_eq_getElem?_getD, List.getElem?_eq_getElem hj]
theorem il_of_own {w : World} {base : Nat} {v : Value} {n : Nat} {l : List Int} (h : w.ownsRow base 3 1 v n (cellsI l)) : ∃ A c, v = .slice A n c ∧ Il w A n c l ∧ ∀ b off, A = some ⟨b, off, none⟩ → base ≤ b := by
  have hl : l.length = n := by have := h.1; simpa [cellsI] using this
  have hown := h
  rcases h.2 with ⟨rfl, rfl⟩ | ⟨g, cap, cur, rfl, hg, hh, hn, hm, _, _⟩
  · exact ⟨_, 0, rfl, ⟨hl, Nat.le_refl _, Nat.zero_le _, fun _ => rfl, fun h0 => by omega⟩, fun b off e => by cases e⟩
  · refine ⟨some ⟨g, 0, none⟩, cap, rfl, ⟨hl, hn, hm, (fun e => by cases e), fun _ => ⟨g, 0, rfl, (Array.getElem?_eq_some_iff.1 hh).1, fun i hi => ?_⟩⟩, fun b off e => by cases e; exact hg⟩
    rw [Nat.zero_add, hown.cellAt i (by omega)]
    simp [cellsI, List.getD_eq_getElem?_getD, List.getElem?_eq_getElem (show i < l.length by omega)]
/-- an append of numbers to a row of one's own -/
theorem wpList_append_il {w : World} {ops : Array Oper} {rest : List Oper} {o : Oper} {a : Act} {Q : Exit → Act → World → Prop} (hgd : o.guard = none) (s x : Operand)
    (ho : o.op = .call { callee := .builtin .append, args := #[s, x], argTypes := #[25, 25] })
    (base : Nat) (v : Value) (n : Nat) (l : List Int) (hs : a.eval s = v) (hown : w.ownsRow base 3 1 v n (cellsI l))
    (A : Option Addr) (m c : Nat) (r : List Int) (hx : a.eval x = .slice A m c) (hr : Il w A m c r) (h63 : n + m ≤ 1000000) (hbase : base ≤ w.heap.size)
    (h : ∀ v' w', w'.ownsRow base 3 1 v' (n + m) (cellsI (l ++ r)) → Below base w w' → wpList Try.prog ops Q rest (a.put o.dst v') w') : wpList Try.prog ops Q (o :: rest) a w := by
  obtain ⟨i0, hi0, hz0, hz1, hz2⟩ := info_parts int_info
  cases A with
  | none =>
    obtain rfl : c = 0 := hr.nil rfl
    obtain rfl : m = 0 := by have := hr.cap; omega
    have hl : r = [] := List.eq_nil_of_length_eq_zero hr.len
    subst hl
    exact wpList_append_own_none hgd s x 25 ho base 3 i0 1 Try.underlying25 hi0 v n (cellsI l) hs hown hx (h v w (by simpa using hown) (Below.refl _ _))
  | some ad =>
    refine wpList_append_own _ hgd s x 25 ho base 3 i0 (.int .i64 0) 1 8 Try.underlying25 hi0 hz0 hz1 hz2 rfl (by omega) v n (cellsI l) hs hown ad m c (cellsI r) hx (by rw [cellsI_len, hr.len, Nat.mul_one]) hr.read (cellsI_one r) (by simp only [maxLen]; omega) (by omega) hbase ?_
    intro v' w' h1 h2 _
    have e : cellsI l ++ cellsI r = cellsI (l ++ r) := by simp [cellsI]
    rw [e] at h1
    exact h v' w' h1 ((Below.refl base w).grown h2 hbase (fun j hj => (hown.lt j hj).1))

/-- a slice of structs of two numbers that reads as ks; its block is one of K's -/
structure Pl (w : World) (K : Nat → Prop) (A : Option Addr) (n : Nat) (ks : List (Int × Int)) : Prop where
  len : ks.length = n
  at_ : 0 < n → ∃ b off, A = some ⟨b, off, none⟩ ∧ b < w.heap.size ∧ K b ∧ ∀ i, i < n → w.cell? ⟨b, off + i * 2, none⟩ = some (.int .i64 (ks.getD i (0, 0)).1) ∧ w.cell? ⟨b, off + i * 2 + 1, none⟩ = some (.int .i64 (ks.getD i (0, 0)).2)
theorem Pl.kept {S : Nat → Prop} {w w' : World} {K : Nat → Prop} {A : Option Addr} {n : Nat} {ks : List (Int × Int)} (h : Pl w K A n ks) (k : Kept S w w') (hS : ∀ b, K b → ¬ S b) : Pl w' K A n ks :=
  ⟨h.len, fun h0 => by
    obtain ⟨b, off, e, hb, hk, hc⟩ := h.at_ h0
    exact ⟨b, off, e, Nat.lt_of_lt_of_le hb k.size, hk, fun i hi => ⟨(k.cell (p := ⟨b, off + i * 2, none⟩) hb (hS b hk)).trans (hc i hi).1, (k.cell (p := ⟨b, off + i * 2 + 1, none⟩) hb (hS b hk)).trans (hc i hi).2⟩⟩⟩
theorem Pl.mono {w : World} {K K' : Nat → Prop} {A : Option Addr} {n : Nat} {ks : List (Int × Int)} (h : Pl w K A n ks) (hK : ∀ b, b < w.heap.size → K b → K' b) : Pl w K' A n ks :=
  ⟨h.len, fun h0 => by obtain ⟨b, off, e, hb, hk, hc⟩ := h.at_ h0; exact ⟨b, off, e, hb, hK b hb hk, hc⟩⟩
theorem Pl.below {B : Nat} {w w' : World} {A : Option Addr} {n : Nat} {ks : List (Int × Int)} {K : Nat → Prop} (h : Pl w K A n ks) (k : Below B w w') (hB : ∀ b, b < w.heap.size → K b → b < B) : Pl w' K A n ks :=
  ⟨h.len, fun h0 => by
    obtain ⟨b, off, e, hb, hk, hc⟩ := h.at_ h0
    exact ⟨b, off, e, Nat.lt_of_lt_of_le hb k.size, hk, fun i hi => ⟨(k.cell (p := ⟨b, off + i * 2, none⟩) (hB b hb hk)).trans (hc i hi).1, (k.cell (p := ⟨b, off + i * 2 + 1, none⟩) (hB b hb hk)).trans (hc i hi).2⟩⟩⟩
theorem Pl.get {w : World} {K : Nat → Prop} {A : Option Addr} {n : Nat} {ks : List (Int × Int)} (h : Pl w K A n ks) {k : Nat} (hk : k < n) : ∃ b off, A = some ⟨b, off, none⟩ ∧ w.cell? ⟨b, off + k * 2, none⟩ = some (.int .i64 (ks.getD k (0, 0)).1) ∧ w.cell? ⟨b, off + k * 2 + 1, none⟩ = some (.int .i64 (ks.getD k (0, 0)).2) := by
  obtain ⟨b, off, e, _, _, hc⟩ := h.at_ (by omega)
  exact ⟨b, off, e, hc k hk⟩
theorem Sl.get {w : World} {K : Nat → Prop} {A : Option Addr} {n c : Nat} {l : List Int} (h : Sl w K A n c l) {k : Nat} (hk : k < n) : ∃ b off, A = some ⟨b, off, none⟩ ∧ w.cell? ⟨b, off + k, none⟩ = some (.int .u8 (l.getD k 0)) := by
  obtain ⟨b, off, e, _, _, hc⟩ := h.bts.at_ (by rw [h.len]; omega)
  exact ⟨b, off, e, hc k (by rw [h.len]; exact hk)⟩

end Go.Proofs.Ytnakfdaneejcfaa

namespace Go.Proofs.Ytnakfdaneejcfaa
open Go.RowKit

theorem pow40 {j : Nat} (h : j ≤ 40) : 2 ^ j ≤ 1099511627776 := Nat.le_trans (Nat.pow_le_pow_right (by omega) h) (by decide)
theorem pow_pos' (j : Nat) : 0 < 2 ^ j := Nat.pow_pos (by omega)
theorem wrap_small {z : Int} (h0 : -9223372036854775808 ≤ z) (h1 : z ≤ 9223372036854775807) : IntKind.i64.wrap z = z := by simp [IntKind.wrap, IntKind.bits, IntKind.signed]; omega

/-- what take leaves -/
def Took (w : World) (g : Nat) (t : TypeId) (cs : Array Value) (o v j : Nat) (e : Ending) (w' : World) : Prop :=
  e = .returned (.int .i64 ((v / 2 ^ j : Nat) : Int)) ∧ Box w' g t ((cs.setIfInBounds (o + 1) (.int .i64 (j : Int))).setIfInBounds o (.int .i64 ((v % 2 ^ j : Nat) : Int))) ∧ Kept (fun i => i = g) w w'

end Go.Proofs.Ytnakfdaneejcfaa
