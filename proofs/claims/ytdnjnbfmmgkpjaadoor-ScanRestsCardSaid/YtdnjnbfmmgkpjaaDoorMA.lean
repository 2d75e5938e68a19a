/-
  What the contracts say of memory (blocks that are known whole, worlds in which only named blocks have turned, slices that read as lists of bytes). Rows of one's own: bytes, numbers, pairs of numbers. The contract of take. Codes by counts: mathematics, no code. A specification in memory; the contracts of own and copied. The contract of copied. The contract of differ. The contract of fit. The size of a number: mathematics, no code. The contracts of Size, the program's and the reference's. Blocks of 64 numbers in memory; the contracts of inRange, Right and Order. The symbols of a block: mathematics, no code.
-/
import Derived.Test.YtdnjnbfmmgkpjaaDoorRows
import Derived.WalkKit
import Derived.WalkSpells
import Derived.WalkLawsBesides
import Derived.Lib.Hide
import Derived.Deep.Draws
import Derived.Deep.QuietTactic
import Derived.BigQuiet
import Derived.Deep.RegionWith
import Derived.Laws.AppendOwnNone
import Derived.Laws.CopyOwn
import Derived.Laws.BytesArg
import Derived.Deep.OwnRows
import Derived.Deep.MidRow
import Derived.Deep.RegionHeld3
import Derived.Laws.Rows
namespace Go.Proofs.YtdnjnbfmmgkpjaaDoor
open Go.RowKit



/-- block g is the cells cs of type t, all of them free to be written -/
def Box (w : World) (g : Nat) (t : TypeId) (cs : Array Value) : Prop := w.heap[g]? = some (.cells cs t (0, 0))

section
variable {w w' : World} {g : Nat} {t : TypeId} {cs : Array Value}
theorem Box.lt (h : Box w g t cs) : g < w.heap.size := by
  unfold Box at h
  exact (Array.getElem?_eq_some_iff.1 h).1
theorem Box.cell (h : Box w g t cs) (i : Nat) : w.cell? ⟨g, i, none⟩ = cs[i]? := cell_of_row w g i cs t (0, 0) h
theorem Box.free (h : Box w g t cs) (i : Nat) : w.frozen? ⟨g, i, none⟩ = false := by
  unfold Box at h
  simp [World.frozen?, h]
theorem Box.made (w : World) (t : TypeId) (cs : Array Value) : Box (w.alloc (.cells cs t)) w.heap.size t cs := by
  unfold Box
  exact heap_alloc_new w _
theorem Box.drewN (h : Box w g t cs) (n : Nat) : Box (w.drewN n) g t cs := h
theorem Box.alloc (h : Box w g t cs) (o : Obj) : Box (w.alloc o) g t cs := (Below.heap_alloc w o g h.lt).trans h
theorem Box.put (h : Box w g t cs) (i : Nat) (u : Value) : Box (w.setCell ⟨g, i, none⟩ u) g t (cs.setIfInBounds i u) := by
  unfold Box at h ⊢
  simp [World.setCell, Array.getElem?_modify, h]
theorem Box.beside (h : Box w g t cs) {p : Addr} (hp : g ≠ p.block) (u : Value) : Box (w.setCell p u) g t cs := (Below.heap_setCell w p u g hp).trans h
theorem Box.apart {g' : Nat} {t' : TypeId} {cs' : Array Value} (h : Box w g t cs) (h' : Box w g' t' cs') (hne : t ≠ t') : g ≠ g' := by
  intro e
  subst e
  unfold Box at h h'
  rw [h] at h'
  simp at h'
  exact hne h'.2
end

/-- from w to w' only blocks of S have turned, and new ones have come -/
structure Kept (S : Nat → Prop) (w w' : World) : Prop where
  os : w'.os = w.os
  tape : w'.tape = w.tape
  output : w'.output = w.output
  size : w.heap.size ≤ w'.heap.size
  block : ∀ k, k < w.heap.size → ¬ S k → w'.heap[k]? = w.heap[k]?

section
variable {S S' : Nat → Prop} {a w w' : World}
theorem Kept.refl (S : Nat → Prop) (w : World) : Kept S w w := ⟨rfl, rfl, rfl, Nat.le_refl _, fun _ _ _ => rfl⟩
theorem Kept.trans (h : Kept S a w) (k : Kept S' w w') (hS : ∀ i, i < a.heap.size → S' i → S i) : Kept S a w' :=
  ⟨k.os.trans h.os, k.tape.trans h.tape, k.output.trans h.output, Nat.le_trans h.size k.size,
    fun i hi hn => (k.block i (Nat.lt_of_lt_of_le hi h.size) (fun e => hn (hS i hi e))).trans (h.block i hi hn)⟩
theorem Kept.mono (h : Kept S a w) (hS : ∀ i, i < a.heap.size → S i → S' i) : Kept S' a w := ⟨h.os, h.tape, h.output, h.size, fun i hi hn => h.block i hi (fun e => hn (hS i hi e))⟩
theorem Kept.drewN (h : Kept S a w) (n : Nat) : Kept S a (w.drewN n) := ⟨h.os, h.tape, h.output, h.size, h.block⟩
theorem Kept.drew (h : Kept S a w) : Kept S a w.drew := ⟨h.os, h.tape, h.output, h.size, h.block⟩
theorem Kept.alloc (h : Kept S a w) (o : Obj) : Kept S a (w.alloc o) :=
  ⟨h.os, h.tape, h.output, Nat.le_trans h.size (by simp), fun i hi hn => (Below.heap_alloc w o i (Nat.lt_of_lt_of_le hi h.size)).trans (h.block i hi hn)⟩
theorem Kept.setCell (h : Kept S a w) {p : Addr} (hp : p.block < a.heap.size → S p.block) (u : Value) : Kept S a (w.setCell p u) :=
  ⟨h.os, h.tape, h.output, by simpa [World.setCell] using h.size, fun i hi hn => (Below.heap_setCell w p u i (fun e => hn (by subst e; exact hp hi))).trans (h.block i hi hn)⟩
theorem Kept.of_below (h : Below a.heap.size a w) (S : Nat → Prop) : Kept S a w := ⟨h.os, h.tape, h.output, h.size, fun i hi _ => h.block i hi⟩
theorem Kept.below {B : Nat} (h : Kept S a w) (hB : B ≤ a.heap.size) (hS : ∀ i, i < B → ¬ S i) : Below B a w := ⟨h.os, h.tape, h.output, h.size, fun i hi => h.block i (Nat.lt_of_lt_of_le hi hB) (hS i hi)⟩
theorem Kept.box {g : Nat} {t : TypeId} {cs : Array Value} (h : Kept S a w) (hb : Box a g t cs) (hg : ¬ S g) : Box w g t cs := (h.block g hb.lt hg).trans hb
theorem Kept.cell (h : Kept S a w) {p : Addr} (hp : p.block < a.heap.size) (hg : ¬ S p.block) : w.cell? p = a.cell? p := World.cell?_of_block (w := a) (h.block p.block hp hg)
end

/-- all of them are bytes -/
def Fit (l : List Int) : Prop := ∀ z ∈ l, 0 ≤ z ∧ z ≤ 255

theorem Fit.take {l : List Int} (h : Fit l) (k : Nat) : Fit (l.take k) := fun z hz => h z (List.mem_of_mem_take hz)
theorem Fit.drop {l : List Int} (h : Fit l) (k : Nat) : Fit (l.drop k) := fun z hz => h z (List.mem_of_mem_drop hz)
theorem Fit.rev {l : List Int} (h : Fit l) : Fit l.reverse := fun z hz => h z (List.mem_reverse.1 hz)
theorem Fit.app {l r : List Int} (h : Fit l) (k : Fit r) : Fit (l ++ r) := fun z hz => (List.mem_append.1 hz).elim (h z) (k z)
theorem Fit.getD {l : List Int} (h : Fit l) (i : Nat) : 0 ≤ l.getD i 0 ∧ l.getD i 0 ≤ 255 := by
  by_cases hi : i < l.length
  · rw [List.getD_eq_getElem?_getD, List.getElem?_eq_getElem hi]
    exact h _ (List.getElem_mem hi)
  · rw [List.getD_eq_getElem?_getD, List.getElem?_eq_none (by omega)]
    decide

theorem take_more (l : List Int) (k : Nat) (h : k < l.length) : l.take (k + 1) = l.take k ++ [l.getD k 0] := by
  rw [List.take_succ_eq_append_getElem h, List.getD_eq_getElem?_getD, List.getElem?_eq_getElem h]
  rfl

/-- a slice cut off at k -/
def cutAt (A : Option Addr) (c k : Nat) : Option Addr := if c = k then A else A.map (·.add k)

/-- a slice's address A leads to the bytes l; their block is one of K's -/
structure Bts (w : World) (K : Nat → Prop) (A : Option Addr) (l : List Int) : Prop where
  fit : Fit l
  at_ : 0 < l.length → ∃ b off, A = some ⟨b, off, none⟩ ∧ b < w.heap.size ∧ K b ∧ ∀ i, i < l.length → w.cell? ⟨b, off + i, none⟩ = some (.int .u8 (l.getD i 0))

theorem Bts.drewN {w : World} {K : Nat → Prop} {A : Option Addr} {l : List Int} (h : Bts w K A l) (n : Nat) : Bts (w.drewN n) K A l := ⟨h.fit, h.at_⟩
theorem Bts.kept {S : Nat → Prop} {w w' : World} {K : Nat → Prop} {A : Option Addr} {l : List Int} (h : Bts w K A l) (k : Kept S w w') (hS : ∀ b, K b → ¬ S b) : Bts w' K A l :=
  ⟨h.fit, fun h0 => by
    obtain ⟨b, off, e, hb, hk, hc⟩ := h.at_ h0
    exact ⟨b, off, e, Nat.lt_of_lt_of_le hb k.size, hk, fun i hi => (k.cell (p := ⟨b, off + i, none⟩) hb (hS b hk)).trans (hc i hi)⟩⟩
theorem Bts.cut {w : World} {K : Nat → Prop} {A : Option Addr} {l : List Int} {c k m : Nat} (h : Bts w K A l) (hk : k + m ≤ l.length) (hc : l.length ≤ c) : Bts w K (cutAt A c k) ((l.drop k).take m) := by
  refine ⟨(h.fit.drop k).take m, fun h0 => ?_⟩
  rw [List.length_take, List.length_drop] at h0
  obtain ⟨b, off, e, hb, hK, hcell⟩ := h.at_ (by omega)
  subst e
  refine ⟨b, off + k, ?_, hb, hK, fun i hi => ?_⟩
  · unfold cutAt
    rw [if_neg (by omega)]
    simp [Addr.add]
  · rw [List.length_take, List.length_drop] at hi
    rw [Nat.add_assoc, hcell (k + i) (by omega)]
    congr 2
    simp only [List.getD_eq_getElem?_getD]
    rw [List.getElem?_take_of_lt (by omega), List.getElem?_drop]

theorem drew_drewN (w : World) (k : Nat) : w.drew.drewN k = w.drewN (1 + k) := by rw [← World.drewN_drewN]; rfl




/-- a slice of bytes that reads as l; its block is one of K's -/
structure Sl (w : World) (K : Nat → Prop) (A : Option Addr) (n c : Nat) (l : List Int) : Prop where
  bts : Bts w K A l
  len : l.length = n
  cap : n ≤ c
  max : c ≤ maxLen
  nil : A = none → c = 0

theorem Sl.kept {S : Nat → Prop} {w w' : World} {K : Nat → Prop} {A : Option Addr} {n c : Nat} {l : List Int} (h : Sl w K A n c l) (k : Kept S w w') (hS : ∀ b, K b → ¬ S b) : Sl w' K A n c l :=
  ⟨h.bts.kept k hS, h.len, h.cap, h.max, h.nil⟩
theorem Sl.drewN {w : World} {K : Nat → Prop} {A : Option Addr} {n c : Nat} {l : List Int} (h : Sl w K A n c l) (k : Nat) : Sl (w.drewN k) K A n c l := ⟨h.bts.drewN k, h.len, h.cap, h.max, h.nil⟩
theorem Bts.mono {w : World} {K K' : Nat → Prop} {A : Option Addr} {l : List Int} (h : Bts w K A l) (hK : ∀ b, b < w.heap.size → K b → K' b) : Bts w K' A l :=
  ⟨h.fit, fun h0 => by obtain ⟨b, off, e, hb, hk, hc⟩ := h.at_ h0; exact ⟨b, off, e, hb, hK b hb hk, hc⟩⟩
theorem Sl.mono {w : World} {K K' : Nat → Prop} {A : Option Addr} {n c : Nat} {l : List Int} (h : Sl w K A n c l) (hK : ∀ b, b < w.heap.size → K b → K' b) : Sl w K' A n c l := ⟨h.bts.mono hK, h.len, h.cap, h.max, h.nil⟩
theorem Bts.below {B : Nat} {w w' : World} {A : Option Addr} {l : List Int} {K : Nat → Prop} (h : Bts w K A l) (k : Below B w w') (hB : ∀ b, b < w.heap.size → K b → b < B) : Bts w' K A l :=
  ⟨h.fit, fun h0 => by
    obtain ⟨b, off, e, hb, hk, hc⟩ := h.at_ h0
    exact ⟨b, off, e, Nat.lt_of_lt_of_le hb k.size, hk, fun i hi => (k.cell (p := ⟨b, off + i, none⟩) (hB b hb hk)).trans (hc i hi)⟩⟩
theorem Sl.below {B : Nat} {w w' : World} {A : Option Addr} {n c : Nat} {l : List Int} {K : Nat → Prop} (h : Sl w K A n c l) (k : Below B w w') (hB : ∀ b, b < w.heap.size → K b → b < B) : Sl w' K A n c l := ⟨h.bts.below k hB, h.len, h.cap, h.max, h.nil⟩

/-- the cells of bytes -/
def cellsOf (l : List Int) : List Value := l.map (Value.int .u8)

theorem sl_of_own {w : World} {base : Nat} {v : Value} {n : Nat} {l : List Int} (h : w.ownsRow base 5 1 v n (cellsOf l)) (hf : Fit l) : ∃ A c, v = .slice A n c ∧ Sl w (fun b => base ≤ b) A n c l := by
  have hl : l.length = n := by have := h.1; simpa [cellsOf] using this
  have hown := h
  rcases h.2 with ⟨rfl, rfl⟩ | ⟨g, cap, cur, rfl, hg, hh, hn, hm, _, _⟩
  · exact ⟨none, 0, rfl, ⟨hf, fun h0 => by omega⟩, hl, Nat.le_refl _, Nat.zero_le _, fun _ => rfl⟩
  · refine ⟨some ⟨g, 0, none⟩, cap, rfl, ⟨hf, fun _ => ⟨g, 0, rfl, (Array.getElem?_eq_some_iff.1 hh).1, hg, fun i hi => ?_⟩⟩, hl, hn, hm, fun e => by cases e⟩
    rw [Nat.zero_add, hown.cellAt i (by omega)]
    simp [cellsOf, List.getD_eq_getElem?_getD, List.getElem?_eq_getElem hi]

theorem Bts.read {w : World} {K : Nat → Prop} {ad : Addr} {l : List Int} (h : Bts w K (some ad) l) : ∀ j u, (cellsOf l)[j]? = some u → w.cell? (ad.add j) = some u := by
  intro j u hu
  have hj : j < l.length := by
    have := (List.getElem?_eq_some_iff.1 hu).1
    simpa [cellsOf] using this
  obtain ⟨b, off, e, _, _, hc⟩ := h.at_ (by omega)
  injection e with e
  subst e
  have h1 := hc j hj
  have h2 : (⟨b, off, none⟩ : Addr).add j = ⟨b, off + j, none⟩ := by
    unfold Addr.add
    split
    · next h => subst h; simp
    · rfl
  rw [h2, h1]
  simp only [cellsOf, List.getElem?_map, List.getElem?_eq_getElem hj, Option.map_some, Option.some.injEq] at hu
  subst hu
  simp [List.getD_eq_getElem?_getD, List.getElem?_eq_getElem hj]

theorem cellsOf_one (l : List Int) : ∀ u ∈ cellsOf l, u.oneCell' = true := by
  intro u hu
  obtain ⟨z, _, rfl⟩ := List.mem_map.1 hu
  rfl

theorem byte_info : (Tryd.prog.info? 5).map (fun i => (i.zero, i.size, i.bytes)) = some (some (.int .u8 0), 1, 1) := by kernel_rfl

theorem sl_of_box {w : World} {K : Nat → Prop} {b n : Nat} {l : List Int} (h : Box w b 5 (cellsOf l).toArray) (hf : Fit l) (hl : l.length = n) (hm : n ≤ maxLen) (hK : K b) : Sl w K (some ⟨b, 0, none⟩) n n l := by
  refine ⟨⟨hf, fun _ => ⟨b, 0, rfl, h.lt, hK, fun i hi => ?_⟩⟩, hl, Nat.le_refl _, hm, fun e => by cases e⟩
  rw [Nat.zero_add, h.cell i]
  simp [cellsOf, List.getD_eq_getElem?_getD, List.getElem?_eq_getElem hi]

theorem below_drewN_refl (w : World) (k : Nat) : Below w.heap.size w (w.drewN k) := ⟨rfl, rfl, rfl, Nat.le_refl _, fun _ _ => rfl⟩
theorem splice_all {α : Type} (L cs : List α) (h : L.length ≤ cs.length) : splice L 0 cs = cs := by
  unfold splice
  rw [List.take_zero, List.nil_append, Nat.zero_add, List.drop_of_length_le h, List.append_nil]

theorem byte_size : (Tryd.prog.info? 5).map (·.size) = some 1 := by kernel_rfl

theorem cellsOf_len (l : List Int) : (cellsOf l).length = l.length := by simp [cellsOf]

theorem set_cells (l : List Int) (i : Nat) (z : Int) : (cellsOf l).toArray.setIfInBounds i (.int .u8 z) = (cellsOf (l.set i z)).toArray := by
  simp [cellsOf, List.map_set]

theorem sl_copy {w : World} {K : Nat → Prop} {A : Option Addr} {n c : Nat} {l : List Int} (h : Sl w K A n c l) (o : Obj) (h0 : 0 < (cellsOf l).length) :
    ∃ ad, A = some ad ∧ ∀ j v, (cellsOf l)[j]? = some v → (w.alloc o).cell? (ad.add j) = some v := by
  have hb := h.bts.kept ((Kept.refl (fun _ => False) w).alloc o) (fun _ _ h => h)
  obtain ⟨b, off, e, _⟩ := hb.at_ (by simpa [cellsOf] using h0)
  subst e
  exact ⟨_, rfl, hb.read⟩

theorem Sl.drew {w : World} {K : Nat → Prop} {A : Option Addr} {n c : Nat} {l : List Int} (h : Sl w K A n c l) : Sl w.drew K A n c l := ⟨⟨h.bts.fit, h.bts.at_⟩, h.len, h.cap, h.max, h.nil⟩

theorem sl_str {w : World} {K : Nat → Prop} {A : Option Addr} {n c : Nat} {l : List Int} (h : Sl w K A n c l) : (convert 41 9 (.slice A n c)).run Tryd.prog w = .ok (.string (strOfNums l)) w := by
  by_cases h0 : 0 < l.length
  · obtain ⟨b, off, e, _, _, hc⟩ := h.bts.at_ h0
    subst e
    exact run_convert_bytes_arg w 41 5 Tryd.underlying41 Tryd.underlying5 b off n c l h.len (fun i hi => hc i (by rw [h.len]; exact hi)) 9 Tryd.underlying9
  · have hl : l = [] := List.eq_nil_of_length_eq_zero (by omega)
    subst hl
    obtain rfl : n = 0 := by have := h.len; simpa using this.symm
    cases A with
    | none => exact run_convert_bytes_nil w 41 5 Tryd.underlying41 Tryd.underlying5 0 c 9 Tryd.underlying9
    | some ad =>
      rw [run_convert_bytes_string w 41 9 5 _ 0 c Tryd.underlying41 Tryd.underlying5 Tryd.underlying9]
      exact run_bytesToString w ad 0 c [] (by simp [loadCells, loadCellsFrom])





theorem Sl.alloc {w : World} {K : Nat → Prop} {A : Option Addr} {n c : Nat} {l : List Int} (h : Sl w K A n c l) (o : Obj) : Sl (w.alloc o) K A n c l := h.kept ((Kept.refl (fun _ => False) w).alloc o) (fun _ _ h => h)
theorem on_trans {w w1 w2 : World} (a : Below w.heap.size w w1) (b : Below w1.heap.size w1 w2) : Below w.heap.size w w2 := a.trans (b.mono a.size)
theorem on_alloc (w : World) (o : Obj) : Below w.heap.size w (w.alloc o) := (Below.refl _ _).alloc (Nat.le_refl _) _
theorem on_drew (w : World) : Below w.heap.size w w.drew := (Below.refl _ _).drew
/-- what reads as bytes reads so when only new memory has come -/
theorem Sl.on {w w' : World} {K : Nat → Prop} {A : Option Addr} {n c : Nat} {l : List Int} (h : Sl w K A n c l) (k : Below w.heap.size w w') : Sl w' (fun _ => True) A n c l :=
  ((h.mono (K' := fun b => b < w.heap.size) (fun _ hb _ => hb)).below k (fun _ _ h => h)).mono (fun _ _ _ => trivial)

/-- what the laws answer -/
def Law (w : World) (e : Ending) (w' : World) : Prop := e = .returned (.bool true) ∧ Below w.heap.size w w'

end Go.Proofs.YtdnjnbfmmgkpjaaDoor

namespace Go.Proofs.YtdnjnbfmmgkpjaaDoor
open Go.RowKit

theorem Box.on {w w' : World} {g : Nat} {t : TypeId} {cs : Array Value} (h : Box w g t cs) (k : Below w.heap.size w w') : Box w' g t cs := (k.block g h.lt).trans h
theorem ownsRow_block {w w' : World} {lo : Nat} {e size : Nat} {v : Value} {n : Nat} {xs : List Value} (h : w.ownsRow lo e size v n xs) (k : ∀ g cs, v.ownBlock = some g → w.heap[g]? = some (.cells cs e (0, 0)) → w'.heap[g]? = w.heap[g]?) : w'.ownsRow lo e size v n xs := by
  refine ⟨h.1, h.2.imp id ?_⟩
  rintro ⟨g, cap, cur, rfl, h1, hh, h2⟩
  exact ⟨g, cap, cur, rfl, h1, (k g cur rfl hh).trans hh, h2⟩

theorem own_slice {w : World} {lo e size n : Nat} {v : Value} {xs : List Value} (h : w.ownsRow lo e size v n xs) : ∃ A c, v = .slice A n c := by
  rcases h.2 with ⟨rfl, h0⟩ | ⟨g, cap, cur, rfl, _⟩
  · exact ⟨none, 0, by rw [h0]⟩
  · exact ⟨_, _, rfl⟩

/-- an append of bytes to a row of one's own -/
theorem wpList_append_sl {w : World} {ops : Array Oper} {rest : List Oper} {o : Oper} {a : Act} {Q : Exit → Act → World → Prop} (hgd : o.guard = none) (s x : Operand)
    (ho : o.op = .call { callee := .builtin .append, args := #[s, x], argTypes := #[41, 41] })
    (base : Nat) (v : Value) (n : Nat) (l : List Int) (hs : a.eval s = v) (hown : w.ownsRow base 5 1 v n (cellsOf l))
    (K : Nat → Prop) (A : Option Addr) (m c : Nat) (r : List Int) (hx : a.eval x = .slice A m c) (hr : Sl w K A m c r) (h63 : n + m ≤ 140737488351232) (hbase : base ≤ w.heap.size)
    (h : ∀ v' w', w'.ownsRow base 5 1 v' (n + m) (cellsOf (l ++ r)) → Below base w w' → wpList Tryd.prog ops Q rest (a.put o.dst v') w') : wpList Tryd.prog ops Q (o :: rest) a w := by
  obtain ⟨i0, hi0, hz0, hz1, hz2⟩ := info_parts byte_info
  cases A with
  | none =>
    obtain rfl : c = 0 := hr.nil rfl
    obtain rfl : m = 0 := by have := hr.cap; omega
    have hl : r = [] := List.eq_nil_of_length_eq_zero hr.len
    subst hl
    exact wpList_append_own_none hgd s x 41 ho base 5 i0 1 Tryd.underlying41 hi0 v n (cellsOf l) hs hown hx (h v w (by simpa using hown) (Below.refl _ _))
  | some ad =>
    refine wpList_append_own _ hgd s x 41 ho base 5 i0 (.int .u8 0) 1 1 Tryd.underlying41 hi0 hz0 hz1 hz2 rfl (by omega) v n (cellsOf l) hs hown ad m c (cellsOf r) hx (by rw [cellsOf_len, hr.len, Nat.mul_one]) hr.bts.read (cellsOf_one r) (by simp only [maxLen]; omega) (by omega) hbase ?_
    intro v' w' h1 h2 _
    have e : cellsOf l ++ cellsOf r = cellsOf (l ++ r) := by simp [cellsOf]
    rw [e] at h1
    exact h v' w' h1 ((Below.refl base w).grown h2 hbase (fun j hj => (hown.lt j hj).1))


/-- bytes at the head of a block of one's own -/
structure Head (w : World) (g n cap : Nat) (l : List Int) (rest : List Value) : Prop where
  box : Box w g 5 (cellsOf l ++ rest).toArray
  len : l.length = n
  fit : Fit l
  room : n ≤ cap
  max : cap ≤ maxLen

theorem Fit.set {l : List Int} (h : Fit l) (i : Nat) (z : Int) (h0 : 0 ≤ z) (h1 : z ≤ 255) : Fit (l.set i z) := fun y hy => by
  rcases List.mem_or_eq_of_mem_set hy with h2 | rfl
  · exact h y h2
  · exact ⟨h0, h1⟩
theorem head_of_own {w : World} {base : Nat} {v : Value} {n : Nat} {l : List Int} (h : w.ownsRow base 5 1 v n (cellsOf l)) (hf : Fit l) (h0 : 0 < n) : ∃ g cap rest, v = .slice (some ⟨g, 0, none⟩) n cap ∧ base ≤ g ∧ Head w g n cap l rest := by
  have hl : l.length = n := by have := h.1; simpa [cellsOf] using this
  rcases h.2 with ⟨_, h1⟩ | ⟨g, cap, cur, hv, hg, hh, hn, hm, hc, ht⟩
  · omega
  · refine ⟨g, cap, cur.toList.drop n, hv, hg, ⟨?_, hl, hf, hn, hm⟩⟩
    rw [Nat.mul_one] at ht
    unfold Box
    rw [hh, ← ht, List.take_append_drop]
theorem Head.cell {w : World} {g n cap : Nat} {l : List Int} {rest : List Value} (h : Head w g n cap l rest) (i : Nat) (hi : i < n) : w.cell? ⟨g, i, none⟩ = some (.int .u8 (l.getD i 0)) := by
  have hl := h.len
  rw [h.box.cell i]
  rw [List.getElem?_toArray, List.getElem?_append_left (by rw [cellsOf_len]; omega)]
  simp [cellsOf, List.getD_eq_getElem?_getD, List.getElem?_eq_getElem (show i < l.length by omega)]
theorem Head.put {w : World} {g n cap : Nat} {l : List Int} {rest : List Value} (h : Head w g n cap l rest) (i : Nat) (hi : i < n) (z : Int) (h0 : 0 ≤ z) (h1 : z ≤ 255) : Head (w.setCell ⟨g, i, none⟩ (.int .u8 z)) g n cap (l.set i z) rest := by
  have hl := h.len
  refine ⟨?_, by rw [List.length_set]; exact hl, h.fit.set i z h0 h1, h.room, h.max⟩
  have := h.box.put i (.int .u8 z)
  have e : (cellsOf l ++ rest).toArray.setIfInBounds i (.int .u8 z) = (cellsOf (l.set i z) ++ rest).toArray := by
    rw [List.setIfInBounds_toArray, List.set_append_left _ _ (by rw [cellsOf_len]; omega)]
    simp [cellsOf, List.map_set]
  rwa [e] at this
theorem Head.sl {w : World} {g n cap : Nat} {l : List Int} {rest : List Value} (h : Head w g n cap l rest) : Sl w (fun _ => True) (some ⟨g, 0, none⟩) n cap l :=
  ⟨⟨h.fit, fun _ => ⟨g, 0, rfl, h.box.lt, trivial, fun i hi => by rw [Nat.zero_add]; exact h.cell i (by rw [← h.len]; exact hi)⟩⟩, h.len, h.room, h.max, fun e => by cases e⟩
theorem Head.drew {w : World} {g n cap : Nat} {l : List Int} {rest : List Value} (h : Head w g n cap l rest) : Head w.drew g n cap l rest := ⟨h.box, h.len, h.fit, h.room, h.max⟩
theorem Head.on {w w' : World} {g n cap : Nat} {l : List Int} {rest : List Value} (h : Head w g n cap l rest) (k : Below w.heap.size w w') : Head w' g n cap l rest := ⟨h.box.on k, h.len, h.fit, h.room, h.max⟩


/-- the cells of numbers -/
def cellsI (l : List Int) : List Value := l.map (Value.int .i64)
theorem cellsI_len (l : List Int) : (cellsI l).length = l.length := by simp [cellsI]
theorem cellsI_one (l : List Int) : ∀ u ∈ cellsI l, u.oneCell' = true := by
  intro u hu
  obtain ⟨z, _, rfl⟩ := List.mem_map.1 hu
  rfl
theorem int_info : (Tryd.prog.info? 3).map (fun i => (i.zero, i.size, i.bytes)) = some (some (.int .i64 0), 1, 8) := by kernel_rfl

/-- a slice of numbers that reads as xs -/
structure Il (w : World) (A : Option Addr) (n c : Nat) (xs : List Int) : Prop where
  len : xs.length = n
  cap : n ≤ c
  max : c ≤ maxLen
  nil : A = none → c = 0
  typ : ∀ b off, A = some ⟨b, off, none⟩ → ∃ cs fr, w.heap[b]? = some (.cells cs 3 fr)
  at_ : 0 < n → ∃ b off, A = some ⟨b, off, none⟩ ∧ b < w.heap.size ∧ ∀ i, i < n → w.cell? ⟨b, off + i, none⟩ = some (.int .i64 (xs.getD i 0))

theorem Il.on {w w' : World} {A : Option Addr} {n c : Nat} {xs : List Int} (h : Il w A n c xs) (k : Below w.heap.size w w') : Il w' A n c xs :=
  ⟨h.len, h.cap, h.max, h.nil, fun b off e => by
    obtain ⟨cs, fr, hh⟩ := h.typ b off e
    exact ⟨cs, fr, (k.block b (Array.getElem?_eq_some_iff.1 hh).1).trans hh⟩, fun h0 => by
    obtain ⟨b, off, e, hb, hc⟩ := h.at_ h0
    exact ⟨b, off, e, Nat.lt_of_lt_of_le hb k.size, fun i hi => (k.cell (p := ⟨b, off + i, none⟩) hb).trans (hc i hi)⟩⟩
theorem Il.kept {w w' : World} {S : Nat → Prop} {A : Option Addr} {n c : Nat} {xs : List Int} (h : Il w A n c xs) (k : Kept S w w') (hS : ∀ b off, A = some ⟨b, off, none⟩ → ¬ S b) : Il w' A n c xs :=
  ⟨h.len, h.cap, h.max, h.nil, fun b off e => by
    obtain ⟨cs, fr, hh⟩ := h.typ b off e
    exact ⟨cs, fr, (k.block b (Array.getElem?_eq_some_iff.1 hh).1 (hS b off e)).trans hh⟩, fun h0 => by
    obtain ⟨b, off, e, hb, hc⟩ := h.at_ h0
    exact ⟨b, off, e, Nat.lt_of_lt_of_le hb k.size, fun i hi => (k.cell (p := ⟨b, off + i, none⟩) hb (hS b off e)).trans (hc i hi)⟩⟩
theorem Il.none (w : World) : Il w none 0 0 [] := ⟨rfl, Nat.le_refl _, Nat.zero_le _, fun _ => rfl, (fun b off e => by cases e), fun h => absurd h (by omega)⟩
theorem plain_add (b off i : Nat) : (⟨b, off, none⟩ : Addr).add i = ⟨b, off + i, none⟩ := by
  unfold Addr.add
  split
  · next h => subst h; simp
  · rfl
theorem Il.read {w : World} {ad : Addr} {n c : Nat} {l : List Int} (h : Il w (some ad) n c l) : ∀ j u, (cellsI l)[j]? = some u → w.cell? (ad.add j) = some u := by
  intro j u hu
  have hj : j < l.length := by
    have := (List.getElem?_eq_some_iff.1 hu).1
    simpa [cellsI] using this
  have hl := h.len
  obtain ⟨b, off, e, _, hc⟩ := h.at_ (by omega)
  injection e with e
  subst e
  rw [plain_add, hc j (by omega)]
  simp only [cellsI, List.getElem?_map, List.getElem?_eq_getElem hj, Option.map_some, Option.some.injEq] at hu
  subst hu
  simp [List.getD_eq_getElem?_getD, List.getElem?_eq_getElem hj]
theorem il_of_own {w : World} {base : Nat} {v : Value} {n : Nat} {l : List Int} (h : w.ownsRow base 3 1 v n (cellsI l)) : ∃ A c, v = .slice A n c ∧ Il w A n c l ∧ ∀ b off, A = some ⟨b, off, none⟩ → base ≤ b := by
  have hl : l.length = n := by have := h.1; simpa [cellsI] using this
  have hown := h
  rcases h.2 with ⟨rfl, rfl⟩ | ⟨g, cap, cur, rfl, hg, hh, hn, hm, _, _⟩
  · exact ⟨_, 0, rfl, ⟨hl, Nat.le_refl _, Nat.zero_le _, fun _ => rfl, (fun b off e => by cases e), fun h0 => by omega⟩, fun b off e => by cases e⟩
  · refine ⟨some ⟨g, 0, none⟩, cap, rfl, ⟨hl, hn, hm, (fun e => by cases e), (fun b off e => by cases e; exact ⟨_, _, hh⟩), fun _ => ⟨g, 0, rfl, (Array.getElem?_eq_some_iff.1 hh).1, fun i hi => ?_⟩⟩, fun b off e => by cases e; exact hg⟩
    rw [Nat.zero_add, hown.cellAt i (by omega)]
    simp [cellsI, List.getD_eq_getElem?_getD, List.getElem?_eq_getElem (show i < l.length by omega)]
/-- an append of numbers to a row of one's own -/
theorem wpList_append_il {w : World} {ops : Array Oper} {rest : List Oper} {o : Oper} {a : Act} {Q : Exit → Act → World → Prop} (hgd : o.guard = none) (s x : Operand)
    (ho : o.op = .call { callee := .builtin .append, args := #[s, x], argTypes := #[28, 28] })
    (base : Nat) (v : Value) (n : Nat) (l : List Int) (hs : a.eval s = v) (hown : w.ownsRow base 3 1 v n (cellsI l))
    (A : Option Addr) (m c : Nat) (r : List Int) (hx : a.eval x = .slice A m c) (hr : Il w A m c r) (h63 : n + m ≤ 1000000) (hbase : base ≤ w.heap.size)
    (h : ∀ v' w', w'.ownsRow base 3 1 v' (n + m) (cellsI (l ++ r)) → Below base w w' → wpList Tryd.prog ops Q rest (a.put o.dst v') w') : wpList Tryd.prog ops Q (o :: rest) a w := by
  obtain ⟨i0, hi0, hz0, hz1, hz2⟩ := info_parts int_info
  cases A with
  | none =>
    obtain rfl : c = 0 := hr.nil rfl
    obtain rfl : m = 0 := by have := hr.cap; omega
    have hl : r = [] := List.eq_nil_of_length_eq_zero hr.len
    subst hl
    exact wpList_append_own_none hgd s x 28 ho base 3 i0 1 Tryd.underlying28 hi0 v n (cellsI l) hs hown hx (h v w (by simpa using hown) (Below.refl _ _))
  | some ad =>
    refine wpList_append_own _ hgd s x 28 ho base 3 i0 (.int .i64 0) 1 8 Tryd.underlying28 hi0 hz0 hz1 hz2 rfl (by omega) v n (cellsI l) hs hown ad m c (cellsI r) hx (by rw [cellsI_len, hr.len, Nat.mul_one]) hr.read (cellsI_one r) (by simp only [maxLen]; omega) (by omega) hbase ?_
    intro v' w' h1 h2 _
    have e : cellsI l ++ cellsI r = cellsI (l ++ r) := by simp [cellsI]
    rw [e] at h1
    exact h v' w' h1 ((Below.refl base w).grown h2 hbase (fun j hj => (hown.lt j hj).1))

/-- a slice of structs of two numbers that reads as ks; its block is one of K's -/
structure Pl (w : World) (K : Nat → Prop) (A : Option Addr) (n : Nat) (ks : List (Int × Int)) : Prop where
  len : ks.length = n
  at_ : 0 < n → ∃ b off, A = some ⟨b, off, none⟩ ∧ b < w.heap.size ∧ K b ∧ ∀ i, i < n → w.cell? ⟨b, off + i * 2, none⟩ = some (.int .i64 (ks.getD i (0, 0)).1) ∧ w.cell? ⟨b, off + i * 2 + 1, none⟩ = some (.int .i64 (ks.getD i (0, 0)).2)
theorem Pl.kept {S : Nat → Prop} {w w' : World} {K : Nat → Prop} {A : Option Addr} {n : Nat} {ks : List (Int × Int)} (h : Pl w K A n ks) (k : Kept S w w') (hS : ∀ b, K b → ¬ S b) : Pl w' K A n ks :=
  ⟨h.len, fun h0 => by
    obtain ⟨b, off, e, hb, hk, hc⟩ := h.at_ h0
    exact ⟨b, off, e, Nat.lt_of_lt_of_le hb k.size, hk, fun i hi => ⟨(k.cell (p := ⟨b, off + i * 2, none⟩) hb (hS b hk)).trans (hc i hi).1, (k.cell (p := ⟨b, off + i * 2 + 1, none⟩) hb (hS b hk)).trans (hc i hi).2⟩⟩⟩
theorem Pl.mono {w : World} {K K' : Nat → Prop} {A : Option Addr} {n : Nat} {ks : List (Int × Int)} (h : Pl w K A n ks) (hK : ∀ b, b < w.heap.size → K b → K' b) : Pl w K' A n ks :=
  ⟨h.len, fun h0 => by obtain ⟨b, off, e, hb, hk, hc⟩ := h.at_ h0; exact ⟨b, off, e, hb, hK b hb hk, hc⟩⟩
theorem Pl.below {B : Nat} {w w' : World} {A : Option Addr} {n : Nat} {ks : List (Int × Int)} {K : Nat → Prop} (h : Pl w K A n ks) (k : Below B w w') (hB : ∀ b, b < w.heap.size → K b → b < B) : Pl w' K A n ks :=
  ⟨h.len, fun h0 => by
    obtain ⟨b, off, e, hb, hk, hc⟩ := h.at_ h0
    exact ⟨b, off, e, Nat.lt_of_lt_of_le hb k.size, hk, fun i hi => ⟨(k.cell (p := ⟨b, off + i * 2, none⟩) (hB b hb hk)).trans (hc i hi).1, (k.cell (p := ⟨b, off + i * 2 + 1, none⟩) (hB b hb hk)).trans (hc i hi).2⟩⟩⟩
theorem Pl.get {w : World} {K : Nat → Prop} {A : Option Addr} {n : Nat} {ks : List (Int × Int)} (h : Pl w K A n ks) {k : Nat} (hk : k < n) : ∃ b off, A = some ⟨b, off, none⟩ ∧ w.cell? ⟨b, off + k * 2, none⟩ = some (.int .i64 (ks.getD k (0, 0)).1) ∧ w.cell? ⟨b, off + k * 2 + 1, none⟩ = some (.int .i64 (ks.getD k (0, 0)).2) := by
  obtain ⟨b, off, e, _, _, hc⟩ := h.at_ (by omega)
  exact ⟨b, off, e, hc k hk⟩
theorem Sl.get {w : World} {K : Nat → Prop} {A : Option Addr} {n c : Nat} {l : List Int} (h : Sl w K A n c l) {k : Nat} (hk : k < n) : ∃ b off, A = some ⟨b, off, none⟩ ∧ w.cell? ⟨b, off + k, none⟩ = some (.int .u8 (l.getD k 0)) := by
  obtain ⟨b, off, e, _, _, hc⟩ := h.bts.at_ (by rw [h.len]; omega)
  exact ⟨b, off, e, hc k (by rw [h.len]; exact hk)⟩

end Go.Proofs.YtdnjnbfmmgkpjaaDoor

namespace Go.Proofs.YtdnjnbfmmgkpjaaDoor
open Go.RowKit

theorem pow40 {j : Nat} (h : j ≤ 40) : 2 ^ j ≤ 1099511627776 := Nat.le_trans (Nat.pow_le_pow_right (by omega) h) (by decide)
theorem pow_pos' (j : Nat) : 0 < 2 ^ j := Nat.pow_pos (by omega)
theorem wrap_small {z : Int} (h0 : -9223372036854775808 ≤ z) (h1 : z ≤ 9223372036854775807) : IntKind.i64.wrap z = z := by simp [IntKind.wrap, IntKind.bits, IntKind.signed]; omega

/-- what take leaves -/
def Took (w : World) (g : Nat) (t : TypeId) (cs : Array Value) (o v j : Nat) (e : Ending) (w' : World) : Prop :=
  e = .returned (.int .i64 ((v / 2 ^ j : Nat) : Int)) ∧ Box w' g t ((cs.setIfInBounds (o + 1) (.int .i64 (j : Int))).setIfInBounds o (.int .i64 ((v % 2 ^ j : Nat) : Int))) ∧ Kept (fun i => i = g) w w'

set_option maxHeartbeats 800000 in
theorem take_any (w : World) (g o : Nat) (t : TypeId) (cs : Array Value) (v c k j : Nat) (hb : Box w g t cs) (h0 : cs[o]? = some (.int .i64 (v : Int))) (h1 : cs[o + 1]? = some (.int .i64 (c : Int))) (hj : c = k + j) (hc : c ≤ 40) (hv : v < 1099511627776) :
    Calls Tryd.prog 95 #[.pointer (some ⟨g, o, none⟩), .int .i64 (k : Int)] w (Took w g t cs o v j) := by
  have c0 : w.cell? ⟨g, o, none⟩ = some (.int .i64 (v : Int)) := (hb.cell o).trans h0
  have c1 : w.cell? ⟨g, o + 1, none⟩ = some (.int .i64 (c : Int)) := (hb.cell (o + 1)).trans h1
  have f0 := hb.free o
  have f1 := hb.free (o + 1)
  have e1 : (c : Int) - k = j := by omega
  have hj2 : (j : Int) ≤ 40 := by omega
  obtain ⟨q, hq⟩ : ∃ q, q = v / 2 ^ j := ⟨_, rfl⟩
  obtain ⟨m, hm⟩ : ∃ m, m = q * 2 ^ j := ⟨_, rfl⟩
  obtain ⟨r, hr⟩ : ∃ r, r = v % 2 ^ j := ⟨_, rfl⟩
  have e2 : (v : Int) / 2 ^ j = (q : Int) := by rw [hq]; simp
  have e3 : (q : Int) * 2 ^ j = (m : Int) := by rw [hm]; simp
  have hmv : m ≤ v := by rw [hm, hq]; exact Nat.div_mul_le_self v _
  have e4 : (v : Int) - (m : Int) = (r : Int) := by
    have := Nat.div_add_mod v (2 ^ j)
    rw [Nat.mul_comm, ← hq, ← hm, ← hr] at this
    omega
  obtain ⟨w1, hw1⟩ : ∃ w1, w1 = w.setCell ⟨g, o + 1, none⟩ (.int .i64 (j : Int)) := ⟨_, rfl⟩
  have b1 : Box w1 g t (cs.setIfInBounds (o + 1) (.int .i64 (j : Int))) := by rw [hw1]; exact hb.put (o + 1) _
  have k1 : Kept (fun i => i = g) w w1 := by rw [hw1]; exact (Kept.refl (fun i => i = g) _).setCell (p := ⟨g, o + 1, none⟩) (fun _ => rfl) _
  have d0 : w1.cell? ⟨g, o, none⟩ = some (.int .i64 (v : Int)) := by rw [b1.cell o]; simp [h0]
  have d1 : w1.cell? ⟨g, o + 1, none⟩ = some (.int .i64 (j : Int)) := by
    have hs : o + 1 < cs.size := (Array.getElem?_eq_some_iff.1 h1).1
    rw [b1.cell (o + 1)]; simp [hs]
  have g0 := b1.free o
  have H := Lib.hid (And.intro hq (And.intro hr (And.intro b1 (And.intro k1 (And.intro e2 (And.intro e3 (And.intro e4 hw1)))))))
  clear hq hr hb h0 h1 hm b1 k1 hw1 hj e3 e4
  go_enter Tryd.func95, Tryd.ntmps95
  go_wp2_with fail
  rw [← H.out.2.2.2.2.2.2.2]
  clear c0 c1 f0 f1
  go_quiet (fail)
  have e3 := H.out.2.2.2.2.2.1
  have e4 := H.out.2.2.2.2.2.2.1
  go_wp2_with fail
  go_region
  all_goals
    (go_wp2
     go_ret
     refine ⟨by rw [← H.out.1]; rfl, ?_, ?_⟩
     · rw [← H.out.2.1]; exact ((H.out.2.2.1.drewN _).put o _)
     · exact ((H.out.2.2.2.1.drewN _).setCell (p := ⟨g, o, none⟩) (fun _ => rfl) _))
theorem take_at (w : World) (g o : Nat) (t : TypeId) (cs : Array Value) (v c j : Nat) (K : Int) (hb : Box w g t cs) (h0 : cs[o]? = some (.int .i64 (v : Int))) (h1 : cs[o + 1]? = some (.int .i64 (c : Int))) (hj : (c : Int) = K + j) (hK : 0 ≤ K) (hc : c ≤ 40) (hv : v < 1099511627776) :
    Calls Tryd.prog 95 #[.pointer (some ⟨g, o, none⟩), .int .i64 K] w (Took w g t cs o v j) := by
  obtain ⟨k, rfl⟩ := Int.eq_ofNat_of_zero_le hK
  exact take_any w g o t cs v c k j hb h0 h1 (by omega) hc hv
end Go.Proofs.YtdnjnbfmmgkpjaaDoor

namespace Go.Proofs.YtdnjnbfmmgkpjaaDoor
open Go.RowKit

/-- a value and its code -/
abbrev En := Int × Nat × Nat
/-- the counts as numbers -/
def cnt (B : List Int) (i : Nat) : Nat := (B.getD i 0).toNat
/-- the number behind the last code of i bits -/
def nx (c : Nat → Nat) : Nat → Nat
  | 0 => 0
  | i + 1 => 2 * nx c i + c i
/-- how many codes have at most i bits -/
def sm (c : Nat → Nat) : Nat → Nat
  | 0 => 0
  | i + 1 => sm c i + c i
/-- the first j codes of i + 1 bits -/
def row (c : Nat → Nat) (i j : Nat) : List (Nat × Nat) := (List.range j).map fun k => (2 * nx c i + k, i + 1)
/-- all codes of at most i bits -/
def pre (c : Nat → Nat) : Nat → List (Nat × Nat)
  | 0 => []
  | i + 1 => pre c i ++ row c i (c i)

section
variable {c : Nat → Nat}
theorem row_len (i j : Nat) : (row c i j).length = j := by simp [row]
theorem row_more (i j : Nat) : row c i (j + 1) = row c i j ++ [(2 * nx c i + j, i + 1)] := by simp [row, List.range_succ]
theorem pre_len : ∀ i, (pre c i).length = sm c i
  | 0 => rfl
  | i + 1 => by rw [pre, List.length_append, pre_len i, row_len, sm]
theorem mem_row {i j : Nat} {x : Nat × Nat} (h : x ∈ row c i j) : ∃ k, k < j ∧ x = (2 * nx c i + k, i + 1) := by
  obtain ⟨k, hk, rfl⟩ := List.mem_map.1 h
  exact ⟨k, List.mem_range.1 hk, rfl⟩
theorem mem_pre : ∀ {i : Nat} {x : Nat × Nat}, x ∈ pre c i → 1 ≤ x.2 ∧ x.2 ≤ i ∧ x.1 + 1 ≤ nx c x.2 ∧ (x.1 + 1) * 2 ^ (i - x.2) ≤ nx c i
  | 0, x, h => by cases h
  | i + 1, x, h => by
    rcases List.mem_append.1 h with h | h
    · obtain ⟨h1, h2, h3, h4⟩ := mem_pre h
      refine ⟨h1, by omega, h3, ?_⟩
      rw [show i + 1 - x.2 = (i - x.2) + 1 by omega, Nat.pow_succ, ← Nat.mul_assoc, nx]
      omega
    · obtain ⟨k, hk, rfl⟩ := mem_row h
      have : nx c (i + 1) = 2 * nx c i + c i := rfl
      refine ⟨by simp, Nat.le_refl _, ?_, ?_⟩
      · show 2 * nx c i + k + 1 ≤ nx c (i + 1)
        omega
      · show (2 * nx c i + k + 1) * 2 ^ (i + 1 - (i + 1)) ≤ _
        rw [Nat.sub_self, Nat.pow_zero]
        omega
/-- a code that comes later is no shorter, and greater than the earlier one however it is gone on with -/
def Later (x y : Nat × Nat) : Prop := x.2 ≤ y.2 ∧ (x.1 + 1) * 2 ^ (y.2 - x.2) ≤ y.1
theorem row_later (i : Nat) : ∀ j, (row c i j).Pairwise Later
  | 0 => List.Pairwise.nil
  | j + 1 => by
    rw [row_more, List.pairwise_append]
    refine ⟨row_later i j, List.pairwise_singleton _ _, ?_⟩
    intro x hx y hy
    obtain ⟨k, hk, rfl⟩ := mem_row hx
    simp at hy
    subst hy
    refine ⟨Nat.le_refl _, ?_⟩
    show (2 * nx c i + k + 1) * 2 ^ (i + 1 - (i + 1)) ≤ 2 * nx c i + j
    rw [Nat.sub_self, Nat.pow_zero]
    omega
theorem pre_later : ∀ i, (pre c i).Pairwise Later
  | 0 => List.Pairwise.nil
  | i + 1 => by
    rw [pre, List.pairwise_append]
    refine ⟨pre_later i, row_later i _, ?_⟩
    intro x hx y hy
    obtain ⟨h1, h2, h3, h4⟩ := mem_pre hx
    obtain ⟨k, hk, rfl⟩ := mem_row hy
    refine ⟨by show x.2 ≤ i + 1; omega, ?_⟩
    show (x.1 + 1) * 2 ^ (i + 1 - x.2) ≤ 2 * nx c i + k
    rw [show i + 1 - x.2 = (i - x.2) + 1 by omega, Nat.pow_succ, ← Nat.mul_assoc]
    omega
/-- one code and the next one -/
theorem pre_next : ∀ (i p : Nat) (x y : Nat × Nat), (pre c i)[p]? = some x → (pre c i)[p + 1]? = some y → x.2 < y.2 ∨ (x.2 = y.2 ∧ y.1 = x.1 + 1)
  | 0, p, x, y, h, _ => by cases h
  | i + 1, p, x, y, h, h' => by
    rw [pre] at h h'
    by_cases h1 : p + 1 < (pre c i).length
    · rw [List.getElem?_append_left (by omega)] at h
      rw [List.getElem?_append_left h1] at h'
      exact pre_next i p x y h h'
    · rw [List.getElem?_append_right (by omega)] at h'
      obtain ⟨k', hk', rfl⟩ := mem_row (List.mem_of_getElem? h')
      by_cases h2 : p < (pre c i).length
      · rw [List.getElem?_append_left h2] at h
        have := mem_pre (List.mem_of_getElem? h)
        left
        show x.2 < i + 1
        omega
      · rw [List.getElem?_append_right (by omega)] at h
        obtain ⟨hp, hx⟩ := List.getElem?_eq_some_iff.1 h
        obtain ⟨hp', hy⟩ := List.getElem?_eq_some_iff.1 h'
        simp [row] at hx hy
        right
        rw [← hx]
        refine ⟨rfl, ?_⟩
        show 2 * nx c i + k' = 2 * nx c i + _ + 1
        omega
theorem row_new (i j : Nat) : (2 * nx c i + j, i + 1) ∉ pre c i ++ row c i j := by
  intro h
  rcases List.mem_append.1 h with h | h
  · have := (mem_pre h).2.1
    simp at this
    omega
  · obtain ⟨k, hk, e⟩ := mem_row h
    simp at e
    omega
end

/-- values with their codes -/
def ents (V : List Int) (cs : List (Nat × Nat)) : List En := V.zip cs
theorem ents_more : ∀ (cs : List (Nat × Nat)) (V : List Int) (x : Nat × Nat), cs.length < V.length → ents V (cs ++ [x]) = ents V cs ++ [(V.getD cs.length 0, x)]
  | [], V, x, h => by
    cases V with
    | nil => simp at h
    | cons a V => simp [ents]
  | y :: cs, V, x, h => by
    cases V with
    | nil => simp at h
    | cons a V =>
      have := ents_more cs V x (by simpa using h)
      simp only [ents] at this
      simp [ents, this]
theorem ents_len {V : List Int} {cs : List (Nat × Nat)} (h : cs.length ≤ V.length) : (ents V cs).length = cs.length := by simp [ents]; omega
theorem ents_at {V : List Int} {cs : List (Nat × Nat)} {p : Nat} {e : En} : (ents V cs)[p]? = some e ↔ V[p]? = some e.1 ∧ cs[p]? = some e.2 := by
  rw [ents, List.getElem?_zip_eq_some]
theorem mem_ents {V : List Int} {cs : List (Nat × Nat)} {e : En} (h : e ∈ ents V cs) : e.1 ∈ V ∧ e.2 ∈ cs := by
  obtain ⟨a, b⟩ := e
  exact List.of_mem_zip h
theorem fst_ents {V : List Int} : ∀ {cs : List (Nat × Nat)} {e : En}, e ∈ ents V cs → e.1 ∈ V.take cs.length := by
  intro cs e h
  obtain ⟨p, hp⟩ := List.getElem?_of_mem h
  obtain ⟨h1, h2⟩ := ents_at.1 hp
  have hl := (List.getElem?_eq_some_iff.1 h2).1
  exact List.mem_of_getElem? (by rw [List.getElem?_take_of_lt hl]; exact h1)

/-- a value's entry -/
def fnd (L : List En) (v : Int) : Option En := L.find? fun e => e.1 == v
/-- a value's code; 0 of no bits: it has none -/
def codeOf (L : List En) (v : Int) : Nat × Nat := ((fnd L v).map (·.2)).getD (0, 0)
/-- a code's entry -/
def get (L : List En) (x : Nat × Nat) : Option En := L.find? fun e => e.2 == x
theorem fnd_some {L : List En} {v : Int} {e : En} (h : fnd L v = some e) : e ∈ L ∧ e.1 = v := ⟨List.mem_of_find?_eq_some h, by simpa using List.find?_some h⟩
theorem get_some {L : List En} {x : Nat × Nat} {e : En} (h : get L x = some e) : e ∈ L ∧ e.2 = x := ⟨List.mem_of_find?_eq_some h, by simpa using List.find?_some h⟩
theorem fnd_more {L : List En} {e : En} (h : ∀ y ∈ L, y.1 ≠ e.1) (v : Int) : fnd (L ++ [e]) v = if v = e.1 then some e else fnd L v := by
  unfold fnd
  rw [List.find?_append]
  by_cases hv : v = e.1
  · subst hv
    rw [if_pos rfl, List.find?_eq_none.2 (fun y hy => by simpa using h y hy)]
    simp
  · rw [if_neg hv]
    have : [e].find? (fun e => e.1 == v) = none := by simp; exact fun e' => hv e'.symm
    rw [this]; simp
theorem get_more {L : List En} {e : En} (h : ∀ y ∈ L, y.2 ≠ e.2) (x : Nat × Nat) : get (L ++ [e]) x = if x = e.2 then some e else get L x := by
  unfold get
  rw [List.find?_append]
  by_cases hv : x = e.2
  · subst hv
    rw [if_pos rfl, List.find?_eq_none.2 (fun y hy => by simpa using h y hy)]
    simp
  · rw [if_neg hv]
    have : [e].find? (fun e => e.2 == x) = none := by simp; exact fun e' => hv e'.symm
    rw [this]; simp

/-- a specification that may be -/
structure Valid (B V : List Int) : Prop where
  nn : ∀ i, i < 16 → 0 ≤ B.getD i 0
  sum : sm (cnt B) 16 = V.length
  pos : 0 < V.length
  few : V.length ≤ 256
  rng : ∀ v ∈ V, 0 ≤ v ∧ v ≤ 255
  dif : V.Nodup
  fits : ∀ i, i < 16 → nx (cnt B) (i + 1) < 2 ^ (i + 1)
/-- its codes -/
def codes (B V : List Int) : List En := ents V (pre (cnt B) 16)

theorem erase_nodup_mem {V : List Int} (h : V.Nodup) (z v : Int) (hv : v ∈ V.erase z) : v ≠ z ∧ v ∈ V := by
  have := (h.mem_erase_iff).1 hv
  exact this
theorem nodup_few : ∀ (n : Nat) (V : List Int), V.Nodup → (∀ v ∈ V, 0 ≤ v ∧ v < (n : Int)) → V.length ≤ n
  | 0, V, _, h => by
    cases V with
    | nil => simp
    | cons a V => have := h a (by simp); omega
  | n + 1, V, hd, h => by
    have := nodup_few n (V.erase n) (hd.erase _) (fun v hv => by
      obtain ⟨h1, h2⟩ := erase_nodup_mem hd _ v hv
      have := h v h2
      omega)
    have h2 : V.length ≤ (V.erase (n : Int)).length + 1 := by
      rw [List.length_erase]
      split <;> omega
    omega

theorem sm_mono {c : Nat → Nat} {i j : Nat} (h : i ≤ j) : sm c i ≤ sm c j := by
  induction j with
  | zero => obtain rfl : i = 0 := by omega
            exact Nat.le_refl _
  | succ j ih =>
    by_cases e : i = j + 1
    · subst e; exact Nat.le_refl _
    · exact Nat.le_trans (ih (by omega)) (by rw [sm]; omega)
theorem pow16 {i : Nat} (h : i ≤ 16) : 2 ^ i ≤ 65536 := Nat.le_trans (Nat.pow_le_pow_right (by omega) h) (by decide)
theorem Valid.code {B V : List Int} (h : Valid B V) {e : En} (he : e ∈ codes B V) : 1 ≤ e.2.2 ∧ e.2.2 ≤ 16 ∧ e.2.1 + 1 < 2 ^ e.2.2 ∧ 0 ≤ e.1 ∧ e.1 ≤ 255 := by
  obtain ⟨h1, h2⟩ := mem_ents he
  obtain ⟨a, b, c, _⟩ := mem_pre h2
  have := h.rng _ h1
  refine ⟨a, b, ?_, this.1, this.2⟩
  have h3 := h.fits (e.2.2 - 1) (by omega)
  rw [show e.2.2 - 1 + 1 = e.2.2 by omega] at h3
  omega
theorem Valid.lens {B V : List Int} (h : Valid B V) : (pre (cnt B) 16).length = V.length := by rw [pre_len, h.sum]
end Go.Proofs.YtdnjnbfmmgkpjaaDoor

namespace Go.Proofs.YtdnjnbfmmgkpjaaDoor
open Go.RowKit

/-- a specification's cells -/
def specC (B : List Int) (v : Value) : Array Value := (cellsI B ++ [v]).toArray
/-- a specification as a value -/
def specV (B : List Int) (v : Value) : Value := .agg (specC B v)

section
variable {B : List Int} {v : Value}
theorem specC_size (h : B.length = 16) : (specC B v).size = 17 := by simp [specC, cellsI_len, h]
theorem specC_last (h : B.length = 16) : (specC B v)[16]? = some v := by
  simp only [specC, List.getElem?_toArray]
  rw [List.getElem?_append_right (by rw [cellsI_len, h]; omega), cellsI_len, h]
  rfl
theorem specC_at (h : B.length = 16) {i : Nat} (hi : i < 16) : (specC B v)[i]? = some (.int .i64 (B.getD i 0)) := by
  simp only [specC, List.getElem?_toArray]
  rw [List.getElem?_append_left (by rw [cellsI_len, h]; omega)]
  simp [cellsI, List.getD_eq_getElem?_getD, List.getElem?_eq_getElem (show i < B.length by omega)]
theorem specC_one (hv : v.oneCell' = true) : (specC B v).all (·.oneCell') = true :=
  all_oneCell_toArray fun u hu => by
    rcases List.mem_append.1 hu with hu | hu
    · exact cellsI_one B u hu
    · simp at hu; subst hu; exact hv
end
theorem spec_size : (Tryd.prog.info? 30).map (·.size) = some 17 := by kernel_rfl
theorem arr_size : (Tryd.prog.info? 27).map (·.size) = some 16 := by kernel_rfl

theorem Box.spec_range {w : World} {g : Nat} {B : List Int} {v : Value} (h : Box w g 30 (specC B v)) (hB : B.length = 16) : w.rangeAt g 0 (cellsI B) := by
  intro j u hu
  have hj : j < (cellsI B).length := (List.getElem?_eq_some_iff.1 hu).1
  rw [cellsI_len, hB] at hj
  rw [Nat.zero_add, h.cell j, specC_at hB hj, ← hu]
  simp [cellsI, List.getD_eq_getElem?_getD, List.getElem?_eq_getElem (show j < B.length by omega)]
/-- the array of a specification is read -/
theorem load_bits {w : World} {g : Nat} {B : List Int} {v : Value} (h : Box w g 30 (specC B v)) (hB : B.length = 16) :
    (Instr.loadAt 27 (.pointer (some ⟨g, 0, none⟩))).run Tryd.prog w = .ok (.agg (cellsI B).toArray) w :=
  run_loadAt_mid w g 0 27 (cellsI B) _ (h.spec_range hB) Tryd.underlying27 rfl (by rw [arr_size, cellsI_len, hB])
/-- a specification is read whole -/
theorem load_spec {w : World} {g : Nat} {B : List Int} {v : Value} (h : Box w g 30 (specC B v)) (hB : B.length = 16) :
    (Instr.loadAt 30 (.pointer (some ⟨g, 0, none⟩))).run Tryd.prog w = .ok (specV B v) w := by
  refine run_loadAt_mid w g 0 30 (cellsI B ++ [v]) _ ?_ Tryd.underlying30 rfl (by rw [spec_size]; simp [cellsI_len, hB])
  intro j u hu
  rw [Nat.zero_add, h.cell j]
  simpa [specC] using hu
/-- a specification is written whole -/
theorem store_spec {w : World} {g : Nat} {cs : Array Value} {B : List Int} {v : Value} (h : Box w g 30 cs) (hcs : cs.size = 17) (hB : B.length = 16) (hv : v.oneCell' = true) :
    ∃ w', (Instr.storeAt 30 (.pointer (some ⟨g, 0, none⟩)) (specV B v)).run Tryd.prog w = .ok () w' ∧ Box w' g 30 (specC B v) ∧ Kept (fun i => i = g) w w' := by
  refine ⟨w.setRow g (specC B v), ?_, setRow_heap w g cs _ 30 _ h, ⟨rfl, rfl, rfl, by simp, fun k _ hk => setRow_other w g k _ hk⟩⟩
  have := run_storeVar_row (P := Tryd.prog) w g 30 30 cs (specC B v) h (by rw [spec_size, specC_size hB]) (by rw [hcs, specC_size hB]) (specC_one hv)
  simp only [Instr.storeAt, Instr.sureAddr, Sem.run_bind, Sem.run_pure, Result.andThen_ok, specV, this]
/-- a specification is built -/
theorem build_spec (w : World) {B : List Int} (A : Option Addr) (n c : Nat) (hB : B.length = 16) : (Instr.build 30 #[(0, .agg (cellsI B).toArray), (1, .slice A n c)]).run Tryd.prog w = .ok (specV B (.slice A n c)) w := by
  refine run_build w 30 _ _ ?_
  match B, hB with
  | [b0, b1, b2, b3, b4, b5, b6, b7, b8, b9, b10, b11, b12, b13, b14, b15], _ =>
    show Program.built _ _ _ = _
    kernel_rfl

theorem Il.alloc {w : World} {A : Option Addr} {n c : Nat} {xs : List Int} (h : Il w A n c xs) (o : Obj) : Il (w.alloc o) A n c xs := h.on (on_alloc w o)
theorem Il.drew {w : World} {A : Option Addr} {n c : Nat} {xs : List Int} (h : Il w A n c xs) : Il w.drew A n c xs := h.on (on_drew w)
theorem Box.bel {B : Nat} {w w' : World} {g : Nat} {t : TypeId} {cs : Array Value} (h : Box w g t cs) (k : Below B w w') (hg : g < B) : Box w' g t cs := (k.block g hg).trans h
/-- a slice of numbers that reads as xs, in whatever block -/
structure Ia (w : World) (A : Option Addr) (n c : Nat) (xs : List Int) : Prop where
  len : xs.length = n
  cap : n ≤ c
  max : c ≤ maxLen
  nil : A = none → c = 0
  at_ : 0 < n → ∃ b off, A = some ⟨b, off, none⟩ ∧ b < w.heap.size ∧ ∀ i, i < n → w.cell? ⟨b, off + i, none⟩ = some (.int .i64 (xs.getD i 0))
theorem Il.ia {w : World} {A : Option Addr} {n c : Nat} {xs : List Int} (h : Il w A n c xs) : Ia w A n c xs := ⟨h.len, h.cap, h.max, h.nil, h.at_⟩
theorem Ia.on {w w' : World} {A : Option Addr} {n c : Nat} {xs : List Int} (h : Ia w A n c xs) (k : Below w.heap.size w w') : Ia w' A n c xs :=
  ⟨h.len, h.cap, h.max, h.nil, fun h0 => by
    obtain ⟨b, off, e, hb, hc⟩ := h.at_ h0
    exact ⟨b, off, e, Nat.lt_of_lt_of_le hb k.size, fun i hi => (k.cell (p := ⟨b, off + i, none⟩) hb).trans (hc i hi)⟩⟩
theorem Ia.alloc {w : World} {A : Option Addr} {n c : Nat} {xs : List Int} (h : Ia w A n c xs) (o : Obj) : Ia (w.alloc o) A n c xs := h.on (on_alloc w o)
theorem Ia.drew {w : World} {A : Option Addr} {n c : Nat} {xs : List Int} (h : Ia w A n c xs) : Ia w.drew A n c xs := h.on (on_drew w)
theorem Ia.read {w : World} {ad : Addr} {n c : Nat} {l : List Int} (h : Ia w (some ad) n c l) : ∀ j u, (cellsI l)[j]? = some u → w.cell? (ad.add j) = some u := by
  intro j u hu
  have hj : j < l.length := by
    have := (List.getElem?_eq_some_iff.1 hu).1
    simpa [cellsI] using this
  have hl := h.len
  obtain ⟨b, off, e, _, hc⟩ := h.at_ (by omega)
  injection e with e
  subst e
  rw [plain_add, hc j (by omega)]
  simp only [cellsI, List.getElem?_map, List.getElem?_eq_getElem hj, Option.map_some, Option.some.injEq] at hu
  subst hu
  simp [List.getD_eq_getElem?_getD, List.getElem?_eq_getElem hj]
/-- what is appended to a row of one's own -/
theorem run_append_il (w : World) (ty : TypeId) (base : Nat) (v : Value) (n : Nat) (l : List Int) (hown : w.ownsRow base 3 1 v n (cellsI l)) (A : Option Addr) (m c : Nat) (r : List Int) (hr : Ia w A m c r) (h63 : n + m ≤ 1000000) (hbase : base ≤ w.heap.size) :
    ∃ v' w', (Builtin.append_ #[28, 28] ty #[v, .slice A m c]).run Tryd.prog w = .ok v' w' ∧ w'.ownsRow base 3 1 v' (n + m) (cellsI (l ++ r)) ∧ Below base w w' := by
  obtain ⟨i0, hi0, hz0, hz1, hz2⟩ := info_parts int_info
  cases A with
  | none =>
    obtain rfl : c = 0 := hr.nil rfl
    obtain rfl : m = 0 := by have := hr.cap; omega
    have hl : r = [] := List.eq_nil_of_length_eq_zero hr.len
    subst hl
    exact ⟨v, w, run_append_owned_none (P := Tryd.prog) (w := w) base 28 ty 3 i0 1 Tryd.underlying28 hi0 v n (cellsI l) hown, by simpa using hown, Below.refl _ _⟩
  | some ad =>
    obtain ⟨v', w', h0, h1, h2, _⟩ := run_append_own (P := Tryd.prog) w base 28 ty 3 i0 (.int .i64 0) 1 8 Tryd.underlying28 hi0 hz0 hz1 hz2 rfl (by omega) v n (cellsI l) hown ad m c (cellsI r) (by rw [cellsI_len, hr.len, Nat.mul_one]) hr.read (cellsI_one r) (by simp only [maxLen]; omega) (by omega) hbase
    have e : cellsI l ++ cellsI r = cellsI (l ++ r) := by simp [cellsI]
    rw [e] at h1
    exact ⟨v', w', h0, h1, (Below.refl base w).grown h2 hbase (fun j hj => (hown.lt j hj).1)⟩
theorem step_append_il {ops : Array Oper} {o : Oper} {a : Act} {w : World} {K : Act → World → Prop} {Q : Exit → Act → World → Prop} {E : Prop} (hgd : o.guard = none) (s x : Operand)
    (ho : o.op = .call { callee := .builtin .append, args := #[s, x], argTypes := #[28, 28] })
    (base : Nat) (v : Value) (n : Nat) (l : List Int) (hs : a.eval s = v) (hown : w.ownsRow base 3 1 v n (cellsI l))
    (A : Option Addr) (m c : Nat) (r : List Int) (hx : a.eval x = .slice A m c) (hr : Ia w A m c r) (h63 : n + m ≤ 1000000) (hbase : base ≤ w.heap.size) (d : Option Tmp) (hd : o.dst = d)
    (h : ∀ v' w', w'.ownsRow base 3 1 v' (n + m) (cellsI (l ++ r)) → Below base w w' → K (a.put d v') w') :
    if Region.wanted o (yielded ops a.tmps) = true then Oper.wp Tryd.prog o a w K Q else E := by
  have hw : Region.wanted o (yielded ops a.tmps) = true := by simp [Region.wanted, hgd]
  rw [if_pos hw]
  subst hd
  obtain ⟨v', w', h0, h1, h2⟩ := run_append_il w o.type base v n l hown A m c r hr h63 hbase
  unfold Oper.wp
  simp [execOp, ho, resolve, invoke, builtin, hs, hx, h0, Result.andThen]
  exact h v' w' h1 h2

def zeroC : Array Value := #[.int .i64 0, .int .i64 0, .int .i64 0, .int .i64 0, .int .i64 0, .int .i64 0, .int .i64 0, .int .i64 0, .int .i64 0, .int .i64 0, .int .i64 0, .int .i64 0, .int .i64 0, .int .i64 0, .int .i64 0, .int .i64 0, .slice none 0 0]
theorem zero25 (w : World) : (zeroValue 30).run Tryd.prog w = .ok (.agg #[.int .i64 0, .int .i64 0, .int .i64 0, .int .i64 0, .int .i64 0, .int .i64 0, .int .i64 0, .int .i64 0, .int .i64 0, .int .i64 0, .int .i64 0, .int .i64 0, .int .i64 0, .int .i64 0, .int .i64 0, .int .i64 0, .slice none 0 0]) w := by kernel_rfl
theorem zeroC_spec : zeroC = specC (List.replicate 16 0) (.slice none 0 0) := rfl

theorem Kept.frozen {S : Nat → Prop} {w w' : World} (h : Kept S w w') {b o : Nat} (hb : b < w.heap.size) (hS : ¬ S b) : w'.frozen? ⟨b, o, none⟩ = w.frozen? ⟨b, o, none⟩ := by
  unfold World.frozen?
  rw [show (⟨b, o, none⟩ : Addr).block = b from rfl, h.block b hb hS]
/-- the numbers of a row of one's own, and that they may be written -/
theorem il_of_own2 {w : World} {base : Nat} {v : Value} {n : Nat} {l : List Int} (h : w.ownsRow base 3 1 v n (cellsI l)) : ∃ A c, v = .slice A n c ∧ Il w A n c l ∧ ∀ b off, A = some ⟨b, off, none⟩ → base ≤ b ∧ b < w.heap.size ∧ ∀ i, w.frozen? ⟨b, off + i, none⟩ = false := by
  obtain ⟨A, c, hv, hi, hlo⟩ := il_of_own h
  refine ⟨A, c, hv, hi, fun b off e => ⟨hlo b off e, ?_⟩⟩
  rcases h.2 with ⟨e0, _⟩ | ⟨g, cap, cur, e0, _, hh, _⟩
  · rw [hv] at e0
    cases e0
    cases e
  · rw [hv] at e0
    cases e0
    cases e
    exact ⟨(Array.getElem?_eq_some_iff.1 hh).1, fun i => by simp [World.frozen?, hh]⟩
/-- a specification of one's own: its values lie in new memory -/
def OwnSpec (w : World) (B : List Int) (n : Nat) (V : List Int) (e : Ending) (w' : World) : Prop :=
  ∃ A c, e = .returned (specV B (.slice A n c)) ∧ Il w' A n c V ∧ (∀ b off, A = some ⟨b, off, none⟩ → w.heap.size ≤ b ∧ ∀ i, w'.frozen? ⟨b, off + i, none⟩ = false) ∧ Below w.heap.size w w'

/-- an operation is taken first, and its slot is named -/
theorem take_to {ops : Array Oper} {Q : Exit → Act → World → Prop} {md : Region.Mode} {S : World → Prop} {i : Nat} {oi : Oper} {v : Value} {fuel : Nat} {listed : Array Bool} {a : Act} {w : World} (hi : ops[i]? = some oi)
    (hs : Region.noSelect ops = true) (hf : Region.free md ops listed i = true) (hr : (Region.ready md ops listed).contains i = true)
    (hQ : ∀ c a w, Q (.panic c) (a.put oi.dst v) w → Q (.panic c) a w) (hy : YieldsIf Tryd.prog ops S oi v a) (hS : S w) (d : Option Tmp) (hd : oi.dst = d)
    (h : wpAnyH Tryd.prog md ops Q S fuel (listed.setIfInBounds i true) (a.put d v) w) : wpAnyH Tryd.prog md ops Q S (fuel + 1) listed a w :=
  wpAnyH_take hi hs hf hr hQ hy hS (by rw [hd]; exact h)
/-- a specification is stored whole -/
theorem wp_store_spec {o : Oper} {a : Act} {w : World} {K : Act → World → Prop} {Q : Exit → Act → World → Prop} (x y : Operand) (ho : o.op = .store 30 x y) (hd : o.dst = none)
    (g : Nat) (B : List Int) (v : Value) (hx : a.eval x = .pointer (some ⟨g, 0, none⟩)) (hy : a.eval y = specV B v) (old : Array Value) (hg : Box w g 30 old) (hold : old.size = 17) (hB : B.length = 16) (hv : v.oneCell' = true)
    (h : ∀ w', Box w' g 30 (specC B v) → Kept (fun i => i = g) w w' → K a w') : o.wp Tryd.prog a w K Q := by
  refine wp_store_row 30 x y ho g (specC B v) hx hy 30 old hg (by rw [spec_size, specC_size hB]) (by rw [hold, specC_size hB]) (specC_one hv) ?_
  rw [hd]
  exact h _ (setRow_heap w g old _ 30 _ hg) ⟨rfl, rfl, rfl, by simp, fun k _ hk => setRow_other w g k _ hk⟩
theorem wpList_store_spec {ops : Array Oper} {rest : List Oper} {o : Oper} {a : Act} {w : World} {Q : Exit → Act → World → Prop} (hgd : o.guard = none) (x y : Operand) (ho : o.op = .store 30 x y) (hd : o.dst = none)
    (g : Nat) (B : List Int) (v : Value) (hx : a.eval x = .pointer (some ⟨g, 0, none⟩)) (hy : a.eval y = specV B v) (old : Array Value) (hg : Box w g 30 old) (hold : old.size = 17) (hB : B.length = 16) (hv : v.oneCell' = true)
    (h : ∀ w', Box w' g 30 (specC B v) → Kept (fun i => i = g) w w' → wpList Tryd.prog ops Q rest a w') : wpList Tryd.prog ops Q (o :: rest) a w :=
  wpList_plain hgd fun _ hK => wp_store_spec x y ho hd g B v hx hy old hg hold hB hv (fun w' h1 h2 => hK _ _ (h w' h1 h2))

/-- an operation that builds may be taken first -/
theorem yieldsIf_build {ops : Array Oper} {S : World → Prop} {op : Oper} {a : Act} (hw : Region.wanted op (yielded ops a.tmps) = true) (t : TypeId) (parts : Array (Nat × Operand)) (ho : op.op = .build t parts)
    (v : Value) (ps : Array (Nat × Value)) (hps : (parts.map fun (i, x) => (i, a.eval x)) = ps) (h : ∀ w, (Instr.build t ps).run Tryd.prog w = .ok v w) : YieldsIf Tryd.prog ops S op v a :=
  .inl ⟨hw, fun w _ => by
    unfold execOp
    simp only [ho, hps, Sem.run_bind, h w, Result.andThen_ok, Sem.run_pure]⟩

end Go.Proofs.YtdnjnbfmmgkpjaaDoor

namespace Go.Proofs.YtdnjnbfmmgkpjaaDoor
open Go.RowKit

theorem int_size : (Tryd.prog.info? 3).map (·.size) = some 1 := by kernel_rfl
theorem il_copy {w : World} {A : Option Addr} {n c : Nat} {l : List Int} (h : Il w A n c l) (h0 : 0 < (cellsI l).length) : ∃ ad, A = some ad ∧ ∀ j v, (cellsI l)[j]? = some v → w.cell? (ad.add j) = some v := by
  obtain ⟨b, off, e, _⟩ := h.at_ (by have := h.len; rw [cellsI_len] at h0; omega)
  subst e
  exact ⟨_, rfl, h.read⟩
theorem il_of_box {w : World} {b n : Nat} {l : List Int} (h : Box w b 3 (cellsI l).toArray) (hl : l.length = n) (hm : n ≤ maxLen) : Il w (some ⟨b, 0, none⟩) n n l := by
  refine ⟨hl, Nat.le_refl _, hm, (fun e => by cases e), (fun b off e => by cases e; exact ⟨_, _, h⟩), fun _ => ⟨b, 0, rfl, h.lt, fun i hi => ?_⟩⟩
  rw [Nat.zero_add, h.cell i]
  simp [cellsI, List.getD_eq_getElem?_getD, List.getElem?_eq_getElem (show i < l.length by omega)]
/-- an operation that builds, at a plain region's list -/
theorem wpList_build_to {ops : Array Oper} {rest : List Oper} {op : Oper} {a : Act} {w : World} {Q : Exit → Act → World → Prop} (hgd : op.guard = none) (t : TypeId) (parts : Array (Nat × Operand)) (ho : op.op = .build t parts)
    (v : Value) (ps : Array (Nat × Value)) (hps : (parts.map fun (i, x) => (i, a.eval x)) = ps) (h : (Instr.build t ps).run Tryd.prog w = .ok v w)
    (hK : wpList Tryd.prog ops Q rest (a.put op.dst v) w) : wpList Tryd.prog ops Q (op :: rest) a w :=
  wpList_plain hgd fun _ hQ => by
    unfold Oper.wp execOp
    simp only [ho, hps, Sem.run_bind, h, Result.andThen_ok]
    exact hQ _ _ hK

/-- a load, at a plain region's list -/
theorem wpList_load_to {ops : Array Oper} {rest : List Oper} {op : Oper} {a : Act} {w : World} {Q : Exit → Act → World → Prop} (hgd : op.guard = none) (ty : TypeId) (x : Operand) (ho : op.op = .load ty x)
    (u : Value) (hx : a.eval x = u) (v : Value) (hl : (Instr.loadAt ty u).run Tryd.prog w = .ok v w)
    (hK : wpList Tryd.prog ops Q rest (a.put op.dst v) w) : wpList Tryd.prog ops Q (op :: rest) a w :=
  wpList_plain hgd fun _ hQ => by
    unfold Oper.wp execOp
    simp only [ho, hx, Sem.run_bind, hl, Result.andThen_ok]
    exact hQ _ _ hK
theorem ia_copy {w : World} {A : Option Addr} {n c : Nat} {l : List Int} (h : Ia w A n c l) (h0 : 0 < (cellsI l).length) : ∃ ad, A = some ad ∧ ∀ j v, (cellsI l)[j]? = some v → w.cell? (ad.add j) = some v := by
  rw [cellsI_len, h.len] at h0
  obtain ⟨b, off, e, _, _⟩ := h.at_ h0
  subst e
  exact ⟨_, rfl, h.read⟩
structure CopyFacts (w w2 : World) (g m : Nat) (B V : List Int) (A : Option Addr) (n c : Nat) (Z : List Int) : Prop where
  b1 : Box w2 g 30 (specC B (.slice A n c))
  b2 : Box w2 (g + 1) 30 zeroC
  b3 : Box w2 m 3 (cellsI Z).toArray
  vals : Ia w2 A n c V
  bel : Below w.heap.size w w2
  hg : g = w.heap.size
  hm : m = g + 1 + 1
  hz : Z.length = n

set_option maxRecDepth 20000 in
set_option maxHeartbeats 1600000 in
theorem copied_any (w : World) (B V : List Int) (A : Option Addr) (n c : Nat) (hB : B.length = 16) (h : Ia w A n c V) (hn : n ≤ 300) :
    Calls Tryd.prog 74 #[specV B (.slice A n c)] w (OwnSpec w B n V) := by
  have hz := zero25
  unfold specV
  have hmk := run_make_row' (P := Tryd.prog) 28 3 (.int .i64 0) 8 Tryd.underlying28 int_info rfl .i64 .i64 n (by omega) (by omega)
  obtain ⟨M, hM⟩ : ∃ M, M = madeCells #[.int .i64 0] n := ⟨_, rfl⟩
  rw [← hM] at hmk
  have hM2 : M = (cellsI (List.replicate n 0)).toArray := by
    apply Array.toList_inj.1
    rw [hM, toList_madeCells_one]
    simp [cellsI]
  rw [hM2] at hmk
  clear hM hM2
  obtain ⟨Z, hZ⟩ : ∃ Z, Z = List.replicate n (0 : Int) := ⟨_, rfl⟩
  rw [← hZ] at hmk
  obtain ⟨C, hC⟩ : ∃ C, C = specC B (.slice A n c) := ⟨_, rfl⟩
  rw [← hC]
  obtain ⟨g, hg⟩ : ∃ g, g = w.heap.size := ⟨_, rfl⟩
  obtain ⟨w1, hw1⟩ : ∃ w1, w1 = (w.alloc (.cells C 30)).alloc (.cells zeroC 30) := ⟨_, rfl⟩
  have b1 : Box w1 g 30 C := by rw [hw1, hg]; exact (Box.made w 30 C).alloc _
  have b2 : Box w1 (g + 1) 30 zeroC := by rw [hw1, hg]; have := Box.made (w.alloc (.cells C 30)) 30 zeroC; simpa using this
  have bel : Below w.heap.size w w1 := by rw [hw1]; exact on_trans (on_alloc _ _) (on_alloc _ _)
  have hs1 : w1.heap.size = g + 1 + 1 := by rw [hw1, hg]; simp
  obtain ⟨m, hm⟩ : ∃ m, m = g + 1 + 1 := ⟨_, rfl⟩
  obtain ⟨w2, hw2⟩ : ∃ w2, w2 = w1.alloc (.cells (cellsI Z).toArray 3) := ⟨_, rfl⟩
  have c1 : ((w.alloc (.cells C 30)).alloc (.cells #[.int .i64 0, .int .i64 0, .int .i64 0, .int .i64 0, .int .i64 0, .int .i64 0, .int .i64 0, .int .i64 0, .int .i64 0, .int .i64 0, .int .i64 0, .int .i64 0, .int .i64 0, .int .i64 0, .int .i64 0, .int .i64 0, .slice none 0 0] 30)).cell? ⟨w.heap.size, 16, none⟩ = some (.slice A n c) := by
    rw [← hg]
    show ((w.alloc (.cells C 30)).alloc (.cells zeroC 30)).cell? ⟨g, 16, none⟩ = _
    rw [← hw1, b1.cell 16, hC]; exact specC_last hB
  have hF : CopyFacts w w2 g m B V A n c Z := by
    rw [hC] at b1
    refine ⟨?_, ?_, ?_, ?_, ?_, hg, hm, by rw [hZ, List.length_replicate]⟩
    · rw [hw2]; exact b1.alloc _
    · rw [hw2]; exact b2.alloc _
    · rw [hw2, hm, ← hs1]; exact Box.made _ _ _
    · rw [hw2]; exact (h.on bel).alloc _
    · rw [hw2]; exact on_trans bel (on_alloc _ _)
  have c2 : (((w.alloc (.cells C 30)).alloc (.cells #[.int .i64 0, .int .i64 0, .int .i64 0, .int .i64 0, .int .i64 0, .int .i64 0, .int .i64 0, .int .i64 0, .int .i64 0, .int .i64 0, .int .i64 0, .int .i64 0, .int .i64 0, .int .i64 0, .int .i64 0, .int .i64 0, .slice none 0 0] 30)).alloc (.cells (cellsI Z).toArray 3)).cell? ⟨w.heap.size, 16, none⟩ = some (.slice A n c) := by
    rw [← hg]
    show (((w.alloc (.cells C 30)).alloc (.cells zeroC 30)).alloc (.cells (cellsI Z).toArray 3)).cell? ⟨g, 16, none⟩ = _
    rw [← hw1, ← hw2, hF.b1.cell 16]; exact specC_last hB
  rw [hw2, hw1, hm, hg] at hF
  have HF := Lib.hid hF
  have HW := Lib.hid hB
  clear b1 b2 bel h hs1 hC hF hZ hw2 hm w2 m hw1 w1 hg g
  go_enter Tryd.func74, Tryd.ntmps74
  go_wp2_with (first
    | ((with_reducible refine wpList_copy_splice (o := ⟨some 11, _, _, _, _, _⟩) rfl (.tmp 8) (.tmp 10) 28 28 rfl 3 Tryd.underlying28 int_size (some ⟨w.heap.size + 1 + 1, 0, none⟩) A n n n c rfl rfl (w.heap.size + 1 + 1) 0 (cellsI Z) 3 ?hg (cellsI V) ?hn ?hpos ?hfit (cellsI_one _) (w.heap.size + 1 + 1) ?w0 ?hb ?hgg ?_)
       case hb => exact Below.refl _ _
       case hg => exact HF.out.b3
       case hn => have := HF.out.vals.len; rw [cellsI_len]; simp [this]
       case hpos => exact fun h0 => ⟨rfl, ia_copy HF.out.vals h0⟩
       case hfit => have := HF.out.vals.len; have := HF.out.hz; rw [cellsI_len, cellsI_len]; omega
       case hgg => exact Nat.le_refl _
       intro w3 hb3 hbel
       have H3 := Lib.hid (And.intro hb3 hbel)
       have H4 := Lib.hid (HF.out.b1.bel hbel (by omega))
       have H5 := Lib.hid (HF.out.b2.bel hbel (by omega))
       clear hb3 hbel)
    | (with_reducible refine wpList_load_to (op := ⟨some 10, _, _, _, _, _⟩) rfl 28 (.tmp 9) rfl _ rfl (.slice A n c) (by go_simp) ?_)
    | (with_reducible refine wpList_load_mid (op := ⟨some 13, _, _, _, _, _⟩) rfl 27 (.tmp 12) rfl w.heap.size 0 rfl (cellsI B) _ (Box.spec_range H4.out HW.out) Tryd.underlying27 rfl (by rw [arr_size, cellsI_len, HW.out]) ?_)
    | (with_reducible refine wpList_build_to (op := ⟨some 15, _, _, _, _, _⟩) rfl 30 _ rfl (specV B (.slice (some ⟨w.heap.size + 1 + 1, 0, none⟩) n n)) _ (by simp [Act.eval]) (build_spec _ _ n n HW.out) ?_)
    | ((with_reducible refine wpList_store_spec (o := ⟨none, _, _, _, _, _⟩) rfl (.tmp 2) (.tmp 15) rfl rfl (w.heap.size + 1) B (.slice (some ⟨w.heap.size + 1 + 1, 0, none⟩) n n) rfl rfl zeroC H5.out rfl HW.out rfl ?_)
       intro w4 b4 k4
       have H6 := Lib.hid (And.intro b4 k4)
       clear b4 k4)
    | fail)
  refine bodyPost_ret (v := specV B (.slice (some ⟨w.heap.size + 1 + 1, 0, none⟩) n n)) (results_cell_row (fn := Tryd.f74) Tryd.results74 _ _ (w.heap.size + 1) 30 _ (0, 0) _ rfl H6.out.1 Tryd.underlying30 rfl (by rw [spec_size, specC_size HW.out])) rfl ?_
  obtain ⟨b4, k4⟩ := H6.out
  obtain ⟨hb3, hbel⟩ := H3.out
  have hl := HF.out.vals.len
  have hb := hb3.out
  rw [splice_all _ _ (by rw [cellsI_len, cellsI_len, hl, HF.out.hz]; exact Nat.le_refl _)] at hb
  have hbx : Box w3 (w.heap.size + 1 + 1) 3 (cellsI V).toArray := hb
  have k5 : Box w4 (w.heap.size + 1 + 1) 3 (cellsI V).toArray := k4.box hbx (by omega)
  have hs2 := HF.out.b3.lt
  have h3 : Below w.heap.size w w3 := HF.out.bel.trans (hbel.mono (by omega))
  exact ⟨_, _, rfl, il_of_box k5 hl (by unfold maxLen; omega), (fun b off e => by cases e; exact ⟨by omega, fun i => k5.free _⟩), h3.trans (k4.below (by have := h3.size; omega) (fun i hi e => by omega))⟩
end Go.Proofs.YtdnjnbfmmgkpjaaDoor

namespace Go.Proofs.YtdnjnbfmmgkpjaaDoor
open Go.RowKit

/-- numbers of 0 to 255, no two alike -/
def Diff (V : List Int) : Prop := (∀ v ∈ V, 0 ≤ v ∧ v ≤ 255) ∧ V.Nodup
/-- which numbers are in a list -/
def seenC (L : List Int) : Array Value := ((List.range 256).map fun i : Nat => Value.bool (decide ((i : Int) ∈ L))).toArray
theorem seenC_at (L : List Int) {i : Nat} (hi : i < 256) : (seenC L)[i]? = some (.bool (decide ((i : Int) ∈ L))) := by
  simp [seenC, hi]
theorem seenC_put (L : List Int) (i : Nat) : (seenC L).setIfInBounds i (.bool true) = seenC (L ++ [(i : Int)]) := by
  unfold seenC
  rw [List.setIfInBounds_toArray]
  congr 1
  apply List.ext_getElem?
  intro k
  rw [List.getElem?_set]
  by_cases hk : k < 256
  · by_cases e : i = k
    · subst e
      simp [hk]
    · simp [hk, e]
      intro h
      exact absurd (by omega) e
  · simp [hk]
    omega
theorem zero91 (w : World) : (zeroValue 186).run Tryd.prog w = .ok (.agg (seenC [])) w := by kernel_rfl

/-- what differ answers -/
def Differ (w : World) (V : List Int) (e : Ending) (w' : World) : Prop := ∃ b, e = .returned (.bool b) ∧ (b = true ↔ Diff V) ∧ Below w.heap.size w w'
structure Diffing (w wr : World) (g : Nat) (V : List Int) (k : Nat) : Prop where
  box : Box wr g 186 (seenC (V.take k))
  dif : Diff (V.take k)
  bel : Below w.heap.size w wr
  new : w.heap.size ≤ g
theorem diff_take {V : List Int} (h : Diff V) (k : Nat) : Diff (V.take k) := ⟨fun v hv => h.1 v (List.mem_of_mem_take hv), h.2.sublist (List.take_sublist _ _)⟩
theorem diff_more {V : List Int} {k : Nat} (hk : k < V.length) : Diff (V.take (k + 1)) ↔ Diff (V.take k) ∧ (0 ≤ V.getD k 0 ∧ V.getD k 0 ≤ 255) ∧ V.getD k 0 ∉ V.take k := by
  rw [take_more V k hk]
  unfold Diff
  rw [List.nodup_append]
  constructor
  · rintro ⟨h1, h2, _, h3⟩
    exact ⟨⟨fun v hv => h1 v (List.mem_append_left _ hv), h2⟩, h1 _ (by simp), fun hm => h3 _ hm _ (by simp) rfl⟩
  · rintro ⟨⟨h1, h2⟩, h3, h4⟩
    refine ⟨fun v hv => ?_, h2, by simp, fun a ha b hb e => ?_⟩
    · rcases List.mem_append.1 hv with hv | hv
      · exact h1 v hv
      · simp only [List.mem_singleton] at hv; rw [hv]; exact h3
    · simp only [List.mem_singleton] at hb
      rw [← e] at hb
      subst hb
      exact h4 ha

set_option maxRecDepth 20000 in
set_option maxHeartbeats 1600000 in
theorem differ_any (w : World) (A : Option Addr) (n c : Nat) (V : List Int) (h : Ia w A n c V) (hn : n ≤ 300) :
    Calls Tryd.prog 92 #[.slice A n c] w (Differ w V) := by
  have hz := zero91
  obtain ⟨Z, hZ⟩ : ∃ Z, Z = seenC [] := ⟨_, rfl⟩
  rw [← hZ] at hz
  have hD : Diffing w (w.alloc (.cells Z 186)) w.heap.size V 0 := ⟨by rw [hZ]; exact Box.made _ _ _, ⟨(fun v hv => by cases hv), List.Pairwise.nil⟩, on_alloc _ _, Nat.le_refl _⟩
  have HD := Lib.hid hD
  have HL := Lib.hid h.len
  have HI := Lib.hid h
  clear hD hZ h
  go_enter Tryd.func92, Tryd.ntmps92
  go_wp2_with fail
  generalize hg : w.heap.size = g at HD ⊢
  have HG := Lib.hid hg
  clear hg hz
  go_loopw [8] (fun i wr => ∃ k : Nat, k ≤ n ∧ i = .int .i64 k ∧ Diffing w wr g V k) (fun i _ => n - (intOf i).toNat)
  case atStart => exact ⟨0, Nat.zero_le _, rfl, HD.out⟩
  case round =>
    obtain ⟨k, hk, rfl, hR⟩ := hrel
    by_cases hlt : k < n
    · obtain ⟨b, off, hA, _, hc⟩ := (HI.out.on hR.bel).at_ (by omega)
      have hck := hc k hlt
      obtain ⟨v, hv⟩ : ∃ v, v = V.getD k 0 := ⟨_, rfl⟩
      rw [← hv] at hck
      have hmore := diff_more (V := V) (k := k) (by have := HL.out; omega)
      rw [← hv] at hmore
      have HR := Lib.hid (And.intro hR (And.intro hmore hv))
      clear hc hR hmore hv
      subst hA
      by_cases h0 : v < 0
      · go_wp2
        go_ret
        refine ⟨false, rfl, ⟨(fun e => by cases e), fun hd => ?_⟩, HR.out.1.bel⟩
        have := (HR.out.2.1.1 (diff_take hd _)).2.1
        omega
      by_cases h1 : 256 ≤ v
      · go_wp2
        go_ret
        refine ⟨false, rfl, ⟨(fun e => by cases e), fun hd => ?_⟩, HR.out.1.bel⟩
        have := (HR.out.2.1.1 (diff_take hd _)).2.1
        omega
      obtain ⟨m, rfl⟩ := Int.eq_ofNat_of_zero_le (show 0 ≤ v by omega)
      have hm : m < 256 := by omega
      have s1 : wr.cell? ⟨g, m, none⟩ = some (.bool (decide ((m : Int) ∈ V.take k))) := (HR.out.1.box.cell m).trans (seenC_at _ hm)
      by_cases h2 : (m : Int) ∈ V.take k
      · rw [decide_eq_true h2] at s1
        have H2 := Lib.hid h2
        clear h2
        go_wp2
        go_ret
        refine ⟨false, rfl, ⟨(fun e => by cases e), fun hd => ?_⟩, HR.out.1.bel⟩
        exact absurd H2.out (HR.out.2.1.1 (diff_take hd _)).2.2
      · rw [decide_eq_false h2] at s1
        have H2 := Lib.hid h2
        have f1 := HR.out.1.box.free m
        clear h2
        go_wp2
        go_roundw
        case rel =>
          refine ⟨k + 1, by omega, by go_num, ?_⟩
          have hb := HR.out.1.box.put m (.bool true)
          rw [seenC_put, HR.out.2.2, ← take_more V k (by have := HL.out; omega)] at hb
          exact ⟨hb, HR.out.2.1.2 ⟨HR.out.1.dif, by omega, H2.out⟩, HR.out.1.bel.setCell (p := ⟨g, m, none⟩) HR.out.1.new _, HR.out.1.new⟩
        case measure => simp [intOf]; omega
    · have ek : k = n := by omega
      have HE := Lib.hid (And.intro hR ek)
      clear hR ek
      go_wp2
      go_ret
      obtain ⟨hR, ek⟩ := HE.out
      have hd := hR.dif
      rw [ek, List.take_of_length_le (by have := HL.out; omega)] at hd
      exact ⟨true, rfl, ⟨fun _ => hd, fun _ => rfl⟩, hR.bel⟩
end Go.Proofs.YtdnjnbfmmgkpjaaDoor

namespace Go.Proofs.YtdnjnbfmmgkpjaaDoor
open Go.RowKit

/-- an index into an array's value, at a plain region's list -/
theorem wpList_index_to {ops : Array Oper} {rest : List Oper} {op : Oper} {a : Act} {w : World} {Q : Exit → Act → World → Prop} (hgd : op.guard = none) (ty : TypeId) (x y : Operand) (ho : op.op = .index ty x y)
    (u z : Value) (hx : a.eval x = u) (hy : a.eval y = z) (v : Value) (hl : (Instr.index ty u z).run Tryd.prog w = .ok v w)
    (hK : wpList Tryd.prog ops Q rest (a.put op.dst v) w) : wpList Tryd.prog ops Q (op :: rest) a w :=
  wpList_plain hgd fun _ hQ => by
    unfold Oper.wp execOp
    simp only [ho, hx, hy, Sem.run_bind, hl, Result.andThen_ok]
    exact hQ _ _ hK
theorem index_bits (w : World) {B : List Int} (hB : B.length = 16) {k : Nat} (hk : k < 16) : (Instr.index 27 (.agg (cellsI B).toArray) (.int .i64 (k : Int))).run Tryd.prog w = .ok (.int .i64 (B.getD k 0)) w := by
  match B, hB with
  | [b0, b1, b2, b3, b4, b5, b6, b7, b8, b9, b10, b11, b12, b13, b14, b15], _ =>
    have hc : k = 0 ∨ k = 1 ∨ k = 2 ∨ k = 3 ∨ k = 4 ∨ k = 5 ∨ k = 6 ∨ k = 7 ∨ k = 8 ∨ k = 9 ∨ k = 10 ∨ k = 11 ∨ k = 12 ∨ k = 13 ∨ k = 14 ∨ k = 15 := by omega
    rcases hc with rfl | rfl | rfl | rfl | rfl | rfl | rfl | rfl | rfl | rfl | rfl | rfl | rfl | rfl | rfl | rfl
    · show Sem.run _ _ _ = _; kernel_rfl
    · show Sem.run _ _ _ = _; kernel_rfl
    · show Sem.run _ _ _ = _; kernel_rfl
    · show Sem.run _ _ _ = _; kernel_rfl
    · show Sem.run _ _ _ = _; kernel_rfl
    · show Sem.run _ _ _ = _; kernel_rfl
    · show Sem.run _ _ _ = _; kernel_rfl
    · show Sem.run _ _ _ = _; kernel_rfl
    · show Sem.run _ _ _ = _; kernel_rfl
    · show Sem.run _ _ _ = _; kernel_rfl
    · show Sem.run _ _ _ = _; kernel_rfl
    · show Sem.run _ _ _ = _; kernel_rfl
    · show Sem.run _ _ _ = _; kernel_rfl
    · show Sem.run _ _ _ = _; kernel_rfl
    · show Sem.run _ _ _ = _; kernel_rfl
    · show Sem.run _ _ _ = _; kernel_rfl
/-- the array is read whole -/
theorem load_arr {w : World} {g : Nat} {B : List Int} (h : Box w g 27 (cellsI B).toArray) (hB : B.length = 16) : (Instr.loadAt 27 (.pointer (some ⟨g, 0, none⟩))).run Tryd.prog w = .ok (.agg (cellsI B).toArray) w := by
  refine run_loadAt_mid w g 0 27 (cellsI B) _ (fun j u hu => ?_) Tryd.underlying27 rfl (by rw [arr_size, cellsI_len, hB])
  rw [Nat.zero_add, h.cell j]
  simpa using hu

/-- counts that fit so many values -/
structure FitOk (B : List Int) (n : Nat) : Prop where
  nn : ∀ i, i < 16 → 0 ≤ B.getD i 0
  sum : sm (cnt B) 16 = n
  pos : 0 < n
  fits : ∀ i, i < 16 → nx (cnt B) (i + 1) < 2 ^ (i + 1)
/-- the first k counts may be -/
structure FitTo (B : List Int) (n k : Nat) : Prop where
  nn : ∀ i, i < k → 0 ≤ B.getD i 0
  sum : sm (cnt B) k ≤ n
  fits : ∀ i, i < k → nx (cnt B) (i + 1) < 2 ^ (i + 1)
theorem FitOk.to {B : List Int} {n k : Nat} (h : FitOk B n) (hk : k ≤ 16) : FitTo B n k := ⟨fun i hi => h.nn i (by omega), by rw [← h.sum]; exact sm_mono hk, fun i hi => h.fits i (by omega)⟩
theorem FitTo.more {B : List Int} {n k : Nat} (h : FitTo B n k) (h0 : 0 ≤ B.getD k 0) (h1 : sm (cnt B) (k + 1) ≤ n) (h2 : nx (cnt B) (k + 1) < 2 ^ (k + 1)) : FitTo B n (k + 1) := by
  refine ⟨fun i hi => ?_, h1, fun i hi => ?_⟩
  · rcases Nat.lt_or_ge i k with h' | h'
    · exact h.nn i h'
    · obtain rfl : i = k := by omega
      exact h0
  · rcases Nat.lt_or_ge i k with h' | h'
    · exact h.fits i h'
    · obtain rfl : i = k := by omega
      exact h2
theorem FitTo.nx {B : List Int} {n k : Nat} (h : FitTo B n k) : nx (cnt B) k < 2 ^ k := by
  cases k with
  | zero => show 0 < 1; omega
  | succ k => exact h.fits k (by omega)
/-- what fit answers -/
def Fitted (w : World) (B : List Int) (n : Nat) (e : Ending) (w' : World) : Prop := ∃ b, e = .returned (.bool b) ∧ (b = true ↔ FitOk B n) ∧ Below w.heap.size w w'

set_option maxRecDepth 20000 in
set_option maxHeartbeats 1600000 in
theorem fit_any (w : World) (B : List Int) (n : Nat) (hB : B.length = 16) (hn : n ≤ 300) :
    Calls Tryd.prog 93 #[.agg (cellsI B).toArray, .int .i64 (n : Int)] w (Fitted w B n) := by
  obtain ⟨w1, hw1⟩ : ∃ w1, w1 = w.alloc (.cells (cellsI B).toArray 27) := ⟨_, rfl⟩
  have hb : Box w1 w.heap.size 27 (cellsI B).toArray := by rw [hw1]; exact Box.made _ _ _
  have bel : Below w.heap.size w w1 := by rw [hw1]; exact on_alloc _ _
  have hl := load_arr hb hB
  rw [hw1] at hl
  have HH := Lib.hid (And.intro hw1 (And.intro bel (And.intro hl hB)))
  clear hb hw1 bel hB hl
  obtain ⟨C, hC⟩ : ∃ C, C = (cellsI B).toArray := ⟨_, rfl⟩
  rw [← hC] at HH ⊢
  have HC := Lib.hid hC
  clear hC
  have h0 : FitTo B n 0 := ⟨fun i hi => absurd hi (by omega), Nat.zero_le _, fun i hi => absurd hi (by omega)⟩
  have H0 := Lib.hid h0
  clear h0
  go_enter Tryd.func93, Tryd.ntmps93
  go_wp2_with (first
    | (with_reducible refine wpList_load_to (op := ⟨some 10, _, _, _, _, _⟩) rfl 27 (.tmp 2) rfl (.pointer (some ⟨w.heap.size, 0, none⟩)) rfl (.agg C) HH.out.2.2.1 ?_)
    | fail)
  rw [← HH.out.1]
  go_loopw [11, 5, 6] (fun i l x wr => ∃ k : Nat, k ≤ 16 ∧ i = .int .i64 k ∧ l = .int .i64 ((n - sm (cnt B) k : Nat) : Int) ∧ x = .int .i64 ((2 * nx (cnt B) k : Nat) : Int) ∧ FitTo B n k ∧ wr = w1) (fun i _ _ _ => 16 - (intOf i).toNat)
  case atStart => exact ⟨0, Nat.zero_le _, rfl, by show _ = Value.int .i64 ((n - 0 : Nat) : Int); rw [Nat.sub_zero], rfl, H0.out, rfl⟩
  case round =>
    obtain ⟨k, hk, rfl, rfl, rfl, hF, rfl⟩ := hrel
    by_cases hlt : k < 16
    · have hix := index_bits wr HH.out.2.2.2 hlt
      rw [← HC.out] at hix
      have hnx := hF.nx
      have hp := pow16 (i := k + 1) (by omega)
      obtain ⟨S, hS⟩ : ∃ S, S = sm (cnt B) k := ⟨_, rfl⟩
      obtain ⟨N, hN⟩ : ∃ N, N = nx (cnt B) k := ⟨_, rfl⟩
      obtain ⟨p, hpp⟩ : ∃ p : Nat, p = 2 ^ k := ⟨_, rfl⟩
      have hp2 : (2 : Int) ^ k = (p : Int) := by rw [hpp]; simp
      have hpk : 2 ^ (k + 1) = 2 * p := by rw [hpp, Nat.pow_succ, Nat.mul_comm]
      obtain ⟨v, hv⟩ : ∃ v, v = B.getD k 0 := ⟨_, rfl⟩
      have hS1 : S ≤ n := by rw [hS]; exact hF.sum
      rw [hpk] at hp
      rw [← hN, ← hpp] at hnx
      rw [← hv] at hix
      have e1 : sm (cnt B) (k + 1) = S + v.toNat := by rw [sm, ← hS, hv]; rfl
      have e2 : nx (cnt B) (k + 1) = 2 * N + v.toNat := by rw [nx, ← hN, hv]; rfl
      have HR := Lib.hid (And.intro hF (And.intro hv (And.intro hix (And.intro e1 (And.intro e2 (And.intro hpk hpp))))))
      rw [← hS, ← hN]
      clear hF hix hS hN hpp e1 e2 hv hpk
      by_cases hv0 : v < 0
      · go_wp2_with (first
          | (with_reducible refine wpList_index_to (op := ⟨some 14, _, _, _, _, _⟩) rfl 27 (.tmp 10) (.tmp 11) rfl (.agg C) (.int .i64 (k : Int)) rfl rfl _ HR.out.2.2.1 ?_)
          | fail)
        go_ret
        refine ⟨false, rfl, ⟨(fun e => by cases e), fun hf => ?_⟩, HH.out.2.1⟩
        have := hf.nn k hlt
        rw [← HR.out.2.1] at this
        omega
      obtain ⟨m, rfl⟩ := Int.eq_ofNat_of_zero_le (show 0 ≤ v by omega)
      have e1 := HR.out.2.2.2.1
      have e2 := HR.out.2.2.2.2.1
      rw [Int.toNat_natCast] at e1 e2
      have HE := Lib.hid (And.intro e1 e2)
      clear e1 e2
      have hl2 : ((n - S : Nat) : Int) = (n : Int) - S := by omega
      rw [hl2]
      by_cases h1 : n < S + m
      · go_wp2_with (first
          | (with_reducible refine wpList_index_to (op := ⟨some 14, _, _, _, _, _⟩) rfl 27 (.tmp 10) (.tmp 11) rfl (.agg C) (.int .i64 (k : Int)) rfl rfl _ HR.out.2.2.1 ?_)
          | fail)
        go_ret
        refine ⟨false, rfl, ⟨(fun e => by cases e), fun hf => ?_⟩, HH.out.2.1⟩
        have := (hf.to (k := k + 1) (by omega)).sum
        rw [HE.out.1] at this
        omega
      by_cases h2 : 2 * p ≤ 2 * N + m
      · go_wp2_with (first
          | (with_reducible refine wpList_index_to (op := ⟨some 14, _, _, _, _, _⟩) rfl 27 (.tmp 10) (.tmp 11) rfl (.agg C) (.int .i64 (k : Int)) rfl rfl _ HR.out.2.2.1 ?_)
          | fail)
        go_ret
        refine ⟨false, rfl, ⟨(fun e => by cases e), fun hf => ?_⟩, HH.out.2.1⟩
        have := hf.fits k hlt
        rw [HE.out.2, HR.out.2.2.2.2.2.1] at this
        omega
      · go_wp2_with (first
          | (with_reducible refine wpList_index_to (op := ⟨some 14, _, _, _, _, _⟩) rfl 27 (.tmp 10) (.tmp 11) rfl (.agg C) (.int .i64 (k : Int)) rfl rfl _ HR.out.2.2.1 ?_)
          | fail)
        go_roundw
        case rel =>
          refine ⟨k + 1, by omega, by go_num, ?_, ?_, HR.out.1.more ?_ ?_ ?_, trivial⟩
          · rw [HE.out.1]; go_num
          · rw [HE.out.2]; go_num
          · rw [← HR.out.2.1]; omega
          · rw [HE.out.1]; omega
          · rw [HE.out.2, HR.out.2.2.2.2.2.1]; omega
        case measure => simp [intOf]; omega
    · have ek : k = 16 := by omega
      have HE := Lib.hid hF
      clear hF
      subst ek
      obtain ⟨S, hS⟩ : ∃ S, S = sm (cnt B) 16 := ⟨_, rfl⟩
      have hS1 : S ≤ n := by rw [hS]; exact HE.out.sum
      have HS := Lib.hid hS
      rw [← hS]
      clear hS
      have hl2 : ((n - S : Nat) : Int) = (n : Int) - S := by omega
      rw [hl2]
      by_cases h0 : n = 0
      · go_wp2
        go_ret
        refine ⟨false, by simp [h0], ⟨(fun e => by cases e), fun hf => ?_⟩, HH.out.2.1⟩
        have := hf.pos
        omega
      · by_cases h1 : S = n
        · go_wp2
          go_ret
          exact ⟨true, by simp, ⟨fun _ => ⟨HE.out.nn, by rw [← HS.out]; exact h1, by omega, HE.out.fits⟩, fun _ => rfl⟩, HH.out.2.1⟩
        · go_wp2
          go_ret
          refine ⟨false, by simp; omega, ⟨(fun e => by cases e), fun hf => ?_⟩, HH.out.2.1⟩
          have := hf.sum
          rw [← HS.out] at this
          omega
end Go.Proofs.YtdnjnbfmmgkpjaaDoor

namespace Go.Proofs.YtdnjnbfmmgkpjaaDoor
open Go.RowKit

/-- how many binary digits a number has -/
def szN (n : Nat) : Nat := if h : n = 0 then 0 else szN (n / 2) + 1
termination_by n
decreasing_by omega
theorem szN_zero : szN 0 = 0 := by rw [szN]; simp
theorem szN_pos {n : Nat} (h : n ≠ 0) : szN n = szN (n / 2) + 1 := by rw [szN]; simp [h]
/-- the size of a number -/
def sz (z : Int) : Nat := szN z.natAbs
theorem szN_le : ∀ (k n : Nat), szN n ≤ k ↔ n < 2 ^ k
  | 0, n => by
    by_cases h : n = 0
    · subst h; rw [szN_zero]; decide
    · rw [szN_pos h, Nat.pow_zero]
      omega
  | k + 1, n => by
    by_cases h : n = 0
    · subst h; rw [szN_zero]
      have := pow_pos' (k + 1)
      omega
    · rw [szN_pos h]
      have := szN_le k (n / 2)
      rw [Nat.pow_succ]
      omega
theorem szN_lt (n : Nat) : n < 2 ^ szN n := (szN_le _ _).1 (Nat.le_refl _)
theorem szN_ge {n : Nat} (h : n ≠ 0) : 2 ^ (szN n - 1) ≤ n := by
  have h1 : 0 < szN n := by rw [szN_pos h]; omega
  have := szN_le (szN n - 1) n
  omega
theorem szN_mono {m n : Nat} (h : m ≤ n) : szN m ≤ szN n := (szN_le _ _).2 (Nat.lt_of_le_of_lt h (szN_lt n))
theorem sz_zero : sz 0 = 0 := by unfold sz; exact szN_zero
theorem sz_neg (z : Int) : sz (-z) = sz z := by unfold sz; rw [Int.natAbs_neg]
theorem sz_eq_zero {z : Int} : sz z = 0 ↔ z = 0 := by
  refine ⟨fun h => ?_, fun h => by subst h; exact sz_zero⟩
  have := (szN_le 0 z.natAbs).1 (by unfold sz at h; omega)
  simp at this
  exact this
theorem sz_le {z : Int} {k : Nat} : sz z ≤ k ↔ z.natAbs < 2 ^ k := szN_le k _
theorem sz_half (z : Int) (h : z ≠ 0) : sz z = sz (z.tdiv 2) + 1 := by
  unfold sz
  rw [szN_pos (by omega), Int.natAbs_tdiv]
  rfl
end Go.Proofs.YtdnjnbfmmgkpjaaDoor

namespace Go.Proofs.YtdnjnbfmmgkpjaaDoor
open Go.RowKit

/-- what Size answers -/
def Sized (w : World) (z : Int) (e : Ending) (w' : World) : Prop := e = .returned (.int .i64 (sz z : Int)) ∧ w = w'

/-- a number that an int holds -/
def isInt (z : Int) : Prop := -9223372036854775808 ≤ z ∧ z ≤ 9223372036854775807
theorem half_abs (z : Int) : (z.tdiv 2).natAbs = z.natAbs / 2 := by rw [Int.natAbs_tdiv]; rfl
theorem isInt.half {z : Int} (h : isInt z) : isInt (z.tdiv 2) := by
  have := half_abs z
  unfold isInt at *
  omega
theorem isInt.sz {z : Int} (h : isInt z) : sz z ≤ 64 := by
  have : (2:Nat) ^ 64 = 18446744073709551616 := by decide
  refine sz_le.2 ?_
  rw [this]
  unfold isInt at h
  omega

set_option maxHeartbeats 800000 in
theorem size_any (w : World) (z : Int) (h : isInt z) : Calls Tryd.prog 76 #[.int .i64 z] w (Sized w z) := by
  have H := Lib.hid h
  clear h
  go_enter Tryd.func76, Tryd.ntmps76
  go_wp2_with fail
  go_loopw [0, 3] (fun n s wr => ∃ (y : Int) (k : Nat), isInt y ∧ n = .int .i64 y ∧ s = .int .i64 (k : Int) ∧ k + sz y = sz z ∧ wr = w) (fun n _ _ => (intOf n).natAbs)
  case atStart => exact ⟨z, 0, H.out, rfl, rfl, by omega, rfl⟩
  case round =>
    obtain ⟨y, k, hy, rfl, rfl, hk, rfl⟩ := hrel
    have hz64 := H.out.sz
    have hh := hy.half
    have HH := Lib.hid (And.intro hh (And.intro hk hy))
    have hk64 : k ≤ 64 := by omega
    obtain ⟨h0, h1⟩ := hy
    by_cases hy0 : y = 0
    · subst hy0
      have e : k = sz z := by rw [← hk, sz_zero]; rfl
      have E := Lib.hid e
      clear hh hk hz64 e
      go_wp2
      go_ret
      exact ⟨by rw [← E.out]; rfl, rfl⟩
    · have hs := sz_half y hy0
      obtain ⟨x, hx⟩ : ∃ x, x = y.tdiv 2 := ⟨_, rfl⟩
      rw [← hx] at hs hh
      have HX := Lib.hid (And.intro hs (And.intro hh hx))
      clear hh hk hz64 hs
      obtain ⟨g0, g1⟩ := HX.out.2.1
      have gd : (Int.ediv y 2 : Int) = Int.ediv y 2 := rfl
      clear gd
      go_wp2
      have hx := HX.out.2.2
      have hab := half_abs y
      rw [← hx] at hab
      refine ⟨⟨x, k + 1, HX.out.2.1, by rw [hx], by go_num, ?_, trivial⟩, ?_⟩
      · have := HX.out.1
        have := HH.out.2.1
        omega
      · rw [← hx]
        simp only [intOf]
        omega

set_option maxHeartbeats 800000 in
theorem refSize_any (w : World) (z : Int) (h : isInt z) : Calls Tryd.prog 96 #[.int .i64 z] w (Sized w z) := by
  have H := Lib.hid h
  clear h
  go_enter Tryd.func96, Tryd.ntmps96
  go_wp2_with fail
  go_loopw [0, 3] (fun n s wr => ∃ (y : Int) (k : Nat), isInt y ∧ n = .int .i64 y ∧ s = .int .i64 (k : Int) ∧ k + sz y = sz z ∧ wr = w) (fun n _ _ => (intOf n).natAbs)
  case atStart => exact ⟨z, 0, H.out, rfl, rfl, by omega, rfl⟩
  case round =>
    obtain ⟨y, k, hy, rfl, rfl, hk, rfl⟩ := hrel
    have hz64 := H.out.sz
    have hh := hy.half
    have HH := Lib.hid (And.intro hh (And.intro hk hy))
    have hk64 : k ≤ 64 := by omega
    obtain ⟨h0, h1⟩ := hy
    by_cases hy0 : y = 0
    · subst hy0
      have e : k = sz z := by rw [← hk, sz_zero]; rfl
      have E := Lib.hid e
      clear hh hk hz64 e
      go_wp2
      go_ret
      exact ⟨by rw [← E.out]; rfl, rfl⟩
    · have hs := sz_half y hy0
      obtain ⟨x, hx⟩ : ∃ x, x = y.tdiv 2 := ⟨_, rfl⟩
      rw [← hx] at hs hh
      have HX := Lib.hid (And.intro hs (And.intro hh hx))
      clear hh hk hz64 hs
      obtain ⟨g0, g1⟩ := HX.out.2.1
      have gd : (Int.ediv y 2 : Int) = Int.ediv y 2 := rfl
      clear gd
      go_wp2
      have hx := HX.out.2.2
      have hab := half_abs y
      rw [← hx] at hab
      refine ⟨⟨x, k + 1, HX.out.2.1, by rw [hx], by go_num, ?_, trivial⟩, ?_⟩
      · have := HX.out.1
        have := HH.out.2.1
        omega
      · rw [← hx]
        simp only [intOf]
        omega
end Go.Proofs.YtdnjnbfmmgkpjaaDoor

namespace Go.Proofs.YtdnjnbfmmgkpjaaDoor
open Go.RowKit

/-- the zigzag order -/
def zz : List Int := [0, 1, 8, 16, 9, 2, 3, 10, 17, 24, 32, 25, 18, 11, 4, 5, 12, 19, 26, 33, 40, 48, 41, 34, 27, 20, 13, 6, 7, 14, 21, 28, 35, 42, 49, 56, 57, 50, 43, 36, 29, 22, 15, 23, 30, 37, 44, 51, 58, 59, 52, 45, 38, 31, 39, 46, 53, 60, 61, 54, 47, 55, 62, 63]
/-- the order as natural numbers -/
def zn (i : Nat) : Nat := (zz.getD i 0).toNat
theorem zz_len : zz.length = 64 := by decide
theorem zn_at : ∀ i, i < 64 → zz.getD i 0 = (zn i : Int) ∧ zn i < 64 := by decide
/-- the table lies in the program's memory as its text lays it -/
def Tab (w : World) : Prop := ∀ i, i < 64 → w.cell? ⟨0, i, none⟩ = some (.int .i64 (zz.getD i 0))
theorem Tab.zero {w : World} (h : Tab w) : 0 < w.heap.size := World.block_lt_of_cell? w ⟨0, 0, none⟩ (h 0 (by omega))
theorem Tab.on {w w' : World} (h : Tab w) (k : Below w.heap.size w w') : Tab w' := fun i hi => (k.cell (p := ⟨0, i, none⟩) h.zero).trans (h i hi)
theorem Tab.kept {S : Nat → Prop} {w w' : World} (h : Tab w) (k : Kept S w w') (hS : ¬ S 0) : Tab w' := fun i hi => (k.cell (p := ⟨0, i, none⟩) h.zero hS).trans (h i hi)
theorem Tab.bel {B : Nat} {w w' : World} (h : Tab w) (k : Below B w w') (hB : 0 < B) : Tab w' := fun i hi => (k.cell (p := ⟨0, i, none⟩) hB).trans (h i hi)

/-- a number that a block may have -/
def In (z : Int) : Prop := -1023 ≤ z ∧ z ≤ 1023
instance (z : Int) : Decidable (In z) := by unfold In; infer_instance
/-- a block that may be -/
def RightB (b : List Int) : Prop := ∀ j, j < 64 → In (b.getD j 0)
instance (b : List Int) : Decidable (RightB b) := by unfold RightB; infer_instance

theorem in_dec (z : Int) (c : Bool) (h : c = true ↔ In z) : c = decide (In z) := by
  by_cases hi : In z
  · rw [h.2 hi]; simp [hi]
  · cases c
    · simp [hi]
    · exact absurd (h.1 rfl) hi

set_option maxHeartbeats 400000 in
theorem inRange_any (w : World) (z : Int) : Calls Tryd.prog 51 #[.int .i64 z] w fun e w' => e = .returned (.bool (decide (In z))) ∧ w = w' := by
  by_cases h1 : z < -1023
  · have hd : decide (In z) = false := by rw [decide_eq_false_iff_not]; unfold In; omega
    rw [hd]
    go_enter Tryd.func51, Tryd.ntmps51
    go_wp2
    go_ret
    exact ⟨rfl, rfl⟩
  have hd : decide (In z) = decide (z ≤ 1023) := by
    apply decide_eq_decide.2
    unfold In
    omega
  rw [hd]
  go_enter Tryd.func51, Tryd.ntmps51
  go_wp2
  go_ret
  exact ⟨rfl, rfl⟩
set_option maxHeartbeats 400000 in
theorem refIn_any (w : World) (z : Int) : Calls Tryd.prog 62 #[.int .i64 z] w fun e w' => e = .returned (.bool (decide (In z))) ∧ w = w' := by
  by_cases h1 : z < -1023
  · have hd : decide (In z) = false := by rw [decide_eq_false_iff_not]; unfold In; omega
    rw [hd]
    go_enter Tryd.func62, Tryd.ntmps62
    go_wp2
    go_ret
    exact ⟨rfl, rfl⟩
  have hd : decide (In z) = decide (z ≤ 1023) := by
    apply decide_eq_decide.2
    unfold In
    omega
  rw [hd]
  go_enter Tryd.func62, Tryd.ntmps62
  go_wp2
  go_ret
  exact ⟨rfl, rfl⟩

/-- a block as a value -/
def blkV (b : List Int) : Value := .agg (cellsI b).toArray
/-- a block in memory -/
structure Blk (w : World) (g : Nat) (b : List Int) : Prop where
  box : Box w g 25 (cellsI b).toArray
  len : b.length = 64
theorem arr23_size : (Tryd.prog.info? 25).map (·.size) = some 64 := by kernel_rfl
theorem arr22_size : (Tryd.prog.info? 24).map (·.size) = some 64 := by kernel_rfl
theorem cellsI_get (l : List Int) (k : Nat) (hk : k < l.length) : (cellsI l)[k]? = some (.int .i64 (l.getD k 0)) := by
  simp [cellsI, List.getD_eq_getElem?_getD, List.getElem?_eq_getElem hk]
section
variable {w w' : World} {g : Nat} {b : List Int}
theorem Blk.cell (h : Blk w g b) {k : Nat} (hk : k < 64) : w.cell? ⟨g, k, none⟩ = some (.int .i64 (b.getD k 0)) := by
  rw [h.box.cell k, List.getElem?_toArray, cellsI_get _ _ (by rw [h.len]; exact hk)]
theorem Blk.on (h : Blk w g b) (k : Below w.heap.size w w') : Blk w' g b := ⟨h.box.on k, h.len⟩
theorem Blk.kept {S : Nat → Prop} (h : Blk w g b) (k : Kept S w w') (hS : ¬ S g) : Blk w' g b := ⟨k.box h.box hS, h.len⟩
theorem Blk.range (h : Blk w g b) : w.rangeAt g 0 (cellsI b) := by
  intro j u hu
  rw [Nat.zero_add, h.box.cell j]
  simpa using hu
theorem Blk.load (h : Blk w g b) : (Instr.loadAt 25 (.pointer (some ⟨g, 0, none⟩))).run Tryd.prog w = .ok (blkV b) w :=
  run_loadAt_mid w g 0 25 (cellsI b) _ h.range Tryd.underlying25 rfl (by rw [arr23_size, cellsI_len, h.len])
theorem put_cellsI (l : List Int) (i : Nat) (z : Int) : (cellsI l).toArray.setIfInBounds i (.int .i64 z) = (cellsI (l.set i z)).toArray := by
  simp [cellsI, List.map_set]
theorem Blk.put (h : Blk w g b) (k : Nat) (z : Int) : Blk (w.setCell ⟨g, k, none⟩ (.int .i64 z)) g (b.set k z) := by
  refine ⟨?_, by rw [List.length_set, h.len]⟩
  have := h.box.put k (.int .i64 z)
  rwa [put_cellsI] at this
end
theorem Tab.range {w : World} (h : Tab w) : w.rangeAt 0 0 (cellsI zz) := by
  intro j u hu
  have hj : j < (cellsI zz).length := (List.getElem?_eq_some_iff.1 hu).1
  rw [cellsI_len, zz_len] at hj
  rw [Nat.zero_add, h j hj, ← hu, cellsI_get _ _ (by rw [zz_len]; exact hj)]
theorem Tab.load {w : World} (h : Tab w) : (Instr.loadAt 24 (.pointer (some ⟨0, 0, none⟩))).run Tryd.prog w = .ok (blkV zz) w :=
  run_loadAt_mid w 0 0 24 (cellsI zz) _ h.range Tryd.underlying24 rfl (by rw [arr22_size, cellsI_len, zz_len])
/-- a block's numbers are read -/
theorem index23 (w : World) {l : List Int} (hl : l.length = 64) {k : Nat} (hk : k < 64) : (Instr.index 25 (blkV l) (.int .i64 (k : Int))).run Tryd.prog w = .ok (.int .i64 (l.getD k 0)) w := by
  have hp : (part 3 (cellsI l).toArray k).run Tryd.prog w = .ok (.int .i64 (l.getD k 0)) w := run_part_plain w (by kernel_rfl) (by simpa using cellsI_get l k (by omega))
  simp [blkV, Instr.index, run_underlying Tryd.underlying25, asIntOf, hp, Result.andThen]
  intro h
  omega
theorem index22 (w : World) {l : List Int} (hl : l.length = 64) {k : Nat} (hk : k < 64) : (Instr.index 24 (blkV l) (.int .i64 (k : Int))).run Tryd.prog w = .ok (.int .i64 (l.getD k 0)) w := by
  have hp : (part 3 (cellsI l).toArray k).run Tryd.prog w = .ok (.int .i64 (l.getD k 0)) w := run_part_plain w (by kernel_rfl) (by simpa using cellsI_get l k (by omega))
  simp [blkV, Instr.index, run_underlying Tryd.underlying24, asIntOf, hp, Result.andThen]
  intro h
  omega
theorem zero23 (w : World) : (zeroValue 25).run Tryd.prog w = .ok (blkV (List.replicate 64 0)) w := by kernel_rfl
theorem zero22 (w : World) : (zeroValue 24).run Tryd.prog w = .ok (blkV (List.replicate 64 0)) w := by kernel_rfl
theorem build0 (w : World) : (Instr.build 25 #[]).run Tryd.prog w = .ok (blkV (List.replicate 64 0)) w := run_build w 25 _ _ (by kernel_rfl)
theorem build1 (w : World) (z : Int) : (Instr.build 25 #[(0, .int .i64 z)]).run Tryd.prog w = .ok (blkV (z :: List.replicate 63 0)) w := run_build w 25 _ _ (by show Program.built _ _ _ = _; kernel_rfl)
/-- a block is written whole -/
theorem wpList_store_blk {t : TypeId} {ops : Array Oper} {rest : List Oper} {o : Oper} {a : Act} {w : World} {Q : Exit → Act → World → Prop} (ht : (Tryd.prog.info? t).map (·.size) = some 64) (hgd : o.guard = none) (x y : Operand) (ho : o.op = .store t x y) (hd : o.dst = none)
    (g : Nat) (b : List Int) (hx : a.eval x = .pointer (some ⟨g, 0, none⟩)) (hy : a.eval y = blkV b) (old : Array Value) (hg : Box w g t old) (hold : old.size = 64) (hb : b.length = 64)
    (h : ∀ w', Box w' g t (cellsI b).toArray → Kept (fun i => i = g) w w' → wpList Tryd.prog ops Q rest a w') : wpList Tryd.prog ops Q (o :: rest) a w := by
  refine wpList_plain hgd fun _ hK => ?_
  refine wp_store_row t x y ho g (cellsI b).toArray hx hy t old hg (by rw [ht]; simp [cellsI_len, hb]) (by rw [hold]; simp [cellsI_len, hb]) (all_oneCell_toArray (cellsI_one b)) ?_
  rw [hd]
  exact hK _ _ (h _ (setRow_heap w g old _ t _ hg) ⟨rfl, rfl, rfl, by simp, fun k _ hk => setRow_other w g k _ hk⟩)
end Go.Proofs.YtdnjnbfmmgkpjaaDoor

namespace Go.Proofs.YtdnjnbfmmgkpjaaDoor
open Go.RowKit

/-- a symbol: which table, which value, which number's bits follow -/
abbrev Sym := Nat × Nat × Int
/-- the number in place k of the scan -/
def zig (b : List Int) (k : Nat) : Int := b.getD (zn k) 0
/-- the symbols of a number behind a run of noughts -/
def runsOf (run : Nat) (z : Int) : List Sym := List.replicate (run / 16) (1, 240, 0) ++ [(1, 16 * (run % 16) + sz z, z)]
theorem runsOf_big {run : Nat} (z : Int) (h : 15 < run) : runsOf run z = (1, 240, 0) :: runsOf (run - 16) z := by
  unfold runsOf
  rw [show run / 16 = (run - 16) / 16 + 1 by omega, show run % 16 = (run - 16) % 16 by omega]
  rfl
theorem runsOf_small {run : Nat} (z : Int) (h : run ≤ 15) : runsOf run z = [(1, 16 * run + sz z, z)] := by
  unfold runsOf
  rw [show run / 16 = 0 by omega, show run % 16 = run by omega]
  rfl
/-- the symbols of the n numbers from place i on, behind a run of noughts -/
def symsF (b : List Int) : Nat → Nat → Nat → List Sym
  | 0, _, run => if 0 < run then [(1, 0, 0)] else []
  | n + 1, i, run => if zig b i = 0 then symsF b n (i + 1) (run + 1) else runsOf run (zig b i) ++ symsF b n (i + 1) 0
/-- all symbols of a block -/
def allS (prev : Int) (b : List Int) : List Sym := (0, sz (b.getD 0 0 - prev), b.getD 0 0 - prev) :: symsF b 63 1 0

theorem symsF_zero {b : List Int} {n i run : Nat} (h : zig b i = 0) : symsF b (n + 1) i run = symsF b n (i + 1) (run + 1) := by rw [symsF, if_pos h]
theorem symsF_some {b : List Int} {n i run : Nat} (h : zig b i ≠ 0) : symsF b (n + 1) i run = runsOf run (zig b i) ++ symsF b n (i + 1) 0 := by rw [symsF, if_neg h]

theorem in_size {z : Int} (h : In z) : sz z ≤ 10 := sz_le.2 (by unfold In at h; rw [show (2 : Nat) ^ 10 = 1024 by decide]; omega)
theorem diff_size {z : Int} (h : z.natAbs ≤ 2046) : sz z ≤ 11 := sz_le.2 (by rw [show (2 : Nat) ^ 11 = 2048 by decide]; omega)
theorem RightB.zig {b : List Int} (h : RightB b) {k : Nat} (hk : k < 64) : In (zig b k) := h _ (zn_at k hk).2

/-- what symbols of blocks that may be are like -/
structure SymOk (s : Sym) : Prop where
  tab : s.1 < 2
  val : s.2.1 < 256
  num : s.2.2.natAbs ≤ 2046
theorem runsOf_ok {run : Nat} {z : Int} (hz : In z) : ∀ s ∈ runsOf run z, SymOk s ∧ s.1 = 1 := by
  intro s hs
  unfold runsOf at hs
  rcases List.mem_append.1 hs with h | h
  · rw [List.eq_of_mem_replicate h]
    exact ⟨⟨by decide, by decide, by decide⟩, rfl⟩
  · rw [List.mem_singleton.1 h]
    have := in_size hz
    unfold In at hz
    exact ⟨⟨by simp, by simp only; omega, by simp only; omega⟩, rfl⟩
theorem symsF_ok {b : List Int} (hb : RightB b) : ∀ (n i run : Nat), i + n = 64 → ∀ s ∈ symsF b n i run, SymOk s ∧ s.1 = 1
  | 0, i, run, _ => by
    intro s hs
    unfold symsF at hs
    split at hs
    · rw [List.mem_singleton.1 hs]
      exact ⟨⟨by decide, by decide, by decide⟩, rfl⟩
    · cases hs
  | n + 1, i, run, h => by
    intro s hs
    by_cases hz : zig b i = 0
    · rw [symsF_zero hz] at hs
      exact symsF_ok hb n (i + 1) _ (by omega) s hs
    · rw [symsF_some hz] at hs
      rcases List.mem_append.1 hs with h' | h'
      · exact runsOf_ok (hb.zig (by omega)) s h'
      · exact symsF_ok hb n (i + 1) _ (by omega) s h'
theorem diff_small {prev : Int} {b : List Int} (hb : RightB b) (hp : In prev) : (b.getD 0 0 - prev).natAbs ≤ 2046 := by
  have h0 := hb 0 (by omega)
  unfold In at *
  omega
theorem allS_ok {prev : Int} {b : List Int} (hb : RightB b) (hp : In prev) : ∀ s ∈ allS prev b, SymOk s := by
  intro s hs
  rcases List.mem_cons.1 hs with h | h
  · rw [h]
    have := diff_small hb hp
    have := diff_size this
    exact ⟨by simp, by simp only; omega, by simp only; omega⟩
  · exact (symsF_ok hb 63 1 0 (by omega) s h).1
theorem runsOf_len (run : Nat) (z : Int) : (runsOf run z).length = run / 16 + 1 := by simp [runsOf]
theorem symsF_len (b : List Int) : ∀ (n i run : Nat), (symsF b n i run).length ≤ n + run
  | 0, i, run => by unfold symsF; split <;> simp <;> omega
  | n + 1, i, run => by
    by_cases hz : zig b i = 0
    · rw [symsF_zero hz]
      have := symsF_len b n (i + 1) (run + 1)
      omega
    · rw [symsF_some hz, List.length_append, runsOf_len]
      have := symsF_len b n (i + 1) 0
      omega
theorem allS_len (prev : Int) (b : List Int) : (allS prev b).length ≤ 64 := by
  have := symsF_len b 63 1 0
  unfold allS
  rw [List.length_cons]
  omega
/-- the bits of a number, as a number -/
def numB (z : Int) : Nat := if z < 0 then (2 ^ sz z - 1 - z.natAbs) else z.toNat
theorem numB_lt (z : Int) : numB z < 2 ^ sz z := by
  have h := (sz_le (z := z)).1 (Nat.le_refl _)
  unfold numB
  split <;> omega
end Go.Proofs.YtdnjnbfmmgkpjaaDoor
