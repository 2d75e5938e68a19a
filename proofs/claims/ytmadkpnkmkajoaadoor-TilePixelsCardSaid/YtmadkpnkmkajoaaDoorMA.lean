/-
  What the contracts say of memory (blocks that are known whole, worlds in which only named blocks have turned, slices that read as lists of bytes). Rows of one's own: bytes, numbers, pairs of numbers. The contract of take. Codes by counts: mathematics, no code. A specification in memory; the contracts of own and copied. The contract of copied. The contract of differ. The contract of fit. The size of a number: mathematics, no code. The contracts of Size, the program's and the reference's. Blocks of 64 numbers in memory; the contracts of inRange, Right and Order. The symbols of a block: mathematics, no code.
-/

import Derived.Test.YtmadkpnkmkajoaaDoorProg
import Derived.BigQuiet
import Derived.Deep.Draws
import Derived.Deep.LoopGhost
import Derived.Deep.MidRow
import Derived.Deep.OwnRows
import Derived.Deep.QuietTactic
import Derived.Deep.RegionHeld
import Derived.Deep.RegionHeld3
import Derived.Deep.RegionLaw
import Derived.Deep.RegionWith
import Derived.DeepKeys4
import Derived.Great.BuildSlice
import Derived.Laws.AppendOwnNone
import Derived.Laws.BytesArg
import Derived.Laws.CopyOwn
import Derived.Laws.Rows
import Derived.Lib.Hide
import Derived.Maps.OwnOps
import Derived.Maps.OwnSet
import Derived.Maps.Views
import Derived.WalkKit
import Derived.WalkLawsBesides
import Derived.WalkMore
import Derived.WalkSpells
namespace Go.Proofs.YtmadkpnkmkajoaaDoor
open Go.RowKit



/-- block g is the cells cs of type t, all of them free to be written -/
def Box (w : World) (g : Nat) (t : TypeId) (cs : Array Value) : Prop := w.heap[g]? = some (.cells cs t (0, 0))

section
variable {w w' : World} {g : Nat} {t : TypeId} {cs : Array Value}
theorem Box.lt (h : Box w g t cs) : g < w.heap.size := by
  unfold Box at h
  exact (Array.getElem?_eq_some_iff.1 h).1
theorem Box.cell (h : Box w g t cs) (i : Nat) : w.cell? ⟨g, i, none⟩ = cs[i]? := cell_of_row w g i cs t (0, 0) h
theorem Box.free (h : Box w g t cs) (i : Nat) : w.frozen? ⟨g, i, none⟩ = false := by
  unfold Box at h
  simp [World.frozen?, h]
theorem Box.made (w : World) (t : TypeId) (cs : Array Value) : Box (w.alloc (.cells cs t)) w.heap.size t cs := by
  unfold Box
  exact heap_alloc_new w _
theorem Box.drewN (h : Box w g t cs) (n : Nat) : Box (w.drewN n) g t cs := h
theorem Box.alloc (h : Box w g t cs) (o : Obj) : Box (w.alloc o) g t cs := (Below.heap_alloc w o g h.lt).trans h
theorem Box.put (h : Box w g t cs) (i : Nat) (u : Value) : Box (w.setCell ⟨g, i, none⟩ u) g t (cs.setIfInBounds i u) := by
  unfold Box at h ⊢
  simp [World.setCell, Array.getElem?_modify, h]
end

/-- from w to w' only blocks of S have turned, and new ones have come -/
structure Kept (S : Nat → Prop) (w w' : World) : Prop where
  os : w'.os = w.os
  tape : w'.tape = w.tape
  output : w'.output = w.output
  size : w.heap.size ≤ w'.heap.size
  block : ∀ k, k < w.heap.size → ¬ S k → w'.heap[k]? = w.heap[k]?

section
variable {S S' : Nat → Prop} {a w w' : World}
theorem Kept.refl (S : Nat → Prop) (w : World) : Kept S w w := ⟨rfl, rfl, rfl, Nat.le_refl _, fun _ _ _ => rfl⟩
theorem Kept.trans (h : Kept S a w) (k : Kept S' w w') (hS : ∀ i, i < a.heap.size → S' i → S i) : Kept S a w' :=
  ⟨k.os.trans h.os, k.tape.trans h.tape, k.output.trans h.output, Nat.le_trans h.size k.size,
    fun i hi hn => (k.block i (Nat.lt_of_lt_of_le hi h.size) (fun e => hn (hS i hi e))).trans (h.block i hi hn)⟩
theorem Kept.mono (h : Kept S a w) (hS : ∀ i, i < a.heap.size → S i → S' i) : Kept S' a w := ⟨h.os, h.tape, h.output, h.size, fun i hi hn => h.block i hi (fun e => hn (hS i hi e))⟩
theorem Kept.drewN (h : Kept S a w) (n : Nat) : Kept S a (w.drewN n) := ⟨h.os, h.tape, h.output, h.size, h.block⟩
theorem Kept.drew (h : Kept S a w) : Kept S a w.drew := ⟨h.os, h.tape, h.output, h.size, h.block⟩
theorem Kept.alloc (h : Kept S a w) (o : Obj) : Kept S a (w.alloc o) :=
  ⟨h.os, h.tape, h.output, Nat.le_trans h.size (by simp), fun i hi hn => (Below.heap_alloc w o i (Nat.lt_of_lt_of_le hi h.size)).trans (h.block i hi hn)⟩
theorem Kept.setCell (h : Kept S a w) {p : Addr} (hp : p.block < a.heap.size → S p.block) (u : Value) : Kept S a (w.setCell p u) :=
  ⟨h.os, h.tape, h.output, by simpa [World.setCell] using h.size, fun i hi hn => (Below.heap_setCell w p u i (fun e => hn (by subst e; exact hp hi))).trans (h.block i hi hn)⟩
theorem Kept.below {B : Nat} (h : Kept S a w) (hB : B ≤ a.heap.size) (hS : ∀ i, i < B → ¬ S i) : Below B a w := ⟨h.os, h.tape, h.output, h.size, fun i hi => h.block i (Nat.lt_of_lt_of_le hi hB) (hS i hi)⟩
theorem Kept.box {g : Nat} {t : TypeId} {cs : Array Value} (h : Kept S a w) (hb : Box a g t cs) (hg : ¬ S g) : Box w g t cs := (h.block g hb.lt hg).trans hb
theorem Kept.cell (h : Kept S a w) {p : Addr} (hp : p.block < a.heap.size) (hg : ¬ S p.block) : w.cell? p = a.cell? p := World.cell?_of_block (w := a) (h.block p.block hp hg)
end

/-- all of them are bytes -/
def Fit (l : List Int) : Prop := ∀ z ∈ l, 0 ≤ z ∧ z ≤ 255

theorem Fit.take {l : List Int} (h : Fit l) (k : Nat) : Fit (l.take k) := fun z hz => h z (List.mem_of_mem_take hz)
theorem Fit.getD {l : List Int} (h : Fit l) (i : Nat) : 0 ≤ l.getD i 0 ∧ l.getD i 0 ≤ 255 := by
  by_cases hi : i < l.length
  · rw [List.getD_eq_getElem?_getD, List.getElem?_eq_getElem hi]
    exact h _ (List.getElem_mem hi)
  · rw [List.getD_eq_getElem?_getD, List.getElem?_eq_none (by omega)]
    decide

/-- a slice's address A leads to the bytes l; their block is one of K's -/
structure Bts (w : World) (K : Nat → Prop) (A : Option Addr) (l : List Int) : Prop where
  fit : Fit l
  at_ : 0 < l.length → ∃ b off, A = some ⟨b, off, none⟩ ∧ b < w.heap.size ∧ K b ∧ ∀ i, i < l.length → w.cell? ⟨b, off + i, none⟩ = some (.int .u8 (l.getD i 0))

theorem Bts.drewN {w : World} {K : Nat → Prop} {A : Option Addr} {l : List Int} (h : Bts w K A l) (n : Nat) : Bts (w.drewN n) K A l := ⟨h.fit, h.at_⟩
theorem Bts.kept {S : Nat → Prop} {w w' : World} {K : Nat → Prop} {A : Option Addr} {l : List Int} (h : Bts w K A l) (k : Kept S w w') (hS : ∀ b, K b → ¬ S b) : Bts w' K A l :=
  ⟨h.fit, fun h0 => by
    obtain ⟨b, off, e, hb, hk, hc⟩ := h.at_ h0
    exact ⟨b, off, e, Nat.lt_of_lt_of_le hb k.size, hk, fun i hi => (k.cell (p := ⟨b, off + i, none⟩) hb (hS b hk)).trans (hc i hi)⟩⟩
/-- a slice of bytes that reads as l; its block is one of K's -/
structure Sl (w : World) (K : Nat → Prop) (A : Option Addr) (n c : Nat) (l : List Int) : Prop where
  bts : Bts w K A l
  len : l.length = n
  cap : n ≤ c
  max : c ≤ maxLen
  nil : A = none → c = 0

theorem Sl.kept {S : Nat → Prop} {w w' : World} {K : Nat → Prop} {A : Option Addr} {n c : Nat} {l : List Int} (h : Sl w K A n c l) (k : Kept S w w') (hS : ∀ b, K b → ¬ S b) : Sl w' K A n c l :=
  ⟨h.bts.kept k hS, h.len, h.cap, h.max, h.nil⟩
theorem Sl.drewN {w : World} {K : Nat → Prop} {A : Option Addr} {n c : Nat} {l : List Int} (h : Sl w K A n c l) (k : Nat) : Sl (w.drewN k) K A n c l := ⟨h.bts.drewN k, h.len, h.cap, h.max, h.nil⟩
theorem Bts.mono {w : World} {K K' : Nat → Prop} {A : Option Addr} {l : List Int} (h : Bts w K A l) (hK : ∀ b, b < w.heap.size → K b → K' b) : Bts w K' A l :=
  ⟨h.fit, fun h0 => by obtain ⟨b, off, e, hb, hk, hc⟩ := h.at_ h0; exact ⟨b, off, e, hb, hK b hb hk, hc⟩⟩
theorem Sl.mono {w : World} {K K' : Nat → Prop} {A : Option Addr} {n c : Nat} {l : List Int} (h : Sl w K A n c l) (hK : ∀ b, b < w.heap.size → K b → K' b) : Sl w K' A n c l := ⟨h.bts.mono hK, h.len, h.cap, h.max, h.nil⟩
theorem Bts.below {B : Nat} {w w' : World} {A : Option Addr} {l : List Int} {K : Nat → Prop} (h : Bts w K A l) (k : Below B w w') (hB : ∀ b, b < w.heap.size → K b → b < B) : Bts w' K A l :=
  ⟨h.fit, fun h0 => by
    obtain ⟨b, off, e, hb, hk, hc⟩ := h.at_ h0
    exact ⟨b, off, e, Nat.lt_of_lt_of_le hb k.size, hk, fun i hi => (k.cell (p := ⟨b, off + i, none⟩) (hB b hb hk)).trans (hc i hi)⟩⟩
theorem Sl.below {B : Nat} {w w' : World} {A : Option Addr} {n c : Nat} {l : List Int} {K : Nat → Prop} (h : Sl w K A n c l) (k : Below B w w') (hB : ∀ b, b < w.heap.size → K b → b < B) : Sl w' K A n c l := ⟨h.bts.below k hB, h.len, h.cap, h.max, h.nil⟩

theorem below_drewN_refl (w : World) (k : Nat) : Below w.heap.size w (w.drewN k) := ⟨rfl, rfl, rfl, Nat.le_refl _, fun _ _ => rfl⟩
theorem Sl.drew {w : World} {K : Nat → Prop} {A : Option Addr} {n c : Nat} {l : List Int} (h : Sl w K A n c l) : Sl w.drew K A n c l := ⟨⟨h.bts.fit, h.bts.at_⟩, h.len, h.cap, h.max, h.nil⟩

theorem Sl.alloc {w : World} {K : Nat → Prop} {A : Option Addr} {n c : Nat} {l : List Int} (h : Sl w K A n c l) (o : Obj) : Sl (w.alloc o) K A n c l := h.kept ((Kept.refl (fun _ => False) w).alloc o) (fun _ _ h => h)
theorem on_trans {w w1 w2 : World} (a : Below w.heap.size w w1) (b : Below w1.heap.size w1 w2) : Below w.heap.size w w2 := a.trans (b.mono a.size)
theorem on_alloc (w : World) (o : Obj) : Below w.heap.size w (w.alloc o) := (Below.refl _ _).alloc (Nat.le_refl _) _
theorem on_drew (w : World) : Below w.heap.size w w.drew := (Below.refl _ _).drew
/-- what reads as bytes reads so when only new memory has come -/
theorem Sl.on {w w' : World} {K : Nat → Prop} {A : Option Addr} {n c : Nat} {l : List Int} (h : Sl w K A n c l) (k : Below w.heap.size w w') : Sl w' (fun _ => True) A n c l :=
  ((h.mono (K' := fun b => b < w.heap.size) (fun _ hb _ => hb)).below k (fun _ _ h => h)).mono (fun _ _ _ => trivial)

end Go.Proofs.YtmadkpnkmkajoaaDoor

namespace Go.Proofs.YtmadkpnkmkajoaaDoor
open Go.RowKit

theorem Box.on {w w' : World} {g : Nat} {t : TypeId} {cs : Array Value} (h : Box w g t cs) (k : Below w.heap.size w w') : Box w' g t cs := (k.block g h.lt).trans h
theorem ownsRow_block {w w' : World} {lo : Nat} {e size : Nat} {v : Value} {n : Nat} {xs : List Value} (h : w.ownsRow lo e size v n xs) (k : ∀ g cs, v.ownBlock = some g → w.heap[g]? = some (.cells cs e (0, 0)) → w'.heap[g]? = w.heap[g]?) : w'.ownsRow lo e size v n xs := by
  refine ⟨h.1, h.2.imp id ?_⟩
  rintro ⟨g, cap, cur, rfl, h1, hh, h2⟩
  exact ⟨g, cap, cur, rfl, h1, (k g cur rfl hh).trans hh, h2⟩

theorem own_slice {w : World} {lo e size n : Nat} {v : Value} {xs : List Value} (h : w.ownsRow lo e size v n xs) : ∃ A c, v = .slice A n c := by
  rcases h.2 with ⟨rfl, h0⟩ | ⟨g, cap, cur, rfl, _⟩
  · exact ⟨none, 0, by rw [h0]⟩
  · exact ⟨_, _, rfl⟩

theorem Fit.set {l : List Int} (h : Fit l) (i : Nat) (z : Int) (h0 : 0 ≤ z) (h1 : z ≤ 255) : Fit (l.set i z) := fun y hy => by
  rcases List.mem_or_eq_of_mem_set hy with h2 | rfl
  · exact h y h2
  · exact ⟨h0, h1⟩
/-- the cells of numbers -/
def cellsI (l : List Int) : List Value := l.map (Value.int .i64)
theorem cellsI_len (l : List Int) : (cellsI l).length = l.length := by simp [cellsI]
theorem cellsI_one (l : List Int) : ∀ u ∈ cellsI l, u.oneCell' = true := by
  intro u hu
  obtain ⟨z, _, rfl⟩ := List.mem_map.1 hu
  rfl
theorem plain_add (b off i : Nat) : (⟨b, off, none⟩ : Addr).add i = ⟨b, off + i, none⟩ := by
  unfold Addr.add
  split
  · next h => subst h; simp
  · rfl
end Go.Proofs.YtmadkpnkmkajoaaDoor

namespace Go.Proofs.YtmadkpnkmkajoaaDoor
open Go.RowKit

theorem wrap_small {z : Int} (h0 : -9223372036854775808 ≤ z) (h1 : z ≤ 9223372036854775807) : IntKind.i64.wrap z = z := by simp [IntKind.wrap, IntKind.bits, IntKind.signed]; omega

end Go.Proofs.YtmadkpnkmkajoaaDoor

namespace Go.Proofs.YtmadkpnkmkajoaaDoor
open Go.RowKit

/-- a value and its code -/
abbrev En := Int × Nat × Nat
/-- the counts as numbers -/
def cnt (B : List Int) (i : Nat) : Nat := (B.getD i 0).toNat
/-- the number behind the last code of i bits -/
def nx (c : Nat → Nat) : Nat → Nat
  | 0 => 0
  | i + 1 => 2 * nx c i + c i
/-- the first j codes of i + 1 bits -/
def row (c : Nat → Nat) (i j : Nat) : List (Nat × Nat) := (List.range j).map fun k => (2 * nx c i + k, i + 1)
/-- all codes of at most i bits -/
def pre (c : Nat → Nat) : Nat → List (Nat × Nat)
  | 0 => []
  | i + 1 => pre c i ++ row c i (c i)

section
variable {c : Nat → Nat}
end

/-- values with their codes -/
def ents (V : List Int) (cs : List (Nat × Nat)) : List En := V.zip cs
/-- its codes -/
def codes (B V : List Int) : List En := ents V (pre (cnt B) 16)

end Go.Proofs.YtmadkpnkmkajoaaDoor

namespace Go.Proofs.YtmadkpnkmkajoaaDoor
open Go.RowKit

/-- a specification's cells -/
def specC (B : List Int) (v : Value) : Array Value := (cellsI B ++ [v]).toArray
/-- a specification as a value -/
def specV (B : List Int) (v : Value) : Value := .agg (specC B v)

section
variable {B : List Int} {v : Value}
end
/-- a slice of numbers that reads as xs, in whatever block -/
structure Ia (w : World) (A : Option Addr) (n c : Nat) (xs : List Int) : Prop where
  len : xs.length = n
  cap : n ≤ c
  max : c ≤ maxLen
  nil : A = none → c = 0
  at_ : 0 < n → ∃ b off, A = some ⟨b, off, none⟩ ∧ b < w.heap.size ∧ ∀ i, i < n → w.cell? ⟨b, off + i, none⟩ = some (.int .i64 (xs.getD i 0))
theorem Ia.on {w w' : World} {A : Option Addr} {n c : Nat} {xs : List Int} (h : Ia w A n c xs) (k : Below w.heap.size w w') : Ia w' A n c xs :=
  ⟨h.len, h.cap, h.max, h.nil, fun h0 => by
    obtain ⟨b, off, e, hb, hc⟩ := h.at_ h0
    exact ⟨b, off, e, Nat.lt_of_lt_of_le hb k.size, fun i hi => (k.cell (p := ⟨b, off + i, none⟩) hb).trans (hc i hi)⟩⟩
theorem Ia.alloc {w : World} {A : Option Addr} {n c : Nat} {xs : List Int} (h : Ia w A n c xs) (o : Obj) : Ia (w.alloc o) A n c xs := h.on (on_alloc w o)
theorem Ia.drew {w : World} {A : Option Addr} {n c : Nat} {xs : List Int} (h : Ia w A n c xs) : Ia w.drew A n c xs := h.on (on_drew w)
theorem Kept.frozen {S : Nat → Prop} {w w' : World} (h : Kept S w w') {b o : Nat} (hb : b < w.heap.size) (hS : ¬ S b) : w'.frozen? ⟨b, o, none⟩ = w.frozen? ⟨b, o, none⟩ := by
  unfold World.frozen?
  rw [show (⟨b, o, none⟩ : Addr).block = b from rfl, h.block b hb hS]
end Go.Proofs.YtmadkpnkmkajoaaDoor

namespace Go.Proofs.YtmadkpnkmkajoaaDoor
open Go.RowKit

theorem int_size : (Tryd.prog.info? 3).map (·.size) = some 1 := by kernel_rfl
/-- a load, at a plain region's list -/
theorem wpList_load_to {ops : Array Oper} {rest : List Oper} {op : Oper} {a : Act} {w : World} {Q : Exit → Act → World → Prop} (hgd : op.guard = none) (ty : TypeId) (x : Operand) (ho : op.op = .load ty x)
    (u : Value) (hx : a.eval x = u) (v : Value) (hl : (Instr.loadAt ty u).run Tryd.prog w = .ok v w)
    (hK : wpList Tryd.prog ops Q rest (a.put op.dst v) w) : wpList Tryd.prog ops Q (op :: rest) a w :=
  wpList_plain hgd fun _ hQ => by
    unfold Oper.wp execOp
    simp only [ho, hx, Sem.run_bind, hl, Result.andThen_ok]
    exact hQ _ _ hK
end Go.Proofs.YtmadkpnkmkajoaaDoor

namespace Go.Proofs.YtmadkpnkmkajoaaDoor
open Go.RowKit

end Go.Proofs.YtmadkpnkmkajoaaDoor

namespace Go.Proofs.YtmadkpnkmkajoaaDoor
open Go.RowKit

end Go.Proofs.YtmadkpnkmkajoaaDoor

namespace Go.Proofs.YtmadkpnkmkajoaaDoor
open Go.RowKit

end Go.Proofs.YtmadkpnkmkajoaaDoor

namespace Go.Proofs.YtmadkpnkmkajoaaDoor
open Go.RowKit

end Go.Proofs.YtmadkpnkmkajoaaDoor

namespace Go.Proofs.YtmadkpnkmkajoaaDoor
open Go.RowKit

/-- a number that a block may have -/
def In (z : Int) : Prop := -1023 ≤ z ∧ z ≤ 1023
instance (z : Int) : Decidable (In z) := by unfold In; infer_instance
/-- a block that may be -/
def RightB (b : List Int) : Prop := ∀ j, j < 64 → In (b.getD j 0)
instance (b : List Int) : Decidable (RightB b) := by unfold RightB; infer_instance

set_option maxHeartbeats 400000 in
theorem inRange_any (w : World) (z : Int) : Calls Tryd.prog 113 #[.int .i64 z] w fun e w' => e = .returned (.bool (decide (In z))) ∧ w = w' := by
  by_cases h1 : z < -1023
  · have hd : decide (In z) = false := by rw [decide_eq_false_iff_not]; unfold In; omega
    rw [hd]
    go_enter Tryd.func113, Tryd.ntmps113
    go_wp2
    go_ret
    exact ⟨rfl, rfl⟩
  have hd : decide (In z) = decide (z ≤ 1023) := by
    apply decide_eq_decide.2
    unfold In
    omega
  rw [hd]
  go_enter Tryd.func113, Tryd.ntmps113
  go_wp2
  go_ret
  exact ⟨rfl, rfl⟩
set_option maxHeartbeats 400000 in
theorem refIn_any (w : World) (z : Int) : Calls Tryd.prog 117 #[.int .i64 z] w fun e w' => e = .returned (.bool (decide (In z))) ∧ w = w' := by
  by_cases h1 : z < -1023
  · have hd : decide (In z) = false := by rw [decide_eq_false_iff_not]; unfold In; omega
    rw [hd]
    go_enter Tryd.func117, Tryd.ntmps117
    go_wp2
    go_ret
    exact ⟨rfl, rfl⟩
  have hd : decide (In z) = decide (z ≤ 1023) := by
    apply decide_eq_decide.2
    unfold In
    omega
  rw [hd]
  go_enter Tryd.func117, Tryd.ntmps117
  go_wp2
  go_ret
  exact ⟨rfl, rfl⟩

/-- a block as a value -/
def blkV (b : List Int) : Value := .agg (cellsI b).toArray
/-- a block in memory -/
structure Blk (w : World) (g : Nat) (b : List Int) : Prop where
  box : Box w g 29 (cellsI b).toArray
  len : b.length = 64
theorem arr23_size : (Tryd.prog.info? 29).map (·.size) = some 64 := by kernel_rfl
theorem cellsI_get (l : List Int) (k : Nat) (hk : k < l.length) : (cellsI l)[k]? = some (.int .i64 (l.getD k 0)) := by
  simp [cellsI, List.getD_eq_getElem?_getD, List.getElem?_eq_getElem hk]
section
variable {w w' : World} {g : Nat} {b : List Int}
theorem Blk.cell (h : Blk w g b) {k : Nat} (hk : k < 64) : w.cell? ⟨g, k, none⟩ = some (.int .i64 (b.getD k 0)) := by
  rw [h.box.cell k, List.getElem?_toArray, cellsI_get _ _ (by rw [h.len]; exact hk)]
theorem Blk.on (h : Blk w g b) (k : Below w.heap.size w w') : Blk w' g b := ⟨h.box.on k, h.len⟩
theorem Blk.kept {S : Nat → Prop} (h : Blk w g b) (k : Kept S w w') (hS : ¬ S g) : Blk w' g b := ⟨k.box h.box hS, h.len⟩
theorem Blk.range (h : Blk w g b) : w.rangeAt g 0 (cellsI b) := by
  intro j u hu
  rw [Nat.zero_add, h.box.cell j]
  simpa using hu
theorem Blk.load (h : Blk w g b) : (Instr.loadAt 29 (.pointer (some ⟨g, 0, none⟩))).run Tryd.prog w = .ok (blkV b) w :=
  run_loadAt_mid w g 0 29 (cellsI b) _ h.range Tryd.underlying29 rfl (by rw [arr23_size, cellsI_len, h.len])
theorem put_cellsI (l : List Int) (i : Nat) (z : Int) : (cellsI l).toArray.setIfInBounds i (.int .i64 z) = (cellsI (l.set i z)).toArray := by
  simp [cellsI, List.map_set]
theorem Blk.put (h : Blk w g b) (k : Nat) (z : Int) : Blk (w.setCell ⟨g, k, none⟩ (.int .i64 z)) g (b.set k z) := by
  refine ⟨?_, by rw [List.length_set, h.len]⟩
  have := h.box.put k (.int .i64 z)
  rwa [put_cellsI] at this
end
/-- a block's numbers are read -/
theorem index23 (w : World) {l : List Int} (hl : l.length = 64) {k : Nat} (hk : k < 64) : (Instr.index 29 (blkV l) (.int .i64 (k : Int))).run Tryd.prog w = .ok (.int .i64 (l.getD k 0)) w := by
  have hp : (part 3 (cellsI l).toArray k).run Tryd.prog w = .ok (.int .i64 (l.getD k 0)) w := run_part_plain w (by kernel_rfl) (by simpa using cellsI_get l k (by omega))
  simp [blkV, Instr.index, run_underlying Tryd.underlying29, asIntOf, hp, Result.andThen]
  intro h
  omega
theorem zero23 (w : World) : (zeroValue 29).run Tryd.prog w = .ok (blkV (List.replicate 64 0)) w := by kernel_rfl
/-- a block is written whole -/
theorem wpList_store_blk {t : TypeId} {ops : Array Oper} {rest : List Oper} {o : Oper} {a : Act} {w : World} {Q : Exit → Act → World → Prop} (ht : (Tryd.prog.info? t).map (·.size) = some 64) (hgd : o.guard = none) (x y : Operand) (ho : o.op = .store t x y) (hd : o.dst = none)
    (g : Nat) (b : List Int) (hx : a.eval x = .pointer (some ⟨g, 0, none⟩)) (hy : a.eval y = blkV b) (old : Array Value) (hg : Box w g t old) (hold : old.size = 64) (hb : b.length = 64)
    (h : ∀ w', Box w' g t (cellsI b).toArray → Kept (fun i => i = g) w w' → wpList Tryd.prog ops Q rest a w') : wpList Tryd.prog ops Q (o :: rest) a w := by
  refine wpList_plain hgd fun _ hK => ?_
  refine wp_store_row t x y ho g (cellsI b).toArray hx hy t old hg (by rw [ht]; simp [cellsI_len, hb]) (by rw [hold]; simp [cellsI_len, hb]) (all_oneCell_toArray (cellsI_one b)) ?_
  rw [hd]
  exact hK _ _ (h _ (setRow_heap w g old _ t _ hg) ⟨rfl, rfl, rfl, by simp, fun k _ hk => setRow_other w g k _ hk⟩)
end Go.Proofs.YtmadkpnkmkajoaaDoor

namespace Go.Proofs.YtmadkpnkmkajoaaDoor
open Go.RowKit

end Go.Proofs.YtmadkpnkmkajoaaDoor
namespace Go.Proofs.YtmadkpnkmkajoaaDoor
open Go.RowKit

section
variable {op : List Int} {n v c : Nat}
end

end Go.Proofs.YtmadkpnkmkajoaaDoor

namespace Go.Proofs.YtmadkpnkmkajoaaDoor
open Go.RowKit

end Go.Proofs.YtmadkpnkmkajoaaDoor

namespace Go.Proofs.YtmadkpnkmkajoaaDoor
open Go.RowKit

end Go.Proofs.YtmadkpnkmkajoaaDoor

namespace Go.Proofs.YtmadkpnkmkajoaaDoor
open Go.RowKit

end Go.Proofs.YtmadkpnkmkajoaaDoor

namespace Go.Proofs.YtmadkpnkmkajoaaDoor
open Go.RowKit

end Go.Proofs.YtmadkpnkmkajoaaDoor

namespace Go.Proofs.YtmadkpnkmkajoaaDoor
open Go.RowKit

end Go.Proofs.YtmadkpnkmkajoaaDoor

namespace Go.Proofs.YtmadkpnkmkajoaaDoor
open Go.RowKit Go.Maps

end Go.Proofs.YtmadkpnkmkajoaaDoor

namespace Go.Proofs.YtmadkpnkmkajoaaDoor
open Go.RowKit

section
variable {B : List Int} {v : Value} {L : List En} {m : Nat}
end
end Go.Proofs.YtmadkpnkmkajoaaDoor

namespace Go.Proofs.YtmadkpnkmkajoaaDoor
open Go.RowKit

end Go.Proofs.YtmadkpnkmkajoaaDoor

namespace Go.Proofs.YtmadkpnkmkajoaaDoor
open Go.RowKit

end Go.Proofs.YtmadkpnkmkajoaaDoor

namespace Go.Proofs.YtmadkpnkmkajoaaDoor
open Go.RowKit

end Go.Proofs.YtmadkpnkmkajoaaDoor

namespace Go.Proofs.YtmadkpnkmkajoaaDoor
open Go.RowKit

end Go.Proofs.YtmadkpnkmkajoaaDoor

namespace Go.Proofs.YtmadkpnkmkajoaaDoor
open Go.RowKit

end Go.Proofs.YtmadkpnkmkajoaaDoor

namespace Go.Proofs.YtmadkpnkmkajoaaDoor
open Go.RowKit

end Go.Proofs.YtmadkpnkmkajoaaDoor

namespace Go.Proofs.YtmadkpnkmkajoaaDoor
open Go.RowKit

end Go.Proofs.YtmadkpnkmkajoaaDoor

namespace Go.Proofs.YtmadkpnkmkajoaaDoor
open Go.RowKit

end Go.Proofs.YtmadkpnkmkajoaaDoor

namespace Go.Proofs.YtmadkpnkmkajoaaDoor
open Go.RowKit

end Go.Proofs.YtmadkpnkmkajoaaDoor

namespace Go.Proofs.YtmadkpnkmkajoaaDoor
open Go.RowKit

end Go.Proofs.YtmadkpnkmkajoaaDoor
namespace Go.Proofs.YtmadkpnkmkajoaaDoor
open Go.RowKit

end Go.Proofs.YtmadkpnkmkajoaaDoor

namespace Go.Proofs.YtmadkpnkmkajoaaDoor
open Go.RowKit

section
end

end Go.Proofs.YtmadkpnkmkajoaaDoor

namespace Go.Proofs.YtmadkpnkmkajoaaDoor
open Go.RowKit

end Go.Proofs.YtmadkpnkmkajoaaDoor

namespace Go.Proofs.YtmadkpnkmkajoaaDoor
open Go.RowKit

end Go.Proofs.YtmadkpnkmkajoaaDoor

namespace Go.Proofs.YtmadkpnkmkajoaaDoor
open Go.RowKit

end Go.Proofs.YtmadkpnkmkajoaaDoor

namespace Go.Proofs.YtmadkpnkmkajoaaDoor
open Go.RowKit

end Go.Proofs.YtmadkpnkmkajoaaDoor

namespace Go.Proofs.YtmadkpnkmkajoaaDoor
open Go.RowKit

end Go.Proofs.YtmadkpnkmkajoaaDoor

namespace Go.Proofs.YtmadkpnkmkajoaaDoor
open Go.RowKit

end Go.Proofs.YtmadkpnkmkajoaaDoor

namespace Go.Proofs.YtmadkpnkmkajoaaDoor
open Go.RowKit

end Go.Proofs.YtmadkpnkmkajoaaDoor

namespace Go.Proofs.YtmadkpnkmkajoaaDoor
open Go.RowKit

end Go.Proofs.YtmadkpnkmkajoaaDoor

namespace Go.Proofs.YtmadkpnkmkajoaaDoor
open Go.RowKit

end Go.Proofs.YtmadkpnkmkajoaaDoor

namespace Go.Proofs.YtmadkpnkmkajoaaDoor
open Go.RowKit

section
variable {w wr w' : World} {base d k : Nat} {L : List En} {v : Value} {ps : List Int}
end
end Go.Proofs.YtmadkpnkmkajoaaDoor
namespace Go.Proofs.YtmadkpnkmkajoaaDoor
open Go.RowKit

/-- what Right answers -/
def RightedB (w : World) (b : List Int) (e : Ending) (w' : World) : Prop := e = .returned (.bool (decide (RightB b))) ∧ Below w.heap.size w w'
/-- the first k numbers may be -/
def Ri (b : List Int) (k : Nat) : Prop := ∀ j, j < k → In (b.getD j 0)
theorem Ri.more {b : List Int} {k : Nat} (h : Ri b k) (hk : In (b.getD k 0)) : Ri b (k + 1) := fun j hj => by
  by_cases e : j = k
  · rw [e]; exact hk
  · exact h j (by omega)
theorem not_right {b : List Int} {k : Nat} (hk : k < 64) (h : ¬ In (b.getD k 0)) : decide (RightB b) = false := decide_eq_false_iff_not.2 fun hr => h (hr k hk)

set_option maxRecDepth 10000 in
set_option maxHeartbeats 800000 in
theorem right64_any (w : World) (b : List Int) (hb : b.length = 64) : Calls Tryd.prog 89 #[blkV b] w (RightedB w b) := by
  obtain ⟨w1, hw1⟩ : ∃ w1, w1 = w.alloc (.cells (cellsI b).toArray 29) := ⟨_, rfl⟩
  have hB : Blk w1 w.heap.size b := ⟨by rw [hw1]; exact Box.made _ _ _, hb⟩
  have bel : Below w.heap.size w w1 := by rw [hw1]; exact on_alloc _ _
  have H := Lib.hid (And.intro hB (And.intro bel hw1))
  have HL := Lib.hid hB.load
  have HB := Lib.hid hb
  clear hB bel hw1 hb
  obtain ⟨v, hv⟩ : ∃ v, v = blkV b := ⟨_, rfl⟩
  rw [← hv] at HL ⊢
  obtain ⟨cs, hcs⟩ : ∃ cs, cs = (cellsI b).toArray := ⟨_, rfl⟩
  have hvc : v = .agg cs := by rw [hv, hcs]; rfl
  rw [hvc]
  have HV := Lib.hid (And.intro hv (And.intro hcs hvc))
  clear hv hcs hvc
  have HL2 := Lib.hid (show (Instr.loadAt 29 (.pointer (some ⟨w.heap.size, 0, none⟩))).run Tryd.prog (w.alloc (.cells cs 29)) = .ok v (w.alloc (.cells cs 29)) by rw [HV.out.2.1, ← H.out.2.2]; exact HL.out)
  go_enter Tryd.func89, Tryd.ntmps89
  go_wp2_with (first
    | (with_reducible refine wpList_load_to (op := ⟨some 5, _, _, _, _, _⟩) rfl 29 (.tmp 1) rfl (.pointer (some ⟨w.heap.size, 0, none⟩)) rfl v HL2.out ?_)
    | fail)
  rw [HV.out.2.1, ← H.out.2.2]
  go_loopw [6] (fun i wr => ∃ k : Nat, k ≤ 64 ∧ i = .int .i64 k ∧ Ri b k ∧ Below w.heap.size w wr) (fun i _ => 64 - (intOf i).toNat)
  case atStart => exact ⟨0, by omega, rfl, fun j hj => absurd hj (by omega), H.out.2.1⟩
  case round =>
    obtain ⟨k, hk, rfl, hR, hbel⟩ := hrel
    have HR := Lib.hid (And.intro hR hbel)
    clear hR hbel
    by_cases hlt : k < 64
    · have hidx := fun w => index23 w HB.out hlt
      rw [← HV.out.1] at hidx
      obtain ⟨z, hz⟩ : ∃ z, z = b.getD k 0 := ⟨_, rfl⟩
      rw [← hz] at hidx
      have HZ := Lib.hid hz
      clear hz
      by_cases hin : In z
      · have hd : decide (In z) = true := by simpa using hin
        have HD := Lib.hid (And.intro hd hin)
        clear hd hin
        go_wp2_with fail
        refine (inRange_any wr z).mono ?_
        rintro e w2 ⟨rfl, rfl⟩
        rw [HD.out.1]
        go_wp2
        go_roundw
        case rel => exact ⟨k + 1, by omega, by go_num, HR.out.1.more (by rw [← HZ.out]; exact HD.out.2), HR.out.2⟩
        case measure => simp [intOf]; omega
      · have hd : decide (In z) = false := by simpa using hin
        have HD := Lib.hid (And.intro hd hin)
        clear hd hin
        go_wp2_with fail
        refine (inRange_any wr z).mono ?_
        rintro e w2 ⟨rfl, rfl⟩
        rw [HD.out.1]
        go_wp2
        go_ret
        exact ⟨by rw [not_right hlt (by rw [← HZ.out]; exact HD.out.2)]; rfl, HR.out.2⟩
    · obtain rfl : k = 64 := by omega
      go_wp2
      go_ret
      exact ⟨by rw [decide_eq_true (show RightB b from HR.out.1)]; rfl, HR.out.2⟩

set_option maxRecDepth 10000 in
set_option maxHeartbeats 800000 in
theorem refRight_any (w : World) (b : List Int) (hb : b.length = 64) : Calls Tryd.prog 104 #[blkV b] w (RightedB w b) := by
  obtain ⟨w1, hw1⟩ : ∃ w1, w1 = w.alloc (.cells (cellsI b).toArray 29) := ⟨_, rfl⟩
  have hB : Blk w1 w.heap.size b := ⟨by rw [hw1]; exact Box.made _ _ _, hb⟩
  have bel : Below w.heap.size w w1 := by rw [hw1]; exact on_alloc _ _
  have H := Lib.hid (And.intro hB (And.intro bel hw1))
  clear hB bel hw1 hb
  obtain ⟨cs, hcs⟩ : ∃ cs, cs = (cellsI b).toArray := ⟨_, rfl⟩
  have hvc : blkV b = .agg cs := by rw [hcs]; rfl
  rw [hvc]
  have HV := Lib.hid hcs
  clear hcs hvc
  go_enter Tryd.func104, Tryd.ntmps104
  go_wp2_with fail
  rw [HV.out, ← H.out.2.2]
  go_loopw [3] (fun i wr => ∃ k : Nat, k ≤ 64 ∧ i = .int .i64 k ∧ Ri b k ∧ w1 = wr) (fun i _ => 64 - (intOf i).toNat)
  case atStart => exact ⟨0, by omega, rfl, fun j hj => absurd hj (by omega), rfl⟩
  case round =>
    obtain ⟨k, hk, rfl, hR, rfl⟩ := hrel
    have HR := Lib.hid hR
    clear hR
    by_cases hlt : k < 64
    · have hc := H.out.1.cell hlt
      obtain ⟨z, hz⟩ : ∃ z, z = b.getD k 0 := ⟨_, rfl⟩
      rw [← hz] at hc
      have HZ := Lib.hid hz
      clear hz
      by_cases hin : In z
      · have hd : decide (In z) = true := by simpa using hin
        have HD := Lib.hid (And.intro hd hin)
        clear hd hin
        go_wp2_with fail
        refine (refIn_any w1 z).mono ?_
        rintro e w2 ⟨rfl, rfl⟩
        rw [HD.out.1]
        go_wp2
        go_roundw
        case rel => exact ⟨k + 1, by omega, by go_num, HR.out.more (by rw [← HZ.out]; exact HD.out.2), trivial⟩
        case measure => simp [intOf]; omega
      · have hd : decide (In z) = false := by simpa using hin
        have HD := Lib.hid (And.intro hd hin)
        clear hd hin
        go_wp2_with fail
        refine (refIn_any w1 z).mono ?_
        rintro e w2 ⟨rfl, rfl⟩
        rw [HD.out.1]
        go_wp2
        go_ret
        exact ⟨by rw [not_right hlt (by rw [← HZ.out]; exact HD.out.2)]; rfl, H.out.2.1⟩
    · obtain rfl : k = 64 := by omega
      go_wp2
      go_ret
      exact ⟨by rw [decide_eq_true (show RightB b from HR.out)]; rfl, H.out.2.1⟩
end Go.Proofs.YtmadkpnkmkajoaaDoor

namespace Go.Proofs.YtmadkpnkmkajoaaDoor
open Go.RowKit

end Go.Proofs.YtmadkpnkmkajoaaDoor

namespace Go.Proofs.YtmadkpnkmkajoaaDoor
open Go.RowKit

section
end
end Go.Proofs.YtmadkpnkmkajoaaDoor

namespace Go.Proofs.YtmadkpnkmkajoaaDoor
open Go.RowKit

end Go.Proofs.YtmadkpnkmkajoaaDoor

namespace Go.Proofs.YtmadkpnkmkajoaaDoor
open Go.RowKit

section
variable {w w' : World} {cb p q : Nat} {P Q : List Int}
end

end Go.Proofs.YtmadkpnkmkajoaaDoor

namespace Go.Proofs.YtmadkpnkmkajoaaDoor
open Go.RowKit

section
variable (w : World) (A A' : Option Addr) (n c n' c' : Nat) (prev : Int) (b : List Int)

end
end Go.Proofs.YtmadkpnkmkajoaaDoor

namespace Go.Proofs.YtmadkpnkmkajoaaDoor
open Go.RowKit

theorem zeros_at (k : Nat) : (List.replicate 64 (0 : Int)).getD k 0 = 0 := by
  rw [List.getD_eq_getElem?_getD]
  by_cases h : k < 64
  · rw [List.getElem?_replicate_of_lt h]; rfl
  · rw [List.getElem?_eq_none (by simp; omega)]; rfl
theorem zeros_right : RightB (List.replicate 64 0) := fun j _ => by rw [zeros_at]; decide
end Go.Proofs.YtmadkpnkmkajoaaDoor

namespace Go.Proofs.YtmadkpnkmkajoaaDoor
open Go.RowKit

end Go.Proofs.YtmadkpnkmkajoaaDoor

namespace Go.Proofs.YtmadkpnkmkajoaaDoor
open Go.RowKit

section
end

end Go.Proofs.YtmadkpnkmkajoaaDoor

namespace Go.Proofs.YtmadkpnkmkajoaaDoor
open Go.RowKit

end Go.Proofs.YtmadkpnkmkajoaaDoor

namespace Go.Proofs.YtmadkpnkmkajoaaDoor
open Go.RowKit

section
end
section
end
end Go.Proofs.YtmadkpnkmkajoaaDoor

namespace Go.Proofs.YtmadkpnkmkajoaaDoor
open Go.RowKit

section
variable {B V B' V' : List Int}
end

section
variable {w w' : World} {g11 lo hi t lo' hi' t' : Nat} {B V B' V' : List Int}
end

section
end

section
variable (w : World) (d lo hi t lo' hi' t' : Nat) (B V B' V' bs : List Int) (prev : Int) (b : List Int)
end
end Go.Proofs.YtmadkpnkmkajoaaDoor

namespace Go.Proofs.YtmadkpnkmkajoaaDoor
open Go.RowKit

theorem own_block3 {w : World} {base e size n i : Nat} {v : Value} {xs : List Value} (h : w.ownsRow base e size v n xs) (hi : v.ownBlock = some i) : base ≤ i ∧ ∃ cs, w.heap[i]? = some (.cells cs e (0, 0)) := by
  rcases h.2 with ⟨rfl, _⟩ | ⟨g, cap, cur, rfl, hg, hh, _⟩
  · cases hi
  · cases hi
    exact ⟨hg, _, hh⟩

section
end

section
variable (w : World) (Ac : Option Addr) (nc cc : Nat) (Ac' : Option Addr) (nc' cc' : Nat) (B V B' V' : List Int) (A : Option Addr) (n c : Nat) (bs : List Int) (prev : Int) (b : List Int)
end
end Go.Proofs.YtmadkpnkmkajoaaDoor

namespace Go.Proofs.YtmadkpnkmkajoaaDoor
open Go.RowKit

end Go.Proofs.YtmadkpnkmkajoaaDoor
namespace Go.Proofs.YtmadkpnkmkajoaaDoor
open Go.RowKit

section
variable {pg : Value} {op : List Int} {n v c : Nat}
end

end Go.Proofs.YtmadkpnkmkajoaaDoor

namespace Go.Proofs.YtmadkpnkmkajoaaDoor
open Go.RowKit

end Go.Proofs.YtmadkpnkmkajoaaDoor

namespace Go.Proofs.YtmadkpnkmkajoaaDoor
open Go.RowKit

end Go.Proofs.YtmadkpnkmkajoaaDoor

namespace Go.Proofs.YtmadkpnkmkajoaaDoor
open Go.RowKit

end Go.Proofs.YtmadkpnkmkajoaaDoor

namespace Go.Proofs.YtmadkpnkmkajoaaDoor
open Go.RowKit

def zeros64 : List Int := List.replicate 64 0
section
end

end Go.Proofs.YtmadkpnkmkajoaaDoor

namespace Go.Proofs.YtmadkpnkmkajoaaDoor
open Go.RowKit

end Go.Proofs.YtmadkpnkmkajoaaDoor

namespace Go.Proofs.YtmadkpnkmkajoaaDoor
open Go.RowKit

end Go.Proofs.YtmadkpnkmkajoaaDoor

namespace Go.Proofs.YtmadkpnkmkajoaaDoor
open Go.RowKit

section
end

section
end
end Go.Proofs.YtmadkpnkmkajoaaDoor

namespace Go.Proofs.YtmadkpnkmkajoaaDoor
open Go.RowKit

section
variable {B V F : List Int}
end

section
variable {b c : List Int} {i : Nat}
end

section
variable {B V F : List Int} {b : List Int}
end

end Go.Proofs.YtmadkpnkmkajoaaDoor

namespace Go.Proofs.YtmadkpnkmkajoaaDoor
open Go.RowKit

section
end

section
end


section
variable (w : World) (d lo hi t lo' hi' t' : Nat) (B V B' V' bs : List Int) (prev : Int) (b : List Int)
end
end Go.Proofs.YtmadkpnkmkajoaaDoor

namespace Go.Proofs.YtmadkpnkmkajoaaDoor
open Go.RowKit

/-- a slice that reads as blocks -/
structure Bs (w : World) (A : Option Addr) (n : Nat) (bl : List (List Int)) : Prop where
  len : bl.length = n
  wide : ∀ x ∈ bl, x.length = 64
  at_ : 0 < n → ∃ b off, A = some ⟨b, off, none⟩ ∧ b < w.heap.size ∧ ∀ i x, bl[i]? = some x → ∀ j, j < 64 → w.cell? ⟨b, off + i * 64 + j, none⟩ = some (.int .i64 (x.getD j 0))
theorem Bs.on {w w' : World} {A : Option Addr} {n : Nat} {bl : List (List Int)} (h : Bs w A n bl) (k : Below w.heap.size w w') : Bs w' A n bl :=
  ⟨h.len, h.wide, fun h0 => by
    obtain ⟨b, off, e, hb, hc⟩ := h.at_ h0
    exact ⟨b, off, e, Nat.lt_of_lt_of_le hb k.size, fun i x hx j hj => (k.cell (p := ⟨b, off + i * 64 + j, none⟩) hb).trans (hc i x hx j hj)⟩⟩
/-- one of the blocks is loaded -/
theorem Bs.load {w : World} {b off n : Nat} {bl : List (List Int)} {k : Nat} {x : List Int} (h : Bs w (some ⟨b, off, none⟩) n bl) (hx : bl[k]? = some x) : (Instr.loadAt 29 (.pointer (some ⟨b, off + k * 64, none⟩))).run Tryd.prog w = .ok (blkV x) w := by
  have hk := (List.getElem?_eq_some_iff.1 hx).1
  have hl := h.wide x (List.mem_of_getElem? hx)
  obtain ⟨b', off', e, _, hc⟩ := h.at_ (by have := h.len; omega)
  cases e
  refine run_loadAt_mid w b (off + k * 64) 29 (cellsI x) _ (fun j u hu => ?_) Tryd.underlying29 rfl (by rw [arr23_size, cellsI_len, hl])
  have hj : j < 64 := by
    have := (List.getElem?_eq_some_iff.1 hu).1
    rw [cellsI_len, hl] at this
    exact this
  rw [hc k x hx j hj, ← hu, cellsI_get _ _ (by omega)]

/-- the cells of blocks -/
def blocksC (bl : List (List Int)) : List Value := bl.flatMap cellsI
theorem blocksC_app (a b : List (List Int)) : blocksC (a ++ b) = blocksC a ++ blocksC b := by simp [blocksC]
theorem blocksC_at : ∀ {bl : List (List Int)}, (∀ x ∈ bl, x.length = 64) → ∀ {i : Nat} {x : List Int}, bl[i]? = some x → ∀ {j : Nat}, j < 64 → (blocksC bl)[i * 64 + j]? = some (.int .i64 (x.getD j 0))
  | [], _, i, x, hx, j, hj => by simp at hx
  | y :: r, h, 0, x, hx, j, hj => by
    have h1 : blocksC (y :: r) = cellsI y ++ blocksC r := by simp [blocksC]
    simp at hx
    subst hx
    have hy := h y (by simp)
    rw [h1, Nat.zero_mul, Nat.zero_add, List.getElem?_append_left (by rw [cellsI_len]; omega), cellsI_get _ _ (by omega)]
  | y :: r, h, i + 1, x, hx, j, hj => by
    have h1 : blocksC (y :: r) = cellsI y ++ blocksC r := by simp [blocksC]
    have hy := h y (by simp)
    rw [List.getElem?_cons_succ] at hx
    rw [h1, List.getElem?_append_right (by rw [cellsI_len]; omega), cellsI_len, hy, show (i + 1) * 64 + j - 64 = i * 64 + j by omega]
    exact blocksC_at (fun z hz => h z (by simp [hz])) hx hj
theorem blk_info : (Tryd.prog.info? 29).map (fun i => (i.zero, i.size, i.bytes)) = some (some (blkV (List.replicate 64 0)), 64, 512) := by kernel_rfl
section
variable {Ld La : List En}
end
end Go.Proofs.YtmadkpnkmkajoaaDoor

namespace Go.Proofs.YtmadkpnkmkajoaaDoor
open Go.RowKit

section
variable {w0 wr w' : World} {d base k : Nat} {v v' : Value} {done : List (List Int)} {prev : Int} {Ld La : List En} {x : List Int}
end
end Go.Proofs.YtmadkpnkmkajoaaDoor
namespace Go.Proofs.YtmadkpnkmkajoaaDoor
open Go.RowKit

end Go.Proofs.YtmadkpnkmkajoaaDoor

namespace Go.Proofs.YtmadkpnkmkajoaaDoor
open Go.RowKit

end Go.Proofs.YtmadkpnkmkajoaaDoor

namespace Go.Proofs.YtmadkpnkmkajoaaDoor
open Go.RowKit

section
variable {w w' : World} {g : Nat} {S T L : List Int}
end
end Go.Proofs.YtmadkpnkmkajoaaDoor

namespace Go.Proofs.YtmadkpnkmkajoaaDoor
open Go.RowKit

end Go.Proofs.YtmadkpnkmkajoaaDoor

namespace Go.Proofs.YtmadkpnkmkajoaaDoor
open Go.RowKit

end Go.Proofs.YtmadkpnkmkajoaaDoor

namespace Go.Proofs.YtmadkpnkmkajoaaDoor

/-- weights, joined by twos, the least ones first: how much that is in all -/
inductive Joins : List Nat → Nat → Prop
  | one (w : Nat) : Joins [w] 0
  | more {ws rest : List Nat} {a b h : Nat} (p : ws.Perm (a :: b :: rest)) (ab : a ≤ b) (br : ∀ x ∈ rest, b ≤ x) (j : Joins ((a + b) :: rest) h) : Joins ws (a + b + h)

end Go.Proofs.YtmadkpnkmkajoaaDoor

namespace Go.Proofs.YtmadkpnkmkajoaaDoor

end Go.Proofs.YtmadkpnkmkajoaaDoor

namespace Go.Proofs.YtmadkpnkmkajoaaDoor

end Go.Proofs.YtmadkpnkmkajoaaDoor

namespace Go.Proofs.YtmadkpnkmkajoaaDoor

section
variable {cn : Nat → Nat} {us : List Nat} {fin : Nat → Nat}
end
end Go.Proofs.YtmadkpnkmkajoaaDoor

namespace Go.Proofs.YtmadkpnkmkajoaaDoor

end Go.Proofs.YtmadkpnkmkajoaaDoor

namespace Go.Proofs.YtmadkpnkmkajoaaDoor

section
variable {cn : Nat → Nat} {us : List Nat} {fin : Nat → Nat}
end
end Go.Proofs.YtmadkpnkmkajoaaDoor

namespace Go.Proofs.YtmadkpnkmkajoaaDoor

section
variable {cn : Nat → Nat} {us : List Nat} {fin m : Nat → Nat} {B : List Int}
end

section
variable {cn : Nat → Nat} {us : List Nat} {fin m : Nat → Nat} {B : List Int}
end
end Go.Proofs.YtmadkpnkmkajoaaDoor

namespace Go.Proofs.YtmadkpnkmkajoaaDoor

section
variable {cn : Nat → Nat} {us : List Nat} {fin m : Nat → Nat} {B : List Int}
end
end Go.Proofs.YtmadkpnkmkajoaaDoor

namespace Go.Proofs.YtmadkpnkmkajoaaDoor

section
variable {cn : Nat → Nat} {us : List Nat} {fin m : Nat → Nat} {B : List Int}
end
end Go.Proofs.YtmadkpnkmkajoaaDoor

namespace Go.Proofs.YtmadkpnkmkajoaaDoor

end Go.Proofs.YtmadkpnkmkajoaaDoor

namespace Go.Proofs.YtmadkpnkmkajoaaDoor

section
variable {C : List Int} {ts : List (List Nat)} {S T L : List Int} {out : Nat → Nat} {f f2 : Nat} {s s2 : Int}
end

end Go.Proofs.YtmadkpnkmkajoaaDoor

namespace Go.Proofs.YtmadkpnkmkajoaaDoor
open Go.RowKit

set_option maxRecDepth 10000
end Go.Proofs.YtmadkpnkmkajoaaDoor

namespace Go.Proofs.YtmadkpnkmkajoaaDoor
open Go.RowKit

end Go.Proofs.YtmadkpnkmkajoaaDoor

namespace Go.Proofs.YtmadkpnkmkajoaaDoor
open Go.RowKit

end Go.Proofs.YtmadkpnkmkajoaaDoor

namespace Go.Proofs.YtmadkpnkmkajoaaDoor
open Go.RowKit

section
variable {C : List Int} {fin : Nat → Nat}
end

end Go.Proofs.YtmadkpnkmkajoaaDoor

namespace Go.Proofs.YtmadkpnkmkajoaaDoor
open Go.RowKit

end Go.Proofs.YtmadkpnkmkajoaaDoor
