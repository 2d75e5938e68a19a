/-
  What the contracts say of memory (blocks that are known whole, worlds in which only named blocks have turned); rows of numbers of one's own. Blocks of 64 numbers in memory: read, built, written whole; the two tables of base steps. Rounding: mathematics, and the contracts of Round, the program's and the reference's. The contracts of hold and scale. Lists of 64 numbers, told by a function. Layer 11's mathematics: tones and colours, greys, bounds, which of two is brighter. No code. Layer 12's mathematics: planes as lists: samples beyond the edge, cropped, halved, grown, cut into blocks and joined. No code. Slices of numbers: those that are handed in, and those of one's own; what is appended.
-/
import Derived.Test.YtmadkpnkmkajoaaDoorSU
import Derived.Test.YtmadkpnkmkajoaaDoorRows
import Derived.WalkKit
import Derived.WalkSpells
import Derived.WalkLawsBesides
import Derived.Lib.Hide
import Derived.Deep.Draws
import Derived.Deep.QuietTactic
import Derived.BigQuiet
import Derived.Deep.RegionWith
import Derived.Laws.AppendOwnNone
import Derived.Laws.CopyOwn
import Derived.Laws.BytesArg
import Derived.Deep.OwnRows
import Derived.Deep.MidRow
import Derived.Deep.RegionHeld3
import Derived.Laws.Rows
import Derived.Laws.StructEq
import Derived.ChangeKeysEq
namespace Go.Proofs.YtmadkpnkmkajoaaDoor
open Go.RowKit



section
variable {w w' : World} {g : Nat} {t : TypeId} {cs : Array Value}
theorem Box.beside (h : Box w g t cs) {p : Addr} (hp : g ≠ p.block) (u : Value) : Box (w.setCell p u) g t cs := (Below.heap_setCell w p u g hp).trans h
theorem Box.apart {g' : Nat} {t' : TypeId} {cs' : Array Value} (h : Box w g t cs) (h' : Box w g' t' cs') (hne : t ≠ t') : g ≠ g' := by
  intro e
  subst e
  unfold Box at h h'
  rw [h] at h'
  simp at h'
  exact hne h'.2
end

section
variable {S S' : Nat → Prop} {a w w' : World}
theorem Kept.of_below (h : Below a.heap.size a w) (S : Nat → Prop) : Kept S a w := ⟨h.os, h.tape, h.output, h.size, fun i hi _ => h.block i hi⟩
end


/-- what the laws answer -/
def Law (w : World) (e : Ending) (w' : World) : Prop := e = .returned (.bool true) ∧ Below w.heap.size w w'


theorem int_info : (Tryd.prog.info? 3).map (fun i => (i.zero, i.size, i.bytes)) = some (some (.int .i64 0), 1, 8) := by kernel_rfl

/-- a slice of numbers that reads as xs -/
structure Il (w : World) (A : Option Addr) (n c : Nat) (xs : List Int) : Prop where
  len : xs.length = n
  cap : n ≤ c
  max : c ≤ maxLen
  nil : A = none → c = 0
  typ : ∀ b off, A = some ⟨b, off, none⟩ → ∃ cs fr, w.heap[b]? = some (.cells cs 3 fr)
  at_ : 0 < n → ∃ b off, A = some ⟨b, off, none⟩ ∧ b < w.heap.size ∧ ∀ i, i < n → w.cell? ⟨b, off + i, none⟩ = some (.int .i64 (xs.getD i 0))

theorem Il.on {w w' : World} {A : Option Addr} {n c : Nat} {xs : List Int} (h : Il w A n c xs) (k : Below w.heap.size w w') : Il w' A n c xs :=
  ⟨h.len, h.cap, h.max, h.nil, fun b off e => by
    obtain ⟨cs, fr, hh⟩ := h.typ b off e
    exact ⟨cs, fr, (k.block b (Array.getElem?_eq_some_iff.1 hh).1).trans hh⟩, fun h0 => by
    obtain ⟨b, off, e, hb, hc⟩ := h.at_ h0
    exact ⟨b, off, e, Nat.lt_of_lt_of_le hb k.size, fun i hi => (k.cell (p := ⟨b, off + i, none⟩) hb).trans (hc i hi)⟩⟩
theorem Il.kept {w w' : World} {S : Nat → Prop} {A : Option Addr} {n c : Nat} {xs : List Int} (h : Il w A n c xs) (k : Kept S w w') (hS : ∀ b off, A = some ⟨b, off, none⟩ → ¬ S b) : Il w' A n c xs :=
  ⟨h.len, h.cap, h.max, h.nil, fun b off e => by
    obtain ⟨cs, fr, hh⟩ := h.typ b off e
    exact ⟨cs, fr, (k.block b (Array.getElem?_eq_some_iff.1 hh).1 (hS b off e)).trans hh⟩, fun h0 => by
    obtain ⟨b, off, e, hb, hc⟩ := h.at_ h0
    exact ⟨b, off, e, Nat.lt_of_lt_of_le hb k.size, fun i hi => (k.cell (p := ⟨b, off + i, none⟩) hb (hS b off e)).trans (hc i hi)⟩⟩
theorem Il.none (w : World) : Il w none 0 0 [] := ⟨rfl, Nat.le_refl _, Nat.zero_le _, fun _ => rfl, (fun b off e => by cases e), fun h => absurd h (by omega)⟩
theorem Il.read {w : World} {ad : Addr} {n c : Nat} {l : List Int} (h : Il w (some ad) n c l) : ∀ j u, (cellsI l)[j]? = some u → w.cell? (ad.add j) = some u := by
  intro j u hu
  have hj : j < l.length := by
    have := (List.getElem?_eq_some_iff.1 hu).1
    simpa [cellsI] using this
  have hl := h.len
  obtain ⟨b, off, e, _, hc⟩ := h.at_ (by omega)
  injection e with e
  subst e
  rw [plain_add, hc j (by omega)]
  simp only [cellsI, List.getElem?_map, List.getElem?_eq_getElem hj, Option.map_some, Option.some.injEq] at hu
  subst hu
  simp [List.getD_eq_getElem?_getD, List.getElem?_eq_getElem hj]
theorem il_of_own {w : World} {base : Nat} {v : Value} {n : Nat} {l : List Int} (h : w.ownsRow base 3 1 v n (cellsI l)) : ∃ A c, v = .slice A n c ∧ Il w A n c l ∧ ∀ b off, A = some ⟨b, off, none⟩ → base ≤ b := by
  have hl : l.length = n := by have := h.1; simpa [cellsI] using this
  have hown := h
  rcases h.2 with ⟨rfl, rfl⟩ | ⟨g, cap, cur, rfl, hg, hh, hn, hm, _, _⟩
  · exact ⟨_, 0, rfl, ⟨hl, Nat.le_refl _, Nat.zero_le _, fun _ => rfl, (fun b off e => by cases e), fun h0 => by omega⟩, fun b off e => by cases e⟩
  · refine ⟨some ⟨g, 0, none⟩, cap, rfl, ⟨hl, hn, hm, (fun e => by cases e), (fun b off e => by cases e; exact ⟨_, _, hh⟩), fun _ => ⟨g, 0, rfl, (Array.getElem?_eq_some_iff.1 hh).1, fun i hi => ?_⟩⟩, fun b off e => by cases e; exact hg⟩
    rw [Nat.zero_add, hown.cellAt i (by omega)]
    simp [cellsI, List.getD_eq_getElem?_getD, List.getElem?_eq_getElem (show i < l.length by omega)]
/-- an append of numbers to a row of one's own -/
theorem wpList_append_il {w : World} {ops : Array Oper} {rest : List Oper} {o : Oper} {a : Act} {Q : Exit → Act → World → Prop} (hgd : o.guard = none) (s x : Operand)
    (ho : o.op = .call { callee := .builtin .append, args := #[s, x], argTypes := #[67, 67] })
    (base : Nat) (v : Value) (n : Nat) (l : List Int) (hs : a.eval s = v) (hown : w.ownsRow base 3 1 v n (cellsI l))
    (A : Option Addr) (m c : Nat) (r : List Int) (hx : a.eval x = .slice A m c) (hr : Il w A m c r) (h63 : n + m ≤ 1000000) (hbase : base ≤ w.heap.size)
    (h : ∀ v' w', w'.ownsRow base 3 1 v' (n + m) (cellsI (l ++ r)) → Below base w w' → wpList Tryd.prog ops Q rest (a.put o.dst v') w') : wpList Tryd.prog ops Q (o :: rest) a w := by
  obtain ⟨i0, hi0, hz0, hz1, hz2⟩ := info_parts int_info
  cases A with
  | none =>
    obtain rfl : c = 0 := hr.nil rfl
    obtain rfl : m = 0 := by have := hr.cap; omega
    have hl : r = [] := List.eq_nil_of_length_eq_zero hr.len
    subst hl
    exact wpList_append_own_none hgd s x 67 ho base 3 i0 1 Tryd.underlying67 hi0 v n (cellsI l) hs hown hx (h v w (by simpa using hown) (Below.refl _ _))
  | some ad =>
    refine wpList_append_own _ hgd s x 67 ho base 3 i0 (.int .i64 0) 1 8 Tryd.underlying67 hi0 hz0 hz1 hz2 rfl (by omega) v n (cellsI l) hs hown ad m c (cellsI r) hx (by rw [cellsI_len, hr.len, Nat.mul_one]) hr.read (cellsI_one r) (by simp only [maxLen]; omega) (by omega) hbase ?_
    intro v' w' h1 h2 _
    have e : cellsI l ++ cellsI r = cellsI (l ++ r) := by simp [cellsI]
    rw [e] at h1
    exact h v' w' h1 ((Below.refl base w).grown h2 hbase (fun j hj => (hown.lt j hj).1))


end Go.Proofs.YtmadkpnkmkajoaaDoor

namespace Go.Proofs.YtmadkpnkmkajoaaDoor
open Go.RowKit

theorem arr26_size : (Tryd.prog.info? 29).map (·.size) = some 64 := by kernel_rfl
theorem arr25_size : (Tryd.prog.info? 28).map (·.size) = some 64 := by kernel_rfl
section
variable {w w' : World} {g : Nat} {b : List Int}
theorem Blk.free (h : Blk w g b) (k : Nat) : w.frozen? ⟨g, k, none⟩ = false := h.box.free k
theorem Blk.made (w : World) (b : List Int) (hb : b.length = 64) : Blk (w.alloc (.cells (cellsI b).toArray 29)) w.heap.size b := ⟨Box.made _ _ _, hb⟩
end
/-- a block's numbers are read -/
theorem index51 (w : World) {l : List Int} (hl : l.length = 64) {k : Nat} (hk : k < 64) : (Instr.index 29 (blkV l) (.int .i64 (k : Int))).run Tryd.prog w = .ok (.int .i64 (l.getD k 0)) w := by
  have hp : (part 3 (cellsI l).toArray k).run Tryd.prog w = .ok (.int .i64 (l.getD k 0)) w := run_part_plain w (by kernel_rfl) (by simpa using cellsI_get l k (by omega))
  simp [blkV, Instr.index, run_underlying Tryd.underlying29, asIntOf, hp, Result.andThen]
  intro h
  omega
theorem zeros_len : zeros64.length = 64 := by decide
theorem zeros_at12_ (k : Nat) : zeros64.getD k 0 = 0 := by
  unfold zeros64
  rw [List.getD_eq_getElem?_getD]
  by_cases h : k < 64
  · rw [List.getElem?_replicate_of_lt h]; rfl
  · rw [List.getElem?_eq_none (by simp; omega)]; rfl
theorem zero51 (w : World) : (zeroValue 29).run Tryd.prog w = .ok (blkV zeros64) w := by kernel_rfl
theorem build0 (w : World) : (Instr.build 29 #[]).run Tryd.prog w = .ok (blkV zeros64) w := run_build w 29 _ _ (by kernel_rfl)
/-- a block is written whole -/
theorem wpList_store_blk12_ {ops : Array Oper} {rest : List Oper} {o : Oper} {a : Act} {w : World} {Q : Exit → Act → World → Prop} (hgd : o.guard = none) (x y : Operand) (ho : o.op = .store 29 x y) (hd : o.dst = none)
    (g : Nat) (b : List Int) (hx : a.eval x = .pointer (some ⟨g, 0, none⟩)) (hy : a.eval y = blkV b) (old : Array Value) (hg : Box w g 29 old) (hold : old.size = 64) (hb : b.length = 64)
    (h : ∀ w', Blk w' g b → Kept (fun i => i = g) w w' → wpList Tryd.prog ops Q rest a w') : wpList Tryd.prog ops Q (o :: rest) a w := by
  refine wpList_plain hgd fun _ hK => ?_
  refine wp_store_row 29 x y ho g (cellsI b).toArray hx hy 29 old hg (by rw [arr26_size]; simp [cellsI_len, hb]) (by rw [hold]; simp [cellsI_len, hb]) (all_oneCell_toArray (cellsI_one b)) ?_
  rw [hd]
  exact hK _ _ (h _ ⟨setRow_heap w g old _ 29 _ hg, hb⟩ ⟨rfl, rfl, rfl, by simp, fun k _ hk => setRow_other w g k _ hk⟩)
theorem results_ct {fn : Func} {p q : Tmp} {ty : TypeId} (h : fn.results = #[.cell p ty, .tmp q]) (tmps : Array Value) (w : World) (g : Nat) (x v : Value)
    (hp : tmps.getD p undef = .pointer (some ⟨g, 0, none⟩)) (hq : tmps.getD q undef = v) (hl : (loadVar ty ⟨g, 0, none⟩).run Tryd.prog w = .ok x w) : (results fn tmps).run Tryd.prog w = .ok (.tuple #[x, v]) w := by
  have hp' : tmps[p]?.getD undef = .pointer (some ⟨g, 0, none⟩) := by simpa using hp
  have hq' : tmps[q]?.getD undef = v := by simpa using hq
  simp [results, h, hp', hq', asAddr, hl]
theorem loadVar_blk {w : World} {g : Nat} {b : List Int} (h : Blk w g b) : (loadVar 29 ⟨g, 0, none⟩).run Tryd.prog w = .ok (blkV b) w :=
  run_loadVar_row w g 29 29 _ (0, 0) _ h.box Tryd.underlying29 rfl (by rw [arr26_size]; simp [cellsI_len, h.len])

/-- an operation is taken first, and its slot is named -/
theorem take_to {ops : Array Oper} {Q : Exit → Act → World → Prop} {md : Region.Mode} {S : World → Prop} {i : Nat} {oi : Oper} {v : Value} {fuel : Nat} {listed : Array Bool} {a : Act} {w : World} (hi : ops[i]? = some oi)
    (hs : Region.noSelect ops = true) (hf : Region.free md ops listed i = true) (hr : (Region.ready md ops listed).contains i = true)
    (hQ : ∀ c a w, Q (.panic c) (a.put oi.dst v) w → Q (.panic c) a w) (hy : YieldsIf Tryd.prog ops S oi v a) (hS : S w) (d : Option Tmp) (hd : oi.dst = d)
    (h : wpAnyH Tryd.prog md ops Q S fuel (listed.setIfInBounds i true) (a.put d v) w) : wpAnyH Tryd.prog md ops Q S (fuel + 1) listed a w :=
  wpAnyH_take hi hs hf hr hQ hy hS (by rw [hd]; exact h)
/-- an operation that builds may be taken first -/
theorem yieldsIf_build {ops : Array Oper} {S : World → Prop} {op : Oper} {a : Act} (hw : Region.wanted op (yielded ops a.tmps) = true) (t : TypeId) (parts : Array (Nat × Operand)) (ho : op.op = .build t parts)
    (v : Value) (ps : Array (Nat × Value)) (hps : (parts.map fun (i, x) => (i, a.eval x)) = ps) (h : ∀ w, (Instr.build t ps).run Tryd.prog w = .ok v w) : YieldsIf Tryd.prog ops S op v a :=
  .inl ⟨hw, fun w _ => by
    unfold execOp
    simp only [ho, hps, Sem.run_bind, h w, Result.andThen_ok, Sem.run_pure]⟩
/-- an operation that builds, at a plain region's list -/
theorem wpList_build_to {ops : Array Oper} {rest : List Oper} {op : Oper} {a : Act} {w : World} {Q : Exit → Act → World → Prop} (hgd : op.guard = none) (t : TypeId) (parts : Array (Nat × Operand)) (ho : op.op = .build t parts)
    (v : Value) (ps : Array (Nat × Value)) (hps : (parts.map fun (i, x) => (i, a.eval x)) = ps) (h : (Instr.build t ps).run Tryd.prog w = .ok v w)
    (hK : wpList Tryd.prog ops Q rest (a.put op.dst v) w) : wpList Tryd.prog ops Q (op :: rest) a w :=
  wpList_plain hgd fun _ hQ => by
    unfold Oper.wp execOp
    simp only [ho, hps, Sem.run_bind, h, Result.andThen_ok]
    exact hQ _ _ hK
/-- a guarded load whose guard says yes -/
theorem wpList_load_when {ops : Array Oper} {rest : List Oper} {op : Oper} {a : Act} {w : World} {Q : Exit → Act → World → Prop} (hw : Region.wanted op (yielded ops a.tmps) = true) (ty : TypeId) (x : Operand) (ho : op.op = .load ty x)
    (u : Value) (hx : a.eval x = u) (v : Value) (hl : (Instr.loadAt ty u).run Tryd.prog w = .ok v w)
    (hK : wpList Tryd.prog ops Q rest (a.put op.dst v) w) : wpList Tryd.prog ops Q (op :: rest) a w := by
  unfold wpList
  rw [if_pos hw]
  refine .inl ?_
  unfold Oper.wp execOp
  simp only [ho, hx, Sem.run_bind, hl, Result.andThen_ok]
  exact hK
theorem yieldsIf_load {ops : Array Oper} {S : World → Prop} {op : Oper} {a : Act} (hw : Region.wanted op (yielded ops a.tmps) = true) (t : TypeId) (x : Operand) (ho : op.op = .load t x) (u : Value) (hx : a.eval x = u) (v : Value)
    (h : ∀ w, S w → (Instr.loadAt t u).run Tryd.prog w = .ok v w) : YieldsIf Tryd.prog ops S op v a :=
  .inl ⟨hw, fun w hS => by
    unfold execOp
    simp only [ho, hx, Sem.run_bind, h w hS, Result.andThen_ok, Sem.run_pure]⟩
/-- two blocks of the same numbers are equal -/
theorem items51 (w : World) {B : List Int} (hB : B.length = 64) (d : Nat) : ∀ is : List Nat, (∀ i ∈ is, i < 64) → (Op.eqItems (d + 1) 3 1 (cellsI B).toArray (cellsI B).toArray is).run Tryd.prog w = .ok true w
  | [], _ => by simp [Op.eqItems]
  | i :: is, h => by
    have hp : (part 3 (cellsI B).toArray (i * 1)).run Tryd.prog w = .ok (.int .i64 (B.getD i 0)) w := run_part_plain w (by kernel_rfl) (by rw [Nat.mul_one]; simpa using cellsI_get B i (by have := h i (by simp); omega))
    have he := run_equalIn_int w d 3 .i64 .i64 (B.getD i 0) (B.getD i 0) Tryd.underlying3
    have ih := items51 w hB d is (fun j hj => h j (by simp [hj]))
    simp only [Op.eqItems, Sem.run_bind, hp, he, Result.andThen_ok, beq_self_eq_true]
    simp
    exact ih
theorem blk_equal (w : World) {B : List Int} (hB : B.length = 64) : (Op.equalIn 10000 29 (blkV B) (blkV B)).run Tryd.prog w = .ok true w := by
  obtain ⟨i, hi⟩ : ∃ i, Tryd.prog.info? 3 = some i := by
    obtain ⟨i, h, _⟩ := Option.map_eq_some_iff.1 int_size
    exact ⟨i, h⟩
  have h1 : Tryd.prog.cellsOf 3 = 1 := by kernel_rfl
  rw [show (10000 : Nat) = 9999 + 1 from rfl]
  unfold blkV
  rw [run_equalIn_array (P := Tryd.prog) w 9999 _ _ Tryd.underlying29 hi, h1]
  exact items51 w hB 9998 (List.range 64) (fun i hi => List.mem_range.1 hi)
theorem wpList_eql51_when {ops : Array Oper} {rest : List Oper} {op : Oper} {a : Act} {w : World} {Q : Exit → Act → World → Prop} (hw : Region.wanted op (yielded ops a.tmps) = true) (x y : Operand) (ho : op.op = .binOp .eql 29 x y 29)
    (B : List Int) (hB : B.length = 64) (hx : a.eval x = blkV B) (hy : a.eval y = blkV B)
    (hK : wpList Tryd.prog ops Q rest (a.put op.dst (.bool true)) w) : wpList Tryd.prog ops Q (op :: rest) a w :=
  wpList_step fun _ hQ => by
    have hg : Tryd.prog.eqGuardType Tryd.prog.depth 29 = false := by kernel_rfl
    rw [if_pos hw]
    unfold Oper.wp execOp
    unfold blkV at hx hy
    have he := blk_equal w hB
    unfold blkV at he
    simp only [ho, hx, hy, Sem.run_bind, run_eqGuard_agg w .eql 29 x y _ _ hg, run_eql_struct, he, Result.andThen_ok]
    exact hQ _ _ hK
/-- two equal blocks are not unlike: the operation may be taken first -/
theorem yieldsIf_neq51 {ops : Array Oper} {S : World → Prop} {op : Oper} {a : Act} (hw : Region.wanted op (yielded ops a.tmps) = true) (x y : Operand) (ho : op.op = .binOp .neq 29 x y 29)
    (B : List Int) (hB : B.length = 64) (hx : a.eval x = blkV B) (hy : a.eval y = blkV B) : YieldsIf Tryd.prog ops S op (.bool false) a :=
  .inl ⟨hw, fun w _ => by
    have hg : Tryd.prog.eqGuardType Tryd.prog.depth 29 = false := by kernel_rfl
    unfold execOp
    unfold blkV at hx hy
    have he := blk_equal w hB
    unfold blkV at he
    simp only [ho, hx, hy, Sem.run_bind, run_eqGuard_agg w .neq 29 x y _ _ hg, run_neq_struct, he, Result.andThen_ok]
    rfl⟩

end Go.Proofs.YtmadkpnkmkajoaaDoor

namespace Go.Proofs.YtmadkpnkmkajoaaDoor
open Go.RowKit

/-- a fraction that is rounded -/
def Frac (n d : Int) : Prop := 1 ≤ d ∧ d ≤ 1152921504606846976 ∧ -1152921504606846976 ≤ n ∧ n ≤ 1152921504606846976
instance (n d : Int) : Decidable (Frac n d) := by unfold Frac; infer_instance
/-- a fraction rounded -/
def rnd (n d : Int) : Int := if Frac n d then (if n < 0 then -((-n + d / 2) / d) else (n + d / 2) / d) else 0
theorem rnd_out {n d : Int} (h : ¬ Frac n d) : rnd n d = 0 := if_neg h
theorem rnd_pos {n d : Int} (h : Frac n d) (h0 : 0 ≤ n) : rnd n d = (n + d / 2) / d := by unfold rnd; rw [if_pos h, if_neg (by omega)]
theorem Frac.neg {n d : Int} (h : Frac n d) : Frac (-n) d := by unfold Frac at *; omega
theorem rnd_neg (n d : Int) : rnd (-n) d = - rnd n d := by
  by_cases h : Frac n d
  · have h' := h.neg
    by_cases h0 : n = 0
    · subst h0
      have hd := h.1
      rw [show (-0 : Int) = 0 from rfl, rnd_pos h (by omega)]
      have : (0 + d / 2) / d = 0 := Int.ediv_eq_zero_of_lt (by omega) (by omega)
      rw [this]; rfl
    · unfold rnd
      rw [if_pos h, if_pos h']
      by_cases hn : n < 0
      · rw [if_pos hn, if_neg (by omega), Int.neg_neg]
      · rw [if_neg hn, if_pos (by omega), Int.neg_neg]
  · have h' : ¬ Frac (-n) d := fun e => h (by have := e.neg; rwa [Int.neg_neg] at this)
    rw [rnd_out h, rnd_out h']; rfl

/-- what Round answers -/
def Rounded (w : World) (n d : Int) (e : Ending) (w' : World) : Prop := e = .returned (.int .i64 (rnd n d)) ∧ w = w'
/-- a number that an int holds -/
def isInt (z : Int) : Prop := -9223372036854775808 ≤ z ∧ z ≤ 9223372036854775807

set_option maxHeartbeats 800000 in
theorem round_pos (w : World) (n d : Int) (h : Frac n d) (h0 : 0 ≤ n) : Calls Tryd.prog 103 #[.int .i64 n, .int .i64 d] w (Rounded w n d) := by
  have e := rnd_pos h h0
  have E := Lib.hid e
  clear e
  obtain ⟨h1, h2, h3, h4⟩ := h
  go_enter Tryd.func103, Tryd.ntmps103
  go_wp2_with fail
  go_ret
  exact ⟨by rw [E.out]; rfl, rfl⟩

/-- what is no fraction is not rounded -/
theorem not_frac {n d : Int} (h : ¬ Frac n d) : d < 1 ∨ 1152921504606846976 < d ∨ n < -1152921504606846976 ∨ 1152921504606846976 < n := by unfold Frac at h; omega
theorem rnd_bound (n d : Int) : -1152921504606846976 ≤ rnd n d ∧ rnd n d ≤ 1152921504606846976 := by
  have key : ∀ m, Frac m d → 0 ≤ m → 0 ≤ (m + d / 2) / d ∧ (m + d / 2) / d ≤ 1152921504606846976 := by
    intro m hm h0
    obtain ⟨h1, h2, h3, h4⟩ := hm
    refine ⟨Int.ediv_nonneg (by omega) (by omega), ?_⟩
    by_cases e : d = 1
    · subst e; omega
    · have : (m + d / 2) / d < 1152921504606846977 := Int.ediv_lt_of_lt_mul (by omega) (by omega)
      omega
  by_cases h : Frac n d
  · by_cases h0 : 0 ≤ n
    · rw [rnd_pos h h0]; have := key n h h0; omega
    · have e := rnd_neg n d
      rw [rnd_pos h.neg (by omega)] at e
      have := key (-n) h.neg (by omega)
      omega
  · rw [rnd_out h]; omega

set_option maxHeartbeats 800000 in
theorem round_any (w : World) (n d : Int) (hn : isInt n) (hd : isInt d) : Calls Tryd.prog 103 #[.int .i64 n, .int .i64 d] w (Rounded w n d) := by
  by_cases h : Frac n d
  · by_cases h0 : 0 ≤ n
    · exact round_pos w n d h h0
    · have e := rnd_neg n d
      have hc := round_pos w (-n) d h.neg (by omega)
      unfold Rounded at hc
      rw [e] at hc
      have hb := rnd_bound n d
      obtain ⟨x, hx⟩ : ∃ x, x = rnd n d := ⟨_, rfl⟩
      rw [← hx] at hc hb
      have HC := Lib.hid (And.intro hc hx)
      clear hc hx e
      obtain ⟨h1, h2, h3, h4⟩ := h
      obtain ⟨b1, b2⟩ := hb
      go_enter Tryd.func103, Tryd.ntmps103
      go_wp2_with fail
      refine HC.out.1.mono ?_
      rintro e w2 ⟨rfl, rfl⟩
      go_wp2
      go_ret
      exact ⟨by rw [← HC.out.2]; rfl, rfl⟩
  · have e := rnd_out h
    have E := Lib.hid e
    clear e
    obtain ⟨n0, n1⟩ := hn
    obtain ⟨d0, d1⟩ := hd
    rcases not_frac h with h1 | h1 | h1 | h1
    all_goals
      clear h
      go_enter Tryd.func103, Tryd.ntmps103
      go_wp2
      all_goals (go_ret; exact ⟨by rw [E.out]; rfl, rfl⟩)

/-- the reference rounds so -/
theorem rnd_ref {n d : Int} (h : Frac n d) (h0 : 0 ≤ n) : (n - n / d * d ≥ (n / d + 1) * d - n → rnd n d = n / d + 1) ∧ (¬ n - n / d * d ≥ (n / d + 1) * d - n → rnd n d = n / d) := by
  rw [rnd_pos h h0]
  obtain ⟨h1, _⟩ := h
  have e := Int.mul_ediv_add_emod n d
  have r0 := Int.emod_nonneg n (show d ≠ 0 by omega)
  have r1 := Int.emod_lt_of_pos n (show 0 < d by omega)
  obtain ⟨q, hq⟩ : ∃ q, q = n / d := ⟨_, rfl⟩
  obtain ⟨r, hr⟩ : ∃ r, r = n % d := ⟨_, rfl⟩
  rw [← hq, ← hr] at e
  rw [← hr] at r0 r1
  rw [← hq]
  have e2 : (q + 1) * d = d * q + d := by rw [Int.add_mul, Int.one_mul, Int.mul_comm]
  have e3 : q * d = d * q := Int.mul_comm _ _
  rw [e2, e3]
  refine ⟨fun hh => ?_, fun hh => ?_⟩
  · have : n + d / 2 = (r + d / 2 - d) + d * (q + 1) := by rw [Int.mul_add, Int.mul_one]; omega
    rw [this, Int.add_mul_ediv_left _ _ (by omega), Int.ediv_eq_zero_of_lt (by omega) (by omega)]
    omega
  · have : n + d / 2 = (r + d / 2) + d * q := by omega
    rw [this, Int.add_mul_ediv_left _ _ (by omega), Int.ediv_eq_zero_of_lt (by omega) (by omega)]
    omega

set_option maxHeartbeats 800000 in
theorem refRound_pos (w : World) (n d : Int) (h : Frac n d) (h0 : 0 ≤ n) : Calls Tryd.prog 107 #[.int .i64 n, .int .i64 d] w (Rounded w n d) := by
  have hh := rnd_ref h h0
  obtain ⟨h1, h2, h3, h4⟩ := h
  have hq0 : 0 ≤ n / d := Int.ediv_nonneg h0 (by omega)
  have hq1 : n / d ≤ n := Int.ediv_le_self _ h0
  have hm0 : 0 ≤ n / d * d := Int.mul_nonneg hq0 (by omega)
  have hm1 : n / d * d ≤ n := Int.ediv_mul_le n (by omega)
  have hm2 : (n / d + 1) * d = n / d * d + d := by rw [Int.add_mul, Int.one_mul]
  rw [hm2] at hh
  have hqd : ∀ q, q = n / d → (n / d + 1) * d = q * d + d := fun q e => by rw [e, hm2]
  obtain ⟨q, hq⟩ : ∃ q, q = n / d := ⟨_, rfl⟩
  have hmq := hqd q hq
  rw [← hq] at hh hq0 hq1 hm0 hm1 hm2
  obtain ⟨m, hm⟩ : ∃ m, m = q * d := ⟨_, rfl⟩
  rw [← hm] at hh hm0 hm1 hm2
  have hq' := hq.symm
  have hm' := hm.symm
  have H := Lib.hid (And.intro hh (And.intro hq hm))
  clear hh hq hm hqd hmq
  by_cases hc : n - m ≥ m + d - n
  · have E := Lib.hid (H.out.1.1 hc)
    go_enter Tryd.func107, Tryd.ntmps107
    go_wp2_with fail
    go_ret
    exact ⟨by rw [E.out]; rfl, rfl⟩
  · have E := Lib.hid (H.out.1.2 hc)
    go_enter Tryd.func107, Tryd.ntmps107
    go_wp2_with fail
    go_ret
    exact ⟨by rw [E.out]; rfl, rfl⟩

set_option maxHeartbeats 800000 in
theorem refRound_any (w : World) (n d : Int) (hn : isInt n) (hd : isInt d) : Calls Tryd.prog 107 #[.int .i64 n, .int .i64 d] w (Rounded w n d) := by
  by_cases h : Frac n d
  · by_cases h0 : 0 ≤ n
    · exact refRound_pos w n d h h0
    · have e := rnd_neg n d
      have hc := refRound_pos w (-n) d h.neg (by omega)
      unfold Rounded at hc
      rw [e] at hc
      have hb := rnd_bound n d
      obtain ⟨x, hx⟩ : ∃ x, x = rnd n d := ⟨_, rfl⟩
      rw [← hx] at hc hb
      have e0 : 0 - n = -n := by omega
      have e1 : 0 - -x = x := by omega
      have HC := Lib.hid (And.intro hc hx)
      clear hc hx e
      obtain ⟨h1, h2, h3, h4⟩ := h
      obtain ⟨b1, b2⟩ := hb
      go_enter Tryd.func107, Tryd.ntmps107
      go_wp2_with fail
      refine HC.out.1.mono ?_
      rintro e w2 ⟨rfl, rfl⟩
      go_wp2
      go_ret
      exact ⟨by rw [← HC.out.2]; rfl, rfl⟩
  · have e := rnd_out h
    have E := Lib.hid e
    clear e
    obtain ⟨n0, n1⟩ := hn
    obtain ⟨d0, d1⟩ := hd
    rcases not_frac h with h1 | h1 | h1 | h1
    all_goals
      clear h
      go_enter Tryd.func107, Tryd.ntmps107
      go_wp2
      all_goals (go_ret; exact ⟨by rw [E.out]; rfl, rfl⟩)

/-- a number held between two -/
def held (z lo hi : Int) : Int := if z < lo then lo else if hi < z then hi else z
end Go.Proofs.YtmadkpnkmkajoaaDoor

namespace Go.Proofs.YtmadkpnkmkajoaaDoor
open Go.RowKit

/-- the first k numbers of one list, the others of another one -/
def mix (k : Nat) (x y : List Int) : List Int := x.take k ++ y.drop k
section
variable {x y : List Int} {k : Nat}
theorem mix_zero : mix 0 x y = y := by simp [mix]
theorem mix_all (hx : x.length = 64) (hy : y.length = 64) : mix 64 x y = x := by
  unfold mix
  rw [List.take_of_length_le (by omega), List.drop_of_length_le (by omega), List.append_nil]
theorem mix_len (hx : x.length = 64) (hy : y.length = 64) (hk : k ≤ 64) : (mix k x y).length = 64 := by
  unfold mix
  rw [List.length_append, List.length_take, List.length_drop]
  omega
theorem mix_at (hx : x.length = 64) (hk : k ≤ 64) {j : Nat} (hj : k ≤ j) : (mix k x y).getD j 0 = y.getD j 0 := by
  unfold mix
  have h : (x.take k).length = k := by rw [List.length_take]; omega
  rw [List.getD_eq_getElem?_getD, List.getElem?_append_right (by omega), h, List.getElem?_drop, List.getD_eq_getElem?_getD]
  congr 3
  omega
theorem mix_more (hx : x.length = 64) (hy : y.length = 64) (hk : k < 64) : (mix k x y).set k (x.getD k 0) = mix (k + 1) x y := by
  unfold mix
  have h : (x.take k).length = k := by rw [List.length_take]; omega
  rw [List.set_append_right _ _ (by omega), h, Nat.sub_self, List.drop_eq_getElem_cons (by omega), List.set_cons_zero,
    List.take_succ_eq_append_getElem (by omega), List.append_assoc, List.getD_eq_getElem?_getD, List.getElem?_eq_getElem (by omega)]
  rfl
end

/-- 64 numbers by their places -/
def tab (f : Nat → Int) : List Int := (List.range 64).map f
theorem tab_len (f : Nat → Int) : (tab f).length = 64 := by simp [tab]
theorem tab_at (f : Nat → Int) {k : Nat} (hk : k < 64) : (tab f).getD k 0 = f k := by
  unfold tab
  rw [List.getD_eq_getElem?_getD, List.getElem?_map, List.getElem?_range hk]
  rfl
/-- two blocks of the same numbers are one -/
theorem list_eq {x y : List Int} (hx : x.length = 64) (hy : y.length = 64) (h : ∀ k, k < 64 → x.getD k 0 = y.getD k 0) : x = y := by
  apply List.ext_getElem?
  intro i
  by_cases hi : i < 64
  · have := h i hi
    rw [List.getD_eq_getElem?_getD, List.getD_eq_getElem?_getD, List.getElem?_eq_getElem (by omega), List.getElem?_eq_getElem (by omega)] at this
    rw [List.getElem?_eq_getElem (by omega), List.getElem?_eq_getElem (by omega)]
    exact congrArg some this
  · rw [List.getElem?_eq_none (by omega), List.getElem?_eq_none (by omega)]

end Go.Proofs.YtmadkpnkmkajoaaDoor

namespace Go.Proofs.YtmadkpnkmkajoaaDoor
open Go.RowKit

/-- a number limited to 0 to 255 -/
def cut8 (z : Int) : Int := held z 0 255
/-- may a part be? -/
def In8 (n : Int) : Prop := 0 ≤ n ∧ n ≤ 255
instance (n : Int) : Decidable (In8 n) := by unfold In8; infer_instance
theorem cut8_in (z : Int) : In8 (cut8 z) := by
  unfold cut8 held In8
  split
  · omega
  · split <;> omega
theorem cut8_same {z : Int} (h : In8 z) : cut8 z = z := by
  unfold In8 at h
  unfold cut8 held
  rw [if_neg (by omega), if_neg (by omega)]
theorem cut8_mono {x y : Int} (h : x ≤ y) : cut8 x ≤ cut8 y := by
  unfold cut8 held
  by_cases a : x < 0 <;> by_cases b : y < 0 <;> by_cases c : 255 < x <;> by_cases d : 255 < y <;> simp [a, b, c, d] <;> omega
/-- the parts of a colour's tone -/
def toneY (r g b : Int) : Int := cut8 (rnd (19595 * r + 38470 * g + 7471 * b) 65536)
def toneB (r g b : Int) : Int := cut8 (128 + rnd (32768 * b - 11059 * r - 21709 * g) 65536)
def toneR (r g b : Int) : Int := cut8 (128 + rnd (32768 * r - 27439 * g - 5329 * b) 65536)
/-- the parts of a tone's colour -/
def pixR (y _cb cr : Int) : Int := cut8 (y + rnd (91881 * (cr - 128)) 65536)
def pixG (y cb cr : Int) : Int := cut8 (y - rnd (22554 * (cb - 128) + 46802 * (cr - 128)) 65536)
def pixB (y cb _cr : Int) : Int := cut8 (y + rnd (116130 * (cb - 128)) 65536)
/-- may all three be? -/
def In3 (a b c : Int) : Prop := In8 a ∧ In8 b ∧ In8 c
instance (a b c : Int) : Decidable (In3 a b c) := by unfold In3; infer_instance
/-- what Of tells, and Pixel: three parts and an error -/
def ofF (r g b : Int) : (Int × Int × Int) × Int := if In3 r g b then ((toneY r g b, toneB r g b, toneR r g b), 0) else ((0, 0, 0), 2)
def pixF (y cb cr : Int) : (Int × Int × Int) × Int := if In3 y cb cr then ((pixR y cb cr, pixG y cb cr, pixB y cb cr), 0) else ((0, 0, 0), 2)
theorem ofF_red : ofF 255 0 0 = ((76, 85, 255), 0) := by decide +kernel
theorem rnd_mult {q d : Int} (hd : 1 ≤ d ∧ d ≤ 65536) (hq : 0 ≤ q ∧ q ≤ 1000000) : rnd (q * d) d = q := by
  have hm : q * d ≤ 1000000 * 65536 := Int.mul_le_mul hq.2 hd.2 (by omega) (by omega)
  have hn : 0 ≤ q * d := Int.mul_nonneg hq.1 (by omega)
  rw [rnd_pos (by unfold Frac; omega) hn, Int.mul_comm, Int.add_comm, Int.add_mul_ediv_left _ _ (by omega), Int.ediv_eq_zero_of_lt (by omega) (by omega), Int.zero_add]
theorem rnd_zero (d : Int) (h : 1 ≤ d ∧ d ≤ 65536) : rnd 0 d = 0 := by
  have := rnd_mult (q := 0) h (by omega)
  rwa [Int.zero_mul] at this
/-- a grey colour has tints of 128 -/
theorem of_grey {n : Int} (h : In8 n) : ofF n n n = ((n, 128, 128), 0) := by
  have hh := h
  unfold In8 at hh
  unfold ofF
  rw [if_pos ⟨h, h, h⟩]
  unfold toneY toneB toneR
  rw [show 19595 * n + 38470 * n + 7471 * n = n * 65536 by omega, show 32768 * n - 11059 * n - 21709 * n = 0 by omega, show 32768 * n - 27439 * n - 5329 * n = 0 by omega,
    rnd_mult (by omega) (by omega), rnd_zero _ (by omega), cut8_same h, cut8_same (by unfold In8; omega)]
  rfl
/-- and is itself again -/
theorem pix_grey {n : Int} (h : In8 n) : pixF n 128 128 = ((n, n, n), 0) := by
  unfold pixF
  rw [if_pos ⟨h, by unfold In8; omega, by unfold In8; omega⟩]
  unfold pixR pixG pixB
  rw [show (91881 : Int) * (128 - 128) = 0 by omega, show (22554 : Int) * (128 - 128) + 46802 * (128 - 128) = 0 by omega, show (116130 : Int) * (128 - 128) = 0 by omega, rnd_zero _ (by omega), Int.add_zero, Int.sub_zero, cut8_same h]
theorem ofF_bounds (r g b : Int) : In3 (ofF r g b).1.1 (ofF r g b).1.2.1 (ofF r g b).1.2.2 := by
  unfold ofF
  split
  · exact ⟨cut8_in _, cut8_in _, cut8_in _⟩
  · exact ⟨by decide, by decide, by decide⟩
theorem pixF_bounds (y cb cr : Int) : In3 (pixF y cb cr).1.1 (pixF y cb cr).1.2.1 (pixF y cb cr).1.2.2 := by
  unfold pixF
  split
  · exact ⟨cut8_in _, cut8_in _, cut8_in _⟩
  · exact ⟨by decide, by decide, by decide⟩
theorem ofF_ok {r g b : Int} (h : In3 r g b) : (ofF r g b).2 = 0 := by unfold ofF; rw [if_pos h]
theorem pixF_ok {y cb cr : Int} (h : In3 y cb cr) : (pixF y cb cr).2 = 0 := by unfold pixF; rw [if_pos h]
theorem ofF_err (r g b : Int) : (ofF r g b).2 = 0 ∨ ofF r g b = ((0, 0, 0), 2) := by
  unfold ofF
  split
  · exact .inl rfl
  · exact .inr rfl
theorem pixF_err (y cb cr : Int) : (pixF y cb cr).2 = 0 ∨ pixF y cb cr = ((0, 0, 0), 2) := by
  unfold pixF
  split
  · exact .inl rfl
  · exact .inr rfl
theorem ofF_in {r g b : Int} (h : (ofF r g b).2 = 0) : In3 r g b := by
  unfold ofF at h
  split at h
  · assumption
  · cases h
/-- a greater fraction is no less, rounded -/
theorem rnd_mono {n m d : Int} (hn : Frac n d) (hm : Frac m d) (h : n ≤ m) : rnd n d ≤ rnd m d := by
  have hd := hn.1
  by_cases h0 : 0 ≤ n
  · rw [rnd_pos hn h0, rnd_pos hm (by omega)]
    exact Int.ediv_le_ediv (by omega) (by omega)
  · by_cases h1 : 0 ≤ m
    · have a : 0 ≤ rnd m d := by rw [rnd_pos hm h1]; exact Int.ediv_nonneg (by omega) (by omega)
      have b : 0 ≤ rnd (-n) d := by rw [rnd_pos hn.neg (by omega)]; exact Int.ediv_nonneg (by omega) (by omega)
      rw [rnd_neg] at b
      omega
    · have a : rnd (-m) d ≤ rnd (-n) d := by
        rw [rnd_pos hn.neg (by omega), rnd_pos hm.neg (by omega)]
        exact Int.ediv_le_ediv (by omega) (by omega)
      rw [rnd_neg, rnd_neg] at a
      omega
/-- a colour no part of which is less has no lesser brightness -/
theorem brighter {r g b r' g' b' : Int} (h : In3 r g b) (h' : In3 r' g' b') (hr : r ≤ r') (hg : g ≤ g') (hb : b ≤ b') : (ofF r g b).1.1 ≤ (ofF r' g' b').1.1 := by
  unfold ofF
  rw [if_pos h, if_pos h']
  obtain ⟨⟨a0, a1⟩, ⟨a2, a3⟩, a4, a5⟩ := h
  obtain ⟨⟨c0, c1⟩, ⟨c2, c3⟩, c4, c5⟩ := h'
  refine cut8_mono (rnd_mono ?_ ?_ ?_)
  · unfold Frac; omega
  · unfold Frac; omega
  · omega
/-- amounts, for the calls -/
theorem tone_sums {r g b : Int} (h : In3 r g b) : (0 ≤ 19595 * r + 38470 * g + 7471 * b ∧ 19595 * r + 38470 * g + 7471 * b ≤ 16711680) ∧ (-8355840 ≤ 32768 * b - 11059 * r - 21709 * g ∧ 32768 * b - 11059 * r - 21709 * g ≤ 8355840) ∧ -8355840 ≤ 32768 * r - 27439 * g - 5329 * b ∧ 32768 * r - 27439 * g - 5329 * b ≤ 8355840 := by
  obtain ⟨⟨a0, a1⟩, ⟨a2, a3⟩, a4, a5⟩ := h
  omega
theorem pix_sums {y cb cr : Int} (h : In3 y cb cr) : (-11760768 ≤ 91881 * (cr - 128) ∧ 91881 * (cr - 128) ≤ 11760768) ∧ (-8877568 ≤ 22554 * (cb - 128) + 46802 * (cr - 128) ∧ 22554 * (cb - 128) + 46802 * (cr - 128) ≤ 8877568) ∧ -14864640 ≤ 116130 * (cb - 128) ∧ 116130 * (cb - 128) ≤ 14864640 := by
  obtain ⟨⟨a0, a1⟩, ⟨a2, a3⟩, a4, a5⟩ := h
  omega
/-- a small fraction, rounded, is small -/
theorem rnd_small {n : Int} (h0 : -16777216 ≤ n) (h1 : n ≤ 16777216) : -256 ≤ rnd n 65536 ∧ rnd n 65536 ≤ 256 := by
  have a := rnd_mono (n := n) (m := 16777216) (d := 65536) (by unfold Frac; omega) (by unfold Frac; omega) h1
  have b := rnd_mono (n := -16777216) (m := n) (d := 65536) (by unfold Frac; omega) (by unfold Frac; omega) h0
  have e := rnd_mult (q := 256) (d := 65536) (by omega) (by omega)
  rw [show (256 : Int) * 65536 = 16777216 by omega] at e
  rw [rnd_neg, e] at b
  omega
end Go.Proofs.YtmadkpnkmkajoaaDoor

namespace Go.Proofs.YtmadkpnkmkajoaaDoor
open Go.RowKit

/-- the first n numbers of a grid of w columns, row by row -/
def gridK (w : Nat) (f : Nat → Nat → Int) (n : Nat) : List Int := (List.range n).map fun j => f (j % w) (j / w)
/-- a grid of w columns and h rows -/
def gridL (w h : Nat) (f : Nat → Nat → Int) : List Int := gridK w f (w * h)
section
variable {w h : Nat} {f : Nat → Nat → Int}
theorem gridK_len (w : Nat) (f : Nat → Nat → Int) (n : Nat) : (gridK w f n).length = n := by rw [gridK, List.length_map, List.length_range]
theorem gridL_len (w h : Nat) (f : Nat → Nat → Int) : (gridL w h f).length = w * h := gridK_len _ _ _
theorem gridK_get (w : Nat) (f : Nat → Nat → Int) {n j : Nat} (hj : j < n) : (gridK w f n).getD j 0 = f (j % w) (j / w) := by
  unfold gridK
  rw [List.getD_eq_getElem?_getD, List.getElem?_map, List.getElem?_range hj]
  rfl
theorem gridK_zero : gridK w f 0 = [] := rfl
theorem row_place {x : Nat} (hx : x < w) (y : Nat) : (y * w + x) % w = x ∧ (y * w + x) / w = y := by
  constructor
  · rw [Nat.add_comm, Nat.add_mul_mod_self_right, Nat.mod_eq_of_lt hx]
  · rw [Nat.add_comm, Nat.add_mul_div_right _ _ (by omega), Nat.div_eq_of_lt hx, Nat.zero_add]
theorem row_lt {x y : Nat} (hx : x < w) (hy : y < h) : y * w + x < w * h := by
  have := Nat.mul_le_mul_right w (show y + 1 ≤ h from hy)
  rw [Nat.add_mul, Nat.one_mul, Nat.mul_comm h w] at this
  omega
/-- one number more -/
theorem gridK_more {x : Nat} (hx : x < w) (y : Nat) : gridK w f (y * w + x) ++ [f x y] = gridK w f (y * w + (x + 1)) := by
  have e := row_place hx y
  conv => rhs; unfold gridK
  rw [← Nat.add_assoc, List.range_succ, List.map_append, List.map_cons, List.map_nil, e.1, e.2]
  rfl
theorem gridL_at {x y : Nat} (hx : x < w) (hy : y < h) : (gridL w h f).getD (y * w + x) 0 = f x y := by
  have e := row_place hx y
  unfold gridL
  rw [gridK_get _ _ (row_lt hx hy), e.1, e.2]
theorem grid_eq {l : List Int} (hl : l.length = w * h) (e : ∀ y, y < h → ∀ x, x < w → l.getD (y * w + x) 0 = f x y) : gridL w h f = l := by
  apply List.ext_getElem (by rw [gridL_len, hl])
  intro i h1 h2
  rw [gridL_len] at h1
  have hw : 0 < w := Nat.pos_of_mul_pos_right (Nat.lt_of_le_of_lt (Nat.zero_le i) h1)
  have a := e (i / w) (Nat.div_lt_of_lt_mul h1) (i % w) (Nat.mod_lt _ hw)
  have b := gridK_get w f (n := w * h) (j := i) h1
  rw [show i / w * w + i % w = i by rw [Nat.mul_comm]; exact Nat.div_add_mod i w] at a
  rw [← a] at b
  have c := b
  rw [List.getD_eq_getElem?_getD, List.getD_eq_getElem?_getD, List.getElem?_eq_getElem (by rw [gridK_len]; exact h1), List.getElem?_eq_getElem h2] at c
  exact c
theorem grid_congr {g : Nat → Nat → Int} (e : ∀ y, y < h → ∀ x, x < w → f x y = g x y) : gridL w h f = gridL w h g :=
  grid_eq (gridL_len _ _ _) fun y hy x hx => by rw [gridL_at hx hy, e y hy x hx]
theorem grid_all {P : Int → Prop} (e : ∀ y, y < h → ∀ x, x < w → P (f x y)) {j : Nat} (hj : j < w * h) : P ((gridL w h f).getD j 0) := by
  have hw : 0 < w := Nat.pos_of_mul_pos_right (Nat.lt_of_le_of_lt (Nat.zero_le j) hj)
  unfold gridL
  rw [gridK_get _ _ hj]
  exact e _ (Nat.div_lt_of_lt_mul hj) _ (Nat.mod_lt _ hw)
end
/-- a place held within n places -/
def clampN (x : Int) (n : Nat) : Nat := if x < 0 then 0 else if (n : Int) ≤ x then n - 1 else x.toNat
theorem clamp_lt (x : Int) {n : Nat} (h : 0 < n) : clampN x n < n := by
  unfold clampN
  split
  · exact h
  · split <;> omega
theorem clamp_in {x n : Nat} (h : x < n) : clampN (x : Int) n = x := by
  unfold clampN
  rw [if_neg (by omega), if_neg (by omega)]
  omega
theorem clamp_out {x n : Nat} (h : n ≤ x) : clampN (x : Int) n = n - 1 := by
  unfold clampN
  rw [if_neg (by omega), if_pos (by omega)]
theorem clamp_neg {x : Int} (h : x < 0) (n : Nat) : clampN x n = 0 := if_pos h
/-- a sample of a plane, beyond the edge too -/
def atL (p : List Int) (w h : Nat) (x y : Int) : Int := p.getD (clampN y h * w + clampN x w) 0
/-- a plane that may be -/
structure RightP (p : List Int) (w h : Nat) : Prop where
  w0 : 1 ≤ w
  w1 : w ≤ 128
  h0 : 1 ≤ h
  h1 : h ≤ 128
  len : p.length = w * h
  all : ∀ j, j < w * h → In8 (p.getD j 0)
section
variable {p : List Int} {w h : Nat}
theorem at_all {P : Int → Prop} (hw : 0 < w) (hh : 0 < h) (e : ∀ j, j < w * h → P (p.getD j 0)) (x y : Int) : P (atL p w h x y) := e _ (row_lt (clamp_lt x hw) (clamp_lt y hh))
theorem RightP.at (r : RightP p w h) (x y : Int) : In8 (atL p w h x y) := at_all r.w0 r.h0 r.all x y
theorem at_in {x y : Nat} (hx : x < w) (hy : y < h) : atL p w h x y = p.getD (y * w + x) 0 := by
  unfold atL
  rw [clamp_in hx, clamp_in hy]
end
/-- columns and rows of a plane -/
def cropL (p : List Int) (w0 h0 x y w h : Nat) : List Int := gridL w h fun i k => atL p w0 h0 ((x + i : Nat) : Int) ((y + k : Nat) : Int)
/-- a plane grown -/
def growL (p : List Int) (w0 h0 : Nat) (a d : Bool) (w h : Nat) : List Int := gridL w h fun x y => atL p w0 h0 ((if a then x / 2 else x : Nat) : Int) ((if d then y / 2 else y : Nat) : Int)
/-- half as many, rounded up -/
def halfN (a : Bool) (n : Nat) : Nat := if a then n / 2 + n % 2 else n
/-- a sample of a plane halved -/
def halfT (p : List Int) (w h : Nat) (a d : Bool) (x y : Nat) : Int :=
  match a, d with
  | false, false => rnd (atL p w h x y) 1
  | true, false => rnd (atL p w h ((2 * x : Nat) : Int) y + atL p w h ((2 * x + 1 : Nat) : Int) y) 2
  | false, true => rnd (atL p w h x ((2 * y : Nat) : Int) + atL p w h x ((2 * y + 1 : Nat) : Int)) 2
  | true, true => rnd (atL p w h ((2 * x : Nat) : Int) ((2 * y : Nat) : Int) + atL p w h ((2 * x + 1 : Nat) : Int) ((2 * y : Nat) : Int) + atL p w h ((2 * x : Nat) : Int) ((2 * y + 1 : Nat) : Int) + atL p w h ((2 * x + 1 : Nat) : Int) ((2 * y + 1 : Nat) : Int)) 4
def halveL (p : List Int) (w h : Nat) (a d : Bool) : List Int := gridL (halfN a w) (halfN d h) (halfT p w h a d)
theorem halfN_pos {a : Bool} {n : Nat} (h : 1 ≤ n) : 1 ≤ halfN a n := by unfold halfN; split <;> omega
theorem halfN_le (a : Bool) (n : Nat) : halfN a n ≤ n := by unfold halfN; split <;> omega
/-- means lie between -/
theorem mean1 {a lo hi : Int} (h0 : 0 ≤ lo) (h1 : hi ≤ 255) (a0 : lo ≤ a) (a1 : a ≤ hi) : lo ≤ rnd a 1 ∧ rnd a 1 ≤ hi := by
  rw [rnd_pos (by unfold Frac; omega) (by omega)]
  omega
theorem mean2 {s lo hi : Int} (h0 : 0 ≤ lo) (h1 : hi ≤ 255) (a0 : 2 * lo ≤ s) (a1 : s ≤ 2 * hi) : lo ≤ rnd s 2 ∧ rnd s 2 ≤ hi := by
  rw [rnd_pos (by unfold Frac; omega) (by omega)]
  omega
theorem mean4 {s lo hi : Int} (h0 : 0 ≤ lo) (h1 : hi ≤ 255) (a0 : 4 * lo ≤ s) (a1 : s ≤ 4 * hi) : lo ≤ rnd s 4 ∧ rnd s 4 ≤ hi := by
  rw [rnd_pos (by unfold Frac; omega) (by omega)]
  omega
theorem half_between {p : List Int} {w h : Nat} (hw : 0 < w) (hh : 0 < h) {lo hi : Int} (h0 : 0 ≤ lo) (h1 : hi ≤ 255) (e : ∀ j, j < w * h → lo ≤ p.getD j 0 ∧ p.getD j 0 ≤ hi) (a d : Bool) (x y : Nat) : lo ≤ halfT p w h a d x y ∧ halfT p w h a d x y ≤ hi := by
  have q := fun x y => at_all (P := fun z => lo ≤ z ∧ z ≤ hi) hw hh e x y
  cases a <;> cases d <;> unfold halfT <;> dsimp only
  · have := q x y
    exact mean1 h0 h1 this.1 this.2
  · have a1 := q x ((2 * y : Nat) : Int)
    have a2 := q x ((2 * y + 1 : Nat) : Int)
    exact mean2 h0 h1 (by omega) (by omega)
  · have a1 := q ((2 * x : Nat) : Int) y
    have a2 := q ((2 * x + 1 : Nat) : Int) y
    exact mean2 h0 h1 (by omega) (by omega)
  · have a1 := q ((2 * x : Nat) : Int) ((2 * y : Nat) : Int)
    have a2 := q ((2 * x + 1 : Nat) : Int) ((2 * y : Nat) : Int)
    have a3 := q ((2 * x : Nat) : Int) ((2 * y + 1 : Nat) : Int)
    have a4 := q ((2 * x + 1 : Nat) : Int) ((2 * y + 1 : Nat) : Int)
    exact mean4 h0 h1 (by omega) (by omega)
/-- halved samples lie between the least and the greatest -/
theorem halve_bounds {p : List Int} {w h : Nat} (r : RightP p w h) {lo hi : Int} (h0 : 0 ≤ lo) (h1 : hi ≤ 255) (e : ∀ j, j < w * h → lo ≤ p.getD j 0 ∧ p.getD j 0 ≤ hi) (a d : Bool) {j : Nat} (hj : j < halfN a w * halfN d h) : lo ≤ (halveL p w h a d).getD j 0 ∧ (halveL p w h a d).getD j 0 ≤ hi :=
  grid_all (P := fun z => lo ≤ z ∧ z ≤ hi) (fun y _ x _ => half_between r.w0 r.h0 h0 h1 e a d x y) hj
theorem halve_right {p : List Int} {w h : Nat} (r : RightP p w h) (a d : Bool) : RightP (halveL p w h a d) (halfN a w) (halfN d h) :=
  ⟨halfN_pos r.w0, Nat.le_trans (halfN_le a w) r.w1, halfN_pos r.h0, Nat.le_trans (halfN_le d h) r.h1, gridL_len _ _ _, fun _ hj => halve_bounds r (Int.le_refl 0) (Int.le_refl 255) (fun j hj => r.all j hj) a d hj⟩
theorem grow_right {p : List Int} {w h : Nat} (r : RightP p w h) (a d : Bool) {w' h' : Nat} (w0 : 1 ≤ w') (w1 : w' ≤ 128) (h0 : 1 ≤ h') (h1 : h' ≤ 128) : RightP (growL p w h a d w' h') w' h' :=
  ⟨w0, w1, h0, h1, gridL_len _ _ _, fun _ hj => grid_all (P := In8) (fun _ _ _ _ => r.at _ _) hj⟩
theorem crop_right {p : List Int} {w h : Nat} (r : RightP p w h) (x y : Nat) {w' h' : Nat} (w0 : 1 ≤ w') (w1 : w' ≤ 128) (h0 : 1 ≤ h') (h1 : h' ≤ 128) : RightP (cropL p w h x y w' h') w' h' :=
  ⟨w0, w1, h0, h1, gridL_len _ _ _, fun _ hj => grid_all (P := In8) (fun _ _ _ _ => r.at _ _) hj⟩
/-- twice as many, if so -/
def twiceN (a : Bool) (n : Nat) : Nat := if a then 2 * n else n
theorem half_twice (a : Bool) (n : Nat) : halfN a (twiceN a n) = n := by
  unfold halfN twiceN
  cases a
  · rfl
  · simp only [if_true]; omega
theorem rnd_one {z : Int} (h : In8 z) : rnd z 1 = z := by
  have := mean1 (a := z) h.1 h.2 (Int.le_refl z) (Int.le_refl z)
  omega
theorem rnd_two {z : Int} (h : In8 z) : rnd (z + z) 2 = z := by
  have := mean2 (s := z + z) h.1 h.2 (by omega) (by omega)
  omega
theorem rnd_four {z : Int} (h : In8 z) : rnd (z + z + z + z) 4 = z := by
  have := mean4 (s := z + z + z + z) h.1 h.2 (by omega) (by omega)
  omega
/-- what is grown to twice the size and halved is what it was -/
theorem halve_grow {p : List Int} {w h : Nat} (r : RightP p w h) (a d : Bool) : halveL (growL p w h a d (twiceN a w) (twiceN d h)) (twiceN a w) (twiceN d h) a d = p := by
  have hw := r.w0
  have hh := r.h0
  unfold halveL
  rw [half_twice, half_twice]
  refine grid_eq r.len fun y hy x hx => ?_
  obtain ⟨z, hz'⟩ : ∃ z, z = p.getD (y * w + x) 0 := ⟨_, rfl⟩
  have zin : In8 z := by rw [hz']; exact r.all _ (row_lt hx hy)
  have key : ∀ i k : Nat, i < twiceN a w → k < twiceN d h → (if a then i / 2 else i) = x → (if d then k / 2 else k) = y → atL (growL p w h a d (twiceN a w) (twiceN d h)) (twiceN a w) (twiceN d h) (i : Int) (k : Int) = z := by
    intro i k hi hk e1 e2
    rw [at_in hi hk]
    unfold growL
    rw [gridL_at hi hk, e1, e2, at_in hx hy, hz']
  rw [← hz']
  cases a <;> cases d <;> unfold halfT <;> dsimp only
  · rw [key x y hx hy rfl rfl, rnd_one zin]
  · rw [key x (2 * y) hx (by unfold twiceN; simp only [if_true]; omega) rfl (by simp only [if_true]; omega), key x (2 * y + 1) hx (by unfold twiceN; simp only [if_true]; omega) rfl (by simp only [if_true]; omega), rnd_two zin]
  · rw [key (2 * x) y (by unfold twiceN; simp only [if_true]; omega) hy (by simp only [if_true]; omega) rfl, key (2 * x + 1) y (by unfold twiceN; simp only [if_true]; omega) hy (by simp only [if_true]; omega) rfl, rnd_two zin]
  · have b0 : 2 * x < twiceN true w := by unfold twiceN; simp only [if_true]; omega
    have b1 : 2 * x + 1 < twiceN true w := by unfold twiceN; simp only [if_true]; omega
    have b2 : 2 * y < twiceN true h := by unfold twiceN; simp only [if_true]; omega
    have b3 : 2 * y + 1 < twiceN true h := by unfold twiceN; simp only [if_true]; omega
    rw [key _ _ b0 b2 (by simp only [if_true]; omega) (by simp only [if_true]; omega), key _ _ b1 b2 (by simp only [if_true]; omega) (by simp only [if_true]; omega),
      key _ _ b0 b3 (by simp only [if_true]; omega) (by simp only [if_true]; omega), key _ _ b1 b3 (by simp only [if_true]; omega) (by simp only [if_true]; omega), rnd_four zin]
/-- a plane of one sample -/
def flatP (n : Int) (w h : Nat) : List Int := gridL w h fun _ _ => n
theorem flat_right {n : Int} (hn : In8 n) {w h : Nat} (w0 : 1 ≤ w) (w1 : w ≤ 128) (h0 : 1 ≤ h) (h1 : h ≤ 128) : RightP (flatP n w h) w h :=
  ⟨w0, w1, h0, h1, gridL_len _ _ _, fun _ hj => grid_all (P := In8) (fun _ _ _ _ => hn) hj⟩
theorem at_flat (n : Int) {w h : Nat} (w0 : 0 < w) (h0 : 0 < h) (x y : Int) : atL (flatP n w h) w h x y = n :=
  at_all (P := fun z => z = n) w0 h0 (fun _ hj => grid_all (P := fun z => z = n) (fun _ _ _ _ => rfl) hj) x y
theorem halve_flat {n : Int} (hn : In8 n) {w h : Nat} (w0 : 1 ≤ w) (h0 : 1 ≤ h) (a d : Bool) {j : Nat} (hj : j < halfN a w * halfN d h) : (halveL (flatP n w h) w h a d).getD j 0 = n := by
  refine grid_all (P := fun z => z = n) (fun y _ x _ => ?_) hj
  have := half_between (p := flatP n w h) w0 h0 hn.1 hn.2 (fun _ hj => grid_all (P := fun z => n ≤ z ∧ z ≤ n) (fun _ _ _ _ => ⟨Int.le_refl n, Int.le_refl n⟩) hj) a d x y
  omega
theorem grow_flat (n : Int) {w h : Nat} (w0 : 1 ≤ w) (h0 : 1 ≤ h) (a d : Bool) (w' h' : Nat) {j : Nat} (hj : j < w' * h') : (growL (flatP n w h) w h a d w' h').getD j 0 = n :=
  grid_all (P := fun z => z = n) (fun _ _ _ _ => at_flat n w0 h0 _ _) hj
theorem crop_flat (n : Int) {w h : Nat} (w0 : 1 ≤ w) (h0 : 1 ≤ h) (x y w' h' : Nat) {j : Nat} (hj : j < w' * h') : (cropL (flatP n w h) w h x y w' h').getD j 0 = n :=
  grid_all (P := fun z => z = n) (fun _ _ _ _ => at_flat n w0 h0 _ _) hj

/-- how many blocks so many samples need -/
def nb (n : Nat) : Nat := (n + 7) / 8
theorem nb_pos {n : Nat} (h : 1 ≤ n) : 1 ≤ nb n := by unfold nb; omega
theorem nb_lt {x n : Nat} (h : x < n) : x / 8 < nb n := by unfold nb; omega
/-- a block of a plane -/
def cutB (p : List Int) (w h bx by' : Nat) : List Int := tab fun j => atL p w h ((8 * bx + j % 8 : Nat) : Int) ((8 * by' + j / 8 : Nat) : Int) - 128
theorem cutB_len (p : List Int) (w h bx by' : Nat) : (cutB p w h bx by').length = 64 := tab_len _
/-- the blocks of a plane, row by row: the first n -/
def cutK (p : List Int) (w h n : Nat) : List (List Int) := (List.range n).map fun j => cutB p w h (j % nb w) (j / nb w)
def cutL (p : List Int) (w h : Nat) : List (List Int) := cutK p w h (nb w * nb h)
theorem cutK_len (p : List Int) (w h n : Nat) : (cutK p w h n).length = n := by rw [cutK, List.length_map, List.length_range]
theorem cutK_get (p : List Int) (w h : Nat) {n j : Nat} (hj : j < n) : (cutK p w h n).getD j [] = cutB p w h (j % nb w) (j / nb w) := by
  unfold cutK
  rw [List.getD_eq_getElem?_getD, List.getElem?_map, List.getElem?_range hj]
  rfl
theorem cutK_more (p : List Int) (w h : Nat) {x : Nat} (hx : x < nb w) (y : Nat) : cutK p w h (y * nb w + x) ++ [cutB p w h x y] = cutK p w h (y * nb w + (x + 1)) := by
  have e := row_place hx y
  conv => rhs; unfold cutK
  rw [← Nat.add_assoc, List.range_succ, List.map_append, List.map_cons, List.map_nil, e.1, e.2]
  rfl
/-- a sample of blocks that are joined -/
def joinT (l : List (List Int)) (w x y : Nat) : Int := held ((l.getD (nb w * (y / 8) + x / 8) []).getD (8 * (y % 8) + x % 8) 0) (-128) 127 + 128
def joinL (l : List (List Int)) (w h : Nat) : List Int := gridL w h (joinT l w)
theorem held_127 (z : Int) : -128 ≤ held z (-128) 127 ∧ held z (-128) 127 ≤ 127 := by
  unfold held
  split
  · omega
  · split <;> omega
theorem join_cut8 (z : Int) : held z (-128) 127 + 128 = cut8 (z + 128) := by
  unfold cut8 held
  split
  · rw [if_pos (by omega)]; rfl
  · split
    · rw [if_neg (show ¬ z + 128 < 0 by omega), if_pos (by omega)]; rfl
    · rw [if_neg (show ¬ z + 128 < 0 by omega), if_neg (by omega)]
theorem join_right (l : List (List Int)) {w h : Nat} (w0 : 1 ≤ w) (w1 : w ≤ 128) (h0 : 1 ≤ h) (h1 : h ≤ 128) : RightP (joinL l w h) w h :=
  ⟨w0, w1, h0, h1, gridL_len _ _ _, fun _ hj => grid_all (P := In8) (fun y _ x _ => by
    have := held_127 ((l.getD (nb w * (y / 8) + x / 8) []).getD (8 * (y % 8) + x % 8) 0)
    unfold joinT In8
    omega) hj⟩
/-- what is cut and joined is what it was -/
theorem join_cut {p : List Int} {w h : Nat} (r : RightP p w h) : joinL (cutL p w h) w h = p := by
  refine grid_eq r.len fun y hy x hx => ?_
  have hw := r.w0
  have b1 := nb_lt hx
  have b2 := nb_lt hy
  have e := row_place b1 (y / 8)
  have z := r.all _ (row_lt hx hy)
  unfold joinT cutL
  rw [show nb w * (y / 8) + x / 8 = y / 8 * nb w + x / 8 by rw [Nat.mul_comm], cutK_get p w h (row_lt b1 b2), e.1, e.2]
  unfold cutB
  rw [tab_at _ (by omega), show 8 * (x / 8) + (8 * (y % 8) + x % 8) % 8 = x by omega, show 8 * (y / 8) + (8 * (y % 8) + x % 8) / 8 = y by omega, at_in hx hy]
  obtain ⟨q, hq⟩ : ∃ q, q = p.getD (y * w + x) 0 := ⟨_, rfl⟩
  rw [← hq] at z ⊢
  rw [join_cut8, show q - 128 + 128 = q by omega, cut8_same z]
end Go.Proofs.YtmadkpnkmkajoaaDoor

namespace Go.Proofs.YtmadkpnkmkajoaaDoor
open Go.RowKit

theorem Il.alloc {w : World} {A : Option Addr} {n c : Nat} {xs : List Int} (h : Il w A n c xs) (o : Obj) : Il (w.alloc o) A n c xs := h.on (on_alloc w o)
theorem Il.drew {w : World} {A : Option Addr} {n c : Nat} {xs : List Int} (h : Il w A n c xs) : Il w.drew A n c xs := h.on (on_drew w)
theorem Box.bel {B : Nat} {w w' : World} {g : Nat} {t : TypeId} {cs : Array Value} (h : Box w g t cs) (k : Below B w w') (hg : g < B) : Box w' g t cs := (k.block g hg).trans h
theorem Il.ia {w : World} {A : Option Addr} {n c : Nat} {xs : List Int} (h : Il w A n c xs) : Ia w A n c xs := ⟨h.len, h.cap, h.max, h.nil, h.at_⟩
theorem Ia.read {w : World} {ad : Addr} {n c : Nat} {l : List Int} (h : Ia w (some ad) n c l) : ∀ j u, (cellsI l)[j]? = some u → w.cell? (ad.add j) = some u := by
  intro j u hu
  have hj : j < l.length := by
    have := (List.getElem?_eq_some_iff.1 hu).1
    simpa [cellsI] using this
  have hl := h.len
  obtain ⟨b, off, e, _, hc⟩ := h.at_ (by omega)
  injection e with e
  subst e
  rw [plain_add, hc j (by omega)]
  simp only [cellsI, List.getElem?_map, List.getElem?_eq_getElem hj, Option.map_some, Option.some.injEq] at hu
  subst hu
  simp [List.getD_eq_getElem?_getD, List.getElem?_eq_getElem hj]
/-- what is appended to a row of one's own -/
theorem run_append_il (w : World) (ty : TypeId) (base : Nat) (v : Value) (n : Nat) (l : List Int) (hown : w.ownsRow base 3 1 v n (cellsI l)) (A : Option Addr) (m c : Nat) (r : List Int) (hr : Ia w A m c r) (h63 : n + m ≤ 1000000) (hbase : base ≤ w.heap.size) :
    ∃ v' w', (Builtin.append_ #[67, 67] ty #[v, .slice A m c]).run Tryd.prog w = .ok v' w' ∧ w'.ownsRow base 3 1 v' (n + m) (cellsI (l ++ r)) ∧ Below base w w' := by
  obtain ⟨i0, hi0, hz0, hz1, hz2⟩ := info_parts int_info
  cases A with
  | none =>
    obtain rfl : c = 0 := hr.nil rfl
    obtain rfl : m = 0 := by have := hr.cap; omega
    have hl : r = [] := List.eq_nil_of_length_eq_zero hr.len
    subst hl
    exact ⟨v, w, run_append_owned_none (P := Tryd.prog) (w := w) base 67 ty 3 i0 1 Tryd.underlying67 hi0 v n (cellsI l) hown, by simpa using hown, Below.refl _ _⟩
  | some ad =>
    obtain ⟨v', w', h0, h1, h2, _⟩ := run_append_own (P := Tryd.prog) w base 67 ty 3 i0 (.int .i64 0) 1 8 Tryd.underlying67 hi0 hz0 hz1 hz2 rfl (by omega) v n (cellsI l) hown ad m c (cellsI r) (by rw [cellsI_len, hr.len, Nat.mul_one]) hr.read (cellsI_one r) (by simp only [maxLen]; omega) (by omega) hbase
    have e : cellsI l ++ cellsI r = cellsI (l ++ r) := by simp [cellsI]
    rw [e] at h1
    exact ⟨v', w', h0, h1, (Below.refl base w).grown h2 hbase (fun j hj => (hown.lt j hj).1)⟩
theorem step_append_il {ops : Array Oper} {o : Oper} {a : Act} {w : World} {K : Act → World → Prop} {Q : Exit → Act → World → Prop} {E : Prop} (hgd : o.guard = none) (s x : Operand)
    (ho : o.op = .call { callee := .builtin .append, args := #[s, x], argTypes := #[67, 67] })
    (base : Nat) (v : Value) (n : Nat) (l : List Int) (hs : a.eval s = v) (hown : w.ownsRow base 3 1 v n (cellsI l))
    (A : Option Addr) (m c : Nat) (r : List Int) (hx : a.eval x = .slice A m c) (hr : Ia w A m c r) (h63 : n + m ≤ 1000000) (hbase : base ≤ w.heap.size) (d : Option Tmp) (hd : o.dst = d)
    (h : ∀ v' w', w'.ownsRow base 3 1 v' (n + m) (cellsI (l ++ r)) → Below base w w' → K (a.put d v') w') :
    if Region.wanted o (yielded ops a.tmps) = true then Oper.wp Tryd.prog o a w K Q else E := by
  have hw : Region.wanted o (yielded ops a.tmps) = true := by simp [Region.wanted, hgd]
  rw [if_pos hw]
  subst hd
  obtain ⟨v', w', h0, h1, h2⟩ := run_append_il w o.type base v n l hown A m c r hr h63 hbase
  unfold Oper.wp
  simp [execOp, ho, resolve, invoke, builtin, hs, hx, h0, Result.andThen]
  exact h v' w' h1 h2

/-- the numbers of a row of one's own, and that they may be written -/
theorem il_of_own2 {w : World} {base : Nat} {v : Value} {n : Nat} {l : List Int} (h : w.ownsRow base 3 1 v n (cellsI l)) : ∃ A c, v = .slice A n c ∧ Il w A n c l ∧ ∀ b off, A = some ⟨b, off, none⟩ → base ≤ b ∧ b < w.heap.size ∧ ∀ i, w.frozen? ⟨b, off + i, none⟩ = false := by
  obtain ⟨A, c, hv, hi, hlo⟩ := il_of_own h
  refine ⟨A, c, hv, hi, fun b off e => ⟨hlo b off e, ?_⟩⟩
  rcases h.2 with ⟨e0, _⟩ | ⟨g, cap, cur, e0, _, hh, _⟩
  · rw [hv] at e0
    cases e0
    cases e
  · rw [hv] at e0
    cases e0
    cases e
    exact ⟨(Array.getElem?_eq_some_iff.1 hh).1, fun i => by simp [World.frozen?, hh]⟩
theorem il_copy {w : World} {A : Option Addr} {n c : Nat} {l : List Int} (h : Il w A n c l) (h0 : 0 < (cellsI l).length) : ∃ ad, A = some ad ∧ ∀ j v, (cellsI l)[j]? = some v → w.cell? (ad.add j) = some v := by
  obtain ⟨b, off, e, _⟩ := h.at_ (by have := h.len; rw [cellsI_len] at h0; omega)
  subst e
  exact ⟨_, rfl, h.read⟩
theorem il_of_box {w : World} {b n : Nat} {l : List Int} (h : Box w b 3 (cellsI l).toArray) (hl : l.length = n) (hm : n ≤ maxLen) : Il w (some ⟨b, 0, none⟩) n n l := by
  refine ⟨hl, Nat.le_refl _, hm, (fun e => by cases e), (fun b off e => by cases e; exact ⟨_, _, h⟩), fun _ => ⟨b, 0, rfl, h.lt, fun i hi => ?_⟩⟩
  rw [Nat.zero_add, h.cell i]
  simp [cellsI, List.getD_eq_getElem?_getD, List.getElem?_eq_getElem (show i < l.length by omega)]
theorem Ia.get {w : World} {b off n c k : Nat} {V : List Int} (h : Ia w (some ⟨b, off, none⟩) n c V) (hk : k < n) : w.cell? ⟨b, off + k, none⟩ = some (.int .i64 (V.getD k 0)) := by
  obtain ⟨b', off', e, _, hc⟩ := h.at_ (by omega)
  cases e
  exact hc k hk
theorem il_of_row {W : World} {x : Addr} {len cap : Nat} {zs : List Int} (hl : len ≤ cap) (hm : cap ≤ maxLen) (hz : zs.length = cap) (h0 : 0 < len) (hcell : ∀ i, i < zs.length → W.cell? (x.add i) = some (.int .i64 (zs.getD i 0))) :
    Ia W (some x) len cap (zs.take len) := by
  obtain ⟨b, off, spot⟩ := x
  have h1 := hcell 0 (by omega)
  have hs : spot = none := by simpa [Addr.add] using World.cell?_spot h1
  subst hs
  refine ⟨by rw [List.length_take]; omega, hl, hm, (fun e => by cases e), fun _ => ⟨b, off, rfl, ?_, fun i hi => ?_⟩⟩
  · exact World.block_lt_of_cell? W ⟨b, off, none⟩ (by simpa [Addr.add] using h1)
  · have h2 := hcell i (by omega)
    rw [plain_add] at h2
    rw [h2]
    simp only [List.getD_eq_getElem?_getD]
    rw [List.getElem?_take_of_lt (by omega)]

theorem ia_nil (W : World) : Ia W none 0 0 [] := ⟨rfl, Nat.le_refl _, Nat.zero_le _, fun _ => rfl, fun h => absurd h (by omega)⟩
end Go.Proofs.YtmadkpnkmkajoaaDoor
