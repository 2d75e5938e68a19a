/-
  What the contracts say of memory (blocks that are known whole, worlds in which only named blocks have turned); rows of numbers of one's own. Blocks of 64 numbers in memory: read, built, written whole; the two tables of base steps. Rounding: mathematics, and the contracts of Round, the program's and the reference's. The contracts of hold and scale. Whether a block's numbers lie between two: the contracts of within, Right and check, and of the reference's In. The steps of a quality: mathematics, and the contract of Steps. Numbers told by steps, and what they are: mathematics, and the contracts of Down and Up, the program's. The contracts of Down and Up, the reference's.
-/
import Derived.Test.YtmadkpnkmkajoaaDoorP11A
import Derived.Test.YtmadkpnkmkajoaaDoorRows
import Derived.WalkKit
import Derived.WalkSpells
import Derived.WalkLawsBesides
import Derived.Lib.Hide
import Derived.Deep.Draws
import Derived.Deep.QuietTactic
import Derived.BigQuiet
import Derived.Deep.RegionWith
import Derived.Laws.AppendOwnNone
import Derived.Laws.CopyOwn
import Derived.Laws.BytesArg
import Derived.Deep.OwnRows
import Derived.Deep.MidRow
import Derived.Deep.RegionHeld3
import Derived.Laws.Rows
import Derived.Laws.StructEq
import Derived.ChangeKeysEq
namespace Go.Proofs.YtmadkpnkmkajoaaDoor
open Go.RowKit
set_option maxRecDepth 20000



section
variable {w w' : World} {g : Nat} {t : TypeId} {cs : Array Value}
end

section
variable {S S' : Nat → Prop} {a w w' : World}
end


end Go.Proofs.YtmadkpnkmkajoaaDoor

namespace Go.Proofs.YtmadkpnkmkajoaaDoor
open Go.RowKit
set_option maxRecDepth 20000

section
variable {w w' : World} {g : Nat} {b : List Int}
end
/-- a block's numbers are read -/
theorem index26 (w : World) {l : List Int} (hl : l.length = 64) {k : Nat} (hk : k < 64) : (Instr.index 29 (blkV l) (.int .i64 (k : Int))).run Tryd.prog w = .ok (.int .i64 (l.getD k 0)) w := by
  have hp : (part 3 (cellsI l).toArray k).run Tryd.prog w = .ok (.int .i64 (l.getD k 0)) w := run_part_plain w (by kernel_rfl) (by simpa using cellsI_get l k (by omega))
  simp [blkV, Instr.index, run_underlying Tryd.underlying29, asIntOf, hp, Result.andThen]
  intro h
  omega
theorem zeros_at8_ (k : Nat) : zeros64.getD k 0 = 0 := by
  unfold zeros64
  rw [List.getD_eq_getElem?_getD]
  by_cases h : k < 64
  · rw [List.getElem?_replicate_of_lt h]; rfl
  · rw [List.getElem?_eq_none (by simp; omega)]; rfl
theorem zero26 (w : World) : (zeroValue 29).run Tryd.prog w = .ok (blkV zeros64) w := by kernel_rfl
/-- a block is written whole -/
theorem wpList_store_blk8_ {ops : Array Oper} {rest : List Oper} {o : Oper} {a : Act} {w : World} {Q : Exit → Act → World → Prop} (hgd : o.guard = none) (x y : Operand) (ho : o.op = .store 29 x y) (hd : o.dst = none)
    (g : Nat) (b : List Int) (hx : a.eval x = .pointer (some ⟨g, 0, none⟩)) (hy : a.eval y = blkV b) (old : Array Value) (hg : Box w g 29 old) (hold : old.size = 64) (hb : b.length = 64)
    (h : ∀ w', Blk w' g b → Kept (fun i => i = g) w w' → wpList Tryd.prog ops Q rest a w') : wpList Tryd.prog ops Q (o :: rest) a w := by
  refine wpList_plain hgd fun _ hK => ?_
  refine wp_store_row 29 x y ho g (cellsI b).toArray hx hy 29 old hg (by rw [arr26_size]; simp [cellsI_len, hb]) (by rw [hold]; simp [cellsI_len, hb]) (all_oneCell_toArray (cellsI_one b)) ?_
  rw [hd]
  exact hK _ _ (h _ ⟨setRow_heap w g old _ 29 _ hg, hb⟩ ⟨rfl, rfl, rfl, by simp, fun k _ hk => setRow_other w g k _ hk⟩)
/-- two blocks of the same numbers are equal -/
theorem items26 (w : World) {B : List Int} (hB : B.length = 64) (d : Nat) : ∀ is : List Nat, (∀ i ∈ is, i < 64) → (Op.eqItems (d + 1) 3 1 (cellsI B).toArray (cellsI B).toArray is).run Tryd.prog w = .ok true w
  | [], _ => by simp [Op.eqItems]
  | i :: is, h => by
    have hp : (part 3 (cellsI B).toArray (i * 1)).run Tryd.prog w = .ok (.int .i64 (B.getD i 0)) w := run_part_plain w (by kernel_rfl) (by rw [Nat.mul_one]; simpa using cellsI_get B i (by have := h i (by simp); omega))
    have he := run_equalIn_int w d 3 .i64 .i64 (B.getD i 0) (B.getD i 0) Tryd.underlying3
    have ih := items26 w hB d is (fun j hj => h j (by simp [hj]))
    simp only [Op.eqItems, Sem.run_bind, hp, he, Result.andThen_ok, beq_self_eq_true]
    simp
    exact ih
theorem wpList_eql26_when {ops : Array Oper} {rest : List Oper} {op : Oper} {a : Act} {w : World} {Q : Exit → Act → World → Prop} (hw : Region.wanted op (yielded ops a.tmps) = true) (x y : Operand) (ho : op.op = .binOp .eql 29 x y 29)
    (B : List Int) (hB : B.length = 64) (hx : a.eval x = blkV B) (hy : a.eval y = blkV B)
    (hK : wpList Tryd.prog ops Q rest (a.put op.dst (.bool true)) w) : wpList Tryd.prog ops Q (op :: rest) a w :=
  wpList_step fun _ hQ => by
    have hg : Tryd.prog.eqGuardType Tryd.prog.depth 29 = false := by kernel_rfl
    rw [if_pos hw]
    unfold Oper.wp execOp
    unfold blkV at hx hy
    have he := blk_equal w hB
    unfold blkV at he
    simp only [ho, hx, hy, Sem.run_bind, run_eqGuard_agg w .eql 29 x y _ _ hg, run_eql_struct, he, Result.andThen_ok]
    exact hQ _ _ hK
/-- two equal blocks are not unlike: the operation may be taken first -/
theorem yieldsIf_neq26 {ops : Array Oper} {S : World → Prop} {op : Oper} {a : Act} (hw : Region.wanted op (yielded ops a.tmps) = true) (x y : Operand) (ho : op.op = .binOp .neq 29 x y 29)
    (B : List Int) (hB : B.length = 64) (hx : a.eval x = blkV B) (hy : a.eval y = blkV B) : YieldsIf Tryd.prog ops S op (.bool false) a :=
  .inl ⟨hw, fun w _ => by
    have hg : Tryd.prog.eqGuardType Tryd.prog.depth 29 = false := by kernel_rfl
    unfold execOp
    unfold blkV at hx hy
    have he := blk_equal w hB
    unfold blkV at he
    simp only [ho, hx, hy, Sem.run_bind, run_eqGuard_agg w .neq 29 x y _ _ hg, run_neq_struct, he, Result.andThen_ok]
    rfl⟩

/-- the base steps of luminance, and of chrominance -/
def brightL : List Int := [16, 11, 10, 16, 24, 40, 51, 61, 12, 12, 14, 19, 26, 58, 60, 55, 14, 13, 16, 24, 40, 57, 69, 56, 14, 17, 22, 29, 51, 87, 80, 62, 18, 22, 37, 56, 68, 109, 103, 77, 24, 35, 55, 64, 81, 104, 113, 92, 49, 64, 78, 87, 103, 121, 120, 101, 72, 92, 95, 98, 112, 100, 103, 99]
def colourL : List Int := [17, 18, 24, 47, 99, 99, 99, 99, 18, 21, 26, 66, 99, 99, 99, 99, 24, 26, 56, 99, 99, 99, 99, 99, 47, 66, 99, 99, 99, 99, 99, 99, 99, 99, 99, 99, 99, 99, 99, 99, 99, 99, 99, 99, 99, 99, 99, 99, 99, 99, 99, 99, 99, 99, 99, 99, 99, 99, 99, 99, 99, 99, 99, 99]
def baseL (c : Bool) : List Int := if c then colourL else brightL
theorem baseL_len (c : Bool) : (baseL c).length = 64 := by cases c <;> decide
theorem baseL_bounds (c : Bool) : ∀ k, k < 64 → 1 ≤ (baseL c).getD k 0 ∧ (baseL c).getD k 0 ≤ 121 := by cases c <;> decide
/-- the tables lie in the program's memory as its text lays them -/
structure Tab (w : World) : Prop where
  bright : w.rangeAt 0 0 (cellsI brightL)
  colour : w.rangeAt 1 0 (cellsI colourL)
theorem Tab.on {w w' : World} (h : Tab w) (k : Below w.heap.size w w') : Tab w' := ⟨range_on h.bright k (by decide), range_on h.colour k (by decide)⟩
theorem Tab.load0 {w : World} (h : Tab w) : (Instr.loadAt 28 (.pointer (some ⟨0, 0, none⟩))).run Tryd.prog w = .ok (blkV brightL) w :=
  run_loadAt_mid w 0 0 28 (cellsI brightL) _ h.bright Tryd.underlying28 rfl (by rw [arr25_size, cellsI_len]; rfl)
theorem Tab.load1 {w : World} (h : Tab w) : (Instr.loadAt 28 (.pointer (some ⟨1, 0, none⟩))).run Tryd.prog w = .ok (blkV colourL) w :=
  run_loadAt_mid w 1 0 28 (cellsI colourL) _ h.colour Tryd.underlying28 rfl (by rw [arr25_size, cellsI_len]; rfl)
end Go.Proofs.YtmadkpnkmkajoaaDoor

namespace Go.Proofs.YtmadkpnkmkajoaaDoor
open Go.RowKit
set_option maxRecDepth 20000

instance (n d : Int) : Decidable (Frac n d) := by unfold Frac; infer_instance
/-- what hold answers -/
def Heldd (w : World) (z lo hi : Int) (e : Ending) (w' : World) : Prop := e = .returned (.int .i64 (held z lo hi)) ∧ w = w'
set_option maxHeartbeats 800000 in
theorem hold_any8_ (w : World) (z lo hi : Int) (h : lo < hi) : Calls Tryd.prog 49 #[.int .i64 z, .int .i64 lo, .int .i64 hi] w (Heldd w z lo hi) := by
  have e : ∀ x, x = held z lo hi → Ending.returned (.int .i64 x) = Ending.returned (.int .i64 (held z lo hi)) := fun x hx => by rw [hx]
  have E := Lib.hid e
  clear e
  have ev : held z lo hi = if z < lo then lo else if hi < z then hi else z := rfl
  have EV := Lib.hid ev
  clear ev
  go_enter Tryd.func49, Tryd.ntmps49
  go_wp2_with fail
  all_goals
    go_ret
    refine ⟨E.out _ ?_, rfl⟩
    rw [EV.out]
    clear E EV
    by_cases a : z < lo <;> by_cases b : hi < z <;> simp_all <;> omega
/-- how many hundredths of the base steps -/
def scl (q : Int) : Int := if q < 50 then 5000 / q else 200 - 2 * q
/-- what scale answers -/
def Scaled (w : World) (q : Int) (e : Ending) (w' : World) : Prop := e = .returned (.int .i64 (scl q)) ∧ w = w'
set_option maxHeartbeats 800000 in
theorem scale_any (w : World) (q : Int) (h0 : 1 ≤ q) (h1 : q ≤ 100) : Calls Tryd.prog 48 #[.int .i64 q] w (Scaled w q) := by
  by_cases h : q < 50
  · have e : scl q = 5000 / q := if_pos h
    have E := Lib.hid e
    clear e
    go_enter Tryd.func48, Tryd.ntmps48
    go_wp2_with fail
    go_ret
    exact ⟨by rw [E.out]; rfl, rfl⟩
  · have e : scl q = 200 - 2 * q := if_neg h
    have E := Lib.hid e
    clear e
    go_enter Tryd.func48, Tryd.ntmps48
    go_wp2_with fail
    go_ret
    exact ⟨by rw [E.out]; rfl, rfl⟩
end Go.Proofs.YtmadkpnkmkajoaaDoor

namespace Go.Proofs.YtmadkpnkmkajoaaDoor
open Go.RowKit
set_option maxRecDepth 20000

/-- each number lies between two -/
def Wi (b : List Int) (lo hi : Int) : Prop := ∀ j, j < 64 → lo ≤ b.getD j 0 ∧ b.getD j 0 ≤ hi
instance (b : List Int) (lo hi : Int) : Decidable (Wi b lo hi) := by unfold Wi; infer_instance
/-- the first k do -/
def Wk8_ (b : List Int) (lo hi : Int) (k : Nat) : Prop := ∀ j, j < k → lo ≤ b.getD j 0 ∧ b.getD j 0 ≤ hi
theorem Wk8_.more {b : List Int} {lo hi : Int} {k : Nat} (h : Wk8_ b lo hi k) (h0 : lo ≤ b.getD k 0) (h1 : b.getD k 0 ≤ hi) : Wk8_ b lo hi (k + 1) := fun j hj => by
  by_cases e : j = k
  · rw [e]; exact ⟨h0, h1⟩
  · exact h j (by omega)
theorem not_wi {b : List Int} {lo hi : Int} {k : Nat} (hk : k < 64) (h : b.getD k 0 < lo ∨ hi < b.getD k 0) : decide (Wi b lo hi) = false := decide_eq_false_iff_not.2 fun hr => by have := hr k hk; omega
/-- what a call answers that asks whether they do -/
def Withd8_ (w : World) (b : List Int) (lo hi : Int) (e : Ending) (w' : World) : Prop := e = .returned (.bool (decide (Wi b lo hi))) ∧ Below w.heap.size w w'

set_option maxRecDepth 10000 in
set_option maxHeartbeats 800000 in
theorem within_any8_ (w : World) (b : List Int) (lo hi : Int) (hb : b.length = 64) : Calls Tryd.prog 115 #[blkV b, .int .i64 lo, .int .i64 hi] w (Withd8_ w b lo hi) := by
  obtain ⟨w1, hw1⟩ : ∃ w1, w1 = w.alloc (.cells (cellsI b).toArray 29) := ⟨_, rfl⟩
  have hB : Blk w1 w.heap.size b := by rw [hw1]; exact Blk.made _ _ hb
  have bel : Below w.heap.size w w1 := by rw [hw1]; exact on_alloc _ _
  have H := Lib.hid (And.intro hB (And.intro bel hw1))
  have HL := Lib.hid hB.load
  have HB := Lib.hid hb
  clear hB bel hw1 hb
  obtain ⟨v, hv⟩ : ∃ v, v = blkV b := ⟨_, rfl⟩
  rw [← hv] at HL ⊢
  obtain ⟨cs, hcs⟩ : ∃ cs, cs = (cellsI b).toArray := ⟨_, rfl⟩
  have hvc : v = .agg cs := by rw [hv, hcs]; rfl
  rw [hvc]
  have HV := Lib.hid (And.intro hv (And.intro hcs hvc))
  clear hv hcs hvc
  have HL2 := Lib.hid (show (Instr.loadAt 29 (.pointer (some ⟨w.heap.size, 0, none⟩))).run Tryd.prog (w.alloc (.cells cs 29)) = .ok v (w.alloc (.cells cs 29)) by rw [HV.out.2.1, ← H.out.2.2]; exact HL.out)
  go_enter Tryd.func115, Tryd.ntmps115
  go_wp2_with (first
    | (with_reducible refine wpList_load_to (op := ⟨some 9, _, _, _, _, _⟩) rfl 29 (.tmp 3) rfl (.pointer (some ⟨w.heap.size, 0, none⟩)) rfl v HL2.out ?_)
    | fail)

  rw [HV.out.2.1, ← H.out.2.2]

  go_loopw [10] (fun i wr => ∃ k : Nat, k ≤ 64 ∧ i = .int .i64 k ∧ Wk8_ b lo hi k ∧ w1 = wr) (fun i _ => 64 - (intOf i).toNat)
  case atStart => exact ⟨0, by omega, rfl, fun j hj => absurd hj (by omega), rfl⟩
  case round =>
    obtain ⟨k, hk, rfl, hR, rfl⟩ := hrel
    have HR := Lib.hid hR
    clear hR
    by_cases hlt : k < 64
    · have hidx := fun w => index26 w HB.out hlt
      rw [← HV.out.1] at hidx
      have hlt' := not_wi (b := b) (lo := lo) (hi := hi) hlt
      obtain ⟨z, hz⟩ : ∃ z, z = b.getD k 0 := ⟨_, rfl⟩
      rw [← hz] at hidx hlt'
      have HZ := Lib.hid (And.intro hz hlt')
      clear hz hlt'
      by_cases h0 : z < lo
      · go_wp2_with fail
        go_ret
        exact ⟨by rw [HZ.out.2 (.inl h0)]; rfl, H.out.2.1⟩
      · by_cases h1 : hi < z
        · go_wp2_with fail
          go_ret
          exact ⟨by rw [HZ.out.2 (.inr h1)]; rfl, H.out.2.1⟩
        · go_wp2_with fail
          go_roundw
          case rel => exact ⟨k + 1, by omega, by go_num, HR.out.more (by rw [← HZ.out.1]; omega) (by rw [← HZ.out.1]; omega), trivial⟩
          case measure => simp [intOf]; omega
    · obtain rfl : k = 64 := by omega
      go_wp2
      go_ret
      exact ⟨by rw [decide_eq_true (show Wi b lo hi from HR.out)]; rfl, H.out.2.1⟩

set_option maxRecDepth 10000 in
set_option maxHeartbeats 800000 in
theorem refIn_any8_ (w : World) (b : List Int) (lo hi : Int) (hb : b.length = 64) : Calls Tryd.prog 72 #[blkV b, .int .i64 lo, .int .i64 hi] w (Withd8_ w b lo hi) := by
  obtain ⟨w1, hw1⟩ : ∃ w1, w1 = w.alloc (.cells (cellsI b).toArray 29) := ⟨_, rfl⟩
  have hB : Blk w1 w.heap.size b := by rw [hw1]; exact Blk.made _ _ hb
  have bel : Below w.heap.size w w1 := by rw [hw1]; exact on_alloc _ _
  have H := Lib.hid (And.intro hB (And.intro bel hw1))
  clear hB bel hw1 hb
  obtain ⟨cs, hcs⟩ : ∃ cs, cs = (cellsI b).toArray := ⟨_, rfl⟩
  have hvc : blkV b = .agg cs := by rw [hcs]; rfl
  rw [hvc]
  have HV := Lib.hid hcs
  clear hcs hvc
  go_enter Tryd.func72, Tryd.ntmps72
  go_wp2_with fail
  rw [HV.out, ← H.out.2.2]
  go_loopw [7] (fun i wr => ∃ k : Nat, k ≤ 64 ∧ i = .int .i64 k ∧ Wk8_ b lo hi k ∧ w1 = wr) (fun i _ => 64 - (intOf i).toNat)
  case atStart => exact ⟨0, by omega, rfl, fun j hj => absurd hj (by omega), rfl⟩
  case round =>
    obtain ⟨k, hk, rfl, hR, rfl⟩ := hrel
    have HR := Lib.hid hR
    clear hR
    by_cases hlt : k < 64
    · have hc := H.out.1.cell hlt
      have hlt' := not_wi (b := b) (lo := lo) (hi := hi) hlt
      obtain ⟨z, hz⟩ : ∃ z, z = b.getD k 0 := ⟨_, rfl⟩
      rw [← hz] at hc hlt'
      have HZ := Lib.hid (And.intro hz hlt')
      clear hz hlt'
      by_cases h0 : z < lo
      · go_wp2_with fail
        go_ret
        exact ⟨by rw [HZ.out.2 (.inl h0)]; rfl, H.out.2.1⟩
      · by_cases h1 : hi < z
        · go_wp2_with fail
          go_ret
          exact ⟨by rw [HZ.out.2 (.inr h1)]; rfl, H.out.2.1⟩
        · go_wp2_with fail
          go_roundw
          case rel => exact ⟨k + 1, by omega, by go_num, HR.out.more (by rw [← HZ.out.1]; omega) (by rw [← HZ.out.1]; omega), trivial⟩
          case measure => simp [intOf]; omega
    · obtain rfl : k = 64 := by omega
      go_wp2
      go_ret
      exact ⟨by rw [decide_eq_true (show Wi b lo hi from HR.out)]; rfl, H.out.2.1⟩

set_option maxRecDepth 10000 in
set_option maxHeartbeats 800000 in
theorem right_any8_ (w : World) (b : List Int) (hb : b.length = 64) : Calls Tryd.prog 114 #[blkV b] w (Withd8_ w b 1 255) := by
  obtain ⟨w1, hw1⟩ : ∃ w1, w1 = w.alloc (.cells (cellsI b).toArray 29) := ⟨_, rfl⟩
  have hB : Blk w1 w.heap.size b := by rw [hw1]; exact Blk.made _ _ hb
  have bel : Below w.heap.size w w1 := by rw [hw1]; exact on_alloc _ _
  have HL := Lib.hid hB.load
  have HC := Lib.hid (within_any8_ w1 b 1 255 hb)
  obtain ⟨v, hv⟩ : ∃ v, v = blkV b := ⟨_, rfl⟩
  rw [← hv] at HL HC ⊢
  obtain ⟨cs, hcs⟩ : ∃ cs, cs = (cellsI b).toArray := ⟨_, rfl⟩
  rw [← hcs] at hw1
  have hvc : v = .agg cs := by rw [hv, hcs]; rfl
  rw [hvc]
  rw [hvc, hw1] at HC
  rw [hw1] at HL bel
  have HB := Lib.hid (And.intro bel hvc)
  clear hv hcs hB hw1 bel hvc hb
  go_enter Tryd.func114, Tryd.ntmps114
  go_wp2_with (first
    | (with_reducible refine wpList_load_to (op := ⟨some 3, _, _, _, _, _⟩) rfl 29 (.tmp 1) rfl (.pointer (some ⟨w.heap.size, 0, none⟩)) rfl v HL.out ?_)
    | fail)
  rw [HB.out.2]
  refine HC.out.mono ?_
  rintro e w2 ⟨rfl, b2⟩
  have H2 := Lib.hid (on_trans HB.out.1 b2)
  clear b2
  go_wp2
  go_ret
  exact ⟨rfl, H2.out⟩

/-- two blocks that are boxed, one behind the other -/
structure Two (w w2 : World) (cs cu : Array Value) (b s : List Int) : Prop where
  b1 : Blk w2 w.heap.size b
  b2 : Blk w2 (w.heap.size + 1) s
  bel : Below w.heap.size w w2
  l1 : (Instr.loadAt 29 (.pointer (some ⟨w.heap.size, 0, none⟩))).run Tryd.prog ((w.alloc (.cells cs 29)).alloc (.cells cu 29)) = .ok (blkV b) ((w.alloc (.cells cs 29)).alloc (.cells cu 29))
  l2 : (Instr.loadAt 29 (.pointer (some ⟨w.heap.size + 1, 0, none⟩))).run Tryd.prog ((w.alloc (.cells cs 29)).alloc (.cells cu 29)) = .ok (blkV s) ((w.alloc (.cells cs 29)).alloc (.cells cu 29))
  e : (w.alloc (.cells cs 29)).alloc (.cells cu 29) = w2
  size : w2.heap.size = w.heap.size + 2
theorem two_boxed (w : World) (b s : List Int) (hb : b.length = 64) (hs : s.length = 64) : ∃ cs cu w2, blkV b = .agg cs ∧ blkV s = .agg cu ∧ Two w w2 cs cu b s := by
  have hB : Blk (w.alloc (.cells (cellsI b).toArray 29)) w.heap.size b := Blk.made _ _ hb
  have hz : (w.alloc (.cells (cellsI b).toArray 29)).heap.size = w.heap.size + 1 := by simp
  have hS : Blk ((w.alloc (.cells (cellsI b).toArray 29)).alloc (.cells (cellsI s).toArray 29)) (w.heap.size + 1) s := by rw [← hz]; exact Blk.made _ _ hs
  have hB2 := hB.on (on_alloc (w.alloc (.cells (cellsI b).toArray 29)) (.cells (cellsI s).toArray 29))
  refine ⟨_, _, _, rfl, rfl, ⟨hB2, hS, on_trans (on_alloc _ _) (on_alloc _ _), hB2.load, hS.load, rfl, by simp⟩⟩

/-- what check answers: why a block can't be taken by steps -/
def checkF (b s : List Int) (most : Int) : Int := if Wi s 1 255 then (if Wi b (-most) most then 0 else 2) else 1
def Checkd (w : World) (b s : List Int) (most : Int) (e : Ending) (w' : World) : Prop := e = .returned (.int .i64 (checkF b s most)) ∧ Below w.heap.size w w'
set_option maxRecDepth 10000 in
set_option maxHeartbeats 800000 in
theorem check_any (w : World) (b s : List Int) (most : Int) (hb : b.length = 64) (hs : s.length = 64) (h0 : 0 ≤ most) (h1 : most ≤ 16777216) : Calls Tryd.prog 90 #[blkV b, blkV s, .int .i64 most] w (Checkd w b s most) := by
  obtain ⟨cs, cu, w2, hbv, hsv, hT⟩ := two_boxed w b s hb hs
  have H := Lib.hid hT
  have HC := Lib.hid (right_any8_ w2 s hs)
  have HN := Lib.hid (And.intro hb hs)
  rw [hbv, hsv]
  clear hbv hsv hT hb hs
  by_cases hr : Wi s 1 255
  · have hd : decide (Wi s 1 255) = true := decide_eq_true hr
    have HD := Lib.hid (And.intro hd hr)
    clear hd hr
    go_enter Tryd.func90, Tryd.ntmps90
    go_wp2_with (first
      | (with_reducible refine wpList_load_to (op := ⟨some 7, _, _, _, _, _⟩) rfl 29 (.tmp 4) rfl (.pointer (some ⟨w.heap.size + 1, 0, none⟩)) rfl (blkV s) H.out.l2 ?_)
      | fail)
    rw [H.out.e]
    refine HC.out.mono ?_
    rintro e w3 ⟨rfl, b3⟩
    rw [HD.out.1]
    have H3 := Lib.hid (And.intro (H.out.b1.on b3) (on_trans H.out.bel b3))
    clear b3
    go_wp2_with (first
      | (with_reducible refine wpList_load_to (op := ⟨some 10, _, _, _, _, _⟩) rfl 29 (.tmp 3) rfl (.pointer (some ⟨w.heap.size, 0, none⟩)) rfl (blkV b) H3.out.1.load ?_)
      | fail)
    refine (within_any8_ w3 b (-most) most HN.out.1).mono ?_
    rintro e w4 ⟨rfl, b4⟩
    have H4 := Lib.hid (on_trans H3.out.2 b4)
    clear b4
    by_cases hw : Wi b (-most) most
    · have E : checkF b s most = 0 := by unfold checkF; rw [if_pos HD.out.2, if_pos hw]
      rw [decide_eq_true hw]
      have E := Lib.hid E
      clear hw
      go_wp2
      go_ret
      exact ⟨by rw [E.out]; rfl, H4.out⟩
    · have E : checkF b s most = 2 := by unfold checkF; rw [if_pos HD.out.2, if_neg hw]
      rw [decide_eq_false hw]
      have E := Lib.hid E
      clear hw
      go_wp2
      go_ret
      exact ⟨by rw [E.out]; rfl, H4.out⟩
  · have E : checkF b s most = 1 := by unfold checkF; rw [if_neg hr]
    have hd : decide (Wi s 1 255) = false := decide_eq_false hr
    have HD := Lib.hid (And.intro hd E)
    clear hd hr E
    go_enter Tryd.func90, Tryd.ntmps90
    go_wp2_with (first
      | (with_reducible refine wpList_load_to (op := ⟨some 7, _, _, _, _, _⟩) rfl 29 (.tmp 4) rfl (.pointer (some ⟨w.heap.size + 1, 0, none⟩)) rfl (blkV s) H.out.l2 ?_)
      | fail)
    rw [H.out.e]
    refine HC.out.mono ?_
    rintro e w3 ⟨rfl, b3⟩
    rw [HD.out.1]
    have H3 := Lib.hid (on_trans H.out.bel b3)
    clear b3
    go_wp2
    go_ret
    exact ⟨by rw [HD.out.2]; rfl, H3.out⟩
end Go.Proofs.YtmadkpnkmkajoaaDoor

namespace Go.Proofs.YtmadkpnkmkajoaaDoor
open Go.RowKit
set_option maxRecDepth 20000

section
variable {x y : List Int} {k : Nat}
end

/-- a step of a quality -/
def stepOf (b q : Int) : Int := held ((b * scl q + 50) / 100) 1 255
/-- the steps of a quality -/
def stepsL (c : Bool) (q : Int) : List Int := (baseL c).map fun b => stepOf b q
/-- what Steps tells -/
def stepsF (c : Bool) (q : Int) : List Int × Int := if 1 ≤ q ∧ q ≤ 100 then (stepsL c q, 0) else (zeros64, 2)
theorem stepsL_len (c : Bool) (q : Int) : (stepsL c q).length = 64 := by unfold stepsL; rw [List.length_map, baseL_len]
theorem stepsL_at (c : Bool) (q : Int) {k : Nat} (hk : k < 64) : (stepsL c q).getD k 0 = stepOf ((baseL c).getD k 0) q := by
  have h := baseL_len c
  unfold stepsL
  rw [List.getD_eq_getElem?_getD, List.getElem?_map, List.getD_eq_getElem?_getD, List.getElem?_eq_getElem (by omega)]
  rfl
theorem stepsF_len (c : Bool) (q : Int) : (stepsF c q).1.length = 64 := by
  unfold stepsF
  split
  · exact stepsL_len c q
  · exact zeros_len
theorem scl_bounds {q : Int} (h0 : 1 ≤ q) (h1 : q ≤ 100) : 0 ≤ scl q ∧ scl q ≤ 5000 := by
  unfold scl
  split
  · exact ⟨Int.ediv_nonneg (by omega) (by omega), Int.ediv_le_self _ (by omega)⟩
  · omega
theorem prod_bounds {b p : Int} (h0 : 1 ≤ b) (h1 : b ≤ 121) (h2 : 0 ≤ p) (h3 : p ≤ 5000) : 0 ≤ b * p ∧ b * p ≤ 605000 :=
  ⟨Int.mul_nonneg (by omega) h2, Int.le_trans (Int.mul_le_mul h1 h3 h2 (by omega)) (by omega)⟩

/-- what a call tells that tells a block and an error -/
def Tells8_ (w : World) (R : List Int × Int) (e : Ending) (w' : World) : Prop := e = .returned (.tuple #[blkV R.1, .int .i64 R.2]) ∧ Below w.heap.size w w'
/-- two blocks of one's own: the answer's, and the one that is worked on -/
structure Mine (w wr : World) (b : List Int) : Prop where
  ans : Blk wr w.heap.size zeros64
  blk : Blk wr (w.heap.size + 1) b
  bel : Below w.heap.size w wr
section
variable {w wr w' : World} {b : List Int}
theorem Mine.on (h : Mine w wr b) (k : Below wr.heap.size wr w') : Mine w w' b := ⟨h.ans.on k, h.blk.on k, h.bel.trans (k.mono h.bel.size)⟩
theorem Mine.put (h : Mine w wr b) (k : Nat) (z : Int) : Mine w (wr.setCell ⟨w.heap.size + 1, k, none⟩ (.int .i64 z)) (b.set k z) :=
  ⟨⟨h.ans.box.beside (by show w.heap.size ≠ w.heap.size + 1; omega) _, zeros_len⟩, h.blk.put k z, (((Kept.of_below h.bel (fun i => i = w.heap.size + 1)).setCell (p := ⟨w.heap.size + 1, k, none⟩) (fun _ => rfl) _)).below (Nat.le_refl _) (fun i hi e => by omega)⟩
theorem Mine.all (h : Mine w wr b) {c : List Int} (hc : Blk w' (w.heap.size + 1) c) (k : Kept (fun i => i = w.heap.size + 1) wr w') : Mine w w' c :=
  ⟨h.ans.kept k (by omega), hc, h.bel.trans (k.below h.bel.size (fun i hi e => by omega))⟩
theorem Mine.done (h : Mine w wr b) {c : List Int} (hc : Blk w' w.heap.size c) (k : Kept (fun i => i = w.heap.size) wr w') : Below w.heap.size w w' ∧ Blk w' w.heap.size c :=
  ⟨h.bel.trans (k.below h.bel.size (fun i hi e => by omega)), hc⟩
end

set_option maxRecDepth 10000 in
set_option maxHeartbeats 1600000 in
theorem steps_out (w : World) (c : Bool) (q : Int) (hq : q < 1 ∨ 100 < q) : Calls Tryd.prog 26 #[.bool c, .int .i64 q] w (Tells8_ w (stepsF c q)) := by
  have hF : stepsF c q = (zeros64, 2) := by unfold stepsF; rw [if_neg (by omega)]
  rw [hF]
  clear hF
  obtain ⟨Z, hZ⟩ : ∃ Z, Z = (cellsI zeros64).toArray := ⟨_, rfl⟩
  have hz : ∀ w, (zeroValue 29).run Tryd.prog w = .ok (.agg Z) w := fun w => by rw [hZ]; exact zero26 w
  have hbd : ∀ w, (Instr.build 29 #[]).run Tryd.prog w = .ok (.agg Z) w := fun w => by rw [hZ]; exact build0 w
  have hZV : Value.agg Z = blkV zeros64 := by rw [hZ]; rfl
  have HB := Lib.hid (And.intro (Box.made w 29 Z) (And.intro (show Z.size = 64 by rw [hZ]; rfl) hZV))
  clear hZ hZV
  rcases hq with h | h
  all_goals
    go_enter Tryd.func26, Tryd.ntmps26
    go_wp2_with (first
      | ((with_reducible refine wpList_store_blk8_ (o := ⟨none, _, _, _, _, _⟩) rfl (.tmp 4) (.tmp 16) rfl rfl w.heap.size zeros64 rfl ?hy Z HB.out.1 HB.out.2.1 zeros_len ?_)
         case hy => exact HB.out.2.2
         intro w4 b4 k4
         have H4 := Lib.hid (And.intro b4 k4)
         clear b4 k4)
      | fail)
    all_goals
      refine bodyPost_ret (v := .tuple #[blkV zeros64, .int .i64 2]) (results_ct (fn := Tryd.f26) Tryd.results26 _ _ w.heap.size _ _ rfl rfl (loadVar_blk H4.out.1)) rfl ?_
      exact ⟨rfl, (on_alloc w (.cells Z 29)).trans (H4.out.2.below (by simp) (fun i hi e => by omega))⟩

set_option maxRecDepth 10000 in
set_option maxHeartbeats 3200000 in
theorem steps_in (w : World) (c : Bool) (q : Int) (hT : Tab w) (h0 : 1 ≤ q) (h1 : q ≤ 100) : Calls Tryd.prog 26 #[.bool c, .int .i64 q] w (Tells8_ w (stepsF c q)) := by
  have hF : stepsF c q = (stepsL c q, 0) := by unfold stepsF; rw [if_pos ⟨h0, h1⟩]
  rw [hF]
  clear hF
  obtain ⟨Z, hZ⟩ : ∃ Z, Z = (cellsI zeros64).toArray := ⟨_, rfl⟩
  have hz : ∀ w, (zeroValue 29).run Tryd.prog w = .ok (.agg Z) w := fun w => by rw [hZ]; exact zero26 w
  have hA : Blk (w.alloc (.cells Z 29)) w.heap.size zeros64 := by rw [hZ]; exact Blk.made _ _ zeros_len
  have hB : Box ((w.alloc (.cells Z 29)).alloc (.cells Z 29)) (w.heap.size + 1) 29 Z := by
    have := Box.made (w.alloc (.cells Z 29)) 29 Z
    rw [show (w.alloc (.cells Z 29)).heap.size = w.heap.size + 1 by simp] at this
    exact this
  have hZs : Z.size = 64 := by rw [hZ]; rfl
  have hT1 := hT.on (on_alloc w (.cells Z 29))
  have HA := Lib.hid (And.intro (hA.on (on_alloc _ (.cells Z 29))) (And.intro hB (And.intro hZs (And.intro hT1 (on_trans (on_alloc w (.cells Z 29)) (on_alloc _ (.cells Z 29)))))))
  have HT := Lib.hid hT
  have hsc := scl_bounds h0 h1
  obtain ⟨p, hp⟩ : ∃ p, p = scl q := ⟨_, rfl⟩
  have HP := Lib.hid (And.intro hp hsc)
  clear hZ hA hB hZs hT1 hT hp hsc
  cases c
  · go_enter Tryd.func26, Tryd.ntmps26
    go_wp2_with (first
      | (with_reducible refine wpList_load_to (op := ⟨some 17, _, _, _, _, _⟩) rfl 28 (.global 0) rfl (.pointer (some ⟨0, 0, none⟩)) rfl (blkV brightL) HA.out.2.2.2.1.load0 ?_)
      | ((with_reducible refine wpList_store_blk8_ (o := ⟨none, _, _, _, _, _⟩) rfl (.tmp 6) (.tmp 17) rfl rfl (w.heap.size + 1) brightL rfl rfl Z HA.out.2.1 HA.out.2.2.1 rfl ?_)
         intro w4 b4 k4
         have HM := Lib.hid (show Mine w w4 brightL from ⟨HA.out.1.kept k4 (by omega), b4, HA.out.2.2.2.2.trans (k4.below (by simp; omega) (fun i hi e => by omega))⟩)
         clear b4 k4)
      | fail)
    refine (scale_any w4 q h0 h1).mono ?_
    rintro e w6 ⟨rfl, rfl⟩
    rw [← HP.out.1]
    go_wp2_with (first
      | (with_reducible refine wpList_load_to (op := ⟨some 22, _, _, _, _, _⟩) rfl 29 (.tmp 6) rfl (.pointer (some ⟨w.heap.size + 1, 0, none⟩)) rfl (blkV brightL) HM.out.blk.load ?_)
      | fail)
    go_loopw [23] (fun i wr => ∃ k : Nat, k ≤ 64 ∧ i = .int .i64 k ∧ Mine w wr (mix k (stepsL false q) brightL)) (fun i _ => 64 - (intOf i).toNat)
    case atStart => exact ⟨0, by omega, rfl, by rw [mix_zero]; exact HM.out⟩
    case round =>
      obtain ⟨k, hk, rfl, hR⟩ := hrel
      have HR := Lib.hid hR
      clear hR
      by_cases hlt : k < 64
      · have hidx := fun w => index26 w (show brightL.length = 64 from rfl) hlt
        have hbb := baseL_bounds false k hlt
        have hst := stepsL_at false q hlt
        have hfr := HR.out.blk.free k
        have hcell := HR.out.blk.cell hlt
        obtain ⟨y, hy⟩ : ∃ y, y = (mix k (stepsL false q) brightL).getD k 0 := ⟨_, rfl⟩
        rw [← hy] at hcell
        clear hy
        rw [show baseL false = brightL from rfl] at hbb hst
        obtain ⟨b, hb⟩ : ∃ b, b = brightL.getD k 0 := ⟨_, rfl⟩
        rw [← hb] at hidx hbb hst
        have hm := prod_bounds hbb.1 hbb.2 HP.out.2.1 HP.out.2.2
        rw [← HP.out.1] at hm
        unfold stepOf at hst
        rw [← HP.out.1] at hst
        obtain ⟨m, hm'⟩ : ∃ m, m = b * p := ⟨_, rfl⟩
        rw [← hm'] at hst hm
        have hbp := hm'.symm
        obtain ⟨z, hz'⟩ : ∃ z, z = held ((m + 50) / 100) 1 255 := ⟨_, rfl⟩
        rw [← hz'] at hst
        have HS := Lib.hid (And.intro hst hz')
        obtain ⟨hm0, hm1⟩ := hm
        clear hst hb hm' hz' hbb
        go_wp2_with fail
        refine (hold_any8_ wr ((m + 50) / 100) 1 255 (by omega)).mono ?_
        rintro e w7 ⟨rfl, rfl⟩
        rw [← HS.out.2]
        go_wp2_with fail
        go_roundw
        case rel =>
          refine ⟨k + 1, by omega, by go_num, ?_⟩
          rw [← mix_more (stepsL_len _ _) rfl hlt, HS.out.1]
          exact HR.out.put k z
        case measure => simp [intOf]; omega
      · obtain rfl : k = 64 := by omega
        have hR := HR.out
        rw [mix_all (stepsL_len _ _) rfl] at hR
        have HR := Lib.hid hR
        clear hR
        go_wp2_with (first
          | (with_reducible refine wpList_load_to (op := ⟨some 36, _, _, _, _, _⟩) rfl 29 (.tmp 6) rfl (.pointer (some ⟨w.heap.size + 1, 0, none⟩)) rfl (blkV (stepsL false q)) HR.out.blk.load ?_)
          | ((with_reducible refine wpList_store_blk8_ (o := ⟨none, _, _, _, _, _⟩) rfl (.tmp 4) (.tmp 36) rfl rfl w.heap.size (stepsL false q) rfl rfl _ HR.out.ans.box rfl (stepsL_len _ _) ?_)
             intro w9 b9 k9
             have H9 := Lib.hid (HR.out.done b9 k9)
             clear b9 k9)
          | fail)
        refine bodyPost_ret (v := .tuple #[blkV (stepsL false q), .int .i64 0]) (results_ct (fn := Tryd.f26) Tryd.results26 _ _ w.heap.size _ _ rfl rfl (loadVar_blk H9.out.2)) rfl ?_
        exact ⟨rfl, H9.out.1⟩
  · go_enter Tryd.func26, Tryd.ntmps26
    go_wp2_with (first
      | (with_reducible refine wpList_load_to (op := ⟨some 17, _, _, _, _, _⟩) rfl 28 (.global 0) rfl (.pointer (some ⟨0, 0, none⟩)) rfl (blkV brightL) HA.out.2.2.2.1.load0 ?_)
      | ((with_reducible refine wpList_store_blk8_ (o := ⟨none, _, _, _, _, _⟩) rfl (.tmp 6) (.tmp 17) rfl rfl (w.heap.size + 1) brightL rfl rfl Z HA.out.2.1 HA.out.2.2.1 rfl ?_)
         intro w4 b4 k4
         have HM4 := Lib.hid (show Mine w w4 brightL from ⟨HA.out.1.kept k4 (by omega), b4, HA.out.2.2.2.2.trans (k4.below (by simp; omega) (fun i hi e => by omega))⟩)
         have HT4 := Lib.hid (HT.out.on HM4.out.bel)
         clear b4 k4)
      | (with_reducible refine wpList_load_to (op := ⟨some 19, _, _, _, _, _⟩) rfl 28 (.global 1) rfl (.pointer (some ⟨1, 0, none⟩)) rfl (blkV colourL) HT4.out.load1 ?_)
      | ((with_reducible refine wpList_store_blk8_ (o := ⟨none, _, _, _, _, _⟩) rfl (.tmp 6) (.tmp 19) rfl rfl (w.heap.size + 1) colourL rfl rfl _ HM4.out.blk.box rfl rfl ?_)
         intro w5 b5 k5
         have HM := Lib.hid (HM4.out.all b5 k5)
         clear b5 k5)
      | fail)
    refine (scale_any w5 q h0 h1).mono ?_
    rintro e w6 ⟨rfl, rfl⟩
    rw [← HP.out.1]
    go_wp2_with (first
      | (with_reducible refine wpList_load_to (op := ⟨some 22, _, _, _, _, _⟩) rfl 29 (.tmp 6) rfl (.pointer (some ⟨w.heap.size + 1, 0, none⟩)) rfl (blkV colourL) HM.out.blk.load ?_)
      | fail)
    go_loopw [23] (fun i wr => ∃ k : Nat, k ≤ 64 ∧ i = .int .i64 k ∧ Mine w wr (mix k (stepsL true q) colourL)) (fun i _ => 64 - (intOf i).toNat)
    case atStart => exact ⟨0, by omega, rfl, by rw [mix_zero]; exact HM.out⟩
    case round =>
      obtain ⟨k, hk, rfl, hR⟩ := hrel
      have HR := Lib.hid hR
      clear hR
      by_cases hlt : k < 64
      · have hidx := fun w => index26 w (show colourL.length = 64 from rfl) hlt
        have hbb := baseL_bounds true k hlt
        have hst := stepsL_at true q hlt
        have hfr := HR.out.blk.free k
        have hcell := HR.out.blk.cell hlt
        obtain ⟨y, hy⟩ : ∃ y, y = (mix k (stepsL true q) colourL).getD k 0 := ⟨_, rfl⟩
        rw [← hy] at hcell
        clear hy
        rw [show baseL true = colourL from rfl] at hbb hst
        obtain ⟨b, hb⟩ : ∃ b, b = colourL.getD k 0 := ⟨_, rfl⟩
        rw [← hb] at hidx hbb hst
        have hm := prod_bounds hbb.1 hbb.2 HP.out.2.1 HP.out.2.2
        rw [← HP.out.1] at hm
        unfold stepOf at hst
        rw [← HP.out.1] at hst
        obtain ⟨m, hm'⟩ : ∃ m, m = b * p := ⟨_, rfl⟩
        rw [← hm'] at hst hm
        have hbp := hm'.symm
        obtain ⟨z, hz'⟩ : ∃ z, z = held ((m + 50) / 100) 1 255 := ⟨_, rfl⟩
        rw [← hz'] at hst
        have HS := Lib.hid (And.intro hst hz')
        obtain ⟨hm0, hm1⟩ := hm
        clear hst hb hm' hz' hbb
        go_wp2_with fail
        refine (hold_any8_ wr ((m + 50) / 100) 1 255 (by omega)).mono ?_
        rintro e w7 ⟨rfl, rfl⟩
        rw [← HS.out.2]
        go_wp2_with fail
        go_roundw
        case rel =>
          refine ⟨k + 1, by omega, by go_num, ?_⟩
          rw [← mix_more (stepsL_len _ _) rfl hlt, HS.out.1]
          exact HR.out.put k z
        case measure => simp [intOf]; omega
      · obtain rfl : k = 64 := by omega
        have hR := HR.out
        rw [mix_all (stepsL_len _ _) rfl] at hR
        have HR := Lib.hid hR
        clear hR
        go_wp2_with (first
          | (with_reducible refine wpList_load_to (op := ⟨some 36, _, _, _, _, _⟩) rfl 29 (.tmp 6) rfl (.pointer (some ⟨w.heap.size + 1, 0, none⟩)) rfl (blkV (stepsL true q)) HR.out.blk.load ?_)
          | ((with_reducible refine wpList_store_blk8_ (o := ⟨none, _, _, _, _, _⟩) rfl (.tmp 4) (.tmp 36) rfl rfl w.heap.size (stepsL true q) rfl rfl _ HR.out.ans.box rfl (stepsL_len _ _) ?_)
             intro w9 b9 k9
             have H9 := Lib.hid (HR.out.done b9 k9)
             clear b9 k9)
          | fail)
        refine bodyPost_ret (v := .tuple #[blkV (stepsL true q), .int .i64 0]) (results_ct (fn := Tryd.f26) Tryd.results26 _ _ w.heap.size _ _ rfl rfl (loadVar_blk H9.out.2)) rfl ?_
        exact ⟨rfl, H9.out.1⟩

theorem steps_any (w : World) (c : Bool) (q : Int) (hT : Tab w) : Calls Tryd.prog 26 #[.bool c, .int .i64 q] w (Tells8_ w (stepsF c q)) := by
  by_cases h : q < 1 ∨ 100 < q
  · exact steps_out w c q h
  · exact steps_in w c q hT (by omega) (by omega)
end Go.Proofs.YtmadkpnkmkajoaaDoor

namespace Go.Proofs.YtmadkpnkmkajoaaDoor
open Go.RowKit
set_option maxRecDepth 20000

/-- a number told by a step -/
def dnOf (n d : Int) : Int := held (rnd n d) (-1023) 1023
/-- numbers told by steps -/
def downL (b s : List Int) : List Int := tab fun k => dnOf (b.getD k 0) (s.getD k 0)
/-- what numbers told by steps are -/
def upL (b s : List Int) : List Int := tab fun k => b.getD k 0 * s.getD k 0
theorem downL_len (b s : List Int) : (downL b s).length = 64 := tab_len _
theorem upL_len (b s : List Int) : (upL b s).length = 64 := tab_len _
/-- what Down tells -/
def downF (b s : List Int) : List Int × Int := if checkF b s 16777216 = 0 then (downL b s, 0) else (zeros64, checkF b s 16777216)
/-- what Up tells -/
def upF (b s : List Int) : List Int × Int := if checkF b s 1023 = 0 then (upL b s, 0) else (zeros64, checkF b s 1023)
theorem downF_len (b s : List Int) : (downF b s).1.length = 64 := by unfold downF; split; exact tab_len _; exact zeros_len
theorem upF_len (b s : List Int) : (upF b s).1.length = 64 := by unfold upF; split; exact tab_len _; exact zeros_len
theorem checkF_zero {b s : List Int} {most : Int} (h : checkF b s most = 0) : Wi s 1 255 ∧ Wi b (-most) most := by
  unfold checkF at h
  split at h
  · split at h
    · exact ⟨by assumption, by assumption⟩
    · omega
  · omega
theorem checkF_yes {b s : List Int} {most : Int} (h : Wi s 1 255) (h' : Wi b (-most) most) : checkF b s most = 0 := by unfold checkF; rw [if_pos h, if_pos h']
theorem checkF_vals (b s : List Int) (most : Int) : checkF b s most = 0 ∨ checkF b s most = 1 ∨ checkF b s most = 2 := by
  unfold checkF
  split
  · split <;> omega
  · omega

/-- two blocks that are boxed, and one for the answer -/
structure Thr (w wr : World) (b s : List Int) : Prop where
  b1 : Blk wr w.heap.size b
  b2 : Blk wr (w.heap.size + 1) s
  ans : Blk wr (w.heap.size + 1 + 1) zeros64
  bel : Below w.heap.size w wr
section
variable {w wr w' : World} {b s : List Int}
theorem Thr.on (h : Thr w wr b s) (k : Below wr.heap.size wr w') : Thr w w' b s := ⟨h.b1.on k, h.b2.on k, h.ans.on k, on_trans h.bel k⟩
theorem Thr.put (h : Thr w wr b s) (k : Nat) (z : Int) : Thr w (wr.setCell ⟨w.heap.size, k, none⟩ (.int .i64 z)) (b.set k z) s :=
  ⟨h.b1.put k z, ⟨h.b2.box.beside (by show w.heap.size + 1 ≠ w.heap.size; omega) _, h.b2.len⟩, ⟨h.ans.box.beside (by show w.heap.size + 1 + 1 ≠ w.heap.size; omega) _, h.ans.len⟩,
    ((Kept.of_below h.bel (fun i => i = w.heap.size)).setCell (p := ⟨w.heap.size, k, none⟩) (fun _ => rfl) _).below (Nat.le_refl _) (fun i hi e => by omega)⟩
theorem Thr.done (h : Thr w wr b s) {c : List Int} (hc : Blk w' (w.heap.size + 1 + 1) c) (k : Kept (fun i => i = w.heap.size + 1 + 1) wr w') : Below w.heap.size w w' ∧ Blk w' (w.heap.size + 1 + 1) c :=
  ⟨h.bel.trans (k.below h.bel.size (fun i hi e => by omega)), hc⟩
end
theorem thr_boxed (w : World) (b s : List Int) (hb : b.length = 64) (hs : s.length = 64) : ∃ cs cu Z w3, blkV b = .agg cs ∧ blkV s = .agg cu ∧ blkV zeros64 = .agg Z ∧ (∀ w, (zeroValue 29).run Tryd.prog w = .ok (.agg Z) w) ∧ ((w.alloc (.cells cs 29)).alloc (.cells cu 29)).alloc (.cells Z 29) = w3 ∧ Z.size = 64 ∧ Thr w w3 b s := by
  obtain ⟨cs, cu, w2, h1, h2, h⟩ := two_boxed w b s hb hs
  have hA : Blk (w2.alloc (.cells (cellsI zeros64).toArray 29)) (w.heap.size + 1 + 1) zeros64 := by have := h.size; rw [show w.heap.size + 1 + 1 = w2.heap.size by omega]; exact Blk.made _ _ zeros_len
  refine ⟨cs, cu, (cellsI zeros64).toArray, _, h1, h2, rfl, fun w => zero26 w, rfl, rfl, ?_⟩
  rw [h.e]
  exact ⟨h.b1.on (on_alloc _ _), h.b2.on (on_alloc _ _), hA, on_trans h.bel (on_alloc _ _)⟩

theorem mul_small {n d : Int} (n0 : -1023 ≤ n) (n1 : n ≤ 1023) (s0 : 1 ≤ d) (s1 : d ≤ 255) : -260865 ≤ n * d ∧ n * d ≤ 260865 := by
  have h1 : n * d ≤ 1023 * d := Int.mul_le_mul_of_nonneg_right n1 (by omega)
  have h2 : -1023 * d ≤ n * d := Int.mul_le_mul_of_nonneg_right n0 (by omega)
  omega

set_option maxRecDepth 10000 in
set_option maxHeartbeats 3200000 in
theorem down_any8_ (w : World) (b s : List Int) (hb : b.length = 64) (hs : s.length = 64) : Calls Tryd.prog 81 #[blkV b, blkV s] w (Tells8_ w (downF b s)) := by
  obtain ⟨cs, cu, Z, w3, hbv, hsv, hZV, hz, hw3, hZs, hT⟩ := thr_boxed w b s hb hs
  have HL1 := Lib.hid hT.b1.load
  have HL2 := Lib.hid hT.b2.load
  have HC := Lib.hid (check_any w3 b s 16777216 hb hs (by omega) (by omega))
  have H := Lib.hid (And.intro hT (And.intro hb (And.intro hs (And.intro hZV.symm hZs))))
  rw [← hw3] at HL1 HL2
  have HW := Lib.hid hw3
  rw [hbv, hsv]
  have hbd : ∀ w, (Instr.build 29 #[]).run Tryd.prog w = .ok (.agg Z) w := fun w => by rw [← hZV]; exact build0 w
  obtain ⟨E, hE⟩ : ∃ E, E = checkF b s 16777216 := ⟨_, rfl⟩
  unfold Checkd at HC
  rw [← hE] at HC
  have HE := Lib.hid hE
  clear hT hb hs hw3 hbv hsv hZV hZs hE
  by_cases h0 : E = 0
  · have hF : downF b s = (downL b s, 0) := by unfold downF; rw [if_pos (by rw [← HE.out]; exact h0)]
    have hok := checkF_zero (HE.out.symm.trans h0)
    rw [hF]
    have HOK := Lib.hid hok
    subst h0
    clear hF hok
    go_enter Tryd.func81, Tryd.ntmps81
    go_wp2_with (first
      | (with_reducible refine wpList_load_to (op := ⟨some 9, _, _, _, _, _⟩) rfl 29 (.tmp 2) rfl (.pointer (some ⟨w.heap.size, 0, none⟩)) rfl (blkV b) HL1.out ?_)
      | (with_reducible refine wpList_load_to (op := ⟨some 10, _, _, _, _, _⟩) rfl 29 (.tmp 3) rfl (.pointer (some ⟨w.heap.size + 1, 0, none⟩)) rfl (blkV s) HL2.out ?_)
      | fail)
    rw [HW.out]
    refine HC.out.mono ?_
    rintro e w4 ⟨rfl, b4⟩
    have H4 := Lib.hid (H.out.1.on b4)
    clear b4
    go_wp2_with (first
      | (with_reducible refine wpList_load_to (op := ⟨some 16, _, _, _, _, _⟩) rfl 29 (.tmp 2) rfl (.pointer (some ⟨w.heap.size, 0, none⟩)) rfl (blkV b) H4.out.b1.load ?_)
      | fail)
    go_loopw [17] (fun i wr => ∃ k : Nat, k ≤ 64 ∧ i = .int .i64 k ∧ Thr w wr (mix k (downL b s) b) s) (fun i _ => 64 - (intOf i).toNat)
    case atStart => exact ⟨0, by omega, rfl, by rw [mix_zero]; exact H4.out⟩
    case round =>
      obtain ⟨k, hk, rfl, hR⟩ := hrel
      have HR := Lib.hid hR
      clear hR
      by_cases hlt : k < 64
      · have hs0 := HOK.out.1 k hlt
        have hb0 := HOK.out.2 k hlt
        have hfr := HR.out.b1.free k
        have c1 := HR.out.b1.cell hlt
        have c2 := HR.out.b2.cell hlt
        rw [mix_at (downL_len b s) hk (Nat.le_refl k)] at c1
        have hidx := fun w => index26 w (l := b) H.out.2.1 hlt
        have hst : (downL b s).getD k 0 = dnOf (b.getD k 0) (s.getD k 0) := tab_at _ hlt
        obtain ⟨n, hn⟩ : ∃ n, n = b.getD k 0 := ⟨_, rfl⟩
        obtain ⟨d, hd⟩ : ∃ d, d = s.getD k 0 := ⟨_, rfl⟩
        try rw [← hn] at hidx
        try rw [← hd] at hidx
        rw [← hn] at hb0 c1 hst
        rw [← hd] at hs0 c2 hst
        clear hn hd
        obtain ⟨s0, s1⟩ := hs0
        obtain ⟨n0, n1⟩ := hb0
        obtain ⟨r, hr⟩ : ∃ r, r = rnd n d := ⟨_, rfl⟩
        unfold dnOf at hst
        rw [← hr] at hst
        obtain ⟨z, hz'⟩ : ∃ z, z = held r (-1023) 1023 := ⟨_, rfl⟩
        rw [← hz'] at hst
        have HS := Lib.hid hst
        have HR2 := Lib.hid (And.intro hr hz')
        clear hst hr hz'
        go_wp2_with fail
        refine (round_any wr n d (by unfold isInt; omega) (by unfold isInt; omega)).mono ?_
        rintro e w7 ⟨rfl, rfl⟩
        rw [← HR2.out.1]
        go_wp2_with fail
        refine (hold_any8_ wr r (-1023) 1023 (by omega)).mono ?_
        rintro e w7 ⟨rfl, rfl⟩
        rw [← HR2.out.2]
        go_wp2_with fail
        go_roundw
        case rel =>
          refine ⟨k + 1, by omega, by go_num, ?_⟩
          rw [← mix_more (downL_len b s) H.out.2.1 hlt, HS.out]
          exact HR.out.put k z
        case measure => simp [intOf]; omega
      · obtain rfl : k = 64 := by omega
        have hR := HR.out
        rw [mix_all (downL_len b s) H.out.2.1] at hR
        have HR := Lib.hid hR
        clear hR
        go_wp2_with (first
          | (with_reducible refine wpList_load_to (op := ⟨some 30, _, _, _, _, _⟩) rfl 29 (.tmp 2) rfl (.pointer (some ⟨w.heap.size, 0, none⟩)) rfl (blkV (downL b s)) HR.out.b1.load ?_)
          | ((with_reducible refine wpList_store_blk8_ (o := ⟨none, _, _, _, _, _⟩) rfl (.tmp 4) (.tmp 30) rfl rfl (w.heap.size + 1 + 1) (downL b s) rfl rfl _ HR.out.ans.box rfl (downL_len b s) ?_)
             intro w9 b9 k9
             have H9 := Lib.hid (HR.out.done b9 k9)
             clear b9 k9)
          | fail)
        refine bodyPost_ret (v := .tuple #[blkV (downL b s), .int .i64 0]) (results_ct (fn := Tryd.f81) Tryd.results81 _ _ (w.heap.size + 1 + 1) _ _ rfl rfl (loadVar_blk H9.out.2)) rfl ?_
        exact ⟨rfl, H9.out.1⟩
  · have hF : downF b s = (zeros64, E) := by unfold downF; rw [if_neg (by rw [← HE.out]; exact h0), ← HE.out]
    rw [hF]
    have hb0 : (E == 0) = false := by simpa using h0
    have hb1 : (E != 0) = true := by simpa using h0
    clear hF
    go_enter Tryd.func81, Tryd.ntmps81
    go_wp2_with (first
      | (with_reducible refine wpList_load_to (op := ⟨some 9, _, _, _, _, _⟩) rfl 29 (.tmp 2) rfl (.pointer (some ⟨w.heap.size, 0, none⟩)) rfl (blkV b) HL1.out ?_)
      | (with_reducible refine wpList_load_to (op := ⟨some 10, _, _, _, _, _⟩) rfl 29 (.tmp 3) rfl (.pointer (some ⟨w.heap.size + 1, 0, none⟩)) rfl (blkV s) HL2.out ?_)
      | fail)
    rw [HW.out]
    refine HC.out.mono ?_
    rintro e w4 ⟨rfl, b4⟩
    have H4 := Lib.hid (H.out.1.on b4)
    clear b4
    go_wp2_with (first
      | ((with_reducible refine wpList_store_blk8_ (o := ⟨none, _, _, _, _, _⟩) rfl (.tmp 4) (.tmp 14) rfl rfl (w.heap.size + 1 + 1) zeros64 rfl ?hy _ H4.out.ans.box rfl zeros_len ?_)
         case hy => exact H.out.2.2.2.1
         intro w9 b9 k9
         have H9 := Lib.hid (H4.out.done b9 k9)
         clear b9 k9)
      | fail)
    refine bodyPost_ret (v := .tuple #[blkV zeros64, .int .i64 E]) (results_ct (fn := Tryd.f81) Tryd.results81 _ _ (w.heap.size + 1 + 1) _ _ rfl rfl (loadVar_blk H9.out.2)) rfl ?_
    exact ⟨rfl, H9.out.1⟩

set_option maxRecDepth 10000 in
set_option maxHeartbeats 3200000 in
theorem up_any (w : World) (b s : List Int) (hb : b.length = 64) (hs : s.length = 64) : Calls Tryd.prog 63 #[blkV b, blkV s] w (Tells8_ w (upF b s)) := by
  obtain ⟨cs, cu, Z, w3, hbv, hsv, hZV, hz, hw3, hZs, hT⟩ := thr_boxed w b s hb hs
  have HL1 := Lib.hid hT.b1.load
  have HL2 := Lib.hid hT.b2.load
  have HC := Lib.hid (check_any w3 b s 1023 hb hs (by omega) (by omega))
  have H := Lib.hid (And.intro hT (And.intro hb (And.intro hs (And.intro hZV.symm hZs))))
  rw [← hw3] at HL1 HL2
  have HW := Lib.hid hw3
  rw [hbv, hsv]
  have hbd : ∀ w, (Instr.build 29 #[]).run Tryd.prog w = .ok (.agg Z) w := fun w => by rw [← hZV]; exact build0 w
  obtain ⟨E, hE⟩ : ∃ E, E = checkF b s 1023 := ⟨_, rfl⟩
  unfold Checkd at HC
  rw [← hE] at HC
  have HE := Lib.hid hE
  clear hT hb hs hw3 hbv hsv hZV hZs hE
  by_cases h0 : E = 0
  · have hF : upF b s = (upL b s, 0) := by unfold upF; rw [if_pos (by rw [← HE.out]; exact h0)]
    have hok := checkF_zero (HE.out.symm.trans h0)
    rw [hF]
    have HOK := Lib.hid hok
    subst h0
    clear hF hok
    go_enter Tryd.func63, Tryd.ntmps63
    go_wp2_with (first
      | (with_reducible refine wpList_load_to (op := ⟨some 9, _, _, _, _, _⟩) rfl 29 (.tmp 2) rfl (.pointer (some ⟨w.heap.size, 0, none⟩)) rfl (blkV b) HL1.out ?_)
      | (with_reducible refine wpList_load_to (op := ⟨some 10, _, _, _, _, _⟩) rfl 29 (.tmp 3) rfl (.pointer (some ⟨w.heap.size + 1, 0, none⟩)) rfl (blkV s) HL2.out ?_)
      | fail)
    rw [HW.out]
    refine HC.out.mono ?_
    rintro e w4 ⟨rfl, b4⟩
    have H4 := Lib.hid (H.out.1.on b4)
    clear b4
    go_wp2_with (first
      | (with_reducible refine wpList_load_to (op := ⟨some 16, _, _, _, _, _⟩) rfl 29 (.tmp 3) rfl (.pointer (some ⟨w.heap.size + 1, 0, none⟩)) rfl (blkV s) H4.out.b2.load ?_)
      | fail)
    go_loopw [17] (fun i wr => ∃ k : Nat, k ≤ 64 ∧ i = .int .i64 k ∧ Thr w wr (mix k (upL b s) b) s) (fun i _ => 64 - (intOf i).toNat)
    case atStart => exact ⟨0, by omega, rfl, by rw [mix_zero]; exact H4.out⟩
    case round =>
      obtain ⟨k, hk, rfl, hR⟩ := hrel
      have HR := Lib.hid hR
      clear hR
      by_cases hlt : k < 64
      · have hs0 := HOK.out.1 k hlt
        have hb0 := HOK.out.2 k hlt
        have hfr := HR.out.b1.free k
        have c1 := HR.out.b1.cell hlt
        have c2 := HR.out.b2.cell hlt
        rw [mix_at (upL_len b s) hk (Nat.le_refl k)] at c1
        have hidx := fun w => index26 w (l := s) H.out.2.2.1 hlt
        have hst : (upL b s).getD k 0 = b.getD k 0 * s.getD k 0 := tab_at _ hlt
        obtain ⟨n, hn⟩ : ∃ n, n = b.getD k 0 := ⟨_, rfl⟩
        obtain ⟨d, hd⟩ : ∃ d, d = s.getD k 0 := ⟨_, rfl⟩
        try rw [← hn] at hidx
        try rw [← hd] at hidx
        rw [← hn] at hb0 c1 hst
        rw [← hd] at hs0 c2 hst
        clear hn hd
        obtain ⟨s0, s1⟩ := hs0
        obtain ⟨n0, n1⟩ := hb0
        obtain ⟨z, hz'⟩ : ∃ z, z = n * d := ⟨_, rfl⟩
        rw [← hz'] at hst
        have hm : -260865 ≤ z ∧ z ≤ 260865 := by rw [hz']; exact mul_small n0 n1 s0 s1
        obtain ⟨m0, m1⟩ := hm
        have hnd := hz'.symm
        have HS := Lib.hid hst
        clear hst hz'
        go_wp2_with fail
        go_roundw
        case rel =>
          refine ⟨k + 1, by omega, by go_num, ?_⟩
          rw [← mix_more (upL_len b s) H.out.2.1 hlt, HS.out]
          exact HR.out.put k z
        case measure => simp [intOf]; omega
      · obtain rfl : k = 64 := by omega
        have hR := HR.out
        rw [mix_all (upL_len b s) H.out.2.1] at hR
        have HR := Lib.hid hR
        clear hR
        go_wp2_with (first
          | (with_reducible refine wpList_load_to (op := ⟨some 28, _, _, _, _, _⟩) rfl 29 (.tmp 2) rfl (.pointer (some ⟨w.heap.size, 0, none⟩)) rfl (blkV (upL b s)) HR.out.b1.load ?_)
          | ((with_reducible refine wpList_store_blk8_ (o := ⟨none, _, _, _, _, _⟩) rfl (.tmp 4) (.tmp 28) rfl rfl (w.heap.size + 1 + 1) (upL b s) rfl rfl _ HR.out.ans.box rfl (upL_len b s) ?_)
             intro w9 b9 k9
             have H9 := Lib.hid (HR.out.done b9 k9)
             clear b9 k9)
          | fail)
        refine bodyPost_ret (v := .tuple #[blkV (upL b s), .int .i64 0]) (results_ct (fn := Tryd.f63) Tryd.results63 _ _ (w.heap.size + 1 + 1) _ _ rfl rfl (loadVar_blk H9.out.2)) rfl ?_
        exact ⟨rfl, H9.out.1⟩
  · have hF : upF b s = (zeros64, E) := by unfold upF; rw [if_neg (by rw [← HE.out]; exact h0), ← HE.out]
    rw [hF]
    have hb0 : (E == 0) = false := by simpa using h0
    have hb1 : (E != 0) = true := by simpa using h0
    clear hF
    go_enter Tryd.func63, Tryd.ntmps63
    go_wp2_with (first
      | (with_reducible refine wpList_load_to (op := ⟨some 9, _, _, _, _, _⟩) rfl 29 (.tmp 2) rfl (.pointer (some ⟨w.heap.size, 0, none⟩)) rfl (blkV b) HL1.out ?_)
      | (with_reducible refine wpList_load_to (op := ⟨some 10, _, _, _, _, _⟩) rfl 29 (.tmp 3) rfl (.pointer (some ⟨w.heap.size + 1, 0, none⟩)) rfl (blkV s) HL2.out ?_)
      | fail)
    rw [HW.out]
    refine HC.out.mono ?_
    rintro e w4 ⟨rfl, b4⟩
    have H4 := Lib.hid (H.out.1.on b4)
    clear b4
    go_wp2_with (first
      | ((with_reducible refine wpList_store_blk8_ (o := ⟨none, _, _, _, _, _⟩) rfl (.tmp 4) (.tmp 14) rfl rfl (w.heap.size + 1 + 1) zeros64 rfl ?hy _ H4.out.ans.box rfl zeros_len ?_)
         case hy => exact H.out.2.2.2.1
         intro w9 b9 k9
         have H9 := Lib.hid (H4.out.done b9 k9)
         clear b9 k9)
      | fail)
    refine bodyPost_ret (v := .tuple #[blkV zeros64, .int .i64 E]) (results_ct (fn := Tryd.f63) Tryd.results63 _ _ (w.heap.size + 1 + 1) _ _ rfl rfl (loadVar_blk H9.out.2)) rfl ?_
    exact ⟨rfl, H9.out.1⟩

end Go.Proofs.YtmadkpnkmkajoaaDoor

namespace Go.Proofs.YtmadkpnkmkajoaaDoor
open Go.RowKit
set_option maxRecDepth 20000

/-- two blocks that are boxed, one for the answer, one that is worked on -/
structure Fou (w wr : World) (b s o : List Int) : Prop where
  b1 : Blk wr w.heap.size b
  b2 : Blk wr (w.heap.size + 1) s
  ans : Blk wr (w.heap.size + 1 + 1) zeros64
  out : Blk wr (w.heap.size + 1 + 1 + 1) o
  bel : Below w.heap.size w wr
section
variable {w wr w' : World} {b s o : List Int}
theorem Fou.on (h : Fou w wr b s o) (k : Below wr.heap.size wr w') : Fou w w' b s o := ⟨h.b1.on k, h.b2.on k, h.ans.on k, h.out.on k, on_trans h.bel k⟩
theorem Fou.put (h : Fou w wr b s o) (k : Nat) (z : Int) : Fou w (wr.setCell ⟨w.heap.size + 1 + 1 + 1, k, none⟩ (.int .i64 z)) b s (o.set k z) :=
  ⟨⟨h.b1.box.beside (by show w.heap.size ≠ w.heap.size + 1 + 1 + 1; omega) _, h.b1.len⟩, ⟨h.b2.box.beside (by show w.heap.size + 1 ≠ w.heap.size + 1 + 1 + 1; omega) _, h.b2.len⟩,
    ⟨h.ans.box.beside (by show w.heap.size + 1 + 1 ≠ w.heap.size + 1 + 1 + 1; omega) _, h.ans.len⟩, h.out.put k z,
    ((Kept.of_below h.bel (fun i => i = w.heap.size + 1 + 1 + 1)).setCell (p := ⟨w.heap.size + 1 + 1 + 1, k, none⟩) (fun _ => rfl) _).below (Nat.le_refl _) (fun i hi e => by omega)⟩
theorem Fou.done (h : Fou w wr b s o) {c : List Int} (hc : Blk w' (w.heap.size + 1 + 1) c) (k : Kept (fun i => i = w.heap.size + 1 + 1) wr w') : Below w.heap.size w w' ∧ Blk w' (w.heap.size + 1 + 1) c :=
  ⟨h.bel.trans (k.below h.bel.size (fun i hi e => by omega)), hc⟩
end
theorem Thr.size {w w3 : World} {b s : List Int} {cs cu Z : Array Value} (e : ((w.alloc (.cells cs 29)).alloc (.cells cu 29)).alloc (.cells Z 29) = w3) (_ : Thr w w3 b s) : w3.heap.size = w.heap.size + 1 + 1 + 1 := by rw [← e]; simp
/-- the block that is worked on is laid behind the others -/
theorem fou_laid {w w3 w4 : World} {b s : List Int} {Z : Array Value} (h : Thr w w3 b s) (hs : w3.heap.size = w.heap.size + 1 + 1 + 1) (hb : Blk w4 (w.heap.size + 1 + 1 + 1) zeros64) (k : Kept (fun i => i = w.heap.size + 1 + 1 + 1) (w3.alloc (.cells Z 29)) w4) : Fou w w4 b s zeros64 := by
  have hk := (on_alloc w3 (.cells Z 29)).trans (k.below (B := w3.heap.size) (by simp) (fun i hi e => by omega))
  exact ⟨h.b1.on hk, h.b2.on hk, h.ans.on hk, hb, on_trans h.bel hk⟩

theorem round_quiet (n d : Int) (hn : isInt n) (hd : isInt d) (w : World) : Calls Tryd.prog 107 #[.int .i64 n, .int .i64 d] w fun e w' => e = .returned (.int .i64 (rnd n d)) ∧ w' = w :=
  (refRound_any w n d hn hd).mono fun _ _ ⟨he, hw⟩ => ⟨he, hw.symm⟩

set_option maxRecDepth 10000 in
set_option maxHeartbeats 3200000 in
theorem refDown_any (w : World) (b s : List Int) (hb : b.length = 64) (hs : s.length = 64) : Calls Tryd.prog 83 #[blkV b, blkV s] w (Tells8_ w (downF b s)) := by
  obtain ⟨cs, cu, Z, w3, hbv, hsv, hZV, hz, hw3, hZs, hT⟩ := thr_boxed w b s hb hs
  have hsz := hT.size hw3
  have hbx : Box (w3.alloc (.cells Z 29)) (w.heap.size + 1 + 1 + 1) 29 Z := by rw [← hsz]; exact Box.made _ _ _
  have H := Lib.hid (And.intro hT (And.intro hb (And.intro hs (And.intro hZV.symm (And.intro hZs (And.intro hsz (And.intro hbx hw3)))))))
  have HX := Lib.hid (show Box ((((w.alloc (.cells cs 29)).alloc (.cells cu 29)).alloc (.cells Z 29)).alloc (.cells Z 29)) (w.heap.size + 1 + 1 + 1) 29 Z by rw [hw3]; exact hbx)
  rw [hbv, hsv]
  have hbd : ∀ w, (Instr.build 29 #[]).run Tryd.prog w = .ok (.agg Z) w := fun w => by rw [← hZV]; exact build0 w
  clear hT hb hs hbv hsv hZV hZs hsz hbx hw3
  obtain ⟨R, hR⟩ : ∃ R, R = downF b s := ⟨_, rfl⟩
  rw [← hR]
  have HRR := Lib.hid hR
  clear hR
  go_enter Tryd.func83, Tryd.ntmps83
  go_wp2_with (first
    | ((with_reducible refine wpList_store_blk8_ (o := ⟨none, _, _, _, _, _⟩) rfl (.tmp 6) (.tmp 9) rfl rfl (w.heap.size + 1 + 1 + 1) zeros64 rfl ?hy Z HX.out H.out.2.2.2.2.1 zeros_len ?_)
       case hy => exact H.out.2.2.2.1
       intro w4 b4 k4
       rw [H.out.2.2.2.2.2.2.2] at k4
       have H4 := Lib.hid (fou_laid H.out.1 H.out.2.2.2.2.2.1 b4 k4)
       clear b4 k4)
    | (with_reducible refine wpList_load_to (op := ⟨some 10, _, _, _, _, _⟩) rfl 29 (.tmp 3) rfl (.pointer (some ⟨w.heap.size + 1, 0, none⟩)) rfl (blkV s) H4.out.b2.load ?_)
    | fail)
  refine (refIn_any8_ w4 s 1 255 H.out.2.2.1).mono ?_
  rintro e w5 ⟨rfl, b5⟩
  have H5 := Lib.hid (H4.out.on b5)
  clear b5
  by_cases hw : Wi s 1 255
  · rw [decide_eq_true hw]
    go_wp2_with (first
      | (with_reducible refine wpList_load_to (op := ⟨some 14, _, _, _, _, _⟩) rfl 29 (.tmp 2) rfl (.pointer (some ⟨w.heap.size, 0, none⟩)) rfl (blkV b) H5.out.b1.load ?_)
      | fail)
    refine (refIn_any8_ w5 b (-16777216) 16777216 H.out.2.1).mono ?_
    rintro e w6 ⟨rfl, b6⟩
    have H6 := Lib.hid (H5.out.on b6)
    clear b6
    by_cases hv : Wi b (-16777216) 16777216
    · have hF : downF b s = (downL b s, 0) := by unfold downF; rw [if_pos (checkF_yes hw hv)]
      have HF := Lib.hid (HRR.out.trans hF)
      rw [decide_eq_true hv]
      have HOK := Lib.hid (And.intro hw hv)
      clear hF hw hv
      go_wp2_with fail
      go_loopw [7] (fun i wr => ∃ k : Nat, k ≤ 64 ∧ i = .int .i64 k ∧ Fou w wr b s (mix k (downL b s) zeros64)) (fun i _ => 64 - (intOf i).toNat)
      case atStart => exact ⟨0, by omega, rfl, by rw [mix_zero]; exact H6.out⟩
      case round =>
        obtain ⟨k, hk, rfl, hR⟩ := hrel
        have HR := Lib.hid hR
        clear hR
        by_cases hlt : k < 64
        · have hs0 := HOK.out.1 k hlt
          have hb0 := HOK.out.2 k hlt
          have hfr := HR.out.out.free k
          have c1 := HR.out.b1.cell hlt
          have c2 := HR.out.b2.cell hlt
          have c3 := HR.out.out.cell hlt
          have hst : (downL b s).getD k 0 = dnOf (b.getD k 0) (s.getD k 0) := tab_at _ hlt
          obtain ⟨n, hn⟩ : ∃ n, n = b.getD k 0 := ⟨_, rfl⟩
          obtain ⟨d, hd⟩ : ∃ d, d = s.getD k 0 := ⟨_, rfl⟩
          obtain ⟨y, hy⟩ : ∃ y, y = (mix k (downL b s) zeros64).getD k 0 := ⟨_, rfl⟩
          rw [← hn] at hb0 c1 hst
          rw [← hd] at hs0 c2 hst
          rw [← hy] at c3
          clear hn hd hy
          obtain ⟨s0, s1⟩ := hs0
          obtain ⟨n0, n1⟩ := hb0
          have HRO := Lib.hid (round_quiet n d (by unfold isInt; omega) (by unfold isInt; omega))
          obtain ⟨r, hr⟩ : ∃ r, r = rnd n d := ⟨_, rfl⟩
          unfold dnOf at hst
          rw [← hr] at hst HRO
          have HS := Lib.hid hst
          clear hst hr
          go_wp2_with fail
          go_quiet ((go_at_call 107; exact Calls.quiet_of_same (HRO.out _)))
          rcases Int.lt_or_le 1023 r with g1 | g1
          · have e : held r (-1023) 1023 = 1023 := by unfold held; rw [if_neg (by omega), if_pos g1]
            have HE := Lib.hid (HS.out.trans e)
            clear e
            go_wp2_with fail
            refine ⟨⟨k + 1, by omega, by go_num, ?_⟩, ?_⟩
            · rw [← mix_more (downL_len b s) zeros_len hlt, HE.out]
              exact (HR.out.on (below_drewN_refl _ _)).put k _
            · simp [intOf]; omega
          · rcases Int.lt_or_le r (-1023) with g2 | g2
            · have e : held r (-1023) 1023 = -1023 := by unfold held; rw [if_pos g2]
              have HE := Lib.hid (HS.out.trans e)
              clear e
              go_wp2_with fail
              refine ⟨⟨k + 1, by omega, by go_num, ?_⟩, ?_⟩
              · rw [← mix_more (downL_len b s) zeros_len hlt, HE.out]
                exact (HR.out.on (below_drewN_refl _ _)).put k _
              · simp [intOf]; omega
            · have e : held r (-1023) 1023 = r := by unfold held; rw [if_neg (by omega), if_neg (by omega)]
              have HE := Lib.hid (HS.out.trans e)
              clear e
              go_wp2_with fail
              refine ⟨⟨k + 1, by omega, by go_num, ?_⟩, ?_⟩
              · rw [← mix_more (downL_len b s) zeros_len hlt, HE.out]
                exact (HR.out.on (below_drewN_refl _ _)).put k _
              · simp [intOf]; omega
        · obtain rfl : k = 64 := by omega
          have hR := HR.out
          rw [mix_all (downL_len b s) zeros_len] at hR
          have HR := Lib.hid hR
          clear hR
          go_wp2_with (first
            | (with_reducible refine wpList_load_to (op := ⟨some 36, _, _, _, _, _⟩) rfl 29 (.tmp 6) rfl (.pointer (some ⟨w.heap.size + 1 + 1 + 1, 0, none⟩)) rfl (blkV (downL b s)) HR.out.out.load ?_)
            | ((with_reducible refine wpList_store_blk8_ (o := ⟨none, _, _, _, _, _⟩) rfl (.tmp 4) (.tmp 36) rfl rfl (w.heap.size + 1 + 1) (downL b s) rfl rfl _ HR.out.ans.box rfl (downL_len b s) ?_)
               intro w9 b9 k9
               have H9 := Lib.hid (HR.out.done b9 k9)
               clear b9 k9)
            | fail)
          refine bodyPost_ret (v := .tuple #[blkV (downL b s), .int .i64 0]) (results_ct (fn := Tryd.f83) Tryd.results83 _ _ (w.heap.size + 1 + 1) _ _ rfl rfl (loadVar_blk H9.out.2)) rfl ?_
          exact ⟨by first | (rw [HF.out]; done) | (rw [HF.out]; rfl), H9.out.1⟩
    · have hF : downF b s = (zeros64, 2) := by
        have hc : checkF b s 16777216 = 2 := by unfold checkF; rw [if_pos hw, if_neg hv]
        unfold downF
        rw [if_neg (by omega), hc]
      have HF := Lib.hid (HRR.out.trans hF)
      rw [decide_eq_false hv]
      clear hF hw hv
      go_wp2_with (first
        | (with_reducible refine wpList_load_to (op := ⟨some 17, _, _, _, _, _⟩) rfl 29 (.tmp 6) rfl (.pointer (some ⟨w.heap.size + 1 + 1 + 1, 0, none⟩)) rfl (blkV zeros64) H6.out.out.load ?_)
        | ((with_reducible refine wpList_store_blk8_ (o := ⟨none, _, _, _, _, _⟩) rfl (.tmp 4) (.tmp 17) rfl rfl (w.heap.size + 1 + 1) zeros64 rfl rfl _ H6.out.ans.box rfl zeros_len ?_)
           intro w9 b9 k9
           have H9 := Lib.hid (H6.out.done b9 k9)
           clear b9 k9)
        | fail)
      refine bodyPost_ret (v := .tuple #[blkV zeros64, .int .i64 2]) (results_ct (fn := Tryd.f83) Tryd.results83 _ _ (w.heap.size + 1 + 1) _ _ rfl rfl (loadVar_blk H9.out.2)) rfl ?_
      exact ⟨by first | (rw [HF.out]; done) | (rw [HF.out]; rfl), H9.out.1⟩
  · have hF : downF b s = (zeros64, 1) := by
      have hc : checkF b s 16777216 = 1 := by unfold checkF; rw [if_neg hw]
      unfold downF
      rw [if_neg (by omega), hc]
    have HF := Lib.hid (HRR.out.trans hF)
    rw [decide_eq_false hw]
    clear hF hw
    go_wp2_with (first
      | (with_reducible refine wpList_load_to (op := ⟨some 13, _, _, _, _, _⟩) rfl 29 (.tmp 6) rfl (.pointer (some ⟨w.heap.size + 1 + 1 + 1, 0, none⟩)) rfl (blkV zeros64) H5.out.out.load ?_)
      | ((with_reducible refine wpList_store_blk8_ (o := ⟨none, _, _, _, _, _⟩) rfl (.tmp 4) (.tmp 13) rfl rfl (w.heap.size + 1 + 1) zeros64 rfl rfl _ H5.out.ans.box rfl zeros_len ?_)
         intro w9 b9 k9
         have H9 := Lib.hid (H5.out.done b9 k9)
         clear b9 k9)
      | fail)
    refine bodyPost_ret (v := .tuple #[blkV zeros64, .int .i64 1]) (results_ct (fn := Tryd.f83) Tryd.results83 _ _ (w.heap.size + 1 + 1) _ _ rfl rfl (loadVar_blk H9.out.2)) rfl ?_
    exact ⟨by first | (rw [HF.out]; done) | (rw [HF.out]; rfl), H9.out.1⟩

set_option maxRecDepth 10000 in
set_option maxHeartbeats 3200000 in
theorem refUp_any (w : World) (b s : List Int) (hb : b.length = 64) (hs : s.length = 64) : Calls Tryd.prog 35 #[blkV b, blkV s] w (Tells8_ w (upF b s)) := by
  obtain ⟨cs, cu, Z, w3, hbv, hsv, hZV, hz, hw3, hZs, hT⟩ := thr_boxed w b s hb hs
  have hsz := hT.size hw3
  have hbx : Box (w3.alloc (.cells Z 29)) (w.heap.size + 1 + 1 + 1) 29 Z := by rw [← hsz]; exact Box.made _ _ _
  have H := Lib.hid (And.intro hT (And.intro hb (And.intro hs (And.intro hZV.symm (And.intro hZs (And.intro hsz (And.intro hbx hw3)))))))
  have HX := Lib.hid (show Box ((((w.alloc (.cells cs 29)).alloc (.cells cu 29)).alloc (.cells Z 29)).alloc (.cells Z 29)) (w.heap.size + 1 + 1 + 1) 29 Z by rw [hw3]; exact hbx)
  rw [hbv, hsv]
  have hbd : ∀ w, (Instr.build 29 #[]).run Tryd.prog w = .ok (.agg Z) w := fun w => by rw [← hZV]; exact build0 w
  clear hT hb hs hbv hsv hZV hZs hsz hbx hw3
  obtain ⟨R, hR⟩ : ∃ R, R = upF b s := ⟨_, rfl⟩
  rw [← hR]
  have HRR := Lib.hid hR
  clear hR
  go_enter Tryd.func35, Tryd.ntmps35
  go_wp2_with (first
    | ((with_reducible refine wpList_store_blk8_ (o := ⟨none, _, _, _, _, _⟩) rfl (.tmp 6) (.tmp 8) rfl rfl (w.heap.size + 1 + 1 + 1) zeros64 rfl ?hy Z HX.out H.out.2.2.2.2.1 zeros_len ?_)
       case hy => exact H.out.2.2.2.1
       intro w4 b4 k4
       rw [H.out.2.2.2.2.2.2.2] at k4
       have H4 := Lib.hid (fou_laid H.out.1 H.out.2.2.2.2.2.1 b4 k4)
       clear b4 k4)
    | (with_reducible refine wpList_load_to (op := ⟨some 9, _, _, _, _, _⟩) rfl 29 (.tmp 3) rfl (.pointer (some ⟨w.heap.size + 1, 0, none⟩)) rfl (blkV s) H4.out.b2.load ?_)
    | fail)
  refine (refIn_any8_ w4 s 1 255 H.out.2.2.1).mono ?_
  rintro e w5 ⟨rfl, b5⟩
  have H5 := Lib.hid (H4.out.on b5)
  clear b5
  by_cases hw : Wi s 1 255
  · rw [decide_eq_true hw]
    go_wp2_with (first
      | (with_reducible refine wpList_load_to (op := ⟨some 13, _, _, _, _, _⟩) rfl 29 (.tmp 2) rfl (.pointer (some ⟨w.heap.size, 0, none⟩)) rfl (blkV b) H5.out.b1.load ?_)
      | fail)
    refine (refIn_any8_ w5 b (-1023) 1023 H.out.2.1).mono ?_
    rintro e w6 ⟨rfl, b6⟩
    have H6 := Lib.hid (H5.out.on b6)
    clear b6
    by_cases hv : Wi b (-1023) 1023
    · have hF : upF b s = (upL b s, 0) := by unfold upF; rw [if_pos (checkF_yes hw hv)]
      have HF := Lib.hid (HRR.out.trans hF)
      rw [decide_eq_true hv]
      have HOK := Lib.hid (And.intro hw hv)
      clear hF hw hv
      go_wp2_with fail
      go_loopw [7] (fun i wr => ∃ k : Nat, k ≤ 64 ∧ i = .int .i64 k ∧ Fou w wr b s (mix k (upL b s) zeros64)) (fun i _ => 64 - (intOf i).toNat)
      case atStart => exact ⟨0, by omega, rfl, by rw [mix_zero]; exact H6.out⟩
      case round =>
        obtain ⟨k, hk, rfl, hR⟩ := hrel
        have HR := Lib.hid hR
        clear hR
        by_cases hlt : k < 64
        · have hs0 := HOK.out.1 k hlt
          have hb0 := HOK.out.2 k hlt
          have hfr := HR.out.out.free k
          have c1 := HR.out.b1.cell hlt
          have c2 := HR.out.b2.cell hlt
          have c3 := HR.out.out.cell hlt
          have hst : (upL b s).getD k 0 = b.getD k 0 * s.getD k 0 := tab_at _ hlt
          obtain ⟨n, hn⟩ : ∃ n, n = b.getD k 0 := ⟨_, rfl⟩
          obtain ⟨d, hd⟩ : ∃ d, d = s.getD k 0 := ⟨_, rfl⟩
          obtain ⟨y, hy⟩ : ∃ y, y = (mix k (upL b s) zeros64).getD k 0 := ⟨_, rfl⟩
          rw [← hn] at hb0 c1 hst
          rw [← hd] at hs0 c2 hst
          rw [← hy] at c3
          clear hn hd hy
          obtain ⟨s0, s1⟩ := hs0
          obtain ⟨n0, n1⟩ := hb0
          obtain ⟨z, hz'⟩ : ∃ z, z = n * d := ⟨_, rfl⟩
          rw [← hz'] at hst
          have hm : -260865 ≤ z ∧ z ≤ 260865 := by rw [hz']; exact mul_small n0 n1 s0 s1
          obtain ⟨m0, m1⟩ := hm
          have hnd := hz'.symm
          have HS := Lib.hid hst
          clear hst hz'
          go_wp2_with fail
          go_region
          all_goals
            go_wp2_with fail
            refine ⟨⟨k + 1, by omega, by go_num, ?_⟩, ?_⟩
            · rw [← mix_more (upL_len b s) zeros_len hlt, HS.out]
              exact (HR.out.put k z).on (on_drew _)
            · simp [intOf]; omega
        · obtain rfl : k = 64 := by omega
          have hR := HR.out
          rw [mix_all (upL_len b s) zeros_len] at hR
          have HR := Lib.hid hR
          clear hR
          go_wp2_with (first
            | (with_reducible refine wpList_load_to (op := ⟨some 30, _, _, _, _, _⟩) rfl 29 (.tmp 6) rfl (.pointer (some ⟨w.heap.size + 1 + 1 + 1, 0, none⟩)) rfl (blkV (upL b s)) HR.out.out.load ?_)
            | ((with_reducible refine wpList_store_blk8_ (o := ⟨none, _, _, _, _, _⟩) rfl (.tmp 4) (.tmp 30) rfl rfl (w.heap.size + 1 + 1) (upL b s) rfl rfl _ HR.out.ans.box rfl (upL_len b s) ?_)
               intro w9 b9 k9
               have H9 := Lib.hid (HR.out.done b9 k9)
               clear b9 k9)
            | fail)
          refine bodyPost_ret (v := .tuple #[blkV (upL b s), .int .i64 0]) (results_ct (fn := Tryd.f35) Tryd.results35 _ _ (w.heap.size + 1 + 1) _ _ rfl rfl (loadVar_blk H9.out.2)) rfl ?_
          exact ⟨by first | (rw [HF.out]; done) | (rw [HF.out]; rfl), H9.out.1⟩
    · have hF : upF b s = (zeros64, 2) := by
        have hc : checkF b s 1023 = 2 := by unfold checkF; rw [if_pos hw, if_neg hv]
        unfold upF
        rw [if_neg (by omega), hc]
      have HF := Lib.hid (HRR.out.trans hF)
      rw [decide_eq_false hv]
      clear hF hw hv
      go_wp2_with (first
        | (with_reducible refine wpList_load_to (op := ⟨some 16, _, _, _, _, _⟩) rfl 29 (.tmp 6) rfl (.pointer (some ⟨w.heap.size + 1 + 1 + 1, 0, none⟩)) rfl (blkV zeros64) H6.out.out.load ?_)
        | ((with_reducible refine wpList_store_blk8_ (o := ⟨none, _, _, _, _, _⟩) rfl (.tmp 4) (.tmp 16) rfl rfl (w.heap.size + 1 + 1) zeros64 rfl rfl _ H6.out.ans.box rfl zeros_len ?_)
           intro w9 b9 k9
           have H9 := Lib.hid (H6.out.done b9 k9)
           clear b9 k9)
        | fail)
      refine bodyPost_ret (v := .tuple #[blkV zeros64, .int .i64 2]) (results_ct (fn := Tryd.f35) Tryd.results35 _ _ (w.heap.size + 1 + 1) _ _ rfl rfl (loadVar_blk H9.out.2)) rfl ?_
      exact ⟨by first | (rw [HF.out]; done) | (rw [HF.out]; rfl), H9.out.1⟩
  · have hF : upF b s = (zeros64, 1) := by
      have hc : checkF b s 1023 = 1 := by unfold checkF; rw [if_neg hw]
      unfold upF
      rw [if_neg (by omega), hc]
    have HF := Lib.hid (HRR.out.trans hF)
    rw [decide_eq_false hw]
    clear hF hw
    go_wp2_with (first
      | (with_reducible refine wpList_load_to (op := ⟨some 12, _, _, _, _, _⟩) rfl 29 (.tmp 6) rfl (.pointer (some ⟨w.heap.size + 1 + 1 + 1, 0, none⟩)) rfl (blkV zeros64) H5.out.out.load ?_)
      | ((with_reducible refine wpList_store_blk8_ (o := ⟨none, _, _, _, _, _⟩) rfl (.tmp 4) (.tmp 12) rfl rfl (w.heap.size + 1 + 1) zeros64 rfl rfl _ H5.out.ans.box rfl zeros_len ?_)
         intro w9 b9 k9
         have H9 := Lib.hid (H5.out.done b9 k9)
         clear b9 k9)
      | fail)
    refine bodyPost_ret (v := .tuple #[blkV zeros64, .int .i64 1]) (results_ct (fn := Tryd.f35) Tryd.results35 _ _ (w.heap.size + 1 + 1) _ _ rfl rfl (loadVar_blk H9.out.2)) rfl ?_
    exact ⟨by first | (rw [HF.out]; done) | (rw [HF.out]; rfl), H9.out.1⟩

end Go.Proofs.YtmadkpnkmkajoaaDoor
