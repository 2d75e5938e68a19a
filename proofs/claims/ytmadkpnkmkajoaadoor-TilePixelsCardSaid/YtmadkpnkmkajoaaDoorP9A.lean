/-
  What the contracts say of memory (blocks that are known whole, worlds in which only named blocks have turned); rows of numbers of one's own. Blocks of 64 numbers in memory: read, built, written whole; the two tables of base steps. Rounding: mathematics, and the contracts of Round, the program's and the reference's. The contracts of hold and scale. Whether a block's numbers lie between two: the contracts of within, Right and check, and of the reference's In. Lists of 64 numbers: one that is written number by number, numbers turned about; what calls answer that tell a block and an error. Layer 9's mathematics, first part: sums, the waves, what Forward and Inverse tell. No code. Layer 9's mathematics, second part: numbers turned about, samples all alike, rows that are columns. No code. Layer 9's mathematics, third part: forward and back a block of samples of -128 to 127 is off by 4 at most. No code. The table of the waves in memory; blocks that are known by a list. The contract of pass: the sums of the products of each row of factors and each column of a block. The contracts of transposed and transform. The contracts of Forward and Inverse, the program's.
-/
import Derived.Test.YtmadkpnkmkajoaaDoorP8A
import Derived.Test.YtmadkpnkmkajoaaDoorRows
import Derived.WalkKit
import Derived.WalkSpells
import Derived.WalkLawsBesides
import Derived.Lib.Hide
import Derived.Deep.Draws
import Derived.Deep.QuietTactic
import Derived.BigQuiet
import Derived.Deep.RegionWith
import Derived.Laws.AppendOwnNone
import Derived.Laws.CopyOwn
import Derived.Laws.BytesArg
import Derived.Deep.OwnRows
import Derived.Deep.MidRow
import Derived.Deep.RegionHeld3
import Derived.Laws.Rows
import Derived.Laws.StructEq
import Derived.ChangeKeysEq
import Derived.BigRegion
import Derived.Deep.DeepCutAuto
namespace Go.Proofs.YtmadkpnkmkajoaaDoor
open Go.RowKit
set_option maxRecDepth 20000



section
variable {w w' : World} {g : Nat} {t : TypeId} {cs : Array Value}
end

section
variable {S S' : Nat → Prop} {a w w' : World}
end


end Go.Proofs.YtmadkpnkmkajoaaDoor

namespace Go.Proofs.YtmadkpnkmkajoaaDoor
open Go.RowKit
set_option maxRecDepth 20000

section
variable {w w' : World} {g : Nat} {b : List Int}
end
theorem zeros_at9_ (k : Nat) : zeros64.getD k 0 = 0 := by
  unfold zeros64
  rw [List.getD_eq_getElem?_getD]
  by_cases h : k < 64
  · rw [List.getElem?_replicate_of_lt h]; rfl
  · rw [List.getElem?_eq_none (by simp; omega)]; rfl
theorem zero239_ (w : World) : (zeroValue 29).run Tryd.prog w = .ok (blkV zeros64) w := by kernel_rfl
/-- a block is written whole -/
theorem wpList_store_blk9_ {ops : Array Oper} {rest : List Oper} {o : Oper} {a : Act} {w : World} {Q : Exit → Act → World → Prop} (hgd : o.guard = none) (x y : Operand) (ho : o.op = .store 29 x y) (hd : o.dst = none)
    (g : Nat) (b : List Int) (hx : a.eval x = .pointer (some ⟨g, 0, none⟩)) (hy : a.eval y = blkV b) (old : Array Value) (hg : Box w g 29 old) (hold : old.size = 64) (hb : b.length = 64)
    (h : ∀ w', Blk w' g b → Kept (fun i => i = g) w w' → wpList Tryd.prog ops Q rest a w') : wpList Tryd.prog ops Q (o :: rest) a w := by
  refine wpList_plain hgd fun _ hK => ?_
  refine wp_store_row 29 x y ho g (cellsI b).toArray hx hy 29 old hg (by rw [arr26_size]; simp [cellsI_len, hb]) (by rw [hold]; simp [cellsI_len, hb]) (all_oneCell_toArray (cellsI_one b)) ?_
  rw [hd]
  exact hK _ _ (h _ ⟨setRow_heap w g old _ 29 _ hg, hb⟩ ⟨rfl, rfl, rfl, by simp, fun k _ hk => setRow_other w g k _ hk⟩)
/-- two blocks of the same numbers are equal -/
theorem items23 (w : World) {B : List Int} (hB : B.length = 64) (d : Nat) : ∀ is : List Nat, (∀ i ∈ is, i < 64) → (Op.eqItems (d + 1) 3 1 (cellsI B).toArray (cellsI B).toArray is).run Tryd.prog w = .ok true w
  | [], _ => by simp [Op.eqItems]
  | i :: is, h => by
    have hp : (part 3 (cellsI B).toArray (i * 1)).run Tryd.prog w = .ok (.int .i64 (B.getD i 0)) w := run_part_plain w (by kernel_rfl) (by rw [Nat.mul_one]; simpa using cellsI_get B i (by have := h i (by simp); omega))
    have he := run_equalIn_int w d 3 .i64 .i64 (B.getD i 0) (B.getD i 0) Tryd.underlying3
    have ih := items23 w hB d is (fun j hj => h j (by simp [hj]))
    simp only [Op.eqItems, Sem.run_bind, hp, he, Result.andThen_ok, beq_self_eq_true]
    simp
    exact ih
theorem wpList_eql23_when {ops : Array Oper} {rest : List Oper} {op : Oper} {a : Act} {w : World} {Q : Exit → Act → World → Prop} (hw : Region.wanted op (yielded ops a.tmps) = true) (x y : Operand) (ho : op.op = .binOp .eql 29 x y 29)
    (B : List Int) (hB : B.length = 64) (hx : a.eval x = blkV B) (hy : a.eval y = blkV B)
    (hK : wpList Tryd.prog ops Q rest (a.put op.dst (.bool true)) w) : wpList Tryd.prog ops Q (op :: rest) a w :=
  wpList_step fun _ hQ => by
    have hg : Tryd.prog.eqGuardType Tryd.prog.depth 29 = false := by kernel_rfl
    rw [if_pos hw]
    unfold Oper.wp execOp
    unfold blkV at hx hy
    have he := blk_equal w hB
    unfold blkV at he
    simp only [ho, hx, hy, Sem.run_bind, run_eqGuard_agg w .eql 29 x y _ _ hg, run_eql_struct, he, Result.andThen_ok]
    exact hQ _ _ hK
/-- two equal blocks are not unlike: the operation may be taken first -/
theorem yieldsIf_neq23 {ops : Array Oper} {S : World → Prop} {op : Oper} {a : Act} (hw : Region.wanted op (yielded ops a.tmps) = true) (x y : Operand) (ho : op.op = .binOp .neq 29 x y 29)
    (B : List Int) (hB : B.length = 64) (hx : a.eval x = blkV B) (hy : a.eval y = blkV B) : YieldsIf Tryd.prog ops S op (.bool false) a :=
  .inl ⟨hw, fun w _ => by
    have hg : Tryd.prog.eqGuardType Tryd.prog.depth 29 = false := by kernel_rfl
    unfold execOp
    unfold blkV at hx hy
    have he := blk_equal w hB
    unfold blkV at he
    simp only [ho, hx, hy, Sem.run_bind, run_eqGuard_agg w .neq 29 x y _ _ hg, run_neq_struct, he, Result.andThen_ok]
    rfl⟩

end Go.Proofs.YtmadkpnkmkajoaaDoor

namespace Go.Proofs.YtmadkpnkmkajoaaDoor
open Go.RowKit
set_option maxRecDepth 20000

instance (n d : Int) : Decidable (Frac n d) := by unfold Frac; infer_instance
end Go.Proofs.YtmadkpnkmkajoaaDoor

namespace Go.Proofs.YtmadkpnkmkajoaaDoor
open Go.RowKit
set_option maxRecDepth 20000

instance (b : List Int) (lo hi : Int) : Decidable (Wi b lo hi) := by unfold Wi; infer_instance
/-- the first k do -/
def Wk9_ (b : List Int) (lo hi : Int) (k : Nat) : Prop := ∀ j, j < k → lo ≤ b.getD j 0 ∧ b.getD j 0 ≤ hi
theorem Wk9_.more {b : List Int} {lo hi : Int} {k : Nat} (h : Wk9_ b lo hi k) (h0 : lo ≤ b.getD k 0) (h1 : b.getD k 0 ≤ hi) : Wk9_ b lo hi (k + 1) := fun j hj => by
  by_cases e : j = k
  · rw [e]; exact ⟨h0, h1⟩
  · exact h j (by omega)
/-- what a call answers that asks whether they do -/
def Withd9_ (w : World) (b : List Int) (lo hi : Int) (e : Ending) (w' : World) : Prop := e = .returned (.bool (decide (Wi b lo hi))) ∧ Below w.heap.size w w'

set_option maxRecDepth 10000 in
set_option maxHeartbeats 800000 in
theorem within_any9_ (w : World) (b : List Int) (lo hi : Int) (hb : b.length = 64) : Calls Tryd.prog 91 #[blkV b, .int .i64 lo, .int .i64 hi] w (Withd9_ w b lo hi) := by
  obtain ⟨w1, hw1⟩ : ∃ w1, w1 = w.alloc (.cells (cellsI b).toArray 29) := ⟨_, rfl⟩
  have hB : Blk w1 w.heap.size b := by rw [hw1]; exact Blk.made _ _ hb
  have bel : Below w.heap.size w w1 := by rw [hw1]; exact on_alloc _ _
  have H := Lib.hid (And.intro hB (And.intro bel hw1))
  have HL := Lib.hid hB.load
  have HB := Lib.hid hb
  clear hB bel hw1 hb
  obtain ⟨v, hv⟩ : ∃ v, v = blkV b := ⟨_, rfl⟩
  rw [← hv] at HL ⊢
  obtain ⟨cs, hcs⟩ : ∃ cs, cs = (cellsI b).toArray := ⟨_, rfl⟩
  have hvc : v = .agg cs := by rw [hv, hcs]; rfl
  rw [hvc]
  have HV := Lib.hid (And.intro hv (And.intro hcs hvc))
  clear hv hcs hvc
  have HL2 := Lib.hid (show (Instr.loadAt 29 (.pointer (some ⟨w.heap.size, 0, none⟩))).run Tryd.prog (w.alloc (.cells cs 29)) = .ok v (w.alloc (.cells cs 29)) by rw [HV.out.2.1, ← H.out.2.2]; exact HL.out)
  go_enter Tryd.func91, Tryd.ntmps91
  go_wp2_with (first
    | (with_reducible refine wpList_load_to (op := ⟨some 9, _, _, _, _, _⟩) rfl 29 (.tmp 3) rfl (.pointer (some ⟨w.heap.size, 0, none⟩)) rfl v HL2.out ?_)
    | fail)

  rw [HV.out.2.1, ← H.out.2.2]

  go_loopw [10] (fun i wr => ∃ k : Nat, k ≤ 64 ∧ i = .int .i64 k ∧ Wk9_ b lo hi k ∧ w1 = wr) (fun i _ => 64 - (intOf i).toNat)
  case atStart => exact ⟨0, by omega, rfl, fun j hj => absurd hj (by omega), rfl⟩
  case round =>
    obtain ⟨k, hk, rfl, hR, rfl⟩ := hrel
    have HR := Lib.hid hR
    clear hR
    by_cases hlt : k < 64
    · have hidx := fun w => index23 w HB.out hlt
      rw [← HV.out.1] at hidx
      have hlt' := not_wi (b := b) (lo := lo) (hi := hi) hlt
      obtain ⟨z, hz⟩ : ∃ z, z = b.getD k 0 := ⟨_, rfl⟩
      rw [← hz] at hidx hlt'
      have HZ := Lib.hid (And.intro hz hlt')
      clear hz hlt'
      by_cases h0 : z < lo
      · go_wp2_with fail
        go_ret
        exact ⟨by rw [HZ.out.2 (.inl h0)]; rfl, H.out.2.1⟩
      · by_cases h1 : hi < z
        · go_wp2_with fail
          go_ret
          exact ⟨by rw [HZ.out.2 (.inr h1)]; rfl, H.out.2.1⟩
        · go_wp2_with fail
          go_roundw
          case rel => exact ⟨k + 1, by omega, by go_num, HR.out.more (by rw [← HZ.out.1]; omega) (by rw [← HZ.out.1]; omega), trivial⟩
          case measure => simp [intOf]; omega
    · obtain rfl : k = 64 := by omega
      go_wp2
      go_ret
      exact ⟨by rw [decide_eq_true (show Wi b lo hi from HR.out)]; rfl, H.out.2.1⟩

set_option maxRecDepth 10000 in
set_option maxHeartbeats 800000 in
theorem refIn_any9_ (w : World) (b : List Int) (lo hi : Int) (hb : b.length = 64) : Calls Tryd.prog 72 #[blkV b, .int .i64 lo, .int .i64 hi] w (Withd9_ w b lo hi) := by
  obtain ⟨w1, hw1⟩ : ∃ w1, w1 = w.alloc (.cells (cellsI b).toArray 29) := ⟨_, rfl⟩
  have hB : Blk w1 w.heap.size b := by rw [hw1]; exact Blk.made _ _ hb
  have bel : Below w.heap.size w w1 := by rw [hw1]; exact on_alloc _ _
  have H := Lib.hid (And.intro hB (And.intro bel hw1))
  clear hB bel hw1 hb
  obtain ⟨cs, hcs⟩ : ∃ cs, cs = (cellsI b).toArray := ⟨_, rfl⟩
  have hvc : blkV b = .agg cs := by rw [hcs]; rfl
  rw [hvc]
  have HV := Lib.hid hcs
  clear hcs hvc
  go_enter Tryd.func72, Tryd.ntmps72
  go_wp2_with fail
  rw [HV.out, ← H.out.2.2]
  go_loopw [7] (fun i wr => ∃ k : Nat, k ≤ 64 ∧ i = .int .i64 k ∧ Wk9_ b lo hi k ∧ w1 = wr) (fun i _ => 64 - (intOf i).toNat)
  case atStart => exact ⟨0, by omega, rfl, fun j hj => absurd hj (by omega), rfl⟩
  case round =>
    obtain ⟨k, hk, rfl, hR, rfl⟩ := hrel
    have HR := Lib.hid hR
    clear hR
    by_cases hlt : k < 64
    · have hc := H.out.1.cell hlt
      have hlt' := not_wi (b := b) (lo := lo) (hi := hi) hlt
      obtain ⟨z, hz⟩ : ∃ z, z = b.getD k 0 := ⟨_, rfl⟩
      rw [← hz] at hc hlt'
      have HZ := Lib.hid (And.intro hz hlt')
      clear hz hlt'
      by_cases h0 : z < lo
      · go_wp2_with fail
        go_ret
        exact ⟨by rw [HZ.out.2 (.inl h0)]; rfl, H.out.2.1⟩
      · by_cases h1 : hi < z
        · go_wp2_with fail
          go_ret
          exact ⟨by rw [HZ.out.2 (.inr h1)]; rfl, H.out.2.1⟩
        · go_wp2_with fail
          go_roundw
          case rel => exact ⟨k + 1, by omega, by go_num, HR.out.more (by rw [← HZ.out.1]; omega) (by rw [← HZ.out.1]; omega), trivial⟩
          case measure => simp [intOf]; omega
    · obtain rfl : k = 64 := by omega
      go_wp2
      go_ret
      exact ⟨by rw [decide_eq_true (show Wi b lo hi from HR.out)]; rfl, H.out.2.1⟩

end Go.Proofs.YtmadkpnkmkajoaaDoor

namespace Go.Proofs.YtmadkpnkmkajoaaDoor
open Go.RowKit
set_option maxRecDepth 20000

section
variable {x y : List Int} {k : Nat}
end

/-- what a call tells that tells a block and an error -/
def Tells9_ (w : World) (R : List Int × Int) (e : Ending) (w' : World) : Prop := e = .returned (.tuple #[blkV R.1, .int .i64 R.2]) ∧ Below w.heap.size w w'
/-- a block turned about -/
def negL (b : List Int) : List Int := tab fun k => -(b.getD k 0)
theorem negL_len (b : List Int) : (negL b).length = 64 := tab_len _
theorem negL_at (b : List Int) {k : Nat} (hk : k < 64) : (negL b).getD k 0 = -(b.getD k 0) := tab_at _ hk
theorem wi_neg {b : List Int} {m : Int} (h : Wi b (-m) m) : Wi (negL b) (-m) m := fun j hj => by
  have := h j hj
  rw [negL_at b hj]
  omega
theorem wi_neg_back {b : List Int} {m : Int} (h : Wi (negL b) (-m) m) : Wi b (-m) m := fun j hj => by
  have := h j hj
  rw [negL_at b hj] at this
  omega
end Go.Proofs.YtmadkpnkmkajoaaDoor

namespace Go.Proofs.YtmadkpnkmkajoaaDoor
open Go.RowKit
set_option maxRecDepth 20000

/-- the sum of the first n terms -/
def su (f : Nat → Int) : Nat → Int
  | 0 => 0
  | n + 1 => su f n + f n
section
variable {f g : Nat → Int}
theorem su_zero (f : Nat → Int) : su f 0 = 0 := rfl
theorem su_succ (f : Nat → Int) (n : Nat) : su f (n + 1) = su f n + f n := rfl
theorem su_congr : ∀ {n : Nat}, (∀ i, i < n → f i = g i) → su f n = su g n
  | 0, _ => rfl
  | n + 1, h => by rw [su_succ, su_succ, su_congr (fun i hi => h i (by omega)), h n (by omega)]
theorem su_add (f g : Nat → Int) : ∀ n, su (fun i => f i + g i) n = su f n + su g n
  | 0 => rfl
  | n + 1 => by rw [su_succ, su_succ, su_succ, su_add f g n]; omega
theorem su_mul (c : Int) (f : Nat → Int) : ∀ n, su (fun i => c * f i) n = c * su f n
  | 0 => by rw [su_zero, su_zero, Int.mul_zero]
  | n + 1 => by rw [su_succ, su_succ, su_mul c f n, Int.mul_add]
theorem su_mul_right (c : Int) (f : Nat → Int) (n : Nat) : su (fun i => f i * c) n = su f n * c := by
  rw [Int.mul_comm, ← su_mul]
  exact su_congr fun i _ => Int.mul_comm _ _
theorem su_neg (f : Nat → Int) : ∀ n, su (fun i => -f i) n = -su f n
  | 0 => rfl
  | n + 1 => by rw [su_succ, su_succ, su_neg f n]; omega
theorem su_none : ∀ n, su (fun _ => 0) n = 0
  | 0 => rfl
  | n + 1 => by rw [su_succ, su_none n]; rfl
theorem su_swap (h : Nat → Nat → Int) (m : Nat) : ∀ n, su (fun i => su (h i) m) n = su (fun j => su (fun i => h i j) n) m
  | 0 => by rw [su_zero]; exact (su_none m).symm
  | n + 1 => by
    rw [su_succ, su_swap h m n, ← su_add]
    rfl
theorem su_le : ∀ {n : Nat}, (∀ i, i < n → f i ≤ g i) → su f n ≤ su g n
  | 0, _ => Int.le_refl _
  | n + 1, h => by
    have h1 := su_le (n := n) (fun i hi => h i (by omega))
    have h2 := h n (by omega)
    rw [su_succ, su_succ]
    omega
theorem su_two {n : Nat} (h : ∀ i, i < n → -g i ≤ f i ∧ f i ≤ g i) : -su g n ≤ su f n ∧ su f n ≤ su g n := by
  refine ⟨?_, su_le fun i hi => (h i hi).2⟩
  rw [← su_neg]
  exact su_le fun i hi => (h i hi).1
theorem su_only (f : Nat → Int) (y : Nat) : ∀ n, y < n → su (fun p => if p = y then f p else 0) n = f y := by
  have none : ∀ n, n ≤ y → su (fun p => if p = y then f p else 0) n = 0 := fun n hn => by
    rw [su_congr (g := fun _ => 0) (fun i hi => if_neg (by omega)), su_none]
  intro n
  induction n with
  | zero => intro h; omega
  | succ n ih =>
    intro h
    rw [su_succ]
    by_cases e : n = y
    · rw [none n (by omega), if_pos e, e]; omega
    · rw [ih (by omega), if_neg e]; omega
end
/-- a product's amount -/
theorem mul_abs {c z M : Int} (h0 : -M ≤ z) (h1 : z ≤ M) : -((c.natAbs : Int) * M) ≤ c * z ∧ c * z ≤ (c.natAbs : Int) * M := by
  rcases Int.le_total 0 c with hc | hc
  · have e : (c.natAbs : Int) = c := Int.natAbs_of_nonneg hc
    rw [e]
    have a1 := Int.mul_le_mul_of_nonneg_left h1 hc
    have a2 := Int.mul_le_mul_of_nonneg_left h0 hc
    rw [Int.mul_neg] at a2
    exact ⟨a2, a1⟩
  · have e : (c.natAbs : Int) = -c := Int.ofNat_natAbs_of_nonpos hc
    rw [e]
    have a1 := Int.mul_le_mul_of_nonneg_left h1 (show 0 ≤ -c by omega)
    have a2 := Int.mul_le_mul_of_nonneg_left h0 (show 0 ≤ -c by omega)
    simp only [Int.neg_mul, Int.mul_neg, Int.neg_neg] at a1 a2 ⊢
    omega

/-- the waves -/
def wz : List Int := [2896, 2896, 2896, 2896, 2896, 2896, 2896, 2896, 4017, 3406, 2276, 799, -799, -2276, -3406, -4017, 3784, 1567, -1567, -3784, -3784, -1567, 1567, 3784, 3406, -799, -4017, -2276, 2276, 4017, 799, -3406, 2896, -2896, -2896, 2896, 2896, -2896, -2896, 2896, 2276, -4017, 799, 3406, -3406, -799, 4017, -2276, 1567, -3784, 3784, -1567, -1567, 3784, -3784, 1567, 799, -2276, 3406, -4017, 4017, -3406, 2276, -799]
theorem wz_len : wz.length = 64 := by decide
/-- the number at index x of row u -/
def wv (u x : Nat) : Int := wz.getD (8 * u + x) 0
theorem wv_small : ∀ u, u < 8 → ∀ x, x < 8 → -4017 ≤ wv u x ∧ wv u x ≤ 4017 := by decide +kernel
/-- how much a row, and a column, of the waves amounts to -/
def rowA (u : Nat) : Int := su (fun x => ((wv u x).natAbs : Int)) 8
def colA (x : Nat) : Int := su (fun u => ((wv u x).natAbs : Int)) 8
theorem rowA_small : ∀ u, u < 8 → rowA u ≤ 23168 ∧ 0 ≤ rowA u := by decide +kernel
theorem colA_is : ∀ x, x < 8 → colA x = 21641 := by decide +kernel

/-- a wave's sum, and a sample's -/
def fwdT (b : List Int) (i k : Nat) : Int := su (fun p => su (fun q => wv i p * wv k q * b.getD (8 * p + q) 0) 8) 8
def invT (b : List Int) (i k : Nat) : Int := su (fun p => su (fun q => wv p i * wv q k * b.getD (8 * p + q) 0) 8) 8
/-- what Forward and Inverse tell -/
def fwdL (b : List Int) : List Int := tab fun j => rnd (fwdT b (j / 8) (j % 8)) 67108864
def invL (b : List Int) : List Int := tab fun j => rnd (invT b (j / 8) (j % 8)) 67108864
def fwdF (b : List Int) : List Int × Int := if Wi b (-2048) 2047 then (fwdL b, 0) else (zeros64, 2)
def invF (b : List Int) : List Int × Int := if Wi b (-1048576) 1048576 then (invL b, 0) else (zeros64, 2)
theorem fwdL_len (b : List Int) : (fwdL b).length = 64 := tab_len _
theorem invL_len (b : List Int) : (invL b).length = 64 := tab_len _
theorem fwdF_len (b : List Int) : (fwdF b).1.length = 64 := by unfold fwdF; split; exact fwdL_len _; exact zeros_len
theorem invF_len (b : List Int) : (invF b).1.length = 64 := by unfold invF; split; exact invL_len _; exact zeros_len
theorem fwdL_at (b : List Int) {u v : Nat} (hu : u < 8) (hv : v < 8) : (fwdL b).getD (8 * u + v) 0 = rnd (fwdT b u v) 67108864 := by
  unfold fwdL
  rw [tab_at _ (by omega), show (8 * u + v) / 8 = u by omega, show (8 * u + v) % 8 = v by omega]
theorem invL_at (b : List Int) {u v : Nat} (hu : u < 8) (hv : v < 8) : (invL b).getD (8 * u + v) 0 = rnd (invT b u v) 67108864 := by
  unfold invL
  rw [tab_at _ (by omega), show (8 * u + v) / 8 = u by omega, show (8 * u + v) % 8 = v by omega]

/-- sums of products of two amounts -/
theorem su_prod (f g : Nat → Int) (M : Int) (n m : Nat) : su (fun p => su (fun q => f p * (g q * M)) m) n = su f n * su g m * M := by
  rw [su_congr (g := fun p => f p * (su g m * M)) (fun p _ => by rw [su_mul, su_mul_right]), su_mul_right, Int.mul_assoc]
theorem sum_small {c d : Nat → Int} {z : Nat → Nat → Int} {M : Int} (h : ∀ p, p < 8 → ∀ q, q < 8 → -M ≤ z p q ∧ z p q ≤ M) :
    -(su (fun p => ((c p).natAbs : Int)) 8 * su (fun q => ((d q).natAbs : Int)) 8 * M) ≤ su (fun p => su (fun q => c p * d q * z p q) 8) 8 ∧ su (fun p => su (fun q => c p * d q * z p q) 8) 8 ≤ su (fun p => ((c p).natAbs : Int)) 8 * su (fun q => ((d q).natAbs : Int)) 8 * M := by
  rw [← su_prod (fun p => ((c p).natAbs : Int)) (fun q => ((d q).natAbs : Int)) M 8 8]
  refine su_two fun p hp => su_two fun q hq => ?_
  obtain ⟨h0, h1⟩ := h p hp q hq
  have a := mul_abs (c := d q) h0 h1
  have b := mul_abs (c := c p) a.1 a.2
  rw [Int.mul_assoc]
  exact b
/-- amounts of the sums -/
theorem fwdT_small {b : List Int} {M : Int} (h : Wi b (-M) M) (h0 : 0 ≤ M) {i k : Nat} (hi : i < 8) (hk : k < 8) : -(536756224 * M) ≤ fwdT b i k ∧ fwdT b i k ≤ 536756224 * M := by
  have a := sum_small (c := wv i) (d := wv k) (z := fun p q => b.getD (8 * p + q) 0) (M := M) (fun p hp q hq => h (8 * p + q) (by omega))
  have e : rowA i * rowA k * M ≤ 536756224 * M := by
    have r1 := rowA_small i hi
    have r2 := rowA_small k hk
    refine Int.mul_le_mul_of_nonneg_right ?_ h0
    exact Int.le_trans (Int.mul_le_mul r1.1 r2.1 r2.2 (by omega)) (by decide)
  unfold fwdT
  unfold rowA at e
  omega
theorem invT_small {b : List Int} {M : Int} (h : Wi b (-M) M) {i k : Nat} (hi : i < 8) (hk : k < 8) : -(468332881 * M) ≤ invT b i k ∧ invT b i k ≤ 468332881 * M := by
  have a := sum_small (c := fun p => wv p i) (d := fun q => wv q k) (z := fun p q => b.getD (8 * p + q) 0) (M := M) (fun p hp q hq => h (8 * p + q) (by omega))
  have r1 := colA_is i hi
  have r2 := colA_is k hk
  unfold colA at r1 r2
  rw [r1, r2] at a
  unfold invT
  omega
end Go.Proofs.YtmadkpnkmkajoaaDoor

namespace Go.Proofs.YtmadkpnkmkajoaaDoor
open Go.RowKit
set_option maxRecDepth 20000

theorem fwdT_neg (b : List Int) (i k : Nat) : fwdT (negL b) i k = -fwdT b i k := by
  unfold fwdT
  rw [← su_neg]
  refine su_congr fun p hp => ?_
  rw [← su_neg]
  refine su_congr fun q hq => ?_
  rw [negL_at b (by omega), Int.mul_neg]
theorem invT_neg (b : List Int) (i k : Nat) : invT (negL b) i k = -invT b i k := by
  unfold invT
  rw [← su_neg]
  refine su_congr fun p hp => ?_
  rw [← su_neg]
  refine su_congr fun q hq => ?_
  rw [negL_at b (by omega), Int.mul_neg]
/-- what is turned about comes out turned about -/
theorem fwdL_neg (b : List Int) {k : Nat} (hk : k < 64) : (fwdL b).getD k 0 = -((fwdL (negL b)).getD k 0) := by
  unfold fwdL
  rw [tab_at _ hk, tab_at _ hk, fwdT_neg b, rnd_neg, Int.neg_neg]
theorem invL_neg (b : List Int) {k : Nat} (hk : k < 64) : (invL b).getD k 0 = -((invL (negL b)).getD k 0) := by
  unfold invL
  rw [tab_at _ hk, tab_at _ hk, invT_neg b, rnd_neg, Int.neg_neg]
theorem dct_turns {b : List Int} (h : Wi b (-2047) 2047) : fwdF b = (fwdL b, 0) ∧ fwdF (negL b) = (fwdL (negL b), 0) ∧ invF b = (invL b, 0) ∧ invF (negL b) = (invL (negL b), 0) := by
  have h' := wi_neg h
  refine ⟨?_, ?_, ?_, ?_⟩
  · unfold fwdF; rw [if_pos (show Wi b (-2048) 2047 from fun j hj => by have := h j hj; omega)]
  · unfold fwdF; rw [if_pos (show Wi (negL b) (-2048) 2047 from fun j hj => by have := h' j hj; omega)]
  · unfold invF; rw [if_pos (show Wi b (-1048576) 1048576 from fun j hj => by have := h j hj; omega)]
  · unfold invF; rw [if_pos (show Wi (negL b) (-1048576) 1048576 from fun j hj => by have := h' j hj; omega)]

/-- a block whose rows are the columns of another one -/
def turnL (b : List Int) : List Int := tab fun j => b.getD (8 * (j % 8) + j / 8) 0
theorem turnL_len (b : List Int) : (turnL b).length = 64 := tab_len _
theorem turnL_at (b : List Int) {p q : Nat} (hp : p < 8) (hq : q < 8) : (turnL b).getD (8 * p + q) 0 = b.getD (8 * q + p) 0 := by
  unfold turnL
  rw [tab_at _ (by omega), show (8 * p + q) % 8 = q by omega, show (8 * p + q) / 8 = p by omega]
theorem wi_turn {b : List Int} {lo hi : Int} : Wi (turnL b) lo hi ↔ Wi b lo hi := by
  constructor
  · intro h k hk
    have := h (8 * (k % 8) + k / 8) (by omega)
    rw [turnL_at b (by omega) (by omega), show 8 * (k / 8) + k % 8 = k by omega] at this
    exact this
  · intro h k hk
    rw [show k = 8 * (k / 8) + k % 8 by omega, turnL_at b (by omega) (by omega)]
    exact h _ (by omega)
theorem fwdT_turn (b : List Int) (i k : Nat) : fwdT (turnL b) k i = fwdT b i k := by
  unfold fwdT
  rw [su_swap]
  refine su_congr fun p hp => su_congr fun q hq => ?_
  rw [turnL_at b (by omega) (by omega), Int.mul_comm (wv k q)]
theorem invT_turn (b : List Int) (i k : Nat) : invT (turnL b) k i = invT b i k := by
  unfold invT
  rw [su_swap]
  refine su_congr fun p hp => su_congr fun q hq => ?_
  rw [turnL_at b (by omega) (by omega), Int.mul_comm (wv q k)]
/-- rows that are columns come out as rows that are columns -/
theorem fwdF_turn (b : List Int) : (fwdF (turnL b)).2 = (fwdF b).2 ∧ ∀ k, k < 64 → (fwdF b).1.getD k 0 = (fwdF (turnL b)).1.getD (k % 8 * 8 + k / 8) 0 := by
  by_cases h : Wi b (-2048) 2047
  · have e1 : fwdF b = (fwdL b, 0) := by unfold fwdF; rw [if_pos h]
    have e2 : fwdF (turnL b) = (fwdL (turnL b), 0) := by unfold fwdF; rw [if_pos (wi_turn.2 h)]
    rw [e1, e2]
    refine ⟨rfl, fun k hk => ?_⟩
    have a1 := fwdL_at b (u := k / 8) (v := k % 8) (by omega) (by omega)
    have a2 := fwdL_at (turnL b) (u := k % 8) (v := k / 8) (by omega) (by omega)
    rw [show 8 * (k / 8) + k % 8 = k by omega] at a1
    rw [show 8 * (k % 8) + k / 8 = k % 8 * 8 + k / 8 by omega] at a2
    show (fwdL b).getD k 0 = (fwdL (turnL b)).getD (k % 8 * 8 + k / 8) 0
    rw [a1, a2, fwdT_turn b]
  · have e1 : fwdF b = (zeros64, 2) := by unfold fwdF; rw [if_neg h]
    have e2 : fwdF (turnL b) = (zeros64, 2) := by unfold fwdF; rw [if_neg (fun e => h (wi_turn.1 e))]
    rw [e1, e2]
    refine ⟨rfl, fun k hk => ?_⟩
    show zeros64.getD _ 0 = zeros64.getD _ 0
    rw [zeros_at9_, zeros_at9_]
theorem invF_turn (b : List Int) : (invF (turnL b)).2 = (invF b).2 ∧ ∀ k, k < 64 → (invF b).1.getD k 0 = (invF (turnL b)).1.getD (k % 8 * 8 + k / 8) 0 := by
  by_cases h : Wi b (-1048576) 1048576
  · have e1 : invF b = (invL b, 0) := by unfold invF; rw [if_pos h]
    have e2 : invF (turnL b) = (invL (turnL b), 0) := by unfold invF; rw [if_pos (wi_turn.2 h)]
    rw [e1, e2]
    refine ⟨rfl, fun k hk => ?_⟩
    have a1 := invL_at b (u := k / 8) (v := k % 8) (by omega) (by omega)
    have a2 := invL_at (turnL b) (u := k % 8) (v := k / 8) (by omega) (by omega)
    rw [show 8 * (k / 8) + k % 8 = k by omega] at a1
    rw [show 8 * (k % 8) + k / 8 = k % 8 * 8 + k / 8 by omega] at a2
    show (invL b).getD k 0 = (invL (turnL b)).getD (k % 8 * 8 + k / 8) 0
    rw [a1, a2, invT_turn b]
  · have e1 : invF b = (zeros64, 2) := by unfold invF; rw [if_neg h]
    have e2 : invF (turnL b) = (zeros64, 2) := by unfold invF; rw [if_neg (fun e => h (wi_turn.1 e))]
    rw [e1, e2]
    refine ⟨rfl, fun k hk => ?_⟩
    show zeros64.getD _ 0 = zeros64.getD _ 0
    rw [zeros_at9_, zeros_at9_]

/-- samples that are all alike -/
def flatL (n : Int) : List Int := tab fun _ => n
theorem flatL_len (n : Int) : (flatL n).length = 64 := tab_len _
theorem flatL_at (n : Int) {k : Nat} (hk : k < 64) : (flatL n).getD k 0 = n := tab_at _ hk
theorem rows_none : ∀ u, u < 8 → 0 < u → su (wv u) 8 = 0 := by decide +kernel
theorem fwdT_flat (n : Int) (i k : Nat) : fwdT (flatL n) i k = su (wv i) 8 * (su (wv k) 8 * n) := by
  unfold fwdT
  rw [su_congr (g := fun p => wv i p * (su (wv k) 8 * n)) (fun p hp => ?_), su_mul_right]
  rw [← su_mul_right, ← su_mul]
  refine su_congr fun q hq => ?_
  rw [flatL_at n (by omega), Int.mul_assoc]
/-- samples that are all alike have no wave but the first -/
theorem fwdL_flat (n : Int) {k : Nat} (hk : k < 64) (h0 : 0 < k) : (fwdL (flatL n)).getD k 0 = 0 := by
  have a := fwdL_at (flatL n) (u := k / 8) (v := k % 8) (by omega) (by omega)
  rw [show 8 * (k / 8) + k % 8 = k by omega] at a
  rw [a, fwdT_flat]
  have e : su (wv (k / 8)) 8 * (su (wv (k % 8)) 8 * n) = 0 := by
    by_cases h : 0 < k / 8
    · rw [rows_none _ (by omega) h, Int.zero_mul]
    · rw [rows_none (k % 8) (by omega) (by omega), Int.zero_mul, Int.mul_zero]
  rw [e]
  decide
theorem flat_wi (n lo hi : Int) : Wi (flatL n) lo hi ↔ lo ≤ n ∧ n ≤ hi := by
  constructor
  · intro h
    have := h 0 (by omega)
    rwa [flatL_at n (by omega)] at this
  · intro h k hk
    rw [flatL_at n hk]
    exact h
end Go.Proofs.YtmadkpnkmkajoaaDoor

namespace Go.Proofs.YtmadkpnkmkajoaaDoor
open Go.RowKit
set_option maxRecDepth 20000

/-- a fraction rounded is off by half a part at most -/
theorem rnd_off {n d : Int} (h : Frac n d) : 2 * (rnd n d * d - n) ≤ d ∧ -d ≤ 2 * (rnd n d * d - n) := by
  have key : ∀ n, Frac n d → 0 ≤ n → 2 * (rnd n d * d - n) ≤ d ∧ -d ≤ 2 * (rnd n d * d - n) := by
    intro n h h0
    rw [rnd_pos h h0]
    have e := Int.mul_ediv_add_emod (n + d / 2) d
    have r0 := Int.emod_nonneg (n + d / 2) (show d ≠ 0 by have := h.1; omega)
    have r1 := Int.emod_lt_of_pos (n + d / 2) (show 0 < d by have := h.1; omega)
    rw [Int.mul_comm] at e
    obtain ⟨Q, hQ⟩ : ∃ Q, Q = (n + d / 2) / d * d := ⟨_, rfl⟩
    rw [← hQ] at e ⊢
    omega
  by_cases h0 : 0 ≤ n
  · exact key n h h0
  · have h1 := key (-n) h.neg (by omega)
    rw [rnd_neg, Int.neg_mul] at h1
    omega

/-- the waves' products, column by column -/
def kk (y p : Nat) : Int := su (fun u => wv u y * wv u p) 8
/-- what a sample's sum is off by, from one sample -/
def dd (y x p q : Nat) : Int := kk y p * kk x q - (if p = y then (if q = x then 4503599627370496 else 0) else 0)
theorem near_numbers : ∀ y, y < 8 → ∀ x, x < 8 → 128 * su (fun p => su (fun q => ((dd y x p q).natAbs : Int)) 8) 8 ≤ 1125899906842624 := by decide +kernel

/-- the waves of the waves are the samples, nearly -/
theorem back_sum (b : List Int) (y x : Nat) : su (fun u => su (fun v => wv u y * wv v x * fwdT b u v) 8) 8 = su (fun p => su (fun q => kk y p * kk x q * b.getD (8 * p + q) 0) 8) 8 := by
  have h1 : ∀ u v, wv u y * wv v x * fwdT b u v = su (fun p => su (fun q => (wv u y * wv u p) * ((wv v x * wv v q) * b.getD (8 * p + q) 0)) 8) 8 := fun u v => by
    unfold fwdT
    rw [← su_mul]
    refine su_congr fun p _ => ?_
    rw [← su_mul]
    refine su_congr fun q _ => ?_
    simp only [Int.mul_assoc, Int.mul_left_comm]
  have h2 : su (fun u => su (fun v => wv u y * wv v x * fwdT b u v) 8) 8 = su (fun u => su (fun p => su (fun q => su (fun v => (wv u y * wv u p) * ((wv v x * wv v q) * b.getD (8 * p + q) 0)) 8) 8) 8) 8 := by
    refine su_congr fun u _ => ?_
    rw [su_congr (fun v _ => h1 u v), su_swap]
    refine su_congr fun p _ => ?_
    rw [su_swap]
  rw [h2, su_swap]
  refine su_congr fun p _ => ?_
  rw [su_swap]
  refine su_congr fun q _ => ?_
  have h3 : ∀ u, su (fun v => (wv u y * wv u p) * ((wv v x * wv v q) * b.getD (8 * p + q) 0)) 8 = (wv u y * wv u p) * (kk x q * b.getD (8 * p + q) 0) := fun u => by
    rw [su_mul, su_mul_right]
    rfl
  rw [su_congr (fun u _ => h3 u), su_mul_right, Int.mul_assoc]
  rfl
theorem su_sub (f g : Nat → Int) (n : Nat) : su (fun i => f i - g i) n = su f n - su g n := by
  rw [su_congr (g := fun i => f i + -g i) (fun i _ => by omega), su_add, su_neg]
  omega
/-- the samples' sum, and the sample -/
theorem back_near {b : List Int} (h : Wi b (-128) 128) {y x : Nat} (hy : y < 8) (hx : x < 8) :
    -1125899906842624 ≤ su (fun p => su (fun q => kk y p * kk x q * b.getD (8 * p + q) 0) 8) 8 - 4503599627370496 * b.getD (8 * y + x) 0 ∧
    su (fun p => su (fun q => kk y p * kk x q * b.getD (8 * p + q) 0) 8) 8 - 4503599627370496 * b.getD (8 * y + x) 0 ≤ 1125899906842624 := by
  have e1 : 4503599627370496 * b.getD (8 * y + x) 0 = su (fun p => su (fun q => (if p = y then (if q = x then 4503599627370496 else 0) else 0) * b.getD (8 * p + q) 0) 8) 8 := by
    have h1 : ∀ p, su (fun q => (if p = y then (if q = x then (4503599627370496 : Int) else 0) else 0) * b.getD (8 * p + q) 0) 8 = if p = y then 4503599627370496 * b.getD (8 * p + x) 0 else 0 := fun p => by
      by_cases hp : p = y
      · rw [if_pos hp, ← su_only (fun q => 4503599627370496 * b.getD (8 * p + q) 0) x 8 hx]
        refine su_congr fun q _ => ?_
        rw [if_pos hp]
        by_cases hq : q = x
        · rw [if_pos hq, if_pos hq]
        · rw [if_neg hq, if_neg hq, Int.zero_mul]
      · rw [if_neg hp, su_congr (g := fun _ => 0) (fun q _ => by rw [if_neg hp, Int.zero_mul]), su_none]
    rw [su_congr (fun p _ => h1 p), su_only (fun p => 4503599627370496 * b.getD (8 * p + x) 0) y 8 hy]
  rw [e1, ← su_sub]
  have e2 : ∀ p, su (fun q => kk y p * kk x q * b.getD (8 * p + q) 0) 8 - su (fun q => (if p = y then (if q = x then (4503599627370496 : Int) else 0) else 0) * b.getD (8 * p + q) 0) 8 = su (fun q => dd y x p q * b.getD (8 * p + q) 0) 8 := fun p => by
    rw [← su_sub]
    refine su_congr fun q _ => ?_
    unfold dd
    rw [Int.sub_mul]
  rw [su_congr (fun p _ => e2 p)]
  have hn := near_numbers y hy x hx
  have hb : -su (fun p => su (fun q => ((dd y x p q).natAbs : Int) * 128) 8) 8 ≤ su (fun p => su (fun q => dd y x p q * b.getD (8 * p + q) 0) 8) 8 ∧ su (fun p => su (fun q => dd y x p q * b.getD (8 * p + q) 0) 8) 8 ≤ su (fun p => su (fun q => ((dd y x p q).natAbs : Int) * 128) 8) 8 :=
    su_two fun p hp => su_two fun q hq => mul_abs (h (8 * p + q) (by omega)).1 (h (8 * p + q) (by omega)).2
  have e3 : su (fun p => su (fun q => ((dd y x p q).natAbs : Int) * 128) 8) 8 = su (fun p => su (fun q => ((dd y x p q).natAbs : Int)) 8) 8 * 128 := by
    rw [su_congr (fun p _ => su_mul_right 128 _ 8), su_mul_right]
  rw [e3] at hb
  omega
theorem wi_128 {b : List Int} (h : Wi b (-128) 127) : Wi b (-128) 128 := fun k hk => by have := h k hk; omega
/-- the waves of samples -/
theorem fwdL_small {b : List Int} (h : Wi b (-128) 128) : Wi (fwdL b) (-1048576) 1048576 := fun k hk => by
  have a := fwdL_at b (u := k / 8) (v := k % 8) (by omega) (by omega)
  rw [show 8 * (k / 8) + k % 8 = k by omega] at a
  rw [a]
  have t := fwdT_small h (by omega) (i := k / 8) (k := k % 8) (by omega) (by omega)
  have r := rnd_off (n := fwdT b (k / 8) (k % 8)) (d := 67108864) (by unfold Frac; omega)
  omega
/-- forward and back is off by 4 at most -/
theorem dct_near {b : List Int} (h : Wi b (-128) 127) : fwdF b = (fwdL b, 0) ∧ invF (fwdL b) = (invL (fwdL b), 0) ∧ ∀ k, k < 64 → -4 ≤ b.getD k 0 - (invL (fwdL b)).getD k 0 ∧ b.getD k 0 - (invL (fwdL b)).getD k 0 ≤ 4 := by
  have h8 := wi_128 h
  have hs := fwdL_small h8
  refine ⟨by unfold fwdF; rw [if_pos (show Wi b (-2048) 2047 from fun k hk => by have := h k hk; omega)], by unfold invF; rw [if_pos hs], fun k hk => ?_⟩
  have a := invL_at (fwdL b) (u := k / 8) (v := k % 8) (by omega) (by omega)
  rw [show 8 * (k / 8) + k % 8 = k by omega] at a
  rw [a]
  obtain ⟨y, hy⟩ : ∃ y, y = k / 8 := ⟨_, rfl⟩
  obtain ⟨x, hx⟩ : ∃ x, x = k % 8 := ⟨_, rfl⟩
  have hy8 : y < 8 := by omega
  have hx8 : x < 8 := by omega
  rw [← hy, ← hx, show b.getD k 0 = b.getD (8 * y + x) 0 by rw [show 8 * y + x = k by omega]]
  -- the waves are their sums, but for what was rounded
  have hU : 67108864 * invT (fwdL b) y x = su (fun u => su (fun v => wv u y * wv v x * fwdT b u v) 8) 8 + su (fun u => su (fun v => wv u y * wv v x * (rnd (fwdT b u v) 67108864 * 67108864 - fwdT b u v)) 8) 8 := by
    unfold invT
    rw [← su_add, ← su_mul]
    refine su_congr fun u hu => ?_
    rw [← su_add, ← su_mul]
    refine su_congr fun v hv => ?_
    rw [fwdL_at b hu hv, ← Int.mul_add, Int.mul_left_comm, Int.mul_comm 67108864]
    congr 1
    omega
  have hR := sum_small (c := fun u => wv u y) (d := fun v => wv v x) (z := fun u v => rnd (fwdT b u v) 67108864 * 67108864 - fwdT b u v) (M := 33554432) (fun u hu v hv => by
    have t := fwdT_small h8 (by omega) hu hv
    have r := rnd_off (n := fwdT b u v) (d := 67108864) (by unfold Frac; omega)
    show -33554432 ≤ rnd (fwdT b u v) 67108864 * 67108864 - fwdT b u v ∧ rnd (fwdT b u v) 67108864 * 67108864 - fwdT b u v ≤ 33554432
    omega)
  have c1 := colA_is y hy8
  have c2 := colA_is x hx8
  unfold colA at c1 c2
  rw [c1, c2] at hR
  have hA := back_sum b y x
  have hN := back_near h8 hy8 hx8
  have t := invT_small hs hy8 hx8
  have r := rnd_off (n := invT (fwdL b) y x) (d := 67108864) (by unfold Frac; omega)
  rw [hA] at hU
  obtain ⟨G, hG⟩ : ∃ G, G = rnd (invT (fwdL b) y x) 67108864 := ⟨_, rfl⟩
  rw [← hG] at r ⊢
  clear hG
  omega
end Go.Proofs.YtmadkpnkmkajoaaDoor

namespace Go.Proofs.YtmadkpnkmkajoaaDoor
open Go.RowKit
set_option maxRecDepth 20000

/-- the waves lie in the program's memory as its text lays them -/
structure Tab9_ (w : World) : Prop where
  waves : w.rangeAt 3 0 (cellsI wz)
theorem Tab9_.on {w w' : World} (h : Tab9_ w) (k : Below w.heap.size w w') : Tab9_ w' := ⟨range_on h.waves k (by decide)⟩
theorem Tab9_.load {w : World} (h : Tab9_ w) : (Instr.loadAt 28 (.pointer (some ⟨3, 0, none⟩))).run Tryd.prog w = .ok (blkV wz) w :=
  run_loadAt_mid w 3 0 28 (cellsI wz) _ h.waves Tryd.underlying28 rfl (by rw [arr25_size, cellsI_len]; rfl)
theorem Tab9_.cell {w : World} (h : Tab9_ w) {k : Nat} (hk : k < 64) : w.cell? ⟨3, k, none⟩ = some (.int .i64 (wz.getD k 0)) := by
  have := h.waves k _ (cellsI_get wz k (by rw [wz_len]; exact hk))
  rwa [Nat.zero_add] at this

/-- the blocks of a list lie in memory -/
structure Know (w wr : World) (L : List (Nat × List Int)) : Prop where
  all : ∀ p ∈ L, Blk wr p.1 p.2
  tab : Tab9_ wr
  bel : Below w.heap.size w wr
section
variable {w wr w' : World} {L : List (Nat × List Int)}
theorem Know.on (h : Know w wr L) (k : Below wr.heap.size wr w') : Know w w' L := ⟨fun p hp => (h.all p hp).on k, h.tab.on k, on_trans h.bel k⟩
theorem Know.get (h : Know w wr L) {g : Nat} {b : List Int} (hp : (g, b) ∈ L) : Blk wr g b := h.all _ hp
theorem Know.n0 {g : Nat} {b : List Int} (h : Know w wr ((g, b) :: L)) : Blk wr g b := h.all _ (.head _)
theorem Know.n1 {p0 : Nat × List Int} {g : Nat} {b : List Int} (h : Know w wr (p0 :: (g, b) :: L)) : Blk wr g b := h.all _ (.tail _ (.head _))
theorem Know.n2 {p0 p1 : Nat × List Int} {g : Nat} {b : List Int} (h : Know w wr (p0 :: p1 :: (g, b) :: L)) : Blk wr g b := h.all _ (.tail _ (.tail _ (.head _)))
theorem Know.n3 {p0 p1 p2 : Nat × List Int} {g : Nat} {b : List Int} (h : Know w wr (p0 :: p1 :: p2 :: (g, b) :: L)) : Blk wr g b := h.all _ (.tail _ (.tail _ (.tail _ (.head _))))
theorem Know.n4 {p0 p1 p2 p3 : Nat × List Int} {g : Nat} {b : List Int} (h : Know w wr (p0 :: p1 :: p2 :: p3 :: (g, b) :: L)) : Blk wr g b := h.all _ (.tail _ (.tail _ (.tail _ (.tail _ (.head _)))))
theorem Know.n5 {p0 p1 p2 p3 p4 : Nat × List Int} {g : Nat} {b : List Int} (h : Know w wr (p0 :: p1 :: p2 :: p3 :: p4 :: (g, b) :: L)) : Blk wr g b := h.all _ (.tail _ (.tail _ (.tail _ (.tail _ (.tail _ (.head _))))))
theorem Know.n6 {p0 p1 p2 p3 p4 p5 : Nat × List Int} {g : Nat} {b : List Int} (h : Know w wr (p0 :: p1 :: p2 :: p3 :: p4 :: p5 :: (g, b) :: L)) : Blk wr g b := h.all _ (.tail _ (.tail _ (.tail _ (.tail _ (.tail _ (.tail _ (.head _)))))))
theorem Know.laid {b : List Int} {Z : Array Value} (h : Know w wr L) (hb : Blk w' wr.heap.size b) (k : Kept (fun i => i = wr.heap.size) (wr.alloc (.cells Z 29)) w') : Know w w' ((wr.heap.size, b) :: L) := by
  have hk := (on_alloc wr (.cells Z 29)).trans (k.below (B := wr.heap.size) (by simp) (fun i hi e => by omega))
  refine ⟨fun p hp => ?_, h.tab.on hk, on_trans h.bel hk⟩
  rcases List.mem_cons.1 hp with rfl | hp
  · exact hb
  · exact (h.all p hp).on hk
theorem Know.two {b s : List Int} {cs cu : Array Value} (hT : Tab9_ w) (h : Two w wr cs cu b s) : Know w wr [(w.heap.size + 1, s), (w.heap.size, b)] := by
  refine ⟨fun p hp => ?_, hT.on h.bel, h.bel⟩
  rcases List.mem_cons.1 hp with rfl | hp
  · exact h.b2
  · rw [List.mem_singleton] at hp
    subst hp
    exact h.b1
end

/-- a number of the block laid last is written -/
theorem Know.put {w wr : World} {L : List (Nat × List Int)} {g : Nat} {b : List Int} (h : Know w wr ((g, b) :: L)) (hT : Tab9_ w) (hg : w.heap.size ≤ g) (hne : ∀ p ∈ L, p.1 ≠ g) (k : Nat) (z : Int) : Know w (wr.setCell ⟨g, k, none⟩ (.int .i64 z)) ((g, b.set k z) :: L) := by
  have hb : Below w.heap.size w (wr.setCell ⟨g, k, none⟩ (.int .i64 z)) := ((Kept.of_below h.bel (fun i => i = g)).setCell (p := ⟨g, k, none⟩) (fun _ => rfl) _).below (Nat.le_refl _) (fun i hi e => by omega)
  refine ⟨fun p hp => ?_, hT.on hb, hb⟩
  rcases List.mem_cons.1 hp with rfl | hp
  · exact h.n0.put k z
  · exact ⟨(h.all p (.tail _ hp)).box.beside (hne p hp) _, (h.all p (.tail _ hp)).len⟩

/-- what awake answers -/
def Woke (w : World) (e : Ending) (w' : World) : Prop := e = .returned (.bool true) ∧ Below w.heap.size w w'

/-- a block that a call told is laid in new memory -/
theorem laid_new {w w' w2 : World} {b : List Int} {Z : Array Value} (bel : Below w.heap.size w w') (hb : Blk w2 w'.heap.size b) (k : Kept (fun i => i = w'.heap.size) (w'.alloc (.cells Z 29)) w2) : Blk w2 w'.heap.size b ∧ Below w'.heap.size w' w2 ∧ Below w.heap.size w w2 := by
  have h := (on_alloc w' (.cells Z 29)).trans (k.below (B := w'.heap.size) (by simp) (fun i hi e => by omega))
  exact ⟨hb, h, on_trans bel h⟩

/-- two equal blocks are equal: the operation may be taken first -/
theorem yieldsIf_eql23 {ops : Array Oper} {S : World → Prop} {op : Oper} {a : Act} (hw : Region.wanted op (yielded ops a.tmps) = true) (x y : Operand) (ho : op.op = .binOp .eql 29 x y 29)
    (B : List Int) (hB : B.length = 64) (hx : a.eval x = blkV B) (hy : a.eval y = blkV B) : YieldsIf Tryd.prog ops S op (.bool true) a :=
  .inl ⟨hw, fun w _ => by
    have hg : Tryd.prog.eqGuardType Tryd.prog.depth 29 = false := by kernel_rfl
    unfold execOp
    unfold blkV at hx hy
    have he := blk_equal w hB
    unfold blkV at he
    simp only [ho, hx, hy, Sem.run_bind, run_eqGuard_agg w .eql 29 x y _ _ hg, run_eql_struct, he, Result.andThen_ok]
    rfl⟩
end Go.Proofs.YtmadkpnkmkajoaaDoor

namespace Go.Proofs.YtmadkpnkmkajoaaDoor
open Go.RowKit
set_option maxRecDepth 20000

/-- the first j terms of the number at index n -/
def psT (f b : List Int) (n j : Nat) : Int := su (fun m => f.getD (8 * (n % 8) + m) 0 * b.getD (8 * m + n / 8) 0) j
/-- what pass tells -/
def passL (f b : List Int) : List Int := tab fun n => psT f b n 8
/-- what it has when it has come to column i, row k and term j -/
def partL (f b : List Int) (i k j : Nat) : List Int := tab fun n => if n % 8 < i ∨ (n % 8 = i ∧ n / 8 < k) then psT f b n 8 else if n = 8 * k + i then psT f b n j else 0
theorem passL_len (f b : List Int) : (passL f b).length = 64 := tab_len _
theorem partL_len (f b : List Int) (i k j : Nat) : (partL f b i k j).length = 64 := tab_len _
theorem tab_set (g : Nat → Int) {k : Nat} (hk : k < 64) (z : Int) : (tab g).set k z = tab fun n => if n = k then z else g n := by
  refine list_eq (by rw [List.length_set, tab_len]) (tab_len _) fun j hj => ?_
  rw [tab_at _ hj, List.getD_eq_getElem?_getD, List.getElem?_set]
  by_cases e : k = j
  · subst e; simp [tab_len, hk]
  · rw [if_neg e, if_neg (fun h => e h.symm), ← List.getD_eq_getElem?_getD, tab_at _ hj]
theorem tab_congr {g h : Nat → Int} (e : ∀ n, n < 64 → g n = h n) : tab g = tab h := list_eq (tab_len _) (tab_len _) fun k hk => by rw [tab_at _ hk, tab_at _ hk, e k hk]
section
variable {f b : List Int} {i k j : Nat}
theorem partL_zero : partL f b 0 0 0 = zeros64 := list_eq (tab_len _) zeros_len fun n hn => by
  unfold partL
  rw [tab_at _ hn, zeros_at9_, if_neg (by omega)]
  split <;> rfl
theorem partL_all : partL f b 8 0 0 = passL f b := tab_congr fun n hn => by rw [if_pos (by omega)]
theorem partL_row : partL f b i 8 0 = partL f b (i + 1) 0 0 := tab_congr fun n hn => by
  by_cases h : n % 8 < i ∨ (n % 8 = i ∧ n / 8 < 8)
  · rw [if_pos h, if_pos (by omega)]
  · rw [if_neg h, if_neg (by omega)]
    rw [if_neg (by omega)]
    split <;> rfl
theorem partL_num (hi : i < 8) : partL f b i k 8 = partL f b i (k + 1) 0 := tab_congr fun n hn => by
  by_cases h : n % 8 < i ∨ (n % 8 = i ∧ n / 8 < k)
  · rw [if_pos h, if_pos (by omega)]
  · rw [if_neg h]
    by_cases e : n = 8 * k + i
    · rw [if_pos e, if_pos (by omega)]
    · rw [if_neg e, if_neg (by omega)]
      split <;> rfl
theorem partL_at (hi : i < 8) (hk : k < 8) : (partL f b i k j).getD (8 * k + i) 0 = psT f b (8 * k + i) j := by
  unfold partL
  rw [tab_at _ (by omega), if_neg (by omega), if_pos rfl]
theorem partL_more (hi : i < 8) (hk : k < 8) : (partL f b i k j).set (8 * k + i) (psT f b (8 * k + i) j + f.getD (8 * i + j) 0 * b.getD (8 * j + k) 0) = partL f b i k (j + 1) := by
  unfold partL
  rw [tab_set _ (by omega)]
  refine tab_congr fun n hn => ?_
  by_cases e : n = 8 * k + i
  · subst e
    rw [if_pos rfl, if_neg (by omega), if_pos rfl]
    unfold psT
    rw [su_succ, show (8 * k + i) % 8 = i by omega, show (8 * k + i) / 8 = k by omega]
  · rw [if_neg e, if_neg e, if_neg e]
end
/-- amounts of the sums' terms -/
theorem term_small {c z M : Int} (c0 : -4017 ≤ c) (c1 : c ≤ 4017) (z0 : -M ≤ z) (z1 : z ≤ M) : -(4017 * M) ≤ c * z ∧ c * z ≤ 4017 * M := by
  have a := mul_abs (c := c) z0 z1
  have h : (c.natAbs : Int) * M ≤ 4017 * M := Int.mul_le_mul_of_nonneg_right (by omega) (by omega)
  omega
theorem psT_small {f b : List Int} {M : Int} (hf : Wi f (-4017) 4017) (hb : Wi b (-M) M) {n : Nat} (hn : n < 64) : ∀ {j : Nat}, j ≤ 8 → -(4017 * M * j) ≤ psT f b n j ∧ psT f b n j ≤ 4017 * M * j
  | 0, _ => by unfold psT; rw [su_zero]; omega
  | j + 1, hj => by
    have ih := psT_small hf hb hn (j := j) (by omega)
    have h1 := hf (8 * (n % 8) + j) (by omega)
    have h2 := hb (8 * j + n / 8) (by omega)
    have t := term_small h1.1 h1.2 h2.1 h2.2
    unfold psT at ih ⊢
    rw [su_succ]
    have e : 4017 * M * ((j + 1 : Nat) : Int) = 4017 * M * j + 4017 * M := by rw [Int.natCast_add, Int.mul_add]; omega
    rw [e]
    omega
theorem passL_small {f b : List Int} {M : Int} (hf : Wi f (-4017) 4017) (hb : Wi b (-M) M) : Wi (passL f b) (-(32136 * M)) (32136 * M) := fun n hn => by
  have := psT_small hf hb hn (j := 8) (by omega)
  unfold passL
  rw [tab_at _ hn]
  omega

/-- two blocks that are boxed, and one that is worked on -/
structure Tre (w wr : World) (b f o : List Int) : Prop where
  b1 : Blk wr w.heap.size b
  b2 : Blk wr (w.heap.size + 1) f
  out : Blk wr (w.heap.size + 1 + 1) o
  bel : Below w.heap.size w wr
section
variable {w wr w' : World} {b f o : List Int}
theorem Tre.on (h : Tre w wr b f o) (k : Below wr.heap.size wr w') : Tre w w' b f o := ⟨h.b1.on k, h.b2.on k, h.out.on k, on_trans h.bel k⟩
theorem Tre.put (h : Tre w wr b f o) (k : Nat) (z : Int) : Tre w (wr.setCell ⟨w.heap.size + 1 + 1, k, none⟩ (.int .i64 z)) b f (o.set k z) :=
  ⟨⟨h.b1.box.beside (by show w.heap.size ≠ w.heap.size + 1 + 1; omega) _, h.b1.len⟩, ⟨h.b2.box.beside (by show w.heap.size + 1 ≠ w.heap.size + 1 + 1; omega) _, h.b2.len⟩, h.out.put k z,
    ((Kept.of_below h.bel (fun i => i = w.heap.size + 1 + 1)).setCell (p := ⟨w.heap.size + 1 + 1, k, none⟩) (fun _ => rfl) _).below (Nat.le_refl _) (fun i hi e => by omega)⟩
theorem Tre.done (h : Tre w wr b f o) {c : List Int} (hc : Blk w' (w.heap.size + 1 + 1) c) (k : Kept (fun i => i = w.heap.size + 1 + 1) wr w') : Below w.heap.size w w' ∧ Blk w' (w.heap.size + 1 + 1) c :=
  ⟨h.bel.trans (k.below h.bel.size (fun i hi e => by omega)), hc⟩
end
theorem tre_boxed (w : World) (b f : List Int) (hb : b.length = 64) (hf : f.length = 64) : ∃ cs cu Z w3, blkV b = .agg cs ∧ blkV f = .agg cu ∧ (∀ w, (zeroValue 29).run Tryd.prog w = .ok (.agg Z) w) ∧ ((w.alloc (.cells cs 29)).alloc (.cells cu 29)).alloc (.cells Z 29) = w3 ∧ Z.size = 64 ∧ Tre w w3 b f zeros64 := by
  obtain ⟨cs, cu, w2, h1, h2, h⟩ := two_boxed w b f hb hf
  have hA : Blk (w2.alloc (.cells (cellsI zeros64).toArray 29)) (w.heap.size + 1 + 1) zeros64 := by have := h.size; rw [show w.heap.size + 1 + 1 = w2.heap.size by omega]; exact Blk.made _ _ zeros_len
  refine ⟨cs, cu, (cellsI zeros64).toArray, _, h1, h2, fun w => zero239_ w, rfl, rfl, ?_⟩
  rw [h.e]
  exact ⟨h.b1.on (on_alloc _ _), h.b2.on (on_alloc _ _), hA, on_trans h.bel (on_alloc _ _)⟩
/-- what a call answers that answers a block -/
def Gives (w : World) (R : List Int) (e : Ending) (w' : World) : Prop := e = .returned (blkV R) ∧ Below w.heap.size w w'
set_option maxRecDepth 10000 in
set_option maxHeartbeats 3200000 in
theorem pass_any (w : World) (b f : List Int) (M : Int) (hb : b.length = 64) (hf : f.length = 64) (wb : Wi b (-M) M) (wf : Wi f (-4017) 4017) (m0 : 0 ≤ M) (m1 : M ≤ 100000000000) : Calls Tryd.prog 116 #[blkV b, blkV f] w (Gives w (passL f b)) := by
  obtain ⟨cs, cu, Z, w3, hbv, hsv, hz, hw3, _, hT⟩ := tre_boxed w b f hb hf
  have H := Lib.hid (And.intro hT (And.intro wb wf))
  rw [hbv, hsv]
  have HW := Lib.hid hw3
  clear hb hf wb wf hbv hsv hw3 hT
  go_enter Tryd.func116, Tryd.ntmps116
  go_wp2_with fail
  rw [HW.out]
  go_loopw [8] (fun i wr => ∃ i' : Nat, i' ≤ 8 ∧ i = .int .i64 i' ∧ Tre w wr b f (partL f b i' 0 0)) (fun i _ => 8 - (intOf i).toNat)
  case atStart => exact ⟨0, by omega, rfl, by rw [partL_zero]; exact H.out.1⟩
  case round =>
    obtain ⟨i, hi, rfl, hR⟩ := hrel
    have HR := Lib.hid hR
    clear hR
    by_cases hi8 : i < 8
    · go_wp2_with fail
      go_loopw [11] (fun k wr => ∃ k' : Nat, k' ≤ 8 ∧ k = .int .i64 k' ∧ Tre w wr b f (partL f b i k' 0)) (fun k _ => 8 - (intOf k).toNat)
      case atStart => exact ⟨0, by omega, rfl, HR.out⟩
      case round =>
        obtain ⟨k, hk, rfl, hR⟩ := hrel
        have HR := Lib.hid hR
        clear hR
        by_cases hk8 : k < 8
        · go_wp2_with fail
          go_loopw [14] (fun j wr => ∃ j' : Nat, j' ≤ 8 ∧ j = .int .i64 j' ∧ Tre w wr b f (partL f b i k j')) (fun j _ => 8 - (intOf j).toNat)
          case atStart => exact ⟨0, by omega, rfl, HR.out⟩
          case round =>
            obtain ⟨j, hj, rfl, hR⟩ := hrel
            have HR := Lib.hid hR
            clear hR
            by_cases hj8 : j < 8
            · have c1 := HR.out.out.cell (k := 8 * k + i) (by omega)
              have c2 := HR.out.b2.cell (k := 8 * i + j) (by omega)
              have c3 := HR.out.b1.cell (k := 8 * j + k) (by omega)
              have hfr := HR.out.out.free (8 * k + i)
              rw [partL_at hi8 hk8] at c1
              have a1 := psT_small H.out.2.2 H.out.2.1 (n := 8 * k + i) (by omega) (j := j) (by omega)
              have a2 := H.out.2.2 (8 * i + j) (by omega)
              have a3 := H.out.2.1 (8 * j + k) (by omega)
              have a4 := term_small a2.1 a2.2 a3.1 a3.2
              have hm := partL_more (f := f) (b := b) (j := j) hi8 hk8
              obtain ⟨s, hs⟩ : ∃ s, s = psT f b (8 * k + i) j := ⟨_, rfl⟩
              obtain ⟨x, hx⟩ : ∃ x, x = f.getD (8 * i + j) 0 := ⟨_, rfl⟩
              obtain ⟨y, hy⟩ : ∃ y, y = b.getD (8 * j + k) 0 := ⟨_, rfl⟩
              rw [← hs] at c1 a1 hm
              rw [← hx] at c2 a2 a4 hm
              rw [← hy] at c3 a3 a4 hm
              obtain ⟨z, hz'⟩ : ∃ z, z = x * y := ⟨_, rfl⟩
              rw [← hz'] at a4 hm
              have hxy := hz'.symm
              obtain ⟨a10, a11⟩ := a1
              obtain ⟨a40, a41⟩ := a4
              have t1 : 4017 * M * j ≤ 4017 * M * 8 := Int.mul_le_mul_of_nonneg_left (by omega) (by omega)
              have s0 : -3213600000000000 ≤ s := by omega
              have s1 : s ≤ 3213600000000000 := by omega
              have z0 : -401700000000000 ≤ z := by omega
              have z1 : z ≤ 401700000000000 := by omega
              have HM := Lib.hid hm
              clear hs hx hy hz' hm a10 a11 a2 a3 a40 a41 t1
              go_wp2_with fail
              go_region
              go_wp2_with fail
              go_roundw
              case rel =>
                refine ⟨j + 1, by omega, by go_num, ?_⟩
                rw [← HM.out]
                exact (HR.out.on (below_drewN_refl _ _)).put _ _
              case measure => simp [intOf]; omega
            · obtain rfl : j = 8 := by omega
              have hR := HR.out
              rw [partL_num hi8] at hR
              have HR := Lib.hid hR
              clear hR
              go_wp2_with fail
              go_roundw
              case rel => exact ⟨k + 1, by omega, by go_num, HR.out⟩
              case measure => simp [intOf]; omega
        · obtain rfl : k = 8 := by omega
          have hR := HR.out
          rw [partL_row] at hR
          have HR := Lib.hid hR
          clear hR
          go_wp2_with fail
          go_roundw
          case rel => exact ⟨i + 1, by omega, by go_num, HR.out⟩
          case measure => simp [intOf]; omega
    · obtain rfl : i = 8 := by omega
      have hR := HR.out
      rw [partL_all] at hR
      have HR := Lib.hid hR
      clear hR
      go_wp2_with (first
        | (with_reducible refine wpList_load_to (op := ⟨some 41, _, _, _, _, _⟩) rfl 29 (.tmp 4) rfl (.pointer (some ⟨w.heap.size + 1 + 1, 0, none⟩)) rfl (blkV (passL f b)) HR.out.out.load ?_)
        | ((with_reducible refine wpList_store_blk9_ (o := ⟨none, _, _, _, _, _⟩) rfl (.tmp 4) (.tmp 41) rfl rfl (w.heap.size + 1 + 1) (passL f b) rfl rfl _ HR.out.out.box rfl (passL_len f b) ?_)
           intro w9 b9 k9
           have H9 := Lib.hid (HR.out.done b9 k9)
           clear b9 k9)
        | fail)
      refine bodyPost_ret (v := blkV (passL f b)) (results_c (fn := Tryd.f116) Tryd.results116 _ _ (w.heap.size + 1 + 1) _ rfl (loadVar_blk H9.out.2)) rfl ?_
      exact ⟨rfl, H9.out.1⟩
end Go.Proofs.YtmadkpnkmkajoaaDoor

namespace Go.Proofs.YtmadkpnkmkajoaaDoor
open Go.RowKit
set_option maxRecDepth 20000

/-- a block that is boxed, and one that is worked on -/
structure Duo (w wr : World) (b o : List Int) : Prop where
  b1 : Blk wr w.heap.size b
  out : Blk wr (w.heap.size + 1) o
  bel : Below w.heap.size w wr
section
variable {w wr w' : World} {b o : List Int}
theorem Duo.on (h : Duo w wr b o) (k : Below wr.heap.size wr w') : Duo w w' b o := ⟨h.b1.on k, h.out.on k, on_trans h.bel k⟩
theorem Duo.put (h : Duo w wr b o) (k : Nat) (z : Int) : Duo w (wr.setCell ⟨w.heap.size + 1, k, none⟩ (.int .i64 z)) b (o.set k z) :=
  ⟨⟨h.b1.box.beside (by show w.heap.size ≠ w.heap.size + 1; omega) _, h.b1.len⟩, h.out.put k z,
    ((Kept.of_below h.bel (fun i => i = w.heap.size + 1)).setCell (p := ⟨w.heap.size + 1, k, none⟩) (fun _ => rfl) _).below (Nat.le_refl _) (fun i hi e => by omega)⟩
theorem Duo.done (h : Duo w wr b o) {c : List Int} (hc : Blk w' (w.heap.size + 1) c) (k : Kept (fun i => i = w.heap.size + 1) wr w') : Below w.heap.size w w' ∧ Blk w' (w.heap.size + 1) c :=
  ⟨h.bel.trans (k.below h.bel.size (fun i hi e => by omega)), hc⟩
end
theorem duo_boxed (w : World) (b : List Int) (hb : b.length = 64) : ∃ cs Z w2, blkV b = .agg cs ∧ blkV zeros64 = .agg Z ∧ Z.size = 64 ∧ (∀ w, (zeroValue 29).run Tryd.prog w = .ok (.agg Z) w) ∧ (w.alloc (.cells cs 29)).alloc (.cells Z 29) = w2 ∧ Duo w w2 b zeros64 ∧ w2.heap.size = w.heap.size + 1 + 1 := by
  have hB : Blk (w.alloc (.cells (cellsI b).toArray 29)) w.heap.size b := Blk.made _ _ hb
  have hz : (w.alloc (.cells (cellsI b).toArray 29)).heap.size = w.heap.size + 1 := by simp
  have hA : Blk ((w.alloc (.cells (cellsI b).toArray 29)).alloc (.cells (cellsI zeros64).toArray 29)) (w.heap.size + 1) zeros64 := by rw [← hz]; exact Blk.made _ _ zeros_len
  exact ⟨_, _, _, rfl, rfl, rfl, fun w => zero239_ w, rfl, ⟨hB.on (on_alloc _ _), hA, on_trans (on_alloc _ _) (on_alloc _ _)⟩, by simp⟩

theorem turnL_put {b : List Int} {i k : Nat} (hi : i < 8) (hk : k < 8) : (mix (8 * i + k) (turnL b) zeros64).set (8 * i + k) (b.getD (8 * k + i) 0) = mix (8 * i + (k + 1)) (turnL b) zeros64 := by
  rw [← turnL_at b hi hk, mix_more (turnL_len b) zeros_len (by omega)]
  rfl

set_option maxRecDepth 10000 in
set_option maxHeartbeats 3200000 in
theorem transposed_any (w : World) (b : List Int) (hb : b.length = 64) : Calls Tryd.prog 93 #[blkV b] w (Gives w (turnL b)) := by
  obtain ⟨cs, Z, w2, hbv, _, _, hz, hw2, hD, _⟩ := duo_boxed w b hb
  have H := Lib.hid hD
  rw [hbv]
  have HW := Lib.hid hw2
  clear hbv hw2 hD hb
  go_enter Tryd.func93, Tryd.ntmps93
  go_wp2_with fail
  rw [HW.out]
  go_loopw [5] (fun i wr => ∃ i' : Nat, i' ≤ 8 ∧ i = .int .i64 i' ∧ Duo w wr b (mix (8 * i') (turnL b) zeros64)) (fun i _ => 8 - (intOf i).toNat)
  case atStart => exact ⟨0, by omega, rfl, by rw [Nat.mul_zero, mix_zero]; exact H.out⟩
  case round =>
    obtain ⟨i, hi, rfl, hR⟩ := hrel
    have HR := Lib.hid hR
    clear hR
    by_cases hi8 : i < 8
    · go_wp2_with fail
      go_loopw [8] (fun k wr => ∃ k' : Nat, k' ≤ 8 ∧ k = .int .i64 k' ∧ Duo w wr b (mix (8 * i + k') (turnL b) zeros64)) (fun k _ => 8 - (intOf k).toNat)
      case atStart => exact ⟨0, by omega, rfl, HR.out⟩
      case round =>
        obtain ⟨k, hk, rfl, hR⟩ := hrel
        have HR := Lib.hid hR
        clear hR
        by_cases hk8 : k < 8
        · have c1 := HR.out.out.cell (k := 8 * i + k) (by omega)
          have c2 := HR.out.b1.cell (k := 8 * k + i) (by omega)
          have hfr := HR.out.out.free (8 * i + k)
          have hm := turnL_put (b := b) hi8 hk8
          obtain ⟨x, hx⟩ : ∃ x, x = (mix (8 * i + k) (turnL b) zeros64).getD (8 * i + k) 0 := ⟨_, rfl⟩
          obtain ⟨y, hy⟩ : ∃ y, y = b.getD (8 * k + i) 0 := ⟨_, rfl⟩
          rw [← hx] at c1
          rw [← hy] at c2 hm
          have HM := Lib.hid hm
          clear hm hx hy
          go_wp2_with fail
          go_roundw
          case rel =>
            refine ⟨k + 1, by omega, by go_num, ?_⟩
            rw [← HM.out]
            exact HR.out.put _ _
          case measure => simp [intOf]; omega
        · obtain rfl : k = 8 := by omega
          have hR := HR.out
          rw [show 8 * i + 8 = 8 * (i + 1) by omega] at hR
          have HR := Lib.hid hR
          clear hR
          go_wp2_with fail
          go_roundw
          case rel => exact ⟨i + 1, by omega, by go_num, HR.out⟩
          case measure => simp [intOf]; omega
    · obtain rfl : i = 8 := by omega
      have hR := HR.out
      rw [show 8 * 8 = 64 from rfl, mix_all (turnL_len b) zeros_len] at hR
      have HR := Lib.hid hR
      clear hR
      go_wp2_with (first
        | (with_reducible refine wpList_load_to (op := ⟨some 24, _, _, _, _, _⟩) rfl 29 (.tmp 2) rfl (.pointer (some ⟨w.heap.size + 1, 0, none⟩)) rfl (blkV (turnL b)) HR.out.out.load ?_)
        | ((with_reducible refine wpList_store_blk9_ (o := ⟨none, _, _, _, _, _⟩) rfl (.tmp 2) (.tmp 24) rfl rfl (w.heap.size + 1) (turnL b) rfl rfl _ HR.out.out.box rfl (turnL_len b) ?_)
           intro w9 b9 k9
           have H9 := Lib.hid (HR.out.done b9 k9)
           clear b9 k9)
        | fail)
      refine bodyPost_ret (v := blkV (turnL b)) (results_c (fn := Tryd.f93) Tryd.results93 _ _ (w.heap.size + 1) _ rfl (loadVar_blk H9.out.2)) rfl ?_
      exact ⟨rfl, H9.out.1⟩

/-- what transform tells -/
def trL (f b : List Int) : List Int := tab fun n => rnd ((passL f (passL f b)).getD n 0) 67108864
theorem trL_len (f b : List Int) : (trL f b).length = 64 := tab_len _
/-- the answer's block, and one that is worked on -/
structure Trf (w wr : World) (g : Nat) (o : List Int) : Prop where
  ans : Blk wr (w.heap.size + 1 + 1) zeros64
  out : Blk wr g o
  hg : w.heap.size + 1 + 1 < g
  bel : Below w.heap.size w wr
section
variable {w wr w' : World} {g : Nat} {o : List Int}
theorem Trf.put (h : Trf w wr g o) (k : Nat) (z : Int) : Trf w (wr.setCell ⟨g, k, none⟩ (.int .i64 z)) g (o.set k z) :=
  ⟨⟨h.ans.box.beside (by have := h.hg; show w.heap.size + 1 + 1 ≠ g; omega) _, h.ans.len⟩, h.out.put k z, h.hg,
    ((Kept.of_below h.bel (fun i => i = g)).setCell (p := ⟨g, k, none⟩) (fun _ => rfl) _).below (Nat.le_refl _) (fun i hi e => by have := h.hg; omega)⟩
theorem Trf.done (h : Trf w wr g o) {c : List Int} (hc : Blk w' (w.heap.size + 1 + 1) c) (k : Kept (fun i => i = w.heap.size + 1 + 1) wr w') : Below w.heap.size w w' ∧ Blk w' (w.heap.size + 1 + 1) c :=
  ⟨h.bel.trans (k.below h.bel.size (fun i hi e => by omega)), hc⟩
end

theorem trf_made {w w3 v3 v4 : World} {b f S : List Int} {g : Nat} (h : Tre w w3 b f zeros64) (hs : w3.heap.size = w.heap.size + 1 + 1 + 1) (k : Below w3.heap.size w3 v3) (hg : w3.heap.size ≤ g) (hb : Blk v4 g S) (kk : Kept (fun i => i = g) v3 v4) : Trf w v4 g S ∧ Below w3.heap.size w3 v4 := by
  have k4 : Below w3.heap.size w3 v4 := k.trans (kk.below k.size (fun i hi e => by omega))
  exact ⟨⟨h.out.on k4, hb, by omega, on_trans h.bel k4⟩, k4⟩
theorem if_then9_ {c A B : Prop} [Decidable c] (hc : c) (h : A) : if c then A else B := by rw [if_pos hc]; exact h
/-- a block is stored whole, as an operation of a drawn region -/
theorem wp_store_blk {P : Oper} {a : Act} {w : World} {K : Act → World → Prop} {Q : Exit → Act → World → Prop} (x y : Operand) (ho : P.op = .store 29 x y) (hd : P.dst = none)
    (g : Nat) (b : List Int) (hx : a.eval x = .pointer (some ⟨g, 0, none⟩)) (hy : a.eval y = blkV b) (old : Array Value) (hg : Box w g 29 old) (hold : old.size = 64) (hb : b.length = 64)
    (h : ∀ w', Blk w' g b → Kept (fun i => i = g) w w' → K a w') : Oper.wp Tryd.prog P a w K Q := by
  refine wp_store_row 29 x y ho g (cellsI b).toArray hx hy 29 old hg (by rw [arr26_size]; simp [cellsI_len, hb]) (by rw [hold]; simp [cellsI_len, hb]) (all_oneCell_toArray (cellsI_one b)) ?_
  rw [hd]
  exact h _ ⟨setRow_heap w g old _ 29 _ hg, hb⟩ ⟨rfl, rfl, rfl, by simp, fun k _ hk => setRow_other w g k _ hk⟩

set_option maxRecDepth 10000 in
set_option maxHeartbeats 3200000 in
theorem transform_any (w : World) (b f : List Int) (hb : b.length = 64) (hf : f.length = 64) (wb : Wi b (-1048576) 1048576) (wf : Wi f (-4017) 4017) : Calls Tryd.prog 92 #[blkV b, blkV f] w (Gives w (trL f b)) := by
  obtain ⟨cs, cu, Z, w3, hbv, hsv, hz, hw3, hZs, hT⟩ := tre_boxed w b f hb hf
  have hp1 : Wi (passL f b) (-33697038336) 33697038336 := passL_small wf wb
  have hp2 : Wi (passL f (passL f b)) (-1082888023965696) 1082888023965696 := passL_small wf hp1
  have C1 := Lib.hid (fun w => pass_any w b f 1048576 hb hf wb wf (by omega) (by omega))
  have C2 := Lib.hid (fun w => pass_any w (passL f b) f 33697038336 (passL_len f b) hf hp1 wf (by omega) (by omega))
  have hst : ∀ k, k < 64 → (trL f b).getD k 0 = rnd ((passL f (passL f b)).getD k 0) 67108864 := fun k hk => tab_at _ hk
  have htl := trL_len f b
  obtain ⟨B, hB⟩ : ∃ B, B = passL f b := ⟨_, rfl⟩
  rw [← hB] at C1 C2 hp2 hst
  obtain ⟨S, hS⟩ : ∃ S, S = passL f B := ⟨_, rfl⟩
  have hSl : S.length = 64 := by rw [hS]; exact passL_len _ _
  rw [← hS] at C2 hp2 hst
  obtain ⟨T, hT'⟩ : ∃ T, T = trL f b := ⟨_, rfl⟩
  rw [← hT'] at hst htl ⊢
  have H := Lib.hid (And.intro hT (And.intro hp2 (And.intro hst (And.intro htl hSl))))
  rw [hbv, hsv]
  have HW := Lib.hid hw3
  have HZ : ∀ w : World, Box (w.alloc (.cells Z 29)) w.heap.size 29 Z := fun w => Box.made w 29 Z
  have HS := Lib.hid (And.intro (show w3.heap.size = w.heap.size + 1 + 1 + 1 by rw [← hw3]; simp) hZs)
  clear hb hf wb wf hbv hsv hw3 hT hZs hp1 hp2 hB hS hT' hst htl hSl
  go_enter Tryd.func92, Tryd.ntmps92
  go_upto_region 1 with fail
  rw [HW.out]
  go_cut [5] (fun v wx => ∃ g, v = .pointer (some ⟨g, 0, none⟩) ∧ Trf w wx g S)
  case first =>
    have HR := Lib.hid (fun (w' : World) (h : Hid (Below w3.heap.size w3 w')) => H.out.1.on h.out)
    have H0 : Hid (Below w3.heap.size w3 w3.drew) := Lib.hid (on_drew w3)
    refine wp_region_held_drew (S := fun w' => Hid (Below w3.heap.size w3 w')) (by kernel_rfl) H0 fun s0 => ?_
    refine take_to (i := 0) rfl (by kernel_rfl) (by kernel_rfl) (by kernel_rfl) (fun _ _ _ h => h) (yieldsIf_load (by rfl) 29 _ rfl (.pointer (some ⟨w.heap.size, 0, none⟩)) rfl (blkV b) (fun w' h => (HR.out w' h).b1.load)) s0 (some 8) rfl ?_
    try simp only [Act.put, List.setIfInBounds_toArray, List.set_cons_zero, List.set_cons_succ]
    refine take_to (i := 1) rfl (by kernel_rfl) (by kernel_rfl) (by kernel_rfl) (fun _ _ _ h => h) (yieldsIf_load (by rfl) 29 _ rfl (.pointer (some ⟨w.heap.size + 1, 0, none⟩)) rfl (blkV f) (fun w' h => (HR.out w' h).b2.load)) s0 (some 9) rfl ?_
    try simp only [Act.put, List.setIfInBounds_toArray, List.set_cons_zero, List.set_cons_succ]
    refine take_to (i := 3) rfl (by kernel_rfl) (by kernel_rfl) (by kernel_rfl) (fun _ _ _ h => h) (yieldsIf_load (by rfl) 29 _ rfl (.pointer (some ⟨w.heap.size + 1, 0, none⟩)) rfl (blkV f) (fun w' h => (HR.out w' h).b2.load)) s0 (some 11) rfl ?_
    try simp only [Act.put, List.setIfInBounds_toArray, List.set_cons_zero, List.set_cons_succ]
    generalize w3.drew = v0 at s0 ⊢
    refine wpAnyH_ready (rs := [2, 5]) (by kernel_rfl) (by simp) ?_
    refine AllReadyH.cons rfl (fun K hK => ?_) (AllReadyH.cons rfl (fun K hK => ?_) AllReadyH.nil)
    · skip
      go_simp
      refine (C1.out v0).mono ?_
      rintro r v1 ⟨rfl, k1⟩
      have s1 := Lib.hid (on_trans s0.out k1)
      refine hK.out _ _ s1 fun _ => ?_
      clear hK K
      try simp only [Act.put, List.setIfInBounds_toArray, List.set_cons_zero, List.set_cons_succ]
      refine wpAnyH_ready (rs := [4, 5]) (by kernel_rfl) (by simp) ?_
      refine AllReadyH.cons rfl (fun K hK => ?_) (AllReadyH.cons rfl (fun K hK => ?_) AllReadyH.nil)
      · skip
        go_simp
        refine (C2.out v1).mono ?_
        rintro r v2 ⟨rfl, k2⟩
        have s2 := Lib.hid (on_trans s1.out k2)
        refine hK.out _ _ s2 fun _ => ?_
        clear hK K
        try simp only [Act.put, List.setIfInBounds_toArray, List.set_cons_zero, List.set_cons_succ]
        refine wpAnyH_ready (rs := [5]) (by kernel_rfl) (by simp) ?_
        refine AllReadyH.cons rfl (fun K hK => ?_) AllReadyH.nil
        go_simp
        have s3 := Lib.hid (on_trans s2.out (on_alloc v2 (.cells Z 29)))
        refine hK.out _ _ s3 fun _ => ?_
        clear hK K
        try simp only [Act.put, List.setIfInBounds_toArray, List.set_cons_zero, List.set_cons_succ]
        refine wpAnyH_ready (rs := [6]) (by kernel_rfl) (by simp) ?_
        refine AllReadyH.cons rfl (fun K hK => ?_) AllReadyH.nil
        refine if_then9_ (by rfl) ?_
        refine wp_store_blk (.tmp 5) (.tmp 12) rfl rfl (v2.heap.size) S rfl rfl Z (HZ v2) HS.out.2 H.out.2.2.2.2 fun v9 b9 k9 => ?_
        have TM := trf_made H.out.1 HS.out.1 s3.out s2.out.size b9 k9
        refine hK.out _ _ (Lib.hid TM.2) fun _ => ?_
        refine wpAnyH_done (by kernel_rfl) ?_ _
        have TM := Lib.hid TM.1
        go_wp2_with fail
        go_meet
        exact ⟨_, rfl, TM.out⟩
      · skip
        go_simp
        have s2 := Lib.hid (on_trans s1.out (on_alloc v1 (.cells Z 29)))
        refine hK.out _ _ s2 fun _ => ?_
        clear hK K
        try simp only [Act.put, List.setIfInBounds_toArray, List.set_cons_zero, List.set_cons_succ]
        refine wpAnyH_ready (rs := [4]) (by kernel_rfl) (by simp) ?_
        refine AllReadyH.cons rfl (fun K hK => ?_) AllReadyH.nil
        go_simp
        refine (C2.out _).mono ?_
        rintro r v3 ⟨rfl, k3⟩
        have s3 := Lib.hid (on_trans s2.out k3)
        refine hK.out _ _ s3 fun _ => ?_
        clear hK K
        try simp only [Act.put, List.setIfInBounds_toArray, List.set_cons_zero, List.set_cons_succ]
        refine wpAnyH_ready (rs := [6]) (by kernel_rfl) (by simp) ?_
        refine AllReadyH.cons rfl (fun K hK => ?_) AllReadyH.nil
        refine if_then9_ (by rfl) ?_
        refine wp_store_blk (.tmp 5) (.tmp 12) rfl rfl (v1.heap.size) S rfl rfl Z ((HZ v1).on k3) HS.out.2 H.out.2.2.2.2 fun v9 b9 k9 => ?_
        have TM := trf_made H.out.1 HS.out.1 s3.out s1.out.size b9 k9
        refine hK.out _ _ (Lib.hid TM.2) fun _ => ?_
        refine wpAnyH_done (by kernel_rfl) ?_ _
        have TM := Lib.hid TM.1
        go_wp2_with fail
        go_meet
        exact ⟨_, rfl, TM.out⟩
    · skip
      go_simp
      have s1 := Lib.hid (on_trans s0.out (on_alloc v0 (.cells Z 29)))
      refine hK.out _ _ s1 fun _ => ?_
      clear hK K
      try simp only [Act.put, List.setIfInBounds_toArray, List.set_cons_zero, List.set_cons_succ]
      refine wpAnyH_ready (rs := [2]) (by kernel_rfl) (by simp) ?_
      refine AllReadyH.cons rfl (fun K hK => ?_) AllReadyH.nil
      go_simp
      refine (C1.out _).mono ?_
      rintro r v2 ⟨rfl, k2⟩
      have s2 := Lib.hid (on_trans s1.out k2)
      refine hK.out _ _ s2 fun _ => ?_
      clear hK K
      try simp only [Act.put, List.setIfInBounds_toArray, List.set_cons_zero, List.set_cons_succ]
      refine wpAnyH_ready (rs := [4]) (by kernel_rfl) (by simp) ?_
      refine AllReadyH.cons rfl (fun K hK => ?_) AllReadyH.nil
      go_simp
      refine (C2.out v2).mono ?_
      rintro r v3 ⟨rfl, k3⟩
      have s3 := Lib.hid (on_trans s2.out k3)
      refine hK.out _ _ s3 fun _ => ?_
      clear hK K
      try simp only [Act.put, List.setIfInBounds_toArray, List.set_cons_zero, List.set_cons_succ]
      refine wpAnyH_ready (rs := [6]) (by kernel_rfl) (by simp) ?_
      refine AllReadyH.cons rfl (fun K hK => ?_) AllReadyH.nil
      refine if_then9_ (by rfl) ?_
      refine wp_store_blk (.tmp 5) (.tmp 12) rfl rfl (v0.heap.size) S rfl rfl Z (((HZ v0).on k2).on k3) HS.out.2 H.out.2.2.2.2 fun v9 b9 k9 => ?_
      have TM := trf_made H.out.1 HS.out.1 s3.out s0.out.size b9 k9
      refine hK.out _ _ (Lib.hid TM.2) fun _ => ?_
      refine wpAnyH_done (by kernel_rfl) ?_ _
      have TM := Lib.hid TM.1
      go_wp2_with fail
      go_meet
      exact ⟨_, rfl, TM.out⟩
  case rest =>
    obtain ⟨g, rfl, hg⟩ := hcut
    have HG := Lib.hid hg
    clear hg
    go_wp2_with (first
      | (with_reducible refine wpList_load_to (op := ⟨some 13, _, _, _, _, _⟩) rfl 29 (.tmp 5) rfl (.pointer (some ⟨g, 0, none⟩)) rfl (blkV S) HG.out.out.load ?_)
      | fail)
    go_loopw [14] (fun i wr => ∃ k : Nat, k ≤ 64 ∧ i = .int .i64 k ∧ Trf w wr g (mix k T S)) (fun i _ => 64 - (intOf i).toNat)
    case atStart => exact ⟨0, by omega, rfl, by rw [mix_zero]; exact HG.out⟩
    case round =>
      obtain ⟨k, hk, rfl, hR⟩ := hrel
      have HR := Lib.hid hR
      clear hR
      by_cases hlt : k < 64
      · have hb0 := H.out.2.1 k hlt
        have hfr := HR.out.out.free k
        have c1 := HR.out.out.cell hlt
        have hidx := fun w => index23 w (l := S) H.out.2.2.2.2 hlt
        have hst := H.out.2.2.1 k hlt
        have hm := mix_more (y := S) H.out.2.2.2.1 H.out.2.2.2.2 hlt
        obtain ⟨n, hn⟩ : ∃ n, n = S.getD k 0 := ⟨_, rfl⟩
        rw [← hn] at hidx hb0 hst
        obtain ⟨x, hx⟩ : ∃ x, x = (mix k T S).getD k 0 := ⟨_, rfl⟩
        rw [← hx] at c1
        clear hn hx
        obtain ⟨n0, n1⟩ := hb0
        obtain ⟨r, hr⟩ : ∃ r, r = rnd n 67108864 := ⟨_, rfl⟩
        rw [← hr] at hst
        rw [hst] at hm
        have HM := Lib.hid (And.intro hm hr)
        clear hst hm hr
        go_wp2_with fail
        refine (round_any wr n 67108864 (by unfold isInt; omega) (by unfold isInt; omega)).mono ?_
        rintro e w7 ⟨rfl, rfl⟩
        rw [← HM.out.2]
        go_wp2_with fail
        go_roundw
        case rel =>
          refine ⟨k + 1, by omega, by go_num, ?_⟩
          rw [← HM.out.1]
          exact HR.out.put _ _
        case measure => simp [intOf]; omega
      · obtain rfl : k = 64 := by omega
        have hR := HR.out
        rw [mix_all H.out.2.2.2.1 H.out.2.2.2.2] at hR
        have HR := Lib.hid hR
        clear hR
        go_wp2_with (first
          | (with_reducible refine wpList_load_to (op := ⟨some 23, _, _, _, _, _⟩) rfl 29 (.tmp 5) rfl (.pointer (some ⟨g, 0, none⟩)) rfl (blkV T) HR.out.out.load ?_)
          | ((with_reducible refine wpList_store_blk9_ (o := ⟨none, _, _, _, _, _⟩) rfl (.tmp 4) (.tmp 23) rfl rfl (w.heap.size + 1 + 1) T rfl rfl _ HR.out.ans.box rfl H.out.2.2.2.1 ?_)
             intro w9 b9 k9
             have H9 := Lib.hid (HR.out.done b9 k9)
             clear b9 k9)
          | fail)
        refine bodyPost_ret (v := blkV T) (results_c (fn := Tryd.f92) Tryd.results92 _ _ (w.heap.size + 1 + 1) _ rfl (loadVar_blk H9.out.2)) rfl ?_
        exact ⟨rfl, H9.out.1⟩
end Go.Proofs.YtmadkpnkmkajoaaDoor

namespace Go.Proofs.YtmadkpnkmkajoaaDoor
open Go.RowKit
set_option maxRecDepth 20000

/-- two passes are one sum of both -/
theorem two_pass {f : List Int} {c : Nat → Nat → Int} (hf : ∀ u, u < 8 → ∀ j, j < 8 → f.getD (8 * u + j) 0 = c u j) (b : List Int) {n : Nat} (hn : n < 64) :
    (passL f (passL f b)).getD n 0 = su (fun p => su (fun q => c (n / 8) p * c (n % 8) q * b.getD (8 * p + q) 0) 8) 8 := by
  rw [su_swap]
  show (tab fun n => psT f (passL f b) n 8).getD n 0 = _
  rw [tab_at _ hn]
  unfold psT
  refine su_congr fun q hq => ?_
  rw [hf _ (by omega) q hq]
  have e : (passL f b).getD (8 * q + n / 8) 0 = su (fun p => c (n / 8) p * b.getD (8 * p + q) 0) 8 := by
    show (tab fun n => psT f b n 8).getD (8 * q + n / 8) 0 = _
    rw [tab_at _ (by omega)]
    unfold psT
    rw [show (8 * q + n / 8) % 8 = n / 8 by omega, show (8 * q + n / 8) / 8 = q by omega]
    exact su_congr fun p hp => by rw [hf _ (by omega) p hp]
  rw [e, ← su_mul]
  exact su_congr fun p _ => by rw [Int.mul_comm (c (n / 8) p) (c (n % 8) q), Int.mul_assoc]
theorem trL_fwd (b : List Int) : trL wz b = fwdL b := tab_congr fun n hn => by
  rw [two_pass (c := wv) (fun u _ j _ => rfl) b hn]
  rfl
theorem trL_inv (b : List Int) : trL (turnL wz) b = invL b := tab_congr fun n hn => by
  rw [two_pass (c := fun u j => wv j u) (fun u hu j hj => turnL_at wz hu hj) b hn]
  rfl
theorem wz_small : Wi wz (-4017) 4017 := fun k hk => by
  have := wv_small (k / 8) (by omega) (k % 8) (by omega)
  unfold wv at this
  rwa [show 8 * (k / 8) + k % 8 = k by omega] at this
theorem turned_small : Wi (turnL wz) (-4017) 4017 := wi_turn.2 wz_small

set_option maxRecDepth 10000 in
set_option maxHeartbeats 3200000 in
theorem forward_any (w : World) (b : List Int) (hT : Tab9_ w) (hb : b.length = 64) : Calls Tryd.prog 87 #[blkV b] w (Tells9_ w (fwdF b)) := by
  obtain ⟨cs, Z, w2, hbv, hZV, hZs, hz, hw2, hD, hsz⟩ := duo_boxed w b hb
  have HL := Lib.hid hD.b1.load
  rw [← hw2] at HL
  have H := Lib.hid (And.intro hD (And.intro hb (And.intro hZV.symm (And.intro hZs hT))))
  have HW := Lib.hid hw2
  rw [hbv]
  have hbd : ∀ w, (Instr.build 29 #[]).run Tryd.prog w = .ok (.agg Z) w := fun w => by rw [← hZV]; exact build0 w
  obtain ⟨R, hR⟩ : ∃ R, R = fwdF b := ⟨_, rfl⟩
  rw [← hR]
  have HR := Lib.hid hR
  clear hD hT hb hbv hZV hZs hw2 hsz hR
  go_enter Tryd.func87, Tryd.ntmps87
  go_wp2_with (first
    | (with_reducible refine wpList_load_to (op := ⟨some 4, _, _, _, _, _⟩) rfl 29 (.tmp 1) rfl (.pointer (some ⟨w.heap.size, 0, none⟩)) rfl (blkV b) HL.out ?_)
    | fail)
  rw [HW.out]
  refine (within_any9_ w2 b (-2048) 2047 H.out.2.1).mono ?_
  rintro e w4 ⟨rfl, b4⟩
  have H4 := Lib.hid (And.intro (H.out.1.on b4) (H.out.2.2.2.2.on (on_trans H.out.1.bel b4)))
  clear b4
  by_cases hw : Wi b (-2048) 2047
  · have hF : fwdF b = (fwdL b, 0) := by unfold fwdF; rw [if_pos hw]
    have HF := Lib.hid (And.intro hw (HR.out.trans hF))
    rw [decide_eq_true hw]
    clear hF hw
    go_wp2_with (first
      | (with_reducible refine wpList_load_to (op := ⟨some 8, _, _, _, _, _⟩) rfl 29 (.tmp 1) rfl (.pointer (some ⟨w.heap.size, 0, none⟩)) rfl (blkV b) H4.out.1.b1.load ?_)
      | (with_reducible refine wpList_load_to (op := ⟨some 9, _, _, _, _, _⟩) rfl 28 (.global 3) rfl (.pointer (some ⟨3, 0, none⟩)) rfl (blkV wz) H4.out.2.load ?_)
      | fail)
    refine (transform_any w4 b wz H.out.2.1 wz_len (fun k hk => by have := HF.out.1 k hk; omega) wz_small).mono ?_
    rintro e w5 ⟨rfl, b5⟩
    rw [trL_fwd]
    have H5 := Lib.hid (H4.out.1.on b5)
    clear b5
    go_wp2_with (first
      | ((with_reducible refine wpList_store_blk9_ (o := ⟨none, _, _, _, _, _⟩) rfl (.tmp 2) (.tmp 10) rfl rfl (w.heap.size + 1) (fwdL b) rfl rfl _ H5.out.out.box rfl (fwdL_len b) ?_)
         intro w9 b9 k9
         have H9 := Lib.hid (H5.out.done b9 k9)
         clear b9 k9)
      | fail)
    refine bodyPost_ret (v := .tuple #[blkV (fwdL b), .int .i64 0]) (results_ct (fn := Tryd.f87) Tryd.results87 _ _ (w.heap.size + 1) _ _ rfl rfl (loadVar_blk H9.out.2)) rfl ?_
    exact ⟨by rw [HF.out.2], H9.out.1⟩
  · have hF : fwdF b = (zeros64, 2) := by unfold fwdF; rw [if_neg hw]
    have HF := Lib.hid (HR.out.trans hF)
    rw [decide_eq_false hw]
    clear hF hw
    go_wp2_with (first
      | ((with_reducible refine wpList_store_blk9_ (o := ⟨none, _, _, _, _, _⟩) rfl (.tmp 2) (.tmp 7) rfl rfl (w.heap.size + 1) zeros64 rfl ?hy _ H4.out.1.out.box rfl zeros_len ?_)
         case hy => exact H.out.2.2.1
         intro w9 b9 k9
         have H9 := Lib.hid (H4.out.1.done b9 k9)
         clear b9 k9)
      | fail)
    refine bodyPost_ret (v := .tuple #[blkV zeros64, .int .i64 2]) (results_ct (fn := Tryd.f87) Tryd.results87 _ _ (w.heap.size + 1) _ _ rfl rfl (loadVar_blk H9.out.2)) rfl ?_
    exact ⟨by rw [HF.out], H9.out.1⟩

set_option maxRecDepth 10000 in
set_option maxHeartbeats 3200000 in
theorem inverse_any (w : World) (b : List Int) (hT : Tab9_ w) (hb : b.length = 64) : Calls Tryd.prog 64 #[blkV b] w (Tells9_ w (invF b)) := by
  obtain ⟨cs, Z, w2, hbv, hZV, hZs, hz, hw2, hD, hsz⟩ := duo_boxed w b hb
  have HL := Lib.hid hD.b1.load
  rw [← hw2] at HL
  have H := Lib.hid (And.intro hD (And.intro hb (And.intro hZV.symm (And.intro hZs hT))))
  have HW := Lib.hid hw2
  rw [hbv]
  have hbd : ∀ w, (Instr.build 29 #[]).run Tryd.prog w = .ok (.agg Z) w := fun w => by rw [← hZV]; exact build0 w
  obtain ⟨R, hR⟩ : ∃ R, R = invF b := ⟨_, rfl⟩
  rw [← hR]
  have HR := Lib.hid hR
  clear hD hT hb hbv hZV hZs hw2 hsz hR
  go_enter Tryd.func64, Tryd.ntmps64
  go_wp2_with (first
    | (with_reducible refine wpList_load_to (op := ⟨some 4, _, _, _, _, _⟩) rfl 29 (.tmp 1) rfl (.pointer (some ⟨w.heap.size, 0, none⟩)) rfl (blkV b) HL.out ?_)
    | fail)
  rw [HW.out]
  refine (within_any9_ w2 b (-1048576) 1048576 H.out.2.1).mono ?_
  rintro e w4 ⟨rfl, b4⟩
  have H4 := Lib.hid (And.intro (H.out.1.on b4) (H.out.2.2.2.2.on (on_trans H.out.1.bel b4)))
  clear b4
  by_cases hw : Wi b (-1048576) 1048576
  · have hF : invF b = (invL b, 0) := by unfold invF; rw [if_pos hw]
    have HF := Lib.hid (And.intro hw (HR.out.trans hF))
    rw [decide_eq_true hw]
    clear hF hw
    have C1 := Lib.hid (fun w => transposed_any w wz wz_len)
    have C2 := Lib.hid (fun w => transform_any w b (turnL wz) H.out.2.1 (turnL_len wz) HF.out.1 turned_small)
    rw [trL_inv] at C2
    go_upto_region 3 with fail
    have D0 : Duo w w4.drew b zeros64 := H4.out.1.on (on_drew w4)
    have T0 : Tab9_ w4.drew := H4.out.2.on (on_drew w4)
    refine wp_region_held_drew (S := fun w' => Hid (Blk w' w.heap.size b ∧ Tab9_ w')) (by kernel_rfl) (Lib.hid ⟨D0.b1, T0⟩) fun s0 => ?_
    refine take_to (i := 0) rfl (by kernel_rfl) (by kernel_rfl) (by kernel_rfl) (fun _ _ _ h => h) (yieldsIf_load (by rfl) 29 _ rfl (.pointer (some ⟨w.heap.size, 0, none⟩)) rfl (blkV b) (fun w' h => h.out.1.load)) s0 (some 8) rfl ?_
    try simp only [Act.put, List.setIfInBounds_toArray, List.set_cons_zero, List.set_cons_succ]
    refine take_to (i := 1) rfl (by kernel_rfl) (by kernel_rfl) (by kernel_rfl) (fun _ _ _ h => h) (yieldsIf_load (by rfl) 28 _ rfl (.pointer (some ⟨3, 0, none⟩)) rfl (blkV wz) (fun w' h => h.out.2.load)) s0 (some 9) rfl ?_
    try simp only [Act.put, List.setIfInBounds_toArray, List.set_cons_zero, List.set_cons_succ]
    generalize w4.drew = v0 at s0 D0 T0 ⊢
    have DT := Lib.hid (And.intro D0 T0)
    clear D0 T0
    refine wpAnyH_ready (rs := [2]) (by kernel_rfl) (by simp) ?_
    refine AllReadyH.cons rfl (fun K hK => ?_) AllReadyH.nil
    go_simp
    refine (C1.out v0).mono ?_
    rintro r v1 ⟨rfl, k1⟩
    have DT1 := Lib.hid (And.intro (DT.out.1.on k1) (DT.out.2.on k1))
    refine hK.out _ _ (Lib.hid ⟨DT1.out.1.b1, DT1.out.2⟩) fun _ => ?_
    clear hK K
    try simp only [Act.put, List.setIfInBounds_toArray, List.set_cons_zero, List.set_cons_succ]
    refine wpAnyH_ready (rs := [3]) (by kernel_rfl) (by simp) ?_
    refine AllReadyH.cons rfl (fun K hK => ?_) AllReadyH.nil
    go_simp
    refine (C2.out v1).mono ?_
    rintro r v2 ⟨rfl, k2⟩
    have DT2 := Lib.hid (And.intro (DT1.out.1.on k2) (DT1.out.2.on k2))
    refine hK.out _ _ (Lib.hid ⟨DT2.out.1.b1, DT2.out.2⟩) fun _ => ?_
    clear hK K
    try simp only [Act.put, List.setIfInBounds_toArray, List.set_cons_zero, List.set_cons_succ]
    refine wpAnyH_ready (rs := [4]) (by kernel_rfl) (by simp) ?_
    refine AllReadyH.cons rfl (fun K hK => ?_) AllReadyH.nil
    refine if_then9_ (by rfl) ?_
    refine wp_store_blk (.tmp 2) (.tmp 11) rfl rfl (w.heap.size + 1) (invL b) rfl rfl _ DT2.out.1.out.box rfl (invL_len b) fun v9 b9 k9 => ?_
    have H9 := Lib.hid (DT2.out.1.done b9 k9)
    have s9 : Hid (Blk v9 w.heap.size b ∧ Tab9_ v9) := Lib.hid ⟨DT2.out.1.b1.kept k9 (by omega), H.out.2.2.2.2.on H9.out.1⟩
    refine hK.out _ _ s9 fun _ => ?_
    clear hK K b9 k9
    try simp only [Act.put, List.setIfInBounds_toArray, List.set_cons_zero, List.set_cons_succ]
    refine wpAnyH_ready (rs := [5]) (by kernel_rfl) (by simp) ?_
    refine AllReadyH.cons rfl (fun K hK => ?_) AllReadyH.nil
    go_simp
    refine hK.out _ _ s9 fun _ => ?_
    clear hK K
    try simp only [Act.put, List.setIfInBounds_toArray, List.set_cons_zero, List.set_cons_succ]
    refine wpAnyH_done (by kernel_rfl) ?_ _
    go_wp2_with fail
    refine bodyPost_ret (v := .tuple #[blkV (invL b), .int .i64 0]) (results_ct (fn := Tryd.f64) Tryd.results64 _ _ (w.heap.size + 1) _ _ rfl rfl (loadVar_blk H9.out.2)) rfl ?_
    exact ⟨by rw [HF.out.2], H9.out.1⟩
  · have hF : invF b = (zeros64, 2) := by unfold invF; rw [if_neg hw]
    have HF := Lib.hid (HR.out.trans hF)
    rw [decide_eq_false hw]
    clear hF hw
    go_wp2_with (first
      | ((with_reducible refine wpList_store_blk9_ (o := ⟨none, _, _, _, _, _⟩) rfl (.tmp 2) (.tmp 7) rfl rfl (w.heap.size + 1) zeros64 rfl ?hy _ H4.out.1.out.box rfl zeros_len ?_)
         case hy => exact H.out.2.2.1
         intro w9 b9 k9
         have H9 := Lib.hid (H4.out.1.done b9 k9)
         clear b9 k9)
      | fail)
    refine bodyPost_ret (v := .tuple #[blkV zeros64, .int .i64 2]) (results_ct (fn := Tryd.f64) Tryd.results64 _ _ (w.heap.size + 1) _ _ rfl rfl (loadVar_blk H9.out.2)) rfl ?_
    exact ⟨by rw [HF.out], H9.out.1⟩
end Go.Proofs.YtmadkpnkmkajoaaDoor
