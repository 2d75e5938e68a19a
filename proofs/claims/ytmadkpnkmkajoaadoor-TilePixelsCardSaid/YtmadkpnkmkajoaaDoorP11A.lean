/-
  What the contracts say of memory (blocks that are known whole, worlds in which only named blocks have turned); rows of numbers of one's own. Rounding: mathematics, and the contracts of Round, the program's and the reference's. The contracts of hold and scale. Layer 11's mathematics: tones and colours, greys, bounds, which of two is brighter. No code. The contracts of the reference's In, cut and by. Rows of three numbers in memory, and three such rows: read, indexed, written whole. The tables of weights. The contract of within: whether three numbers are parts. The contract of mixed: sums of weighed numbers, rounded, added to bases, limited. The contracts of Of and of Pixel. The contracts of the reference's Pixel and of the laws' own awake.
-/
import Derived.Test.YtmadkpnkmkajoaaDoorP12A
import Derived.Test.YtmadkpnkmkajoaaDoorRows
import Derived.WalkKit
import Derived.WalkSpells
import Derived.WalkLawsBesides
import Derived.Lib.Hide
import Derived.Deep.Draws
import Derived.Deep.QuietTactic
import Derived.BigQuiet
import Derived.Deep.RegionWith
import Derived.Laws.AppendOwnNone
import Derived.Laws.CopyOwn
import Derived.Laws.BytesArg
import Derived.Deep.OwnRows
import Derived.Deep.MidRow
import Derived.Deep.RegionHeld3
import Derived.Laws.Rows
import Derived.Laws.StructEq
import Derived.ChangeKeysEq
import Derived.BigRegion
namespace Go.Proofs.YtmadkpnkmkajoaaDoor
open Go.RowKit
set_option maxRecDepth 20000



section
variable {w w' : World} {g : Nat} {t : TypeId} {cs : Array Value}
end

section
variable {S S' : Nat → Prop} {a w w' : World}
end


end Go.Proofs.YtmadkpnkmkajoaaDoor

namespace Go.Proofs.YtmadkpnkmkajoaaDoor
open Go.RowKit
set_option maxRecDepth 20000

instance (n d : Int) : Decidable (Frac n d) := by unfold Frac; infer_instance
end Go.Proofs.YtmadkpnkmkajoaaDoor

namespace Go.Proofs.YtmadkpnkmkajoaaDoor
open Go.RowKit
set_option maxRecDepth 20000

instance (n : Int) : Decidable (In8 n) := by unfold In8; infer_instance
instance (a b c : Int) : Decidable (In3 a b c) := by unfold In3; infer_instance
end Go.Proofs.YtmadkpnkmkajoaaDoor

namespace Go.Proofs.YtmadkpnkmkajoaaDoor
open Go.RowKit
set_option maxRecDepth 20000

/-- what In answers -/
def Ind (w : World) (z : Int) (e : Ending) (w' : World) : Prop := e = .returned (.bool (decide (In8 z))) ∧ w = w'
set_option maxHeartbeats 800000 in
theorem in_any (w : World) (z : Int) : Calls Tryd.prog 77 #[.int .i64 z] w (Ind w z) := by
  by_cases h : In8 z
  · have e := decide_eq_true h
    have E := Lib.hid e
    obtain ⟨h0, h1⟩ := h
    clear e
    go_enter Tryd.func77, Tryd.ntmps77
    go_wp2_with fail
    go_ret
    exact ⟨by rw [E.out]; rfl, rfl⟩
  · have e := decide_eq_false h
    have E := Lib.hid e
    clear e
    have h' : z < 0 ∨ (0 ≤ z ∧ 255 < z) := by unfold In8 at h; omega
    clear h
    rcases h' with a | ⟨a, b⟩
    · go_enter Tryd.func77, Tryd.ntmps77
      go_wp2_with fail
      go_ret
      exact ⟨by rw [E.out]; rfl, rfl⟩
    · have hd : decide (z ≤ 255) = false := decide_eq_false (by omega)
      go_enter Tryd.func77, Tryd.ntmps77
      go_wp2_with fail
      go_ret
      exact ⟨by rw [E.out, ← hd]; rfl, rfl⟩
/-- what cut answers -/
def Cutd (w : World) (z : Int) (e : Ending) (w' : World) : Prop := e = .returned (.int .i64 (cut8 z)) ∧ w = w'
set_option maxHeartbeats 800000 in
theorem cut_any (w : World) (z : Int) : Calls Tryd.prog 78 #[.int .i64 z] w (Cutd w z) := by
  have h' : (z < 0 ∧ cut8 z = 0) ∨ (0 ≤ z ∧ 255 < z ∧ cut8 z = 255) ∨ (0 ≤ z ∧ z ≤ 255 ∧ cut8 z = z) := by
    unfold cut8 held
    by_cases a : z < 0
    · exact .inl ⟨a, if_pos a⟩
    · by_cases b : 255 < z
      · exact .inr (.inl ⟨by omega, b, by rw [if_neg a, if_pos b]⟩)
      · exact .inr (.inr ⟨by omega, by omega, by rw [if_neg a, if_neg b]⟩)
  rcases h' with ⟨a, e⟩ | ⟨a, b, e⟩ | ⟨a, b, e⟩
  all_goals
    have E := Lib.hid e
    clear e
    go_enter Tryd.func78, Tryd.ntmps78
    go_wp2_with fail
    go_ret
    exact ⟨by rw [E.out]; rfl, rfl⟩
/-- what by answers -/
def Byd (w : World) (n : Int) (e : Ending) (w' : World) : Prop := e = .returned (.int .i64 (rnd n 65536)) ∧ w = w'
set_option maxHeartbeats 800000 in
theorem by_any (w : World) (n : Int) (hn : isInt n) : Calls Tryd.prog 79 #[.int .i64 n] w (Byd w n) := by
  have HC := Lib.hid (refRound_any w n 65536 hn (by unfold isInt; omega))
  obtain ⟨r, hr⟩ : ∃ r, r = rnd n 65536 := ⟨_, rfl⟩
  unfold Rounded at HC
  rw [← hr] at HC
  have HR := Lib.hid hr
  clear hr hn
  go_enter Tryd.func79, Tryd.ntmps79
  go_wp2_with fail
  refine HC.out.mono ?_
  rintro e w2 ⟨rfl, rfl⟩
  go_wp2
  go_ret
  exact ⟨by rw [← HR.out]; rfl, rfl⟩
end Go.Proofs.YtmadkpnkmkajoaaDoor

namespace Go.Proofs.YtmadkpnkmkajoaaDoor
open Go.RowKit
set_option maxRecDepth 20000

/-- numbers as a value -/
def rowV (l : List Int) : Value := .agg (cellsI l).toArray
theorem sz39 : (Tryd.prog.info? 104).map (·.size) = some 3 := by kernel_rfl
theorem sz41 : (Tryd.prog.info? 106).map (·.size) = some 9 := by kernel_rfl
/-- a row of three in memory -/
structure Row (w : World) (g : Nat) (l : List Int) : Prop where
  box : Box w g 104 (cellsI l).toArray
  len : l.length = 3
section
variable {w w' : World} {g : Nat} {l : List Int}
theorem Row.cell (h : Row w g l) {k : Nat} (hk : k < 3) : w.cell? ⟨g, k, none⟩ = some (.int .i64 (l.getD k 0)) := by
  rw [h.box.cell k, List.getElem?_toArray, cellsI_get _ _ (by rw [h.len]; exact hk)]
theorem Row.on (h : Row w g l) (k : Below w.heap.size w w') : Row w' g l := ⟨h.box.on k, h.len⟩
theorem Row.kept {S : Nat → Prop} (h : Row w g l) (k : Kept S w w') (hS : ¬ S g) : Row w' g l := ⟨k.box h.box hS, h.len⟩
theorem Row.range (h : Row w g l) : w.rangeAt g 0 (cellsI l) := by
  intro j u hu
  rw [Nat.zero_add, h.box.cell j]
  simpa using hu
theorem Row.load (h : Row w g l) : (Instr.loadAt 104 (.pointer (some ⟨g, 0, none⟩))).run Tryd.prog w = .ok (rowV l) w :=
  run_loadAt_mid w g 0 104 (cellsI l) _ h.range Tryd.underlying104 rfl (by rw [sz39, cellsI_len, h.len])
theorem Row.put (h : Row w g l) (k : Nat) (z : Int) : Row (w.setCell ⟨g, k, none⟩ (.int .i64 z)) g (l.set k z) := by
  refine ⟨?_, by rw [List.length_set, h.len]⟩
  have := h.box.put k (.int .i64 z)
  rwa [put_cellsI] at this
theorem Row.free (h : Row w g l) (k : Nat) : w.frozen? ⟨g, k, none⟩ = false := h.box.free k
theorem Row.made (w : World) (l : List Int) (hl : l.length = 3) : Row (w.alloc (.cells (cellsI l).toArray 104)) w.heap.size l := ⟨Box.made _ _ _, hl⟩
theorem loadVar_row (h : Row w g l) : (loadVar 104 ⟨g, 0, none⟩).run Tryd.prog w = .ok (rowV l) w :=
  run_loadVar_row w g 104 104 _ (0, 0) _ h.box Tryd.underlying104 rfl (by rw [sz39]; simp [cellsI_len, h.len])
end
/-- nine numbers in memory are read -/
theorem load_nine {w : World} {g : Nat} {l : List Int} (h : Box w g 106 (cellsI l).toArray) (hl : l.length = 9) : (Instr.loadAt 106 (.pointer (some ⟨g, 0, none⟩))).run Tryd.prog w = .ok (rowV l) w :=
  run_loadAt_mid w g 0 106 (cellsI l) _ (fun j u hu => by rw [Nat.zero_add, h.cell j]; simpa using hu) Tryd.underlying106 rfl (by rw [sz41, cellsI_len, hl])
/-- one of three is read -/
theorem index39 (w : World) {l : List Int} (hl : l.length = 3) {k : Nat} (hk : k < 3) : (Instr.index 104 (rowV l) (.int .i64 (k : Int))).run Tryd.prog w = .ok (.int .i64 (l.getD k 0)) w := by
  have hp : (part 3 (cellsI l).toArray k).run Tryd.prog w = .ok (.int .i64 (l.getD k 0)) w := run_part_plain w (by kernel_rfl) (by simpa using cellsI_get l k (by omega))
  simp [rowV, Instr.index, run_underlying Tryd.underlying104, asIntOf, hp, Result.andThen]
  intro h
  omega
/-- row i of three -/
def sub (f : List Int) (i : Nat) : List Int := (f.drop (3 * i)).take 3
theorem sub_len {f : List Int} {i : Nat} (h : f.length = 9) (hi : i < 3) : (sub f i).length = 3 := by
  unfold sub
  rw [List.length_take, List.length_drop]
  omega
theorem sub_at {f : List Int} {i k : Nat} (hk : k < 3) : (sub f i).getD k 0 = f.getD (3 * i + k) 0 := by
  unfold sub
  rw [List.getD_eq_getElem?_getD, List.getElem?_take_of_lt hk, List.getElem?_drop, List.getD_eq_getElem?_getD]
theorem index41 (w : World) {f : List Int} {i : Nat} (hi : i < 3) : (Instr.index 106 (rowV f) (.int .i64 (i : Int))).run Tryd.prog w = .ok (rowV (sub f i)) w := by
  have hp : (part 104 (cellsI f).toArray (i * 3)).run Tryd.prog w = .ok (rowV (sub f i)) w := by
    have h1 : (isAgg 104).run Tryd.prog w = .ok true w := by kernel_rfl
    have h2 : (sizeOf 104).run Tryd.prog w = .ok 3 w := by kernel_rfl
    unfold part
    simp only [Sem.run_bind, h1, h2, Result.andThen_ok, if_true]
    rw [List.extract_toArray]
    unfold rowV sub cellsI
    rw [List.map_take, List.map_drop, List.extract_eq_take_drop, show i * 3 + 3 - i * 3 = 3 by omega, Nat.mul_comm]
    rfl
  have h2 : (sizeOf 104).run Tryd.prog w = .ok 3 w := by kernel_rfl
  simp [rowV, Instr.index, run_underlying Tryd.underlying106, asIntOf, h2, hp, Result.andThen]
  intro h
  omega
theorem zero39 (w : World) : (zeroValue 104).run Tryd.prog w = .ok (rowV [0, 0, 0]) w := by kernel_rfl
/-- three numbers are written whole -/
theorem wpList_store_row3 {ops : Array Oper} {rest : List Oper} {o : Oper} {a : Act} {w : World} {Q : Exit → Act → World → Prop} (hgd : o.guard = none) (x y : Operand) (ho : o.op = .store 104 x y) (hd : o.dst = none)
    (g : Nat) (b : List Int) (hx : a.eval x = .pointer (some ⟨g, 0, none⟩)) (hy : a.eval y = rowV b) (old : Array Value) (hg : Box w g 104 old) (hold : old.size = 3) (hb : b.length = 3)
    (h : ∀ w', Row w' g b → Kept (fun i => i = g) w w' → wpList Tryd.prog ops Q rest a w') : wpList Tryd.prog ops Q (o :: rest) a w := by
  refine wpList_plain hgd fun _ hK => ?_
  refine wp_store_row 104 x y ho g (cellsI b).toArray hx hy 104 old hg (by rw [sz39]; simp [cellsI_len, hb]) (by rw [hold]; simp [cellsI_len, hb]) (all_oneCell_toArray (cellsI_one b)) ?_
  rw [hd]
  exact hK _ _ (h _ ⟨setRow_heap w g old _ 104 _ hg, hb⟩ ⟨rfl, rfl, rfl, by simp, fun k _ hk => setRow_other w g k _ hk⟩)
theorem results_c {fn : Func} {p : Tmp} {ty : TypeId} (h : fn.results = #[.cell p ty]) (tmps : Array Value) (w : World) (g : Nat) (x : Value)
    (hp : tmps.getD p undef = .pointer (some ⟨g, 0, none⟩)) (hl : (loadVar ty ⟨g, 0, none⟩).run Tryd.prog w = .ok x w) : (results fn tmps).run Tryd.prog w = .ok x w := by
  have hp' : tmps[p]?.getD undef = .pointer (some ⟨g, 0, none⟩) := by simpa using hp
  simp [results, h, hp', asAddr, hl]
/-- the weights -/
def toneW : List Int := [19595, 38470, 7471, -11059, -21709, 32768, 32768, -27439, -5329]
def pixW : List Int := [0, 0, 91881, 0, -22554, -46802, 0, 116130, 0]
/-- the weights of tones lie in the program's memory as its text lays them -/
structure TabT (w : World) : Prop where
  tone : w.rangeAt 4 0 (cellsI toneW)
/-- and those of colours -/
structure TabP (w : World) : Prop where
  pix : w.rangeAt 2 0 (cellsI pixW)
theorem range_on {w w' : World} {g : Nat} {L : List Int} (h : w.rangeAt g 0 (cellsI L)) (k : Below w.heap.size w w') (h0 : 0 < L.length) : w'.rangeAt g 0 (cellsI L) := by
  have hg : g < w.heap.size := World.block_lt_of_cell? w ⟨g, 0 + 0, none⟩ (h 0 _ (cellsI_get L 0 h0))
  intro j u hu
  exact (k.cell (p := ⟨g, 0 + j, none⟩) hg).trans (h j u hu)
theorem TabT.on {w w' : World} (h : TabT w) (k : Below w.heap.size w w') : TabT w' := ⟨range_on h.tone k (by decide)⟩
theorem TabP.on {w w' : World} (h : TabP w) (k : Below w.heap.size w w') : TabP w' := ⟨range_on h.pix k (by decide)⟩
theorem TabT.load {w : World} (h : TabT w) : (Instr.loadAt 106 (.pointer (some ⟨4, 0, none⟩))).run Tryd.prog w = .ok (rowV toneW) w :=
  run_loadAt_mid w 4 0 106 (cellsI toneW) _ h.tone Tryd.underlying106 rfl (by rw [sz41]; rfl)
theorem TabP.load {w : World} (h : TabP w) : (Instr.loadAt 106 (.pointer (some ⟨2, 0, none⟩))).run Tryd.prog w = .ok (rowV pixW) w :=
  run_loadAt_mid w 2 0 106 (cellsI pixW) _ h.pix Tryd.underlying106 rfl (by rw [sz41]; rfl)
end Go.Proofs.YtmadkpnkmkajoaaDoor

namespace Go.Proofs.YtmadkpnkmkajoaaDoor
open Go.RowKit
set_option maxRecDepth 20000

/-- the first k are parts -/
def Wk (l : List Int) (k : Nat) : Prop := ∀ j, j < k → In8 (l.getD j 0)
theorem Wk.more {l : List Int} {k : Nat} (h : Wk l k) (h0 : In8 (l.getD k 0)) : Wk l (k + 1) := fun j hj => by
  by_cases e : j = k
  · rw [e]; exact h0
  · exact h j (by omega)
instance (l : List Int) (k : Nat) : Decidable (Wk l k) := by unfold Wk; infer_instance
theorem not_wk {l : List Int} {k : Nat} (hk : k < 3) (h : l.getD k 0 < 0 ∨ 255 < l.getD k 0) : decide (Wk l 3) = false := decide_eq_false_iff_not.2 fun hr => by have := hr k hk; unfold In8 at this; omega
/-- what within answers -/
def Withd (w : World) (l : List Int) (e : Ending) (w' : World) : Prop := e = .returned (.bool (decide (Wk l 3))) ∧ Below w.heap.size w w'

set_option maxHeartbeats 800000 in
theorem within_any (w : World) (b : List Int) (hb : b.length = 3) : Calls Tryd.prog 69 #[rowV b] w (Withd w b) := by
  obtain ⟨w1, hw1⟩ : ∃ w1, w1 = w.alloc (.cells (cellsI b).toArray 104) := ⟨_, rfl⟩
  have hB : Row w1 w.heap.size b := by rw [hw1]; exact Row.made _ _ hb
  have bel : Below w.heap.size w w1 := by rw [hw1]; exact on_alloc _ _
  have H := Lib.hid (And.intro hB (And.intro bel hw1))
  have HL := Lib.hid hB.load
  have HB := Lib.hid hb
  clear hB bel hw1 hb
  obtain ⟨v, hv⟩ : ∃ v, v = rowV b := ⟨_, rfl⟩
  rw [← hv] at HL ⊢
  obtain ⟨cs, hcs⟩ : ∃ cs, cs = (cellsI b).toArray := ⟨_, rfl⟩
  have hvc : v = .agg cs := by rw [hv, hcs]; rfl
  rw [hvc]
  have HV := Lib.hid (And.intro hv (And.intro hcs hvc))
  clear hv hcs hvc
  have HL2 := Lib.hid (show (Instr.loadAt 104 (.pointer (some ⟨w.heap.size, 0, none⟩))).run Tryd.prog (w.alloc (.cells cs 104)) = .ok v (w.alloc (.cells cs 104)) by rw [HV.out.2.1, ← H.out.2.2]; exact HL.out)
  go_enter Tryd.func69, Tryd.ntmps69
  go_wp2_with (first
    | (with_reducible refine wpList_load_to (op := ⟨some 5, _, _, _, _, _⟩) rfl 104 (.tmp 1) rfl (.pointer (some ⟨w.heap.size, 0, none⟩)) rfl v HL2.out ?_)
    | fail)
  rw [HV.out.2.1, ← H.out.2.2]
  go_loopw [6] (fun i wr => ∃ k : Nat, k ≤ 3 ∧ i = .int .i64 k ∧ Wk b k ∧ w1 = wr) (fun i _ => 3 - (intOf i).toNat)
  case atStart => exact ⟨0, by omega, rfl, fun j hj => absurd hj (by omega), rfl⟩
  case round =>
    obtain ⟨k, hk, rfl, hR, rfl⟩ := hrel
    have HR := Lib.hid hR
    clear hR
    by_cases hlt : k < 3
    · have hidx := fun w => index39 w HB.out hlt
      rw [← HV.out.1] at hidx
      have hlt' := not_wk (l := b) hlt
      obtain ⟨z, hz⟩ : ∃ z, z = b.getD k 0 := ⟨_, rfl⟩
      rw [← hz] at hidx hlt'
      have HZ := Lib.hid (And.intro hz hlt')
      clear hz hlt'
      by_cases h0 : z < 0
      · go_wp2_with fail
        go_ret
        exact ⟨by rw [HZ.out.2 (.inl h0)]; rfl, H.out.2.1⟩
      · by_cases h1 : 255 < z
        · go_wp2_with fail
          go_ret
          exact ⟨by rw [HZ.out.2 (.inr h1)]; rfl, H.out.2.1⟩
        · go_wp2_with fail
          go_roundw
          case rel => exact ⟨k + 1, by omega, by go_num, HR.out.more (by rw [← HZ.out.1]; unfold In8; omega), trivial⟩
          case measure => simp [intOf]; omega
    · obtain rfl : k = 3 := by omega
      go_wp2
      go_ret
      exact ⟨by rw [decide_eq_true (show Wk b 3 from HR.out)]; rfl, H.out.2.1⟩
end Go.Proofs.YtmadkpnkmkajoaaDoor

namespace Go.Proofs.YtmadkpnkmkajoaaDoor
open Go.RowKit
set_option maxRecDepth 20000

/-- the first k terms of sum i -/
def sumT (W p : List Int) (i : Nat) : Nat → Int
  | 0 => 0
  | k + 1 => sumT W p i k + W.getD (3 * i + k) 0 * p.getD k 0
/-- what number i becomes -/
def mxT (W p o : List Int) (i : Nat) : Int := cut8 (o.getD i 0 + rnd (sumT W p i 3) 65536)
/-- what the bases are when i of them have been changed -/
def mxP (W p o : List Int) (i : Nat) : List Int := (List.range 3).map fun n => if n < i then mxT W p o n else o.getD n 0
/-- what mixed tells -/
def mxL (W p o : List Int) : List Int := [mxT W p o 0, mxT W p o 1, mxT W p o 2]
section
variable {W p o : List Int} {i : Nat}
theorem mxP_len : (mxP W p o i).length = 3 := by simp [mxP]
theorem mxP_at {n : Nat} (hn : n < 3) : (mxP W p o i).getD n 0 = if n < i then mxT W p o n else o.getD n 0 := by
  unfold mxP
  rw [List.getD_eq_getElem?_getD, List.getElem?_map, List.getElem?_range hn]
  rfl
theorem list3_eq {x y : List Int} (hx : x.length = 3) (hy : y.length = 3) (h : ∀ k, k < 3 → x.getD k 0 = y.getD k 0) : x = y := by
  apply List.ext_getElem (by omega)
  intro i h1 h2
  have := h i (by omega)
  rw [List.getD_eq_getElem?_getD, List.getD_eq_getElem?_getD, List.getElem?_eq_getElem h1, List.getElem?_eq_getElem h2] at this
  exact this
theorem mxP_zero (ho : o.length = 3) : mxP W p o 0 = o := list3_eq mxP_len ho fun k hk => by rw [mxP_at hk, if_neg (by omega)]
theorem mxP_all : mxP W p o 3 = mxL W p o := rfl
theorem mxP_more : (mxP W p o i).set i (mxT W p o i) = mxP W p o (i + 1) := by
  refine list3_eq (by rw [List.length_set, mxP_len]) mxP_len fun j hj => ?_
  rw [mxP_at hj, List.getD_eq_getElem?_getD, List.getElem?_set]
  by_cases e : i = j
  · subst e
    rw [if_pos rfl, if_pos (by rw [mxP_len]; omega), if_pos (by omega)]
    rfl
  · rw [if_neg e, ← List.getD_eq_getElem?_getD, mxP_at hj]
    by_cases h : j < i
    · rw [if_pos h, if_pos (by omega)]
    · rw [if_neg h, if_neg (by omega)]
end
theorem prod3 {c z : Int} (c0 : -131072 ≤ c) (c1 : c ≤ 131072) (z0 : -255 ≤ z) (z1 : z ≤ 255) : -33423360 ≤ c * z ∧ c * z ≤ 33423360 := by
  have key : ∀ x y : Int, 0 ≤ x → x ≤ 131072 → 0 ≤ y → y ≤ 255 → 0 ≤ x * y ∧ x * y ≤ 33423360 := fun x y a b c d => by
    refine ⟨Int.mul_nonneg a c, ?_⟩
    have : x * y ≤ 131072 * 255 := Int.mul_le_mul b d c (by omega)
    omega
  by_cases hc : 0 ≤ c <;> by_cases hz : 0 ≤ z
  · have := key c z hc c1 hz z1; omega
  · have := key c (-z) hc c1 (by omega) (by omega); rw [Int.mul_neg] at this; omega
  · have := key (-c) z (by omega) (by omega) hz z1; rw [Int.neg_mul] at this; omega
  · have := key (-c) (-z) (by omega) (by omega) (by omega) (by omega); rw [Int.neg_mul_neg] at this; omega
theorem min_max (z : Int) : (if 255 < (if z < 0 then 0 else z) then 255 else (if z < 0 then 0 else z)) = cut8 z := by
  unfold cut8 held
  by_cases a : z < 0
  · rw [if_pos a, if_pos a, if_neg (by omega)]
  · rw [if_neg a, if_neg a]
/-- weights and numbers that are not too great -/
structure Fit11_ (W p o : List Int) : Prop where
  w : ∀ j, j < 9 → -131072 ≤ W.getD j 0 ∧ W.getD j 0 ≤ 131072
  p : ∀ j, j < 3 → -255 ≤ p.getD j 0 ∧ p.getD j 0 ≤ 255
  o : ∀ j, j < 3 → In8 (o.getD j 0)
theorem Fit11_.sum {W p o : List Int} (h : Fit11_ W p o) {i : Nat} (hi : i < 3) : ∀ {k : Nat}, k ≤ 3 → -(33423360 * (k : Int)) ≤ sumT W p i k ∧ sumT W p i k ≤ 33423360 * (k : Int)
  | 0, _ => by unfold sumT; omega
  | k + 1, hk => by
    have ih := h.sum hi (k := k) (by omega)
    have a := h.w (3 * i + k) (by omega)
    have b := h.p k (by omega)
    have t := prod3 a.1 a.2 b.1 b.2
    unfold sumT
    omega

/-- what lies in memory: bases that are changed, numbers, what is told -/
structure Mx (w wr : World) (o p : List Int) : Prop where
  out : Row wr w.heap.size o
  p : Row wr (w.heap.size + 1 + 1) p
  res : Row wr (w.heap.size + 1 + 1 + 1) [0, 0, 0]
  bel : Below w.heap.size w wr
section
variable {w wr w' : World} {o p : List Int}
theorem Mx.on (h : Mx w wr o p) (k : Below wr.heap.size wr w') : Mx w w' o p := ⟨h.out.on k, h.p.on k, h.res.on k, on_trans h.bel k⟩
theorem Mx.put (h : Mx w wr o p) (k : Nat) (z : Int) : Mx w (wr.setCell ⟨w.heap.size, k, none⟩ (.int .i64 z)) (o.set k z) p :=
  ⟨h.out.put k z, ⟨h.p.box.beside (by show w.heap.size + 1 + 1 ≠ w.heap.size; omega) _, h.p.len⟩, ⟨h.res.box.beside (by show w.heap.size + 1 + 1 + 1 ≠ w.heap.size; omega) _, h.res.len⟩,
    ((Kept.of_below h.bel (fun i => i = w.heap.size)).setCell (p := ⟨w.heap.size, k, none⟩) (fun _ => rfl) _).below (Nat.le_refl _) (fun i hi e => by omega)⟩
theorem Mx.done (h : Mx w wr o p) {c : List Int} (hc : Row w' (w.heap.size + 1 + 1 + 1) c) (k : Kept (fun i => i = w.heap.size + 1 + 1 + 1) wr w') : Below w.heap.size w w' ∧ Row w' (w.heap.size + 1 + 1 + 1) c :=
  ⟨h.bel.trans (k.below h.bel.size (fun i hi e => by omega)), hc⟩
/-- a block that is laid in new memory -/
theorem Mx.laid (h : Mx w wr o p) {b : List Int} {Z : Array Value} (hb : Row w' wr.heap.size b) (k : Kept (fun i => i = wr.heap.size) (wr.alloc (.cells Z 104)) w') : Mx w w' o p ∧ Row w' wr.heap.size b ∧ w.heap.size + 1 + 1 + 1 < wr.heap.size :=
  ⟨h.on ((on_alloc wr (.cells Z 104)).trans (k.below (B := wr.heap.size) (by simp) (fun i hi e => by omega))), hb, h.res.box.lt⟩
end
theorem mx_boxed (w : World) (o W p : List Int) (ho : o.length = 3) (hp : p.length = 3) : ∃ cs cu cv Z w4, rowV o = .agg cs ∧ rowV W = .agg cu ∧ rowV p = .agg cv ∧ (∀ w, (zeroValue 104).run Tryd.prog w = .ok (.agg Z) w) ∧ Z.size = 3 ∧
    (((w.alloc (.cells cs 104)).alloc (.cells cu 106)).alloc (.cells cv 104)).alloc (.cells Z 104) = w4 ∧ Mx w w4 o p ∧ Box w4 (w.heap.size + 1) 106 (cellsI W).toArray := by
  refine ⟨_, _, _, (cellsI [0, 0, 0]).toArray, _, rfl, rfl, rfl, fun w => zero39 w, rfl, rfl, ?_⟩
  have a1 : Row (w.alloc (.cells (cellsI o).toArray 104)) w.heap.size o := Row.made _ _ ho
  have k1 := on_alloc w (.cells (cellsI o).toArray 104)
  obtain ⟨w1, h1⟩ : ∃ w1, w1 = w.alloc (.cells (cellsI o).toArray 104) := ⟨_, rfl⟩
  have s1 : w1.heap.size = w.heap.size + 1 := by rw [h1]; simp
  rw [← h1] at a1 k1 ⊢
  have a2 : Box (w1.alloc (.cells (cellsI W).toArray 106)) w1.heap.size 106 (cellsI W).toArray := Box.made _ _ _
  have k2 := on_alloc w1 (.cells (cellsI W).toArray 106)
  obtain ⟨w2, h2⟩ : ∃ w2, w2 = w1.alloc (.cells (cellsI W).toArray 106) := ⟨_, rfl⟩
  have s2 : w2.heap.size = w.heap.size + 1 + 1 := by rw [h2]; simp [s1]
  rw [← h2] at a2 k2 ⊢
  have a3 : Row (w2.alloc (.cells (cellsI p).toArray 104)) w2.heap.size p := Row.made _ _ hp
  have k3 := on_alloc w2 (.cells (cellsI p).toArray 104)
  obtain ⟨w3, h3⟩ : ∃ w3, w3 = w2.alloc (.cells (cellsI p).toArray 104) := ⟨_, rfl⟩
  have s3 : w3.heap.size = w.heap.size + 1 + 1 + 1 := by rw [h3]; simp [s2]
  rw [← h3] at a3 k3 ⊢
  have a4 : Row (w3.alloc (.cells (cellsI [0, 0, 0]).toArray 104)) w3.heap.size [0, 0, 0] := Row.made _ _ rfl
  have k4 := on_alloc w3 (.cells (cellsI [0, 0, 0]).toArray 104)
  rw [s1] at a2
  rw [s2] at a3
  rw [s3] at a4
  exact ⟨⟨((a1.on k2).on k3).on k4, a3.on k4, a4, on_trans (on_trans (on_trans k1 k2) k3) k4⟩, (a2.on k3).on k4⟩
/-- what mixed answers -/
def Mixed (w : World) (R : List Int) (e : Ending) (w' : World) : Prop := e = .returned (rowV R) ∧ Below w.heap.size w w'

set_option maxHeartbeats 3200000 in
theorem mixed_any (w : World) (o W p : List Int) (ho : o.length = 3) (hW : W.length = 9) (hp : p.length = 3) (hf : Fit11_ W p o) : Calls Tryd.prog 70 #[rowV o, rowV W, rowV p] w (Mixed w (mxL W p o)) := by
  obtain ⟨cs, cu, cv, Z, w4, hov, hWv, hpv, hz', hZs, hw4, hM, hbx⟩ := mx_boxed w o W p ho hp
  have H := Lib.hid (And.intro hM (And.intro hf (And.intro hZs (And.intro ho (And.intro hW (And.intro hp (load_nine hbx hW)))))))
  rw [hov, hWv, hpv]
  have HW := Lib.hid hw4
  have HL := Lib.hid (load_nine hbx hW)
  rw [← hw4] at HL
  obtain ⟨v, hv⟩ : ∃ v, v = rowV W := ⟨_, rfl⟩
  rw [← hv] at HL
  have HV := Lib.hid hv
  clear ho hW hp hf hov hWv hpv hw4 hM hbx hZs hv
  go_enter Tryd.func70, Tryd.ntmps70
  go_wp2_with (first
    | (with_reducible refine wpList_load_to (op := ⟨some 12, _, _, _, _, _⟩) rfl 106 (.tmp 4) rfl (.pointer (some ⟨w.heap.size + 1, 0, none⟩)) rfl v HL.out ?_)
    | fail)
  rw [HW.out]
  go_loopw [13] (fun i wr => ∃ k : Nat, k ≤ 3 ∧ i = .int .i64 k ∧ Mx w wr (mxP W p o k) p) (fun i _ => 3 - (intOf i).toNat)
  case atStart => exact ⟨0, by omega, rfl, by rw [mxP_zero H.out.2.2.2.1]; exact H.out.1⟩
  case round =>
    obtain ⟨i, hi, rfl, hR⟩ := hrel
    have HR := Lib.hid hR
    clear hR
    by_cases hlt : i < 3
    · have hidx := fun w => index41 w (f := W) hlt
      rw [← HV.out] at hidx
      go_wp2_with (first
        | ((with_reducible refine wpList_store_row3 (o := ⟨none, _, _, _, _, _⟩) rfl (.tmp 8) (.tmp 16) rfl rfl wr.heap.size (sub W i) rfl rfl Z (Box.made _ _ _) H.out.2.2.1 (sub_len H.out.2.2.2.2.1 hlt) ?_)
           intro w5 b5 k5
           have H5 := Lib.hid (HR.out.laid b5 k5)
           clear b5 k5)
        | (with_reducible refine wpList_load_to (op := ⟨some 17, _, _, _, _, _⟩) rfl 104 (.tmp 8) rfl (.pointer (some ⟨wr.heap.size, 0, none⟩)) rfl (rowV (sub W i)) H5.out.2.1.load ?_)
        | fail)
      have hrow := fun w (k : Nat) (hk : k < 3) => index39 w (l := sub W i) (sub_len H.out.2.2.2.2.1 hlt) hk
      have hsub := fun k hk => sub_at (f := W) (i := i) (k := k) hk
      obtain ⟨v2, hv2⟩ : ∃ v2, v2 = rowV (sub W i) := ⟨_, rfl⟩
      rw [← hv2] at hrow ⊢
      have HX := Lib.hid (And.intro hrow hsub)
      clear hidx hv2 hrow hsub
      have H6 := Lib.hid H5.out.1
      clear H5
      go_loopw [9, 18] (fun s k wr => ∃ k' : Nat, k' ≤ 3 ∧ s = .int .i64 (sumT W p i k') ∧ k = .int .i64 k' ∧ Mx w wr (mxP W p o i) p) (fun _ k _ => 3 - (intOf k).toNat)
      case atStart => exact ⟨0, by omega, rfl, rfl, H6.out⟩
      case round =>
        obtain ⟨k, hk, rfl, rfl, hR⟩ := hrel
        have HR := Lib.hid hR
        clear hR
        have a0 := H.out.2.1.sum hlt hk
        by_cases hk3 : k < 3
        · have hi1 := fun w => HX.out.1 w k hk3
          rw [HX.out.2 k hk3] at hi1
          have c1 := HR.out.p.cell hk3
          have b1 := H.out.2.1.w (3 * i + k) (by omega)
          have b2 := H.out.2.1.p k hk3
          have t1 := prod3 b1.1 b1.2 b2.1 b2.2
          have hm : sumT W p i k + W.getD (3 * i + k) 0 * p.getD k 0 = sumT W p i (k + 1) := rfl
          obtain ⟨s, hs⟩ : ∃ s, s = sumT W p i k := ⟨_, rfl⟩
          obtain ⟨x, hx⟩ : ∃ x, x = W.getD (3 * i + k) 0 := ⟨_, rfl⟩
          obtain ⟨y, hy⟩ : ∃ y, y = p.getD k 0 := ⟨_, rfl⟩
          rw [← hs] at hm a0 ⊢
          rw [← hx] at hi1 t1 hm
          rw [← hy] at c1 t1 hm
          obtain ⟨z, hz⟩ : ∃ z, z = x * y := ⟨_, rfl⟩
          rw [← hz] at t1 hm
          have hxy := hz.symm
          obtain ⟨s0, s1⟩ := a0
          obtain ⟨z0, z1⟩ := t1
          have HM := Lib.hid hm
          clear hs hx hy hz b1 b2 hm
          go_wp2_with fail
          go_roundw
          case rel => exact ⟨k + 1, by omega, by rw [← HM.out], by go_num, HR.out⟩
          case measure => simp [intOf]; omega
        · obtain rfl : k = 3 := by omega
          have c1 := HR.out.out.cell hlt
          rw [mxP_at hlt, if_neg (by omega)] at c1
          have hfr := HR.out.out.free i
          have ho := H.out.2.1.o i hlt
          have hm : (mxP W p o i).set i (cut8 (o.getD i 0 + rnd (sumT W p i 3) 65536)) = mxP W p o (i + 1) := mxP_more
          obtain ⟨s, hs⟩ : ∃ s, s = sumT W p i 3 := ⟨_, rfl⟩
          rw [← hs] at hm a0 ⊢
          obtain ⟨x, hx⟩ : ∃ x, x = o.getD i 0 := ⟨_, rfl⟩
          rw [← hx] at hm c1 ho
          have HC := Lib.hid (fun w => round_any w s 65536 (by unfold isInt; omega) (by unfold isInt; omega))
          have hr := rnd_bound s 65536
          obtain ⟨r, hr'⟩ : ∃ r, r = rnd s 65536 := ⟨_, rfl⟩
          unfold Rounded at HC
          rw [← hr'] at hm hr HC
          have HM := Lib.hid hm
          obtain ⟨o0, o1⟩ := ho
          obtain ⟨r0, r1⟩ := hr
          clear hs hx hr' hm a0 hk hk3
          go_wp2_with fail
          go_region_with
            (first
              | (go_at_call 103
                 with_reducible refine (HC.out _).mono ?_
                 rintro e w6 ⟨rfl, rfl⟩))
          all_goals
            go_wp2_with fail
            go_roundw
            case rel =>
              refine ⟨i + 1, by omega, by go_num, ?_⟩
              rw [← HM.out]
              rw [min_max]
              exact (HR.out.put i _).on (on_drew _)
            case measure => simp [intOf]; omega
    · obtain rfl : i = 3 := by omega
      have hR := HR.out
      rw [mxP_all] at hR
      have HR := Lib.hid hR
      clear hR
      go_wp2_with (first
        | (with_reducible refine wpList_load_to (op := ⟨some 41, _, _, _, _, _⟩) rfl 104 (.tmp 3) rfl (.pointer (some ⟨w.heap.size, 0, none⟩)) rfl (rowV (mxL W p o)) HR.out.out.load ?_)
        | ((with_reducible refine wpList_store_row3 (o := ⟨none, _, _, _, _, _⟩) rfl (.tmp 6) (.tmp 41) rfl rfl (w.heap.size + 1 + 1 + 1) (mxL W p o) rfl rfl _ HR.out.res.box rfl rfl ?_)
           intro w9 b9 k9
           have H9 := Lib.hid (HR.out.done b9 k9)
           clear b9 k9)
        | fail)
      refine bodyPost_ret (v := rowV (mxL W p o)) (results_c (fn := Tryd.f70) Tryd.results70 _ _ (w.heap.size + 1 + 1 + 1) _ rfl (loadVar_row H9.out.2)) rfl ?_
      exact ⟨rfl, H9.out.1⟩
end Go.Proofs.YtmadkpnkmkajoaaDoor

namespace Go.Proofs.YtmadkpnkmkajoaaDoor
open Go.RowKit
set_option maxRecDepth 20000

theorem wk_in {a b c : Int} : Wk [a, b, c] 3 ↔ In3 a b c :=
  ⟨fun h => ⟨h 0 (by omega), h 1 (by omega), h 2 (by omega)⟩, fun h j hj => by
    obtain ⟨h0, h1, h2⟩ := h
    have : j = 0 ∨ j = 1 ∨ j = 2 := by omega
    rcases this with rfl | rfl | rfl
    · exact h0
    · exact h1
    · exact h2⟩
theorem decide_wk {a b c : Int} : decide (Wk [a, b, c] 3) = decide (In3 a b c) := decide_eq_decide.2 wk_in
/-- three numbers and an error -/
def triV (R : Int × Int × Int) : Value := .agg #[.int .i64 R.1, .int .i64 R.2.1, .int .i64 R.2.2]
/-- what a call answers that tells three numbers and an error -/
def Tells (w : World) (R : (Int × Int × Int) × Int) (e : Ending) (w' : World) : Prop := e = .returned (.tuple #[triV R.1, .int .i64 R.2]) ∧ Below w.heap.size w w'

/-- three numbers in memory -/
theorem load_tri {w : World} {G : Nat} {l : List Int} (h : Box w G 52 (cellsI l).toArray) (hl : l.length = 3) : (Instr.loadAt 52 (.pointer (some ⟨G, 0, none⟩))).run Tryd.prog w = .ok (rowV l) w :=
  run_loadAt_mid w G 0 52 (cellsI l) _ (fun j u hu => by rw [Nat.zero_add, h.cell j]; simpa using hu) Tryd.underlying52 rfl (by rw [show (Tryd.prog.info? 52).map (·.size) = some 3 by kernel_rfl, cellsI_len, hl])
theorem load_tone {w : World} {G : Nat} {l : List Int} (h : Box w G 63 (cellsI l).toArray) (hl : l.length = 3) : (Instr.loadAt 63 (.pointer (some ⟨G, 0, none⟩))).run Tryd.prog w = .ok (rowV l) w :=
  run_loadAt_mid w G 0 63 (cellsI l) _ (fun j u hu => by rw [Nat.zero_add, h.cell j]; simpa using hu) Tryd.underlying63 rfl (by rw [show (Tryd.prog.info? 63).map (·.size) = some 3 by kernel_rfl, cellsI_len, hl])
theorem loadVar_tri {w : World} {G : Nat} {l : List Int} (h : Box w G 52 (cellsI l).toArray) (hl : l.length = 3) : (loadVar 52 ⟨G, 0, none⟩).run Tryd.prog w = .ok (rowV l) w :=
  run_loadVar_row w G 52 52 _ (0, 0) _ h Tryd.underlying52 rfl (by rw [show (Tryd.prog.info? 52).map (·.size) = some 3 by kernel_rfl]; simp [cellsI_len, hl])
theorem loadVar_tone {w : World} {G : Nat} {l : List Int} (h : Box w G 63 (cellsI l).toArray) (hl : l.length = 3) : (loadVar 63 ⟨G, 0, none⟩).run Tryd.prog w = .ok (rowV l) w :=
  run_loadVar_row w G 63 63 _ (0, 0) _ h Tryd.underlying63 rfl (by rw [show (Tryd.prog.info? 63).map (·.size) = some 3 by kernel_rfl]; simp [cellsI_len, hl])
/-- three numbers are written whole -/
theorem wpList_store_tri {ops : Array Oper} {rest : List Oper} {o : Oper} {a : Act} {w : World} {Q : Exit → Act → World → Prop} (t : TypeId) (ht : (Tryd.prog.info? t).map (·.size) = some 3) (hgd : o.guard = none) (x y : Operand) (ho : o.op = .store t x y) (hd : o.dst = none)
    (g : Nat) (b : List Int) (hx : a.eval x = .pointer (some ⟨g, 0, none⟩)) (hy : a.eval y = rowV b) (old : Array Value) (hg : Box w g t old) (hold : old.size = 3) (hb : b.length = 3)
    (h : ∀ w', Box w' g t (cellsI b).toArray → Kept (fun i => i = g) w w' → wpList Tryd.prog ops Q rest a w') : wpList Tryd.prog ops Q (o :: rest) a w := by
  refine wpList_plain hgd fun _ hK => ?_
  refine wp_store_row t x y ho g (cellsI b).toArray hx hy t old hg (by rw [ht]; simp [cellsI_len, hb]) (by rw [hold]; simp [cellsI_len, hb]) (all_oneCell_toArray (cellsI_one b)) ?_
  rw [hd]
  exact hK _ _ (h _ (setRow_heap w g old _ t _ hg) ⟨rfl, rfl, rfl, by simp, fun k _ hk => setRow_other w g k _ hk⟩)
theorem sz25 : (Tryd.prog.info? 52).map (·.size) = some 3 := by kernel_rfl
theorem sz23 : (Tryd.prog.info? 63).map (·.size) = some 3 := by kernel_rfl
/-- what lies in memory: the argument, what is told, three numbers -/
structure Ox (w w3 : World) (tA tB : TypeId) (c z d : List Int) : Prop where
  arg : Box w3 w.heap.size tA (cellsI c).toArray
  res : Box w3 (w.heap.size + 1) tB (cellsI z).toArray
  row : Row w3 (w.heap.size + 1 + 1) d
  bel : Below w.heap.size w w3
section
variable {w w3 w' : World} {tA tB : TypeId} {c z d : List Int}
theorem Ox.on (h : Ox w w3 tA tB c z d) (k : Below w3.heap.size w3 w') : Ox w w' tA tB c z d := ⟨h.arg.on k, h.res.on k, h.row.on k, on_trans h.bel k⟩
theorem Ox.done (h : Ox w w3 tA tB c z d) (k : Kept (fun i => i = w.heap.size + 1) w3 w') : Below w.heap.size w w' := h.bel.trans (k.below h.bel.size (fun i hi e => by omega))
end
theorem ox_made (w : World) (tA tB : TypeId) (c : List Int) (hc : c.length = 3) : ∃ w3, ((w.alloc (.cells (cellsI c).toArray tA)).alloc (.cells (cellsI [0, 0, 0]).toArray tB)).alloc (.cells (cellsI c).toArray 104) = w3 ∧ Ox w w3 tA tB c [0, 0, 0] c := by
  refine ⟨_, rfl, ?_⟩
  have a1 : Box (w.alloc (.cells (cellsI c).toArray tA)) w.heap.size tA (cellsI c).toArray := Box.made _ _ _
  have k1 := on_alloc w (.cells (cellsI c).toArray tA)
  obtain ⟨w1, h1⟩ : ∃ w1, w1 = w.alloc (.cells (cellsI c).toArray tA) := ⟨_, rfl⟩
  have s1 : w1.heap.size = w.heap.size + 1 := by rw [h1]; simp
  rw [← h1] at a1 k1 ⊢
  have a2 : Box (w1.alloc (.cells (cellsI [0, 0, 0]).toArray tB)) w1.heap.size tB (cellsI [0, 0, 0]).toArray := Box.made _ _ _
  have k2 := on_alloc w1 (.cells (cellsI [0, 0, 0]).toArray tB)
  obtain ⟨w2, h2⟩ : ∃ w2, w2 = w1.alloc (.cells (cellsI [0, 0, 0]).toArray tB) := ⟨_, rfl⟩
  have s2 : w2.heap.size = w.heap.size + 1 + 1 := by rw [h2]; simp [s1]
  rw [← h2] at a2 k2 ⊢
  have a3 : Row (w2.alloc (.cells (cellsI c).toArray 104)) w2.heap.size c := Row.made _ _ hc
  have k3 := on_alloc w2 (.cells (cellsI c).toArray 104)
  rw [s1] at a2
  rw [s2] at a3
  exact ⟨(a1.on k2).on k3, a2.on k3, a3, on_trans (on_trans k1 k2) k3⟩
theorem fit_tone {r g b : Int} (h : In3 r g b) : Fit11_ toneW [r, g, b] [0, 128, 128] := by
  obtain ⟨⟨a0, a1⟩, ⟨a2, a3⟩, a4, a5⟩ := h
  refine ⟨by decide, fun j hj => ?_, by decide⟩
  have : j = 0 ∨ j = 1 ∨ j = 2 := by omega
  rcases this with rfl | rfl | rfl
  · show -255 ≤ r ∧ r ≤ 255; omega
  · show -255 ≤ g ∧ g ≤ 255; omega
  · show -255 ≤ b ∧ b ≤ 255; omega
theorem mx_tone (r g b : Int) : mxL toneW [r, g, b] [0, 128, 128] = [toneY r g b, toneB r g b, toneR r g b] := by
  have e0 : mxT toneW [r, g, b] [0, 128, 128] 0 = cut8 (0 + rnd (0 + 19595 * r + 38470 * g + 7471 * b) 65536) := rfl
  have e1 : mxT toneW [r, g, b] [0, 128, 128] 1 = cut8 (128 + rnd (0 + -11059 * r + -21709 * g + 32768 * b) 65536) := rfl
  have e2 : mxT toneW [r, g, b] [0, 128, 128] 2 = cut8 (128 + rnd (0 + 32768 * r + -27439 * g + -5329 * b) 65536) := rfl
  unfold mxL toneY toneB toneR
  rw [e0, e1, e2, Int.zero_add, show 0 + 19595 * r + 38470 * g + 7471 * b = 19595 * r + 38470 * g + 7471 * b by omega, show 0 + -11059 * r + -21709 * g + 32768 * b = 32768 * b - 11059 * r - 21709 * g by omega, show 0 + 32768 * r + -27439 * g + -5329 * b = 32768 * r - 27439 * g - 5329 * b by omega]
theorem fit_pix {y cb cr : Int} (h : In3 y cb cr) : Fit11_ pixW [y, cb - 128, cr - 128] [y, y, y] := by
  obtain ⟨⟨a0, a1⟩, ⟨a2, a3⟩, a4, a5⟩ := h
  refine ⟨by decide, fun j hj => ?_, fun j hj => ?_⟩
  all_goals
    have : j = 0 ∨ j = 1 ∨ j = 2 := by omega
  · rcases this with rfl | rfl | rfl
    · show -255 ≤ y ∧ y ≤ 255; omega
    · show -255 ≤ cb - 128 ∧ cb - 128 ≤ 255; omega
    · show -255 ≤ cr - 128 ∧ cr - 128 ≤ 255; omega
  · rcases this with rfl | rfl | rfl <;> exact ⟨a0, a1⟩
theorem mx_pix (y cb cr : Int) : mxL pixW [y, cb - 128, cr - 128] [y, y, y] = [pixR y cb cr, pixG y cb cr, pixB y cb cr] := by
  have e0 : mxT pixW [y, cb - 128, cr - 128] [y, y, y] 0 = cut8 (y + rnd (0 + 0 * y + 0 * (cb - 128) + 91881 * (cr - 128)) 65536) := rfl
  have e1 : mxT pixW [y, cb - 128, cr - 128] [y, y, y] 1 = cut8 (y + rnd (0 + 0 * y + -22554 * (cb - 128) + -46802 * (cr - 128)) 65536) := rfl
  have e2 : mxT pixW [y, cb - 128, cr - 128] [y, y, y] 2 = cut8 (y + rnd (0 + 0 * y + 116130 * (cb - 128) + 0 * (cr - 128)) 65536) := rfl
  unfold mxL pixR pixG pixB
  rw [e0, e1, e2, show 0 + 0 * y + 0 * (cb - 128) + 91881 * (cr - 128) = 91881 * (cr - 128) by omega, show 0 + 0 * y + -22554 * (cb - 128) + -46802 * (cr - 128) = -(22554 * (cb - 128) + 46802 * (cr - 128)) by omega, show 0 + 0 * y + 116130 * (cb - 128) + 0 * (cr - 128) = 116130 * (cb - 128) by omega, rnd_neg,
    show y + -rnd (22554 * (cb - 128) + 46802 * (cr - 128)) 65536 = y - rnd (22554 * (cb - 128) + 46802 * (cr - 128)) 65536 by omega]

set_option maxHeartbeats 1600000 in
theorem of_any (w : World) (r g b : Int) (hT : TabT w) : Calls Tryd.prog 84 #[.agg #[.int .i64 r, .int .i64 g, .int .i64 b]] w (Tells w (ofF r g b)) := by
  obtain ⟨w3, hw3, hO⟩ := ox_made w 52 63 [r, g, b] rfl
  have H := Lib.hid (And.intro hO (And.intro (hT.on hO.bel) hw3))
  have HI := Lib.hid (fun w => within_any w [r, g, b] rfl)
  unfold Withd at HI
  rw [decide_wk] at HI
  clear hw3 hO hT
  have hw : ((w.alloc (.cells #[.int .i64 r, .int .i64 g, .int .i64 b] 52)).alloc (.cells #[.int .i64 0, .int .i64 0, .int .i64 0] 63)).alloc (.cells #[.int .i64 r, .int .i64 g, .int .i64 b] 104) = w3 := H.out.2.2
  have HW := Lib.hid hw
  clear hw
  by_cases hin : In3 r g b
  · have hE : ofF r g b = ((toneY r g b, toneB r g b, toneR r g b), 0) := if_pos hin
    have HC := Lib.hid (fun w => mixed_any w [0, 128, 128] toneW [r, g, b] rfl rfl rfl (fit_tone hin))
    unfold Mixed at HC
    rw [mx_tone] at HC
    rw [decide_eq_true hin] at HI
    have hb0 := hin
    obtain ⟨⟨a0, a1⟩, ⟨a2, a3⟩, a4, a5⟩ := hin
    obtain ⟨x, hx⟩ : ∃ x, x = toneY r g b := ⟨_, rfl⟩
    obtain ⟨y, hy⟩ : ∃ y, y = toneB r g b := ⟨_, rfl⟩
    obtain ⟨z, hz⟩ : ∃ z, z = toneR r g b := ⟨_, rfl⟩
    rw [← hx, ← hy, ← hz] at HC hE
    have HE := Lib.hid hE
    clear hE hx hy hz hb0
    go_enter Tryd.func84, Tryd.ntmps84
    go_wp2_with fail
    rw [HW.out]
    refine Calls.mono (HI.out w3) ?_
    rintro e w4 ⟨rfl, b4⟩
    have H4 := Lib.hid (And.intro (H.out.1.on b4) (H.out.2.1.on b4))
    clear b4
    go_wp2_with (first
      | (with_reducible refine wpList_load_to (op := ⟨some 18, _, _, _, _, _⟩) rfl 106 _ rfl (.pointer (some ⟨4, 0, none⟩)) rfl (rowV toneW) H4.out.2.load ?_)
      | (with_reducible refine wpList_load_to (op := ⟨some 19, _, _, _, _, _⟩) rfl 104 (.tmp 4) rfl (.pointer (some ⟨w.heap.size + 1 + 1, 0, none⟩)) rfl (rowV [r, g, b]) H4.out.1.row.load ?_)
      | fail)
    refine Calls.mono (HC.out w4) ?_
    rintro e w5 ⟨rfl, b5⟩
    have H5 := Lib.hid (H4.out.1.on b5)
    clear b5
    have hv : rowV [x, y, z] = .agg #[.int .i64 x, .int .i64 y, .int .i64 z] := rfl
    rw [hv]
    clear hv
    go_wp2_with (first
      | ((with_reducible refine wpList_store_tri 63 sz23 (o := ⟨none, _, _, _, _, _⟩) rfl (.tmp 2) (.tmp 27) rfl rfl (w.heap.size + 1) [x, y, z] rfl ?hy _ (H5.out.on (on_alloc w5 _)).res rfl rfl ?_)
         case hy => rfl
         intro w9 b9 k9
         have H9 := Lib.hid (And.intro b9 ((H5.out.on (on_alloc w5 _)).done k9))
         clear b9 k9)
      | fail)
    refine bodyPost_ret (v := .tuple #[rowV [x, y, z], .int .i64 0]) (results_ct (fn := Tryd.f84) Tryd.results84 _ _ (w.heap.size + 1) _ _ rfl rfl (loadVar_tone H9.out.1 rfl)) rfl ?_
    exact ⟨by rw [HE.out]; rfl, H9.out.2⟩
  · have hE : ofF r g b = ((0, 0, 0), 2) := if_neg hin
    rw [decide_eq_false hin] at HI
    have HE := Lib.hid hE
    clear hE hin
    go_enter Tryd.func84, Tryd.ntmps84
    go_wp2_with fail
    rw [HW.out]
    refine Calls.mono (HI.out w3) ?_
    rintro e w4 ⟨rfl, b4⟩
    have H4 := Lib.hid (H.out.1.on b4)
    clear b4
    go_wp2_with (first
      | ((with_reducible refine wpList_store_tri 63 sz23 (o := ⟨none, _, _, _, _, _⟩) rfl (.tmp 2) (.tmp 16) rfl rfl (w.heap.size + 1) [0, 0, 0] rfl ?hy _ H4.out.res rfl rfl ?_)
         case hy => rfl
         intro w9 b9 k9
         have H9 := Lib.hid (And.intro b9 (H4.out.done k9))
         clear b9 k9)
      | fail)
    refine bodyPost_ret (v := .tuple #[rowV [0, 0, 0], .int .i64 2]) (results_ct (fn := Tryd.f84) Tryd.results84 _ _ (w.heap.size + 1) _ _ rfl rfl (loadVar_tone H9.out.1 rfl)) rfl ?_
    exact ⟨by rw [HE.out]; rfl, H9.out.2⟩
set_option maxHeartbeats 1600000 in
theorem pix_any (w : World) (r g b : Int) (hT : TabP w) : Calls Tryd.prog 33 #[.agg #[.int .i64 r, .int .i64 g, .int .i64 b]] w (Tells w (pixF r g b)) := by
  obtain ⟨w3, hw3, hO⟩ := ox_made w 63 52 [r, g, b] rfl
  have H := Lib.hid (And.intro hO (And.intro (hT.on hO.bel) hw3))
  have HI := Lib.hid (fun w => within_any w [r, g, b] rfl)
  unfold Withd at HI
  rw [decide_wk] at HI
  clear hw3 hO hT
  have hw : ((w.alloc (.cells #[.int .i64 r, .int .i64 g, .int .i64 b] 63)).alloc (.cells #[.int .i64 0, .int .i64 0, .int .i64 0] 52)).alloc (.cells #[.int .i64 r, .int .i64 g, .int .i64 b] 104) = w3 := H.out.2.2
  have HW := Lib.hid hw
  clear hw
  by_cases hin : In3 r g b
  · have hE : pixF r g b = ((pixR r g b, pixG r g b, pixB r g b), 0) := if_pos hin
    have HC := Lib.hid (fun w => mixed_any w [r, r, r] pixW [r, g - 128, b - 128] rfl rfl rfl (fit_pix hin))
    unfold Mixed at HC
    rw [mx_pix] at HC
    rw [decide_eq_true hin] at HI
    have hb0 := hin
    obtain ⟨⟨a0, a1⟩, ⟨a2, a3⟩, a4, a5⟩ := hin
    obtain ⟨x, hx⟩ : ∃ x, x = pixR r g b := ⟨_, rfl⟩
    obtain ⟨y, hy⟩ : ∃ y, y = pixG r g b := ⟨_, rfl⟩
    obtain ⟨z, hz⟩ : ∃ z, z = pixB r g b := ⟨_, rfl⟩
    rw [← hx, ← hy, ← hz] at HC hE
    have HE := Lib.hid hE
    clear hE hx hy hz hb0
    go_enter Tryd.func33, Tryd.ntmps33
    go_wp2_with fail
    rw [HW.out]
    refine Calls.mono (HI.out w3) ?_
    rintro e w4 ⟨rfl, b4⟩
    have H4 := Lib.hid (And.intro (H.out.1.on b4) (H.out.2.1.on b4))
    clear b4
    have c0 : w4.cell? ⟨w.heap.size, 0, none⟩ = some (.int .i64 r) := H4.out.1.arg.cell 0
    have c1 : w4.cell? ⟨w.heap.size, 1, none⟩ = some (.int .i64 g) := H4.out.1.arg.cell 1
    have c2 : w4.cell? ⟨w.heap.size, 2, none⟩ = some (.int .i64 b) := H4.out.1.arg.cell 2
    go_wp2_with (first
      | (with_reducible refine wpList_load_to (op := ⟨some 24, _, _, _, _, _⟩) rfl 106 _ rfl (.pointer (some ⟨2, 0, none⟩)) rfl (rowV pixW) H4.out.2.load ?_)
      | fail)
    refine Calls.mono (HC.out w4) ?_
    rintro e w5 ⟨rfl, b5⟩
    have H5 := Lib.hid (H4.out.1.on b5)
    clear b5
    have hv : rowV [x, y, z] = .agg #[.int .i64 x, .int .i64 y, .int .i64 z] := rfl
    rw [hv]
    clear hv
    go_wp2_with (first
      | ((with_reducible refine wpList_store_tri 52 sz25 (o := ⟨none, _, _, _, _, _⟩) rfl (.tmp 2) (.tmp 41) rfl rfl (w.heap.size + 1) [x, y, z] rfl ?hy _ (H5.out.on (on_alloc w5 _)).res rfl rfl ?_)
         case hy => rfl
         intro w9 b9 k9
         have H9 := Lib.hid (And.intro b9 ((H5.out.on (on_alloc w5 _)).done k9))
         clear b9 k9)
      | fail)
    refine bodyPost_ret (v := .tuple #[rowV [x, y, z], .int .i64 0]) (results_ct (fn := Tryd.f33) Tryd.results33 _ _ (w.heap.size + 1) _ _ rfl rfl (loadVar_tri H9.out.1 rfl)) rfl ?_
    exact ⟨by rw [HE.out]; rfl, H9.out.2⟩
  · have hE : pixF r g b = ((0, 0, 0), 2) := if_neg hin
    rw [decide_eq_false hin] at HI
    have HE := Lib.hid hE
    clear hE hin
    go_enter Tryd.func33, Tryd.ntmps33
    go_wp2_with fail
    rw [HW.out]
    refine Calls.mono (HI.out w3) ?_
    rintro e w4 ⟨rfl, b4⟩
    have H4 := Lib.hid (H.out.1.on b4)
    clear b4
    go_wp2_with (first
      | ((with_reducible refine wpList_store_tri 52 sz25 (o := ⟨none, _, _, _, _, _⟩) rfl (.tmp 2) (.tmp 16) rfl rfl (w.heap.size + 1) [0, 0, 0] rfl ?hy _ H4.out.res rfl rfl ?_)
         case hy => rfl
         intro w9 b9 k9
         have H9 := Lib.hid (And.intro b9 (H4.out.done k9))
         clear b9 k9)
      | fail)
    refine bodyPost_ret (v := .tuple #[rowV [0, 0, 0], .int .i64 2]) (results_ct (fn := Tryd.f33) Tryd.results33 _ _ (w.heap.size + 1) _ _ rfl rfl (loadVar_tri H9.out.1 rfl)) rfl ?_
    exact ⟨by rw [HE.out]; rfl, H9.out.2⟩
end Go.Proofs.YtmadkpnkmkajoaaDoor

namespace Go.Proofs.YtmadkpnkmkajoaaDoor
open Go.RowKit
set_option maxRecDepth 20000

set_option maxHeartbeats 1600000 in
theorem refPix_any (w : World) (y cb cr : Int) : Calls Tryd.prog 41 #[.int .i64 y, .int .i64 cb, .int .i64 cr] w (Tells w (pixF y cb cr)) := by
  by_cases hin : In3 y cb cr
  · have hE : pixF y cb cr = ((pixR y cb cr, pixG y cb cr, pixB y cb cr), 0) := if_pos hin
    have d0 : decide (In8 y) = true := decide_eq_true hin.1
    have d1 : decide (In8 cb) = true := decide_eq_true hin.2.1
    have d2 : decide (In8 cr) = true := decide_eq_true hin.2.2
    have hs := pix_sums hin
    obtain ⟨⟨a0, a1⟩, ⟨a2, a3⟩, a4, a5⟩ := hin
    unfold pixR pixG pixB at hE
    have B0 := Lib.hid (fun w => by_any w (91881 * (cr - 128)) (by unfold isInt; omega))
    have B1 := Lib.hid (fun w => by_any w (22554 * (cb - 128) + 46802 * (cr - 128)) (by unfold isInt; omega))
    have B2 := Lib.hid (fun w => by_any w (116130 * (cb - 128)) (by unfold isInt; omega))
    unfold Byd at B0 B1 B2
    obtain ⟨x0, hx0⟩ : ∃ x, x = rnd (91881 * (cr - 128)) 65536 := ⟨_, rfl⟩
    obtain ⟨x1, hx1⟩ : ∃ x, x = rnd (22554 * (cb - 128) + 46802 * (cr - 128)) 65536 := ⟨_, rfl⟩
    obtain ⟨x2, hx2⟩ : ∃ x, x = rnd (116130 * (cb - 128)) 65536 := ⟨_, rfl⟩
    have r0 := rnd_bound (91881 * (cr - 128)) 65536
    have r1 := rnd_bound (22554 * (cb - 128) + 46802 * (cr - 128)) 65536
    have r2 := rnd_bound (116130 * (cb - 128)) 65536
    rw [← hx0] at B0 hE r0
    rw [← hx1] at B1 hE r1
    rw [← hx2] at B2 hE r2
    have C0 := Lib.hid (fun w => cut_any w (y + x0))
    have C1 := Lib.hid (fun w => cut_any w (y - x1))
    have C2 := Lib.hid (fun w => cut_any w (y + x2))
    unfold Cutd at C0 C1 C2
    obtain ⟨z0, hz0⟩ : ∃ x, x = cut8 (y + x0) := ⟨_, rfl⟩
    obtain ⟨z1, hz1⟩ : ∃ x, x = cut8 (y - x1) := ⟨_, rfl⟩
    obtain ⟨z2, hz2⟩ : ∃ x, x = cut8 (y + x2) := ⟨_, rfl⟩
    rw [← hz0] at C0 hE
    rw [← hz1] at C1 hE
    rw [← hz2] at C2 hE
    have HE := Lib.hid (And.intro hE (And.intro d0 (And.intro d1 d2)))
    obtain ⟨⟨s0, s1⟩, ⟨s2, s3⟩, s4, s5⟩ := hs
    obtain ⟨r00, r01⟩ := r0
    obtain ⟨r10, r11⟩ := r1
    obtain ⟨r20, r21⟩ := r2
    clear hE d0 d1 d2 hx0 hx1 hx2 hz0 hz1 hz2
    go_enter Tryd.func41, Tryd.ntmps41
    go_wp2_with fail
    refine (in_any _ y).mono ?_
    rintro e w2 ⟨rfl, rfl⟩
    rw [HE.out.2.1]
    go_wp2_with fail
    refine (in_any _ cb).mono ?_
    rintro e w2 ⟨rfl, rfl⟩
    rw [HE.out.2.2.1]
    go_wp2_with fail
    refine (in_any _ cr).mono ?_
    rintro e w2 ⟨rfl, rfl⟩
    rw [HE.out.2.2.2]
    go_wp2_with fail
    refine Calls.mono (B0.out _) ?_
    rintro e w2 ⟨rfl, rfl⟩
    go_wp2_with fail
    refine Calls.mono (C0.out _) ?_
    rintro e w2 ⟨rfl, rfl⟩
    go_wp2_with fail
    refine Calls.mono (B1.out _) ?_
    rintro e w2 ⟨rfl, rfl⟩
    go_wp2_with fail
    refine Calls.mono (C1.out _) ?_
    rintro e w2 ⟨rfl, rfl⟩
    go_wp2_with fail
    refine Calls.mono (B2.out _) ?_
    rintro e w2 ⟨rfl, rfl⟩
    go_wp2_with fail
    refine Calls.mono (C2.out _) ?_
    rintro e w2 ⟨rfl, rfl⟩
    go_wp2_with fail
    refine bodyPost_ret (v := .tuple #[rowV [z0, z1, z2], .int .i64 0]) (results_ct (fn := Tryd.f41) Tryd.results41 _ _ w.heap.size _ _ rfl rfl (loadVar_tri (Box.made _ _ _) rfl)) rfl ?_
    exact ⟨by rw [HE.out.1]; rfl, on_alloc _ _⟩
  · have hE : pixF y cb cr = ((0, 0, 0), 2) := if_neg hin
    have HE := Lib.hid hE
    have hd : decide (In8 y) = false ∨ (decide (In8 y) = true ∧ decide (In8 cb) = false) ∨ (decide (In8 y) = true ∧ decide (In8 cb) = true ∧ decide (In8 cr) = false) := by
      by_cases a : In8 y
      · by_cases b : In8 cb
        · exact .inr (.inr ⟨decide_eq_true a, decide_eq_true b, decide_eq_false fun c => hin ⟨a, b, c⟩⟩)
        · exact .inr (.inl ⟨decide_eq_true a, decide_eq_false b⟩)
      · exact .inl (decide_eq_false a)
    clear hE hin
    rcases hd with d0 | ⟨d0, d1⟩ | ⟨d0, d1, d2⟩
    · have D := Lib.hid d0
      clear d0
      go_enter Tryd.func41, Tryd.ntmps41
      go_wp2_with fail
      refine (in_any _ y).mono ?_
      rintro e w2 ⟨rfl, rfl⟩
      rw [D.out]
      go_wp2_with fail
      refine bodyPost_ret (v := .tuple #[rowV [0, 0, 0], .int .i64 2]) (results_ct (fn := Tryd.f41) Tryd.results41 _ _ w.heap.size _ _ rfl rfl (loadVar_tri (Box.made _ _ _) rfl)) rfl ?_
      exact ⟨by rw [HE.out]; rfl, on_alloc _ _⟩
    · have D := Lib.hid (And.intro d0 d1)
      clear d0 d1
      go_enter Tryd.func41, Tryd.ntmps41
      go_wp2_with fail
      refine (in_any _ y).mono ?_
      rintro e w2 ⟨rfl, rfl⟩
      rw [D.out.1]
      go_wp2_with fail
      refine (in_any _ cb).mono ?_
      rintro e w2 ⟨rfl, rfl⟩
      rw [D.out.2]
      go_wp2_with fail
      refine bodyPost_ret (v := .tuple #[rowV [0, 0, 0], .int .i64 2]) (results_ct (fn := Tryd.f41) Tryd.results41 _ _ w.heap.size _ _ rfl rfl (loadVar_tri (Box.made _ _ _) rfl)) rfl ?_
      exact ⟨by rw [HE.out]; rfl, on_alloc _ _⟩
    · have D := Lib.hid (And.intro d0 (And.intro d1 d2))
      clear d0 d1 d2
      go_enter Tryd.func41, Tryd.ntmps41
      go_wp2_with fail
      refine (in_any _ y).mono ?_
      rintro e w2 ⟨rfl, rfl⟩
      rw [D.out.1]
      go_wp2_with fail
      refine (in_any _ cb).mono ?_
      rintro e w2 ⟨rfl, rfl⟩
      rw [D.out.2.1]
      go_wp2_with fail
      refine (in_any _ cr).mono ?_
      rintro e w2 ⟨rfl, rfl⟩
      rw [D.out.2.2]
      go_wp2_with fail
      refine bodyPost_ret (v := .tuple #[rowV [0, 0, 0], .int .i64 2]) (results_ct (fn := Tryd.f41) Tryd.results41 _ _ w.heap.size _ _ rfl rfl (loadVar_tri (Box.made _ _ _) rfl)) rfl ?_
      exact ⟨by rw [HE.out]; rfl, on_alloc _ _⟩

end Go.Proofs.YtmadkpnkmkajoaaDoor
