/-
  A writer in memory; the contracts of NewWriter, Count and add. The contracts of filled and all. The contract of stuffed. Bits and bytes: mathematics, no code. The contract of Put. The contract of Right. A map from codes to values, in memory. A table in memory; the contracts of add, Code and Spec. The contracts of Code and Spec. How New goes on: what stands in memory. The contract of New. The contract of awake. A reader: mathematics, no code. The contract of a writer's Bytes. The contract of awake. The contracts of the reference's Power, Digits and Put. The contract of the reference's Bytes. Reading scan bytes: mathematics, no code.
-/
import Derived.Test.YtdnjnbfmmgkpjaaDoorMA
import Derived.Deep.RegionHeld3
import Derived.Deep.RegionLaw
import Derived.Maps.OwnOps
import Derived.Maps.Views
import Derived.Maps.OwnSet
import Derived.DeepKeys4
namespace Go.Proofs.YtdnjnbfmmgkpjaaDoor
open Go.RowKit

/-- a writer's cells: no pages, the open bytes, how many, the part's value and count -/
def cellsW (op : List Int) (n v c : Nat) : Array Value := (Value.pointer none :: (cellsOf op ++ [.int .i64 (n : Int), .int .i64 (v : Int), .int .i64 (c : Int)])).toArray

section
variable {op : List Int} {n v c : Nat}
theorem cellsW_size (h : op.length = 256) : (cellsW op n v c).size = 260 := by simp [cellsW, cellsOf_len, h]
theorem cellsW_0 : (cellsW op n v c)[0]? = some (.pointer none) := by simp [cellsW]
theorem cellsW_n (h : op.length = 256) : (cellsW op n v c)[257]? = some (.int .i64 (n : Int)) := by
  simp only [cellsW, List.getElem?_toArray, List.getElem?_cons_succ]
  rw [List.getElem?_append_right (by rw [cellsOf_len, h]; omega), cellsOf_len, h]; rfl
theorem cellsW_v (h : op.length = 256) : (cellsW op n v c)[258]? = some (.int .i64 (v : Int)) := by
  simp only [cellsW, List.getElem?_toArray, List.getElem?_cons_succ]
  rw [List.getElem?_append_right (by rw [cellsOf_len, h]; omega), cellsOf_len, h]; rfl
theorem cellsW_c (h : op.length = 256) : (cellsW op n v c)[259]? = some (.int .i64 (c : Int)) := by
  simp only [cellsW, List.getElem?_toArray, List.getElem?_cons_succ]
  rw [List.getElem?_append_right (by rw [cellsOf_len, h]; omega), cellsOf_len, h]; rfl
theorem cellsW_at (h : op.length = 256) (i : Nat) (hi : i < 256) : (cellsW op n v c)[1 + i]? = some (.int .u8 (op.getD i 0)) := by
  simp only [cellsW, List.getElem?_toArray, Nat.add_comm 1 i, List.getElem?_cons_succ]
  rw [List.getElem?_append_left (by rw [cellsOf_len, h]; omega)]
  simp [cellsOf, List.getD_eq_getElem?_getD, List.getElem?_eq_getElem (show i < op.length by omega)]
theorem cellsW_set_n (h : op.length = 256) (m : Nat) : (cellsW op n v c).setIfInBounds 257 (.int .i64 (m : Int)) = cellsW op m v c := by
  simp only [cellsW, List.setIfInBounds_toArray, List.set_cons_succ]
  rw [List.set_append_right _ _ (by rw [cellsOf_len, h]; omega), cellsOf_len, h]; rfl
theorem cellsW_set_v (h : op.length = 256) (m : Nat) : (cellsW op n v c).setIfInBounds 258 (.int .i64 (m : Int)) = cellsW op n m c := by
  simp only [cellsW, List.setIfInBounds_toArray, List.set_cons_succ]
  rw [List.set_append_right _ _ (by rw [cellsOf_len, h]; omega), cellsOf_len, h]; rfl
theorem cellsW_set_c (h : op.length = 256) (m : Nat) : (cellsW op n v c).setIfInBounds 259 (.int .i64 (m : Int)) = cellsW op n v m := by
  simp only [cellsW, List.setIfInBounds_toArray, List.set_cons_succ]
  rw [List.set_append_right _ _ (by rw [cellsOf_len, h]; omega), cellsOf_len, h]; rfl
theorem cellsW_set_at (h : op.length = 256) (i : Nat) (hi : i < 256) (z : Int) : (cellsW op n v c).setIfInBounds (1 + i) (.int .u8 z) = cellsW (op.set i z) n v c := by
  simp only [cellsW, List.setIfInBounds_toArray, Nat.add_comm 1 i, List.set_cons_succ]
  rw [List.set_append_left _ _ (by rw [cellsOf_len, h]; omega)]
  simp [cellsOf, List.map_set]
end

theorem zero64 (w : World) : (zeroValue 117).run Tryd.prog w = .ok (.agg (cellsW (List.replicate 256 0) 0 0 0)) w := by kernel_rfl

set_option maxHeartbeats 400000 in
theorem newWriter_any (w : World) :
    Calls Tryd.prog 22 #[] w fun e w' => e = .returned (.pointer (some ⟨w.heap.size, 0, none⟩)) ∧ Box w' w.heap.size 117 (cellsW (List.replicate 256 0) 0 0 0) ∧ Below w.heap.size w w' := by
  have hz := zero64
  obtain ⟨M, hM⟩ : ∃ M, M = cellsW (List.replicate 256 0) 0 0 0 := ⟨_, rfl⟩
  rw [← hM] at hz ⊢
  clear hM
  go_enter Tryd.func22, Tryd.ntmps22
  go_wp2
  go_ret
  exact ⟨rfl, Box.made _ _ _, on_alloc _ _⟩

/-- what add leaves -/
def Added (w : World) (d : Nat) (cs : Array Value) (e : Ending) (w' : World) : Prop := e = .returned (.tuple #[]) ∧ Box w' d 117 cs ∧ Kept (fun i => i = d) w w'

set_option maxHeartbeats 800000 in
theorem add_any (w : World) (d : Nat) (op : List Int) (n v c : Nat) (x : Int) (hb : Box w d 117 (cellsW op n v c)) (ho : op.length = 256) (hn : n < 255) :
    Calls Tryd.prog 94 #[.pointer (some ⟨d, 0, none⟩), .int .u8 x] w (Added w d (cellsW (op.set n x) (n + 1) v c)) := by
  have c1 : w.cell? ⟨d, 257, none⟩ = some (.int .i64 (n : Int)) := (hb.cell 257).trans (cellsW_n ho)
  have c2 := (hb.cell (1 + n)).trans (cellsW_at ho n (by omega))
  have f1 := hb.free (1 + n)
  have f2 := hb.free 257
  have e1 : (n : Int) % 256 = n := by omega
  have e2 : ((n : Int) + 1) % 256 = n + 1 := by omega
  have e3 : ¬ ((n : Int) + 1 = 0) := by omega
  have H := Lib.hid (And.intro hb ho)
  clear hb ho
  go_enter Tryd.func94, Tryd.ntmps94
  go_wp2_with fail
  go_region
  all_goals
    (go_wp2
     go_end0
     refine ⟨rfl, ?_, (((Kept.refl (fun i => i = d) w).setCell (p := ⟨d, 1 + n, none⟩) (fun _ => rfl) _).setCell (p := ⟨d, 257, none⟩) (fun _ => rfl) _).drew⟩
     have h := (H.out.1.put (1 + n) (.int .u8 x)).put 257 (.int .i64 ((n + 1 : Nat) : Int))
     rw [cellsW_set_at H.out.2 n (by omega), cellsW_set_n (by rw [List.length_set]; exact H.out.2)] at h
     exact h)
end Go.Proofs.YtdnjnbfmmgkpjaaDoor

namespace Go.Proofs.YtdnjnbfmmgkpjaaDoor
open Go.RowKit

/-- what filled tells -/
def fill (v c : Nat) : Nat := (v + 1) * 2 ^ (8 - c) - 1

theorem fill_lt {v c : Nat} (hc : c ≤ 8) (hv : v < 2 ^ c) : fill v c < 256 := by
  unfold fill
  have h1 : 2 ^ c * 2 ^ (8 - c) = 256 := by rw [← Nat.pow_add, show c + (8 - c) = 8 by omega]
  have h2 : (v + 1) * 2 ^ (8 - c) ≤ 2 ^ c * 2 ^ (8 - c) := Nat.mul_le_mul_right _ hv
  have h3 : 0 < (v + 1) * 2 ^ (8 - c) := Nat.mul_pos (by omega) (pow_pos' _)
  omega

set_option maxHeartbeats 400000 in
theorem filled_any (w : World) (d : Nat) (op : List Int) (n v c : Nat) (hb : Box w d 117 (cellsW op n v c)) (ho : op.length = 256) (hc : c ≤ 8) (hv : v < 2 ^ c) :
    Calls Tryd.prog 58 #[.pointer (some ⟨d, 258, none⟩)] w fun e w' => e = .returned (.int .u8 (fill v c : Nat)) ∧ w = w' := by
  have c1 : w.cell? ⟨d, 258, none⟩ = some (.int .i64 (v : Int)) := (hb.cell 258).trans (cellsW_v ho)
  have c2 : w.cell? ⟨d, 259, none⟩ = some (.int .i64 (c : Int)) := (hb.cell 259).trans (cellsW_c ho)
  have hf := fill_lt hc hv
  obtain ⟨k, hk⟩ : ∃ k, k = 8 - c := ⟨_, rfl⟩
  have e1 : (8 : Int) - c = k := by omega
  have hp : v + 1 ≤ 256 := Nat.le_trans hv (Nat.pow_le_pow_right (by omega) hc)
  obtain ⟨f, hf0⟩ : ∃ f, f = fill v c := ⟨_, rfl⟩
  have e2 : ((v : Int) + 1) * 2 ^ k = ((f + 1 : Nat) : Int) := by
    have h3 : 0 < (v + 1) * 2 ^ (8 - c) := Nat.mul_pos (by omega) (pow_pos' _)
    have : f + 1 = (v + 1) * 2 ^ k := by rw [hf0, hk]; unfold fill; omega
    rw [this]; simp
  rw [← hf0] at hf ⊢
  have hk8 : k ≤ 8 := by omega
  have hv1 : v ≤ 255 := by omega
  clear hb hf0 hk hv hp
  go_enter Tryd.func58, Tryd.ntmps58
  go_wp2
  go_ret
  exact ⟨rfl, rfl⟩

theorem splice_cells (L : List Int) (off : Nat) (cs : List Int) : splice (cellsOf L) off (cellsOf cs) = cellsOf (splice L off cs) := by
  simp [splice, cellsOf, List.map_take, List.map_drop]
/-- a copy into a block that is known whole: only that block turns -/
theorem step_copy_only {ops : Array Oper} {o : Oper} {a : Act} {w : World} {K : Act → World → Prop} {Q : Exit → Act → World → Prop} {E : Prop} (hgd : o.guard = none) (d s : Operand)
    (ho : o.op = .call { callee := .builtin .copy, args := #[d, s], argTypes := #[41, 41] })
    (g off dLen dCap sLen sCap : Nat) (ad : Addr) (hd : a.eval d = .slice (some ⟨g, off, none⟩) dLen dCap) (hs : a.eval s = .slice (some ad) sLen sCap)
    (l cs : List Int) (hg : Box w g 5 (cellsOf l).toArray) (hn : cs.length = Nat.min sLen dLen) (hsrc : ∀ j v, (cellsOf cs)[j]? = some v → w.cell? (ad.add j) = some v) (hfit : off + cs.length ≤ l.length)
    (h : ∀ w', Box w' g 5 (cellsOf (splice l off cs)).toArray → Kept (fun k => k = g) w w' → K (a.put o.dst (goInt cs.length)) w') :
    if Region.wanted o (yielded ops a.tmps) = true then Oper.wp Tryd.prog o a w K Q else E := by
  have hw : Region.wanted o (yielded ops a.tmps) = true := by simp [Region.wanted, hgd]
  rw [if_pos hw]
  have hrun := run_copy_row (P := Tryd.prog) w 41 41 o.type 5 g off dLen dCap ad sLen sCap (cellsOf l).toArray 5 (cellsOf cs) Tryd.underlying41 byte_size hg (by rw [cellsOf_len]; exact hn) hsrc (by simpa [cellsOf_len] using hfit) (cellsOf_one _)
  unfold Oper.wp
  simp [execOp, ho, resolve, invoke, builtin, hd, hs, hrun, Result.andThen]
  have e := setRow_heap w g _ (cellsOf (splice l off cs)).toArray 5 _ hg
  rw [← splice_cells] at e
  rw [cellsOf_len]
  refine h _ ?_ ⟨rfl, rfl, rfl, by simp [World.setRow], fun k hk hne => setRow_other w g k _ hne⟩
  rw [← splice_cells]
  unfold Box
  simpa [splice, cellsOf_len] using e


theorem below_kept {g : Nat} {w w1 w2 : World} (a : Below w.heap.size w w1) (b : Kept (fun k => k = g) w1 w2) (hg : g = w.heap.size) : Below g w w2 := by
  subst hg
  exact a.trans (b.below a.size (fun i hi e => by omega))
theorem splice_front (L cs : List Value) (h : cs.length = L.length) : splice L 0 cs = cs := splice_all L cs (by omega)

set_option maxRecDepth 10000 in
set_option maxHeartbeats 800000 in
theorem all_any (w : World) (d : Nat) (op : List Int) (n v c : Nat) (hb : Box w d 117 (cellsW op n v c)) (ho : op.length = 256) (hn : n ≤ 255) :
    Calls Tryd.prog 57 #[.pointer (some ⟨d, 0, none⟩)] w fun e w' => e = .returned (.slice (some ⟨w.heap.size, 0, none⟩) n n) ∧ Box w' w.heap.size 5 (cellsOf (op.take n)).toArray ∧ Below w.heap.size w w' := by
  have c1 : w.cell? ⟨d, 257, none⟩ = some (.int .i64 (n : Int)) := (hb.cell 257).trans (cellsW_n ho)
  have ld := hb.lt
  have hmk := run_make_row' (P := Tryd.prog) 41 5 (.int .u8 0) 1 Tryd.underlying41 byte_info rfl .i64 .i64 n (by omega) (by omega)
  obtain ⟨M, hM⟩ : ∃ M, M = madeCells #[.int .u8 0] n := ⟨_, rfl⟩
  rw [← hM] at hmk
  obtain ⟨g, hg⟩ : ∃ g, g = w.heap.size := ⟨_, rfl⟩
  obtain ⟨w1, hw1⟩ : ∃ w1, w1 = w.alloc (.cells M 5) := ⟨_, rfl⟩
  have hM2 : M = (cellsOf (List.replicate n 0)).toArray := by
    apply Array.toList_inj.1
    rw [hM, toList_madeCells_one]
    simp [cellsOf]
  have hbm : Box w1 g 5 (cellsOf (List.replicate n 0)).toArray := by rw [hw1, hg, ← hM2]; exact Box.made _ _ _
  have bel1 : Below w.heap.size w w1 := by rw [hw1]; exact on_alloc _ _
  have hb1 := hb.on bel1
  have hmw := hmk w
  rw [← hw1, ← hg] at hmw
  have d1 : w1.cell? ⟨d, 257, none⟩ = some (.int .i64 (n : Int)) := (hb1.cell 257).trans (cellsW_n ho)
  have hsrc : ∀ j u, (cellsOf (op.take n))[j]? = some u → w1.cell? ((⟨d, 1, none⟩ : Addr).add j) = some u := fun j u hu => by
    have hj : j < n := by
      have := (List.getElem?_eq_some_iff.1 hu).1
      rw [cellsOf_len, List.length_take] at this
      omega
    rw [plain_add]
    refine (hb1.cell (1 + j)).trans ((cellsW_at ho j (by omega)).trans ?_)
    rw [← hu]
    simp only [cellsOf, List.getElem?_map]
    rw [List.getElem?_take_of_lt hj, List.getElem?_eq_getElem (by omega), List.getD_eq_getElem?_getD, List.getElem?_eq_getElem (by omega)]
    rfl
  have htl : (op.take n).length = n := by rw [List.length_take]; omega
  have HH := Lib.hid (And.intro hb (And.intro ho (And.intro hbm (And.intro bel1 (And.intro hg (And.intro hsrc htl))))))
  clear hb1 hsrc htl hb ho hmk hM hM2 hw1 hbm bel1 ld
  have e1 : (n : Int) % 256 = n := by omega
  rw [← hg]
  clear hg
  go_enter Tryd.func57, Tryd.ntmps57
  go_wp2_with fail
  go_quiet (fail)
  go_wp2_with fail
  generalize hw2 : World.drewN w1 nq = w2
  have HF : Hid (Box w2.drew g 5 (cellsOf (List.replicate n 0)).toArray ∧ (∀ j v, (cellsOf (op.take n))[j]? = some v → (w2.drew).cell? ((⟨d, 1, none⟩ : Addr).add j) = some v) ∧ Below w.heap.size w w2.drew ∧ (op.take n).length = Nat.min 256 n ∧ 0 + (op.take n).length ≤ (List.replicate n (0 : Int)).length) := by
    subst hw2
    exact Lib.hid ⟨HH.out.2.2.1, HH.out.2.2.2.2.2.1, on_trans (on_trans HH.out.2.2.2.1 (below_drewN_refl _ _)) (on_drew _), by rw [HH.out.2.2.2.2.2.2]; exact (Nat.min_eq_right (by omega)).symm, by rw [HH.out.2.2.2.2.2.2, List.length_replicate]; omega⟩
  clear hw2 d1 c1 hmw e1
  go_region_held3 (fun _ => True) (exact trivial)
    (first
      | (refine step_copy_only rfl (.tmp 23) (.tmp 27) rfl g 0 n n 256 256 ⟨d, 1, none⟩ rfl rfl (List.replicate n 0) (op.take n) HF.out.1 HF.out.2.2.2.1 HF.out.2.1 HF.out.2.2.2.2 ?_
         intro w6 hb6 k6
         have H6 := Lib.hid (And.intro hb6 k6)
         clear hb6 k6))
  all_goals
    (have lt := HH.out.1.lt
     have hd6 : Box w6 d 117 (cellsW op n v c) := H6.out.2.box (HH.out.1.on HF.out.2.2.1) (fun e => by have := HH.out.2.2.2.2.1; omega)
     have c0 : w6.cell? ⟨d, 0, none⟩ = some (.pointer none) := (hd6.cell 0).trans cellsW_0
     have hfin : Box w6 g 5 (cellsOf (op.take n)).toArray := by
       have := H6.out.1
       rwa [splice_all _ _ (by rw [List.length_replicate, HH.out.2.2.2.2.2.2]; exact Nat.le_refl _)] at this
     have hbel : Below g w w6 := below_kept HF.out.2.2.1 H6.out.2 HH.out.2.2.2.2.1
     have HE := Lib.hid (And.intro hfin hbel)
     clear hfin hbel hd6 lt
     go_wp2_with fail
     go_loop [5] (fun p => p = .pointer none) (fun _ => 0)
     case atStart => exact rfl
     case round =>
       subst hrel
       go_wp2
       go_ret
       exact ⟨rfl, HE.out.1, HE.out.2⟩)
end Go.Proofs.YtdnjnbfmmgkpjaaDoor

namespace Go.Proofs.YtdnjnbfmmgkpjaaDoor
open Go.RowKit

/-- some bytes with their stuffing -/
def stuff (l : List Int) : List Int := l.flatMap fun x => if x = 255 then [255, 0] else [x]
theorem stuff_app (a b : List Int) : stuff (a ++ b) = stuff a ++ stuff b := by simp [stuff]
theorem stuff_len (l : List Int) : (stuff l).length ≤ 2 * l.length := by
  induction l with
  | nil => simp [stuff]
  | cons a l ih =>
    have e : stuff (a :: l) = (if a = 255 then [255, 0] else [a]) ++ stuff l := by simp [stuff]
    rw [e, List.length_append, List.length_cons]
    split
    · simp; omega
    · simp; omega
theorem stuff_fit {l : List Int} (h : Fit l) : Fit (stuff l) := by
  intro z hz
  obtain ⟨x, hx, hz⟩ := List.mem_flatMap.1 hz
  have := h x hx
  split at hz
  · simp at hz
    omega
  · simp at hz
    subst hz
    exact this
theorem stuff_more {l : List Int} {k : Nat} (h : k < l.length) : stuff (l.take (k + 1)) = stuff (l.take k) ++ (if l.getD k 0 = 255 then [255, 0] else [l.getD k 0]) := by
  rw [take_more l k h, stuff_app]
  congr 1
  simp [stuff]

/-- a new block of one byte -/
theorem sl_byte (w : World) (z : Int) (h0 : 0 ≤ z) (h1 : z ≤ 255) : Sl (w.alloc (.cells #[.int .u8 z] 5)) (fun _ => True) (some ⟨w.heap.size, 0, none⟩) 1 1 [z] :=
  sl_of_box (l := [z]) (Box.made w 5 #[.int .u8 z]) (fun y hy => by simp at hy; subst hy; exact ⟨h0, h1⟩) rfl (by unfold maxLen; omega) trivial
/-- a new block of one number -/
theorem il_one (w : World) (z : Int) : Il (w.alloc (.cells #[.int .i64 z] 3)) (some ⟨w.heap.size, 0, none⟩) 1 1 [z] :=
  ⟨rfl, Nat.le_refl _, by unfold maxLen; omega, (fun e => by cases e), (fun b off e => by cases e; exact ⟨_, _, Box.made w 3 #[.int .i64 z]⟩), fun _ => ⟨w.heap.size, 0, rfl, by simp, fun i hi => by
    obtain rfl : i = 0 := by omega
    exact (Box.made w 3 #[.int .i64 z]).cell 0⟩⟩

/-- a row of bytes of one's own, and what is older is as it was -/
structure Row (w wr : World) (v : Value) (n : Nat) (l : List Int) : Prop where
  own : wr.ownsRow w.heap.size 5 1 v n (cellsOf l)
  bel : Below w.heap.size w wr

set_option maxRecDepth 10000 in
set_option maxHeartbeats 1600000 in
theorem stuffed_any (w : World) (K : Nat → Prop) (A : Option Addr) (n c : Nat) (l : List Int) (h : Sl w K A n c l) (hn : n ≤ 20500) :
    Calls Tryd.prog 59 #[.slice A n c] w fun e w' => ∃ A' c', e = .returned (.slice A' (stuff l).length c') ∧ Sl w' (fun _ => True) A' (stuff l).length c' (stuff l) ∧ Below w.heap.size w w' := by
  obtain ⟨i0, hi0, hz0, hz1, hz2⟩ := info_parts byte_info
  have HH := Lib.hid h
  clear h
  go_enter Tryd.func59, Tryd.ntmps59
  go_wp2_with (first | fail | (at_make; refine wpList_make_own _ rfl _ _ 41 rfl w.heap.size 5 i0 (.int .u8 0) 1 Tryd.underlying41 hi0 hz0 hz1 .i64 .i64 n n rfl rfl rfl (by rw [hz2]; omega) (by unfold maxLen; omega) (Nat.le_refl _) ?_; intro w1 hown1 hgrow1))
  have H1 := Lib.hid (Row.mk (n := 0) (l := []) hown1 ((Below.refl w.heap.size w).grown hgrow1 (Nat.le_refl _) (fun j hj => by cases hj)))
  clear hown1 hgrow1
  obtain ⟨v1, hv1⟩ : ∃ v1, v1 = Value.slice (some ⟨w.heap.size, 0, none⟩) 0 n := ⟨_, rfl⟩
  rw [← hv1] at H1 ⊢
  clear hv1
  go_loopw [3, 11] (fun v i wr => ∃ k : Nat, k ≤ n ∧ i = .int .i64 k ∧ Row w wr v (stuff (l.take k)).length (stuff (l.take k))) (fun _ i _ => n - (intOf i).toNat)
  case atStart => exact ⟨0, Nat.zero_le _, rfl, H1.out⟩
  case round =>
    obtain ⟨k, hk, rfl, hR⟩ := hrel
    by_cases hlt : k < n
    · have hsl := HH.out.on hR.bel
      have hlen := HH.out.len
      have hmore := stuff_more (l := l) (k := k) (by omega)
      obtain ⟨m, hm⟩ : ∃ m, m = (stuff (l.take k)).length := ⟨_, rfl⟩
      have hm1 : m ≤ 41000 := by
        have := stuff_len (l.take k)
        rw [List.length_take] at this
        omega
      have hz := HH.out.bts.fit.getD k
      obtain ⟨b, off, rfl, hc⟩ := hsl.get hlt
      obtain ⟨z, hzz⟩ : ∃ z, z = l.getD k 0 := ⟨_, rfl⟩
      rw [← hzz] at hz hc hmore
      rw [← hm] at hR
      have HR := Lib.hid (And.intro hR (And.intro hmore (And.intro hm hz)))
      clear hR hmore hm hz hzz hsl hlen
      by_cases h255 : z = 255
      · subst h255
        go_wp2_with (first
          | (at_builtin; refine wpList_append_sl rfl (.tmp 15) (.tmp 17) rfl w.heap.size u3 m (stuff (l.take k)) rfl (HR.out.1.own.alloc _) _ (some ⟨wr.heap.size, 0, none⟩) 1 1 [255] rfl (sl_byte wr 255 (by omega) (by omega)) (by omega) (by have := HR.out.1.bel.size; simp; omega) ?_; intro v3 w3 hown3 b3; have H3 := Lib.hid (Row.mk hown3 ((HR.out.1.bel.trans ((on_alloc _ _).mono HR.out.1.bel.size)).trans b3)); clear hown3 b3)
          | (at_builtin; refine wpList_append_sl rfl (.tmp 21) (.tmp 22) rfl w.heap.size v3 (m + 1) _ rfl (H3.out.own.alloc _) _ (some ⟨w3.heap.size, 0, none⟩) 1 1 [0] rfl (sl_byte w3 0 (by omega) (by omega)) (by omega) (by have := H3.out.bel.size; simp; omega) ?_; intro v4 w4 hown4 b4; have H4 := Lib.hid (Row.mk hown4 ((H3.out.bel.trans ((on_alloc _ _).mono H3.out.bel.size)).trans b4)); clear hown4 b4))
        go_roundw
        case rel =>
          refine ⟨k + 1, by omega, by go_num, ?_⟩
          have := H4.out
          rw [List.append_assoc] at this
          rw [HR.out.2.1, if_pos rfl, List.length_append, ← HR.out.2.2.1]
          exact this
        case measure => simp [intOf]; omega
      · go_wp2_with (first | fail | (at_builtin; refine wpList_append_sl rfl (.tmp 15) (.tmp 17) rfl w.heap.size u3 m (stuff (l.take k)) rfl (HR.out.1.own.alloc _) _ (some ⟨wr.heap.size, 0, none⟩) 1 1 [z] rfl (sl_byte wr z HR.out.2.2.2.1 HR.out.2.2.2.2) (by omega) (by have := HR.out.1.bel.size; simp; omega) ?_; intro v3 w3 hown3 b3; have H3 := Lib.hid (Row.mk hown3 ((HR.out.1.bel.trans ((on_alloc _ _).mono HR.out.1.bel.size)).trans b3)); clear hown3 b3))
        go_roundw
        case rel =>
          refine ⟨k + 1, by omega, by go_num, ?_⟩
          have := H3.out
          rw [HR.out.2.1, if_neg h255, List.length_append, ← HR.out.2.2.1]
          exact this
        case measure => simp [intOf]; omega
    · have ek : k = n := by omega
      have HE := Lib.hid (And.intro hR ek)
      clear hR ek
      go_wp2
      go_ret
      obtain ⟨hR, ek⟩ := HE.out
      have e : l.take k = l := List.take_of_length_le (by have := HH.out.len; omega)
      rw [e] at hR
      obtain ⟨A', c', hv, hs⟩ := sl_of_own hR.own (stuff_fit HH.out.bts.fit)
      subst hv
      exact ⟨A', c', rfl, hs.mono (fun _ _ _ => trivial), hR.bel⟩
end Go.Proofs.YtdnjnbfmmgkpjaaDoor

namespace Go.Proofs.YtdnjnbfmmgkpjaaDoor
open Go.RowKit

/-- the bits of a number, so many, the highest first -/
def dig : Nat → Nat → List Int
  | _, 0 => []
  | v, c + 1 => dig (v / 2) c ++ [((v % 2 : Nat) : Int)]
theorem dig_len (v c : Nat) : (dig v c).length = c := by
  induction c generalizing v with
  | zero => rfl
  | succ c ih => simp [dig, ih]
theorem dig_app (v a b : Nat) : dig v (a + b) = dig (v / 2 ^ b) a ++ dig v b := by
  induction b generalizing v with
  | zero => simp [dig]
  | succ b ih =>
    show dig (v / 2) (a + b) ++ _ = _
    rw [ih, Nat.div_div_eq_div_mul, show 2 * 2 ^ b = 2 ^ (b + 1) by rw [Nat.pow_succ]; omega, List.append_assoc]
    rfl
theorem dig_mod (v b : Nat) : dig (v % 2 ^ b) b = dig v b := by
  induction b generalizing v with
  | zero => rfl
  | succ b ih =>
    have h2 : (2 : Nat) ^ (b + 1) = 2 * 2 ^ b := by rw [Nat.pow_succ]; omega
    show dig (v % 2 ^ (b + 1) / 2) b ++ _ = dig (v / 2) b ++ _
    have h1 : v % 2 ^ (b + 1) / 2 = (v / 2) % 2 ^ b := by
      rw [h2, Nat.mod_mul_right_div_self]
    have h3 : v % 2 ^ (b + 1) % 2 = v % 2 := by
      rw [h2, Nat.mod_mul_right_mod]
    rw [h1, ih, h3]
/-- a part's first eight bits, and the rest -/
theorem dig_cut (v a b : Nat) : dig v (a + b) = dig (v / 2 ^ b) a ++ dig (v % 2 ^ b) b := by rw [dig_app, dig_mod]
/-- bits behind bits -/
theorem dig_join (v c x k : Nat) (hx : x < 2 ^ k) : dig (v * 2 ^ k + x) (c + k) = dig v c ++ dig x k := by
  rw [dig_cut]
  have hp := pow_pos' k
  have h1 : (v * 2 ^ k + x) / 2 ^ k = v := by
    rw [Nat.mul_comm, Nat.mul_add_div hp, Nat.div_eq_of_lt hx, Nat.add_zero]
  have h2 : (v * 2 ^ k + x) % 2 ^ k = x := by
    rw [Nat.mul_comm, Nat.mul_add_mod, Nat.mod_eq_of_lt hx]
  rw [h1, h2]
theorem join_lt {v c x k : Nat} (hv : v < 2 ^ c) (hx : x < 2 ^ k) : v * 2 ^ k + x < 2 ^ (c + k) := by
  rw [Nat.pow_add]
  have : (v + 1) * 2 ^ k ≤ 2 ^ c * 2 ^ k := Nat.mul_le_mul_right _ hv
  rw [Nat.add_mul, Nat.one_mul] at this
  omega
theorem dig_inj {v u c : Nat} (hv : v < 2 ^ c) (hu : u < 2 ^ c) (h : dig v c = dig u c) : v = u := by
  induction c generalizing v u with
  | zero => simp at hv hu; omega
  | succ c ih =>
    have h2 : (2 : Nat) ^ (c + 1) = 2 ^ c * 2 := Nat.pow_succ 2 c
    have hl := congrArg List.length h
    obtain ⟨h3, h4⟩ := List.append_inj' (show dig (v / 2) c ++ [((v % 2 : Nat) : Int)] = dig (u / 2) c ++ [((u % 2 : Nat) : Int)] from h) rfl
    have h5 := ih (by omega) (by omega) h3
    have h6 : v % 2 = u % 2 := by
      have : ((v % 2 : Nat) : Int) = ((u % 2 : Nat) : Int) := by simpa using h4
      omega
    omega
theorem dig_bit (v c : Nat) : ∀ z ∈ dig v c, z = 0 ∨ z = 1 := by
  induction c generalizing v with
  | zero => intro z hz; cases hz
  | succ c ih =>
    intro z hz
    rcases List.mem_append.1 hz with h | h
    · exact ih _ z h
    · simp at h
      omega

/-- the bits of bytes -/
def by8 (B : List Int) : List Int := B.flatMap fun b => dig b.toNat 8
theorem by8_app (A B : List Int) : by8 (A ++ B) = by8 A ++ by8 B := by simp [by8]
theorem by8_one (z : Int) : by8 [z] = dig z.toNat 8 := by simp [by8]
theorem by8_cons (z : Int) (B : List Int) : by8 (z :: B) = dig z.toNat 8 ++ by8 B := by simp [by8]
theorem by8_len (B : List Int) : (by8 B).length = 8 * B.length := by
  induction B with
  | nil => rfl
  | cons b B ih => rw [by8_cons, List.length_append, ih, dig_len, List.length_cons]; omega
theorem by8_inj {A B : List Int} (ha : Fit A) (hb : Fit B) (h : by8 A = by8 B) : A = B := by
  induction A generalizing B with
  | nil =>
    have := congrArg List.length h
    rw [by8_len, by8_len] at this
    rw [List.length_nil] at this
    exact (List.eq_nil_of_length_eq_zero (by omega)).symm
  | cons a A ih =>
    cases B with
    | nil =>
      have := congrArg List.length h
      rw [by8_len, by8_len] at this
      simp at this
    | cons b B =>
      rw [by8_cons, by8_cons] at h
      obtain ⟨h1, h2⟩ := List.append_inj h (by rw [dig_len, dig_len])
      have xa := ha a (List.mem_cons_self ..)
      have xb := hb b (List.mem_cons_self ..)
      have e := dig_inj (show a.toNat < 2 ^ 8 by omega) (show b.toNat < 2 ^ 8 by omega) h1
      rw [ih (fun z hz => ha z (List.mem_cons_of_mem _ hz)) (fun z hz => hb z (List.mem_cons_of_mem _ hz)) h2, show a = b by omega]

/-- a writer's bits: its whole bytes, and what is behind them -/
theorem parts_inj {A B : List Int} {v u c k : Nat} (ha : Fit A) (hb : Fit B) (hc : c < 8) (hk : k < 8) (hv : v < 2 ^ c) (hu : u < 2 ^ k) (h : by8 A ++ dig v c = by8 B ++ dig u k) : A = B ∧ v = u ∧ c = k := by
  have hl := congrArg List.length h
  rw [List.length_append, List.length_append, by8_len, by8_len, dig_len, dig_len] at hl
  have hck : c = k := by omega
  subst hck
  obtain ⟨h1, h2⟩ := List.append_inj h (by rw [by8_len, by8_len]; omega)
  exact ⟨by8_inj ha hb h1, dig_inj hv hu h2, rfl⟩

/-- the bytes of a writer, the last one filled up -/
def filledUp (B : List Int) (v c : Nat) : List Int := B ++ (if c = 0 then [] else [((fill v c : Nat) : Int)])
theorem fit_filledUp {B : List Int} {v c : Nat} (h : Fit B) (hc : c < 8) (hv : v < 2 ^ c) : Fit (filledUp B v c) := by
  unfold filledUp
  refine h.app ?_
  have := fill_lt (by omega) hv
  split
  · intro z hz; cases hz
  · intro z hz
    simp at hz
    omega
theorem dig_ones (v c k : Nat) : dig ((v + 1) * 2 ^ k - 1) (c + k) = dig v c ++ List.replicate k 1 := by
  induction k with
  | zero => simp
  | succ k ih =>
    have hp : 0 < (v + 1) * 2 ^ k := Nat.mul_pos (by omega) (pow_pos' k)
    have e : (v + 1) * 2 ^ (k + 1) - 1 = 2 * ((v + 1) * 2 ^ k - 1) + 1 := by
      rw [Nat.pow_succ, ← Nat.mul_assoc]
      omega
    rw [e]
    show dig ((2 * ((v + 1) * 2 ^ k - 1) + 1) / 2) (c + k) ++ [(((2 * ((v + 1) * 2 ^ k - 1) + 1) % 2 : Nat) : Int)] = _
    rw [show (2 * ((v + 1) * 2 ^ k - 1) + 1) / 2 = (v + 1) * 2 ^ k - 1 by omega, show (2 * ((v + 1) * 2 ^ k - 1) + 1) % 2 = 1 by omega, ih, List.append_assoc, List.replicate_succ']
    rfl
/-- filled up, the bits are the bits, and set bits behind them -/
theorem by8_filledUp (B : List Int) {v c : Nat} (hc : c < 8) : by8 (filledUp B v c) = (by8 B ++ dig v c) ++ List.replicate ((8 - c) % 8) 1 := by
  unfold filledUp
  rw [by8_app, List.append_assoc]
  congr 1
  by_cases h : c = 0
  · subst h
    simp [by8, dig]
  · rw [if_neg h, by8_one, Int.toNat_natCast, Nat.mod_eq_of_lt (by omega)]
    unfold fill
    rw [← dig_ones v c (8 - c), show c + (8 - c) = 8 by omega]

/-- 'or' where no bit meets another one -/
theorem or_join (v x k : Nat) (hx : x < 2 ^ k) : (v * 2 ^ k) ||| x = v * 2 ^ k + x := by
  rw [← Nat.shiftLeft_eq, Nat.shiftLeft_add_eq_or_of_lt hx]
end Go.Proofs.YtdnjnbfmmgkpjaaDoor

namespace Go.Proofs.YtdnjnbfmmgkpjaaDoor
open Go.RowKit

/-- a writer whose part may be long: its bits are L -/
def WrG (w : World) (d : Nat) (L : List Int) (n v c : Nat) : Prop :=
  ∃ op, Box w d 117 (cellsW op n v c) ∧ op.length = 256 ∧ Fit op ∧ v < 2 ^ c ∧ L = by8 (op.take n) ++ dig v c
/-- a writer of bits L -/
def Wr (w : World) (d : Nat) (L : List Int) : Prop := ∃ n v c, WrG w d L n v c ∧ c < 8 ∧ n ≤ 250

theorem WrG.len {w : World} {d n v c : Nat} {L : List Int} (h : WrG w d L n v c) (hn : n ≤ 256) : L.length = 8 * n + c := by
  obtain ⟨op, _, ho, _, _, rfl⟩ := h
  rw [List.length_append, by8_len, dig_len, List.length_take, ho]
  omega

theorem or_i64 (a b : Nat) (ha : a < 4611686018427387904) (hb : b < 4611686018427387904) : bits .or .i64 (a : Int) (b : Int) = ((a ||| b : Nat) : Int) := by
  have hx : a ||| b < 2 ^ 62 := Nat.or_lt_two_pow (by omega) (by omega)
  have h1 : (BitVec.ofInt 64 (a : Int)).toNat = a := by
    rw [BitVec.ofInt_natCast, BitVec.toNat_ofNat]; exact Nat.mod_eq_of_lt (by omega)
  have h2 : (BitVec.ofInt 64 (b : Int)).toNat = b := by
    rw [BitVec.ofInt_natCast, BitVec.toNat_ofNat]; exact Nat.mod_eq_of_lt (by omega)
  show IntKind.i64.wrap ((BitVec.ofInt 64 (a : Int) ||| BitVec.ofInt 64 (b : Int)).toNat : Int) = _
  rw [BitVec.toNat_or, h1, h2]
  exact wrap_small (by omega) (by omega)
theorem and_i64 (a b : Nat) (ha : a < 4611686018427387904) (hb : b < 4611686018427387904) : bits .and .i64 (a : Int) (b : Int) = ((a &&& b : Nat) : Int) := by
  have hx : a &&& b < 2 ^ 62 := Nat.and_lt_two_pow _ (by omega)
  have h1 : (BitVec.ofInt 64 (a : Int)).toNat = a := by
    rw [BitVec.ofInt_natCast, BitVec.toNat_ofNat]; exact Nat.mod_eq_of_lt (by omega)
  have h2 : (BitVec.ofInt 64 (b : Int)).toNat = b := by
    rw [BitVec.ofInt_natCast, BitVec.toNat_ofNat]; exact Nat.mod_eq_of_lt (by omega)
  show IntKind.i64.wrap ((BitVec.ofInt 64 (a : Int) &&& BitVec.ofInt 64 (b : Int)).toNat : Int) = _
  rw [BitVec.toNat_and, h1, h2]
  exact wrap_small (by omega) (by omega)

/-- the count of a writer's part, as memory has it -/
def countOf (d : Nat) (w : World) : Nat := match w.cell? ⟨d, 259, none⟩ with
  | some (.int _ c) => c.toNat
  | _ => 0
theorem WrG.count {w : World} {d n v c : Nat} {L : List Int} (h : WrG w d L n v c) : countOf d w = c := by
  obtain ⟨op, hb, ho, _⟩ := h
  unfold countOf
  rw [show w.cell? ⟨d, 259, none⟩ = some (.int .i64 (c : Int)) from (hb.cell 259).trans (cellsW_c ho)]
  simp

/-- how a writer stands while whole bytes are taken off its part -/
structure Putting (w : World) (d : Nat) (L : List Int) (wr : World) (n v c : Nat) : Prop where
  wri : WrG wr d L n v c
  small : c ≤ 31
  few : n ≤ 254
  bel : Kept (fun i => i = d) w wr

theorem fit_set {l : List Int} (h : Fit l) (i : Nat) (z : Int) (h0 : 0 ≤ z) (h1 : z ≤ 255) : Fit (l.set i z) := fun y hy => by
  rcases List.mem_or_eq_of_mem_set hy with h2 | rfl
  · exact h y h2
  · exact ⟨h0, h1⟩
/-- one byte is taken off a long part -/
theorem WrG.off {w : World} {d n v c j : Nat} {op : List Int} {L : List Int} (hL : L = by8 (op.take n) ++ dig v c) (hn : n < 255) (ho : op.length = 256) (hf : Fit op) (hj : c = 8 + j) (hv : v < 2 ^ c)
    (hb : Box w d 117 (cellsW (op.set n ((v / 2 ^ j : Nat) : Int)) (n + 1) (v % 2 ^ j) j)) : WrG w d L (n + 1) (v % 2 ^ j) j := by
  have hq : v / 2 ^ j < 256 := by
    rw [Nat.div_lt_iff_lt_mul (pow_pos' j)]
    rw [hj, Nat.pow_add] at hv
    exact hv
  obtain ⟨q, hq0⟩ : ∃ q, q = v / 2 ^ j := ⟨_, rfl⟩
  rw [← hq0] at hq hb
  refine ⟨_, hb, by rw [List.length_set]; exact ho, fit_set hf n _ (by omega) (by omega), Nat.mod_lt _ (pow_pos' j), ?_⟩
  rw [hL, hj, dig_cut, take_more _ n (by rw [List.length_set]; omega), by8_app, List.take_set_of_le (Nat.le_refl _), by8_one, List.append_assoc]
  congr 2
  rw [List.getD_eq_getElem?_getD, List.getElem?_set_self (by omega), ← hq0]
  rfl

set_option maxHeartbeats 400000 in
theorem put_nil (w : World) (v c : Int) : Calls Tryd.prog 78 #[.pointer none, .int .i64 v, .int .i64 c] w fun e w' => e = .returned (.int .i64 3) ∧ w = w' := by
  go_enter Tryd.func78, Tryd.ntmps78
  go_wp2
  go_ret
  exact ⟨rfl, rfl⟩

/-- what may be put -/
def mayPut (v c : Int) : Prop := 0 ≤ c ∧ c ≤ 24 ∧ 0 ≤ v ∧ v < 2 ^ c.toNat
instance (v c : Int) : Decidable (mayPut v c) := by unfold mayPut; infer_instance

set_option maxHeartbeats 400000 in
theorem put_refused (w : World) (d : Nat) (v c : Int) (h : ¬ mayPut v c) : Calls Tryd.prog 78 #[.pointer (some ⟨d, 0, none⟩), .int .i64 v, .int .i64 c] w fun e w' => e = .returned (.int .i64 2) ∧ w = w' := by
  unfold mayPut at h
  by_cases h1 : c < 0
  · clear h
    go_enter Tryd.func78, Tryd.ntmps78
    go_wp2
    go_ret
    exact ⟨rfl, rfl⟩
  by_cases h2 : 24 < c
  · clear h
    go_enter Tryd.func78, Tryd.ntmps78
    go_wp2
    go_ret
    exact ⟨rfl, rfl⟩
  by_cases h3 : v < 0
  · clear h
    go_enter Tryd.func78, Tryd.ntmps78
    go_wp2
    go_ret
    exact ⟨rfl, rfl⟩
  have h4 : (2 : Int) ^ c.toNat ≤ v := by omega
  obtain ⟨p, hp⟩ : ∃ p : Nat, p = 2 ^ c.toNat := ⟨_, rfl⟩
  have hp1 : p ≤ 16777216 := by rw [hp]; exact Nat.le_trans (Nat.pow_le_pow_right (by omega) (show c.toNat ≤ 24 by omega)) (by decide)
  have hp2 : (2 : Int) ^ c.toNat = (p : Int) := by rw [hp]; simp
  rw [hp2] at h4
  clear h hp
  go_enter Tryd.func78, Tryd.ntmps78
  go_wp2
  go_ret
  exact ⟨rfl, rfl⟩

set_option maxHeartbeats 1600000 in
theorem put_done (w : World) (d n v c x k : Nat) (L : List Int) (h : WrG w d L n v c) (hc : c < 8) (hn : n ≤ 250) (hk : k ≤ 24) (hx : x < 2 ^ k) :
    Calls Tryd.prog 78 #[.pointer (some ⟨d, 0, none⟩), .int .i64 (x : Int), .int .i64 (k : Int)] w fun e w' => e = .returned (.int .i64 0) ∧ (∃ n' v' c', WrG w' d (L ++ dig x k) n' v' c' ∧ c' < 8 ∧ n' ≤ 254) ∧ Kept (fun i => i = d) w w' := by
  have hlen := h.len (by omega)
  obtain ⟨op, hb, ho, hf, hv, hL⟩ := h
  have c1 : w.cell? ⟨d, 258, none⟩ = some (.int .i64 (v : Int)) := (hb.cell 258).trans (cellsW_v ho)
  have f1 := hb.free 258
  obtain ⟨p, hp⟩ : ∃ p : Nat, p = 2 ^ k := ⟨_, rfl⟩
  have hp1 : p ≤ 16777216 := by rw [hp]; exact Nat.le_trans (Nat.pow_le_pow_right (by omega) hk) (by decide)
  have hp2 : (2 : Int) ^ k = (p : Int) := by rw [hp]; simp
  have hxp : x < p := by rw [hp]; exact hx
  have hxp2 : ¬ (p : Int) ≤ x := by omega
  have hv8 : v < 128 := Nat.lt_of_lt_of_le hv (Nat.le_trans (Nat.pow_le_pow_right (by omega) (show c ≤ 7 by omega)) (by decide))
  obtain ⟨m, hm⟩ : ∃ m : Nat, m = v * p := ⟨_, rfl⟩
  have hm1 : (v : Int) * p = (m : Int) := by rw [hm]; simp
  have hm2 : m ≤ 2147483648 := by rw [hm]; exact Nat.le_trans (Nat.mul_le_mul (show v ≤ 128 by omega) hp1) (by omega)
  have c2 : w.cell? ⟨d, 259, none⟩ = some (.int .i64 (c : Int)) := (hb.cell 259).trans (cellsW_c ho)
  have f2 := hb.free 259
  have hor : bits .or .i64 (m : Int) (x : Int) = ((m + x : Nat) : Int) := by
    rw [or_i64 _ _ (by omega) (by omega), hm, hp, or_join _ _ _ hx]
  obtain ⟨w1, hw1⟩ : ∃ w1, w1 = (w.setCell ⟨d, 258, none⟩ (.int .i64 ((m + x : Nat) : Int))).setCell ⟨d, 259, none⟩ (.int .i64 ((c + k : Nat) : Int)) := ⟨_, rfl⟩
  have hP : Putting w d (L ++ dig x k) w1 n (m + x) (c + k) := by
    refine ⟨⟨op, ?_, ho, hf, ?_, ?_⟩, by omega, by omega, ?_⟩
    · have := (hb.put 258 (.int .i64 ((m + x : Nat) : Int))).put 259 (.int .i64 ((c + k : Nat) : Int))
      rw [cellsW_set_v ho, cellsW_set_c ho] at this
      rw [hw1]
      exact this
    · rw [hm, hp]; exact join_lt hv hx
    · rw [hL, hm, hp, dig_join v c x k hx, List.append_assoc]
    · rw [hw1]
      exact ((Kept.refl (fun i => i = d) w).setCell (p := ⟨d, 258, none⟩) (fun _ => rfl) _).setCell (p := ⟨d, 259, none⟩) (fun _ => rfl) _
  have e1 : ((m + x : Nat) : Int) = (m : Int) + x := by omega
  have e2 : ((c + k : Nat) : Int) = (c : Int) + k := by omega
  rw [e1] at hor
  have HH := Lib.hid (And.intro hP (And.intro hw1 (And.intro e1 e2)))
  have HL := Lib.hid hlen
  clear hb ho hf hv hL hp hm hlen hx hP hw1 e1 e2
  go_enter Tryd.func78, Tryd.ntmps78
  go_wp2_with fail
  obtain ⟨hP, hw1, e1, e2⟩ := HH.out
  rw [← e1, ← e2, ← hw1]
  clear hw1 e1 e2 HH c1 c2 f1 f2 hor
  have HP := Lib.hid hP
  clear hP
  go_loopw [48] (fun _ wr => ∃ n' v' c', Putting w d (L ++ dig x k) wr n' v' c') (fun _ wr => countOf d wr)
  case atStart => exact ⟨_, _, _, HP.out⟩
  case round =>
    obtain ⟨n1, v1, c1, hP⟩ := hrel
    have hl1 := hP.wri.len (by have := hP.few; omega)
    rw [List.length_append, dig_len, HL.out] at hl1
    have hs1 := hP.small
    have hw := hP.wri
    obtain ⟨op1, hb1, ho1, hf1, hv1, hL1⟩ := hw
    have q1 : wr.cell? ⟨d, 259, none⟩ = some (.int .i64 (c1 : Int)) := (hb1.cell 259).trans (cellsW_c ho1)
    by_cases h8 : 8 ≤ c1
    · obtain ⟨j, hj⟩ : ∃ j, c1 = 8 + j := ⟨c1 - 8, by omega⟩
      have hv31 : v1 < 2147483648 := Nat.lt_of_lt_of_le hv1 (Nat.le_trans (Nat.pow_le_pow_right (by omega) (show c1 ≤ 31 by omega)) (by decide))
      obtain ⟨q, hq⟩ : ∃ q, q = v1 / 2 ^ j := ⟨_, rfl⟩
      have hq8 : q < 256 := by
        rw [hq, Nat.div_lt_iff_lt_mul (pow_pos' j)]
        rw [hj, Nat.pow_add] at hv1
        exact hv1
      have hn1 : n1 < 254 := by omega
      have hcw := hP.wri.count
      have HR := Lib.hid (And.intro hP (And.intro hb1 (And.intro ho1 (And.intro hf1 (And.intro hv1 (And.intro hL1 (And.intro hj (And.intro hq (And.intro hl1 hcw)))))))))
      have HW := Lib.hid (show IntKind.u8.wrap (q : Int) = q by simp [IntKind.wrap, IntKind.bits, IntKind.signed]; omega)
      have HT := Lib.hid (take_at wr.drew d 258 117 (cellsW op1 n1 v1 c1) v1 c1 j 8 hb1 (cellsW_v ho1) (cellsW_c ho1) (by omega) (by omega) (by omega) (by omega))
      clear hP hb1 ho1 hf1 hv1 hL1 hl1 hj hq hcw
      go_wp2_with fail
      go_region_held3 (fun _ => True) (exact trivial)
        (first
          | (go_at_call 95
             with_reducible refine HT.out.mono ?_
             rintro e w2 ⟨rfl, hb2, k2⟩
             rw [cellsW_set_c HR.out.2.2.1, cellsW_set_v HR.out.2.2.1] at hb2
             rw [← HR.out.2.2.2.2.2.2.2.1]
             have H2 := Lib.hid (And.intro hb2 k2)
             clear hb2 k2)
          | (go_at_call 94
             rw [HW.out]
             with_reducible refine (add_any w2 d op1 n1 (v1 % 2 ^ j) j (q : Int) H2.out.1 HR.out.2.2.1 (by omega)).mono ?_
             rintro e w3 ⟨rfl, hb3, k3⟩
             have H3 := Lib.hid (And.intro hb3 k3)
             clear hb3 k3))
      all_goals
        (have hP3 : Putting w d (L ++ dig x k) w3 (n1 + 1) (v1 % 2 ^ j) j := by
           have hb3 := H3.out.1
           rw [HR.out.2.2.2.2.2.2.2.1] at hb3
           exact ⟨WrG.off HR.out.2.2.2.2.2.1 (by omega) HR.out.2.2.1 HR.out.2.2.2.1 HR.out.2.2.2.2.2.2.1 HR.out.2.2.2.2.1 hb3, by have := HR.out.2.2.2.2.2.2.1; omega, by omega, ((HR.out.1.bel.drew).trans H2.out.2 (fun _ _ h => h)).trans H3.out.2 (fun _ _ h => h)⟩
         have HQ := Lib.hid hP3
         clear hP3
         go_wp2
         go_roundw
         case rel => exact ⟨_, _, _, _, _, _, _, _, _, _, _, _, _, _, _, ⟨_, _, _, HQ.out⟩, rfl⟩
         case measure =>
           rw [HQ.out.wri.count, HR.out.2.2.2.2.2.2.2.2.2]
           have := HR.out.2.2.2.2.2.2.1
           omega)
    · have HE := Lib.hid (And.intro hP.wri (And.intro hP.few hP.bel))
      clear hP hb1 ho1 hf1 hv1 hL1 hl1
      go_wp2
      go_ret
      exact ⟨rfl, ⟨_, _, _, HE.out.1, by omega, HE.out.2.1⟩, HE.out.2.2⟩

theorem Wr.box {w : World} {d : Nat} {L : List Int} (h : Wr w d L) : ∃ cs, Box w d 117 cs := by
  obtain ⟨_, _, _, ⟨_, hb, _⟩, _⟩ := h
  exact ⟨_, hb⟩
theorem WrG.of {w w' : World} {d n v c : Nat} {L : List Int} (h : WrG w d L n v c) (k : w'.heap[d]? = w.heap[d]?) : WrG w' d L n v c := by
  obtain ⟨op, hb, h2⟩ := h
  exact ⟨op, k.trans hb, h2⟩
theorem Wr.of {w w' : World} {d : Nat} {L : List Int} (h : Wr w d L) (k : w'.heap[d]? = w.heap[d]?) : Wr w' d L := by
  obtain ⟨n, v, c, h1, h2⟩ := h
  exact ⟨n, v, c, h1.of k, h2⟩
theorem Wr.lt {w : World} {d : Nat} {L : List Int} (h : Wr w d L) : d < w.heap.size := by
  obtain ⟨cs, hb⟩ := h.box
  exact hb.lt
theorem Wr.on {w w' : World} {d : Nat} {L : List Int} (h : Wr w d L) (k : Below w.heap.size w w') : Wr w' d L := h.of (k.block d h.lt)
theorem Wr.kept {S : Nat → Prop} {w w' : World} {d : Nat} {L : List Int} (h : Wr w d L) (k : Kept S w w') (hS : ¬ S d) : Wr w' d L := h.of (k.block d h.lt hS)

/-- what Put answers -/
def putE (v c : Int) : Int := if mayPut v c then 0 else 2
/-- the bits behind a Put -/
def putL (L : List Int) (v c : Int) : List Int := if mayPut v c then L ++ dig v.toNat c.toNat else L

theorem put_any (w : World) (d : Nat) (L : List Int) (v c : Int) (h : Wr w d L) (hl : L.length ≤ 1976) :
    Calls Tryd.prog 78 #[.pointer (some ⟨d, 0, none⟩), .int .i64 v, .int .i64 c] w fun e w' => e = .returned (.int .i64 (putE v c)) ∧ Wr w' d (putL L v c) ∧ Kept (fun i => i = d) w w' := by
  by_cases hm : mayPut v c
  · obtain ⟨n, v0, c0, h1, h2, h3⟩ := h
    obtain ⟨m0, m1, m2, m3⟩ := hm
    obtain ⟨x, rfl⟩ := Int.eq_ofNat_of_zero_le m2
    obtain ⟨k, rfl⟩ := Int.eq_ofNat_of_zero_le m0
    have hx : x < 2 ^ k := by
      rw [Int.toNat_natCast] at m3
      have e : ((2 : Int) ^ k) = ((2 ^ k : Nat) : Int) := by simp
      rw [e] at m3
      exact Int.ofNat_lt.1 m3
    refine (put_done w d n v0 c0 x k L h1 h2 h3 (by omega) hx).mono ?_
    rintro e w' ⟨rfl, ⟨n', v', c', g1, g2, g3⟩, g4⟩
    have hm : mayPut (x : Int) (k : Int) := ⟨m0, m1, m2, m3⟩
    refine ⟨by rw [putE, if_pos hm], ?_, g4⟩
    rw [putL, if_pos hm, Int.toNat_natCast, Int.toNat_natCast]
    have := g1.len (by omega)
    rw [List.length_append, dig_len] at this
    exact ⟨n', v', c', g1, g2, by omega⟩
  · refine (put_refused w d v c hm).mono ?_
    rintro e w' ⟨rfl, rfl⟩
    exact ⟨by rw [putE, if_neg hm], by rw [putL, if_neg hm]; exact h, Kept.refl _ _⟩

theorem newWriter_wr (w : World) : Calls Tryd.prog 22 #[] w fun e w' => ∃ d, e = .returned (.pointer (some ⟨d, 0, none⟩)) ∧ w.heap.size ≤ d ∧ Wr w' d [] ∧ Below w.heap.size w w' := by
  refine (newWriter_any w).mono ?_
  rintro e w' ⟨rfl, hb, bel⟩
  refine ⟨_, rfl, Nat.le_refl _, ⟨0, 0, 0, ⟨_, hb, by rw [List.length_replicate], ?_, by omega, rfl⟩, by omega, by omega⟩, bel⟩
  intro z hz
  rw [List.eq_of_mem_replicate hz]
  omega
end Go.Proofs.YtdnjnbfmmgkpjaaDoor

namespace Go.Proofs.YtdnjnbfmmgkpjaaDoor
open Go.RowKit

/-- a load that is wanted, at a region's list -/
theorem wpList_load_when {ops : Array Oper} {rest : List Oper} {op : Oper} {a : Act} {w : World} {Q : Exit → Act → World → Prop} (hw : Region.wanted op (yielded ops a.tmps) = true) (ty : TypeId) (x : Operand) (ho : op.op = .load ty x)
    (u : Value) (hx : a.eval x = u) (v : Value) (hl : (Instr.loadAt ty u).run Tryd.prog w = .ok v w)
    (hK : wpList Tryd.prog ops Q rest (a.put op.dst v) w) : wpList Tryd.prog ops Q (op :: rest) a w :=
  wpList_step fun _ hQ => by
    rw [if_pos hw]
    unfold Oper.wp execOp
    simp only [ho, hx, Sem.run_bind, hl, Result.andThen_ok]
    exact hQ _ _ hK

theorem valid_of {B V : List Int} (h : Diff V) (h' : FitOk B V.length) : Valid B V :=
  ⟨h'.nn, h'.sum, h'.pos, nodup_few 256 V h.2 (fun v hv => by have := h.1 v hv; omega), h.1, h.2, h'.fits⟩
theorem Valid.diff {B V : List Int} (h : Valid B V) : Diff V := ⟨h.rng, h.dif⟩
theorem Valid.fit {B V : List Int} (h : Valid B V) : FitOk B V.length := ⟨h.nn, h.sum, h.pos, h.fits⟩
/-- what Right answers -/
def Righted (w : World) (B V : List Int) (e : Ending) (w' : World) : Prop := ∃ b, e = .returned (.bool b) ∧ (b = true ↔ Valid B V) ∧ Below w.heap.size w w'

set_option maxRecDepth 20000 in
set_option maxHeartbeats 1600000 in
theorem right_any (w : World) (B V : List Int) (A : Option Addr) (n c : Nat) (hB : B.length = 16) (h : Ia w A n c V) (hn : n ≤ 300) :
    Calls Tryd.prog 73 #[specV B (.slice A n c)] w (Righted w B V) := by
  obtain ⟨C, hC⟩ : ∃ C, C = specC B (.slice A n c) := ⟨_, rfl⟩
  unfold specV
  rw [← hC]
  obtain ⟨w1, hw1⟩ : ∃ w1, w1 = w.alloc (.cells C 30) := ⟨_, rfl⟩
  have hb : Box w1 w.heap.size 30 C := by rw [hw1]; exact Box.made _ _ _
  have bel : Below w.heap.size w w1 := by rw [hw1]; exact on_alloc _ _
  have c1 : w1.cell? ⟨w.heap.size, 16, none⟩ = some (.slice A n c) := by rw [hb.cell 16, hC]; exact specC_last hB
  have hi := h.on bel
  have hl := h.len
  rw [hw1] at c1
  have HH := Lib.hid (And.intro hb (And.intro bel (And.intro hi (And.intro hw1 (And.intro hC (And.intro hl hB))))))
  clear hb bel hi hw1 hC hl hB h
  go_enter Tryd.func73, Tryd.ntmps73
  go_wp2_with fail
  rw [← HH.out.2.2.2.1]
  rw [← HH.out.2.2.2.1] at c1
  refine (differ_any w1 A n c V HH.out.2.2.1 hn).mono ?_
  rintro e w2 ⟨d, rfl, hd, b2⟩
  have h2 : Box w2 w.heap.size 30 (specC B (.slice A n c)) := by rw [← HH.out.2.2.2.2.1]; exact HH.out.1.on b2
  have c2 : w2.cell? ⟨w.heap.size, 16, none⟩ = some (.slice A n c) := by rw [h2.cell 16]; exact specC_last HH.out.2.2.2.2.2.2
  have H2 := Lib.hid (And.intro h2 (And.intro hd (on_trans HH.out.2.1 b2)))
  clear h2 hd b2 c1
  cases d with
  | false =>
    go_wp2
    go_ret
    refine ⟨false, rfl, ⟨(fun e => by cases e), fun hv => ?_⟩, H2.out.2.2⟩
    exact absurd (H2.out.2.1.2 hv.diff) (by simp)
  | true =>
    go_wp2_with (first
      | (refine wpList_load_when (op := ⟨some 8, _, _, _, _, _⟩) (by rfl) 27 (.tmp 7) rfl (.pointer (some ⟨w.heap.size, 0, none⟩)) rfl (.agg (cellsI B).toArray) (load_bits H2.out.1 HH.out.2.2.2.2.2.2) ?_)
      | fail)
    refine (fit_any w2 B n HH.out.2.2.2.2.2.2 hn).mono ?_
    rintro e w3 ⟨f, rfl, hf, b3⟩
    have H3 := Lib.hid (And.intro hf (on_trans H2.out.2.2 b3))
    clear hf b3
    go_wp2
    go_ret
    have hl := HH.out.2.2.2.2.2.1
    refine ⟨f, rfl, ⟨fun e => valid_of (H2.out.2.1.1 trivial) (by rw [hl]; exact H3.out.1.1 e), fun hv => H3.out.1.2 (by rw [← hl]; exact hv.fit)⟩, H3.out.2⟩
end Go.Proofs.YtdnjnbfmmgkpjaaDoor

namespace Go.Proofs.YtdnjnbfmmgkpjaaDoor
open Go.RowKit Go.Maps

theorem laidOut : laidOutB Tryd.prog = true := by kernel_rfl
theorem row63 : (154 : TypeId) < Tryd.prog.types.size := of_decide_eq_true (by kernel_rfl)
theorem wide63 : (match Tryd.prog.underlying 154 with | some (.array _ _) | some (.struct _) => true | _ => false) = true := by rw [Tryd.underlying154]
set_option maxRecDepth 20000 in
theorem law63 : Keyed Tryd.prog 154 := Keyed.of_law (deep_law_laid laidOut (m := 2) (by omega) row63 (by kernel_rfl) wide63)
theorem cells63 : Tryd.prog.cellsOf 154 = 2 := by kernel_rfl
theorem cells3i : Tryd.prog.cellsOf 3 = 1 := by kernel_rfl
/-- a code as a key's value -/
def codeV (b s : Nat) : Value := .agg #[.int .i64 (b : Int), .int .i64 (s : Int)]
theorem wf_small {i : Nat} (h : i < 4611686018427387904) : (Lit.int .i64 (i : Int)).wf = true := by
  simp [Lit.wf, IntKind.min, IntKind.max, IntKind.signed, IntKind.bits]
  omega
theorem types_size : ∃ k, Tryd.prog.types.size = k + 1 := ⟨Tryd.prog.types.size - 1, by have : (154 : Nat) < Tryd.prog.types.size := row63; omega⟩
theorem keyOf_code {b s : Nat} (hb : b < 4611686018427387904) (hs : s < 4611686018427387904) : ∃ l, keyOf Tryd.prog 154 (codeV b s) = some l := by
  have hk : Tryd.prog.keyType 154 = true := by kernel_rfl
  have hw1 := wf_small hb
  have hw2 := wf_small hs
  obtain ⟨k, hk2⟩ := types_size
  have h3 : ∀ n : Nat, n < 4611686018427387904 → Tryd.prog.keyLits Tryd.prog.types.size 3 [.int .i64 (n : Int)] = some [.int .i64 (n : Int)] := by
    intro n hn
    rw [hk2]
    unfold Program.keyLits
    rw [Tryd.underlying3]
    simp [wf_small hn]
  have hf : (codeV b s).formed Tryd.prog 154 = true := by simp [codeV, Value.formed, Tryd.underlying154, cells63]
  have hl : ∃ ls, Tryd.prog.keyLits (Tryd.prog.types.size + 1) 154 [.int .i64 (b : Int), .int .i64 (s : Int)] = some ls := by
    refine ⟨[.int .i64 (b : Int), .int .i64 (s : Int)], ?_⟩
    unfold Program.keyLits
    rw [Tryd.underlying154]
    have e1 := h3 b hb
    have e2 := h3 s hs
    clear h3 hk2
    generalize Tryd.prog.types.size = N at e1 e2 ⊢
    simp [cells63, cells3i, e1, e2]
  obtain ⟨ls, hl⟩ := hl
  refine ⟨.string (keyBytes ls), ?_⟩
  unfold keyOf
  rw [Tryd.underlying154]
  simp only [hk, hf, Bool.and_self, if_true]
  show Option.map _ (Tryd.prog.keyLits (Tryd.prog.types.size + 1) 154 [.int .i64 (b : Int), .int .i64 (s : Int)]) = _
  rw [hl]
  rfl
theorem codeV_inj {b s b' s' : Nat} (h : codeV b s = codeV b' s') : (b, s) = (b', s') := by
  simp [codeV] at h
  simp
  omega

/-- an element of the map as itself -/
def RV (v : Value) : Option (DataW Value × List MemPlace) := some (.held v, [])
/-- block m is a map that tells the values of the codes in L -/
def Mq (w : World) (m : Nat) (L : List En) : Prop :=
  ∃ (D : DataW Value) (k : Nat), w.ownsMap Tryd.prog 154 RV m k D ∧ k ≤ L.length ∧ ∀ b s : Nat, b < 4611686018427387904 → s < 4611686018427387904 → ∀ l, keyOf Tryd.prog 154 (codeV b s) = some l →
    has D l = (get L (b, s)).isSome ∧ D.atKey l (.held (.int .i64 0)) = .held (.int .i64 (((get L (b, s)).map (·.1)).getD 0))

theorem Mq.lt {w : World} {m : Nat} {L : List En} (h : Mq w m L) : m < w.heap.size := by
  obtain ⟨D, k, h, _⟩ := h
  exact h.lt
theorem Mq.made (w : World) : Mq (w.alloc (.map #[] 0)) w.heap.size [] :=
  ⟨_, 0, World.ownsMap_made w Tryd.prog 154 RV, Nat.le_refl _, fun _ _ _ _ _ _ => ⟨rfl, rfl⟩⟩
theorem Mq.block {w w' : World} {m : Nat} {L : List En} (h : Mq w m L) (k : w'.heap[m]? = w.heap[m]?) : Mq w' m L := by
  obtain ⟨D, n, ⟨es, clock, hb, F, hs, hD⟩, hv⟩ := h
  exact ⟨D, n, ⟨es, clock, k.trans hb, F, hs, hD⟩, hv⟩
theorem Mq.is {w : World} {m : Nat} {L : List En} (h : Mq w m L) : ∃ es c, w.heap[m]? = some (.map es c) := by
  obtain ⟨D, n, ⟨es, clock, hb, F, hs, hD⟩, hv⟩ := h
  exact ⟨es, clock, hb⟩
theorem zero3 (w : World) : (zeroValue 3).run Tryd.prog w = .ok (.int .i64 0) w := by kernel_rfl
theorem Mq.look {w : World} {m : Nat} {L : List En} (h : Mq w m L) {b s : Nat} (hb : b < 4611686018427387904) (hs : s < 4611686018427387904) :
    (Instr.lookup 152 (.map (some m)) (codeV b s) true).run Tryd.prog w = .ok (.tuple #[.int .i64 (((get L (b, s)).map (·.1)).getD 0), .bool (get L (b, s)).isSome]) w := by
  obtain ⟨D, k, h, _, hv⟩ := h
  obtain ⟨l, hl⟩ := keyOf_code hb hs
  obtain ⟨x, ps, hrun, hx⟩ := h.look_ok law63 Tryd.underlying152 (zero3 w) (zd := .held (.int .i64 0)) (zp := []) rfl hl
  obtain ⟨h1, h2⟩ := hv b s hb hs l hl
  rw [h2] at hx
  simp [RV] at hx
  rw [hrun, hx.1, h1]
theorem Mq.store {w : World} {m : Nat} {L : List En} (h : Mq w m L) {b s : Nat} (hb : b < 4611686018427387904) (hs : s < 4611686018427387904) (v : Int) (hL : L.length ≤ 1000) (hn : ∀ y ∈ L, y.2 ≠ (b, s)) :
    ∃ w', (Instr.mapUpdate 152 (.map (some m)) (codeV b s) (.int .i64 v)).run Tryd.prog w = .ok () w' ∧ Mq w' m (L ++ [(v, b, s)]) ∧ w.grownBy w' (some m) := by
  obtain ⟨D, k, h, hk, hv⟩ := h
  obtain ⟨l, hl⟩ := keyOf_code hb hs
  obtain ⟨w', hrun, ho, hg⟩ := h.update law63 Tryd.underlying152 (by unfold maxLen; omega) hl (val := .int .i64 v) (d := .held (.int .i64 v)) (ps := []) rfl
  refine ⟨w', hrun, ⟨_, k + 1, ho, by rw [List.length_append]; show k + 1 ≤ L.length + 1; omega, fun b' s' hb' hs' l' hl' => ?_⟩, hg⟩
  rw [get_more (e := (v, b, s)) hn]
  by_cases e : ((b', s') : Nat × Nat) = (b, s)
  · simp at e
    obtain ⟨rfl, rfl⟩ := e
    rw [hl] at hl'
    cases hl'
    rw [if_pos rfl]
    exact ⟨has_put_same h.isMap (law63.key hl) _, atKey_put_same h.isMap (law63.key hl) _ _⟩
  · rw [if_neg e]
    have hne : l' ≠ l := fun e' => e (codeV_inj (law63.inj hl' (e' ▸ hl)))
    obtain ⟨h1, h2⟩ := hv b' s' hb' hs' l' hl'
    exact ⟨by rw [has_put_other hne]; exact h1, by rw [atKey_put_other hne]; exact h2⟩
end Go.Proofs.YtdnjnbfmmgkpjaaDoor

namespace Go.Proofs.YtdnjnbfmmgkpjaaDoor
open Go.RowKit

/-- the number in place j of the codes -/
def numAt (L : List En) (j : Nat) : Nat := if j % 2 = 0 then (codeOf L ((j / 2 : Nat) : Int)).1 else (codeOf L ((j / 2 : Nat) : Int)).2
/-- the cells of a table -/
def tabL (B : List Int) (v : Value) (L : List En) (m : Nat) : List Value := cellsI B ++ (v :: (((List.range 512).map fun j => Value.int .i64 (numAt L j : Int)) ++ [.map (some m)]))
def tabC (B : List Int) (v : Value) (L : List En) (m : Nat) : Array Value := (tabL B v L m).toArray

section
variable {B : List Int} {v : Value} {L : List En} {m : Nat}
theorem tabC_size (h : B.length = 16) : (tabC B v L m).size = 530 := by simp [tabC, tabL, cellsI_len, h]
theorem tabC_bits (h : B.length = 16) {i : Nat} (hi : i < 16) : (tabC B v L m)[i]? = some (.int .i64 (B.getD i 0)) := by
  simp only [tabC, tabL, List.getElem?_toArray]
  rw [List.getElem?_append_left (by rw [cellsI_len, h]; omega)]
  simp [cellsI, List.getD_eq_getElem?_getD, List.getElem?_eq_getElem (show i < B.length by omega)]
theorem tabC_vals (h : B.length = 16) : (tabC B v L m)[16]? = some v := by
  simp only [tabC, tabL, List.getElem?_toArray]
  rw [List.getElem?_append_right (by rw [cellsI_len, h]; omega), cellsI_len, h]
  rfl
theorem tabC_num (h : B.length = 16) {j : Nat} (hj : j < 512) : (tabC B v L m)[17 + j]? = some (.int .i64 (numAt L j : Int)) := by
  simp only [tabC, tabL, List.getElem?_toArray]
  rw [List.getElem?_append_right (by rw [cellsI_len, h]; omega), cellsI_len, h, show 17 + j - 16 = j + 1 by omega, List.getElem?_cons_succ, List.getElem?_append_left (by simp; omega)]
  simp [hj]
theorem tabC_map (h : B.length = 16) : (tabC B v L m)[529]? = some (.map (some m)) := by
  simp only [tabC, tabL, List.getElem?_toArray]
  rw [List.getElem?_append_right (by rw [cellsI_len, h]; omega), cellsI_len, h, show 529 - 16 = 512 + 1 by omega, List.getElem?_cons_succ, List.getElem?_append_right (by simp)]
  simp
theorem tabC_ext (h : B.length = 16) {X : Array Value} (hs : X.size = 530) (h1 : ∀ i, i < 17 → X[i]? = (tabC B v L m)[i]?) (h2 : ∀ j, j < 512 → X[17 + j]? = some (.int .i64 (numAt L j : Int))) (h3 : X[529]? = some (.map (some m))) : X = tabC B v L m := by
  apply Array.ext_getElem?
  intro i
  by_cases a : i < 17
  · exact h1 i a
  by_cases b : i < 529
  · obtain ⟨j, rfl⟩ : ∃ j, i = 17 + j := ⟨i - 17, by omega⟩
    rw [h2 j (by omega), tabC_num h (by omega)]
  by_cases c : i = 529
  · subst c; rw [h3, tabC_map h]
  · rw [Array.getElem?_eq_none (by omega), Array.getElem?_eq_none (by rw [tabC_size h]; omega)]
end
theorem codeOf_more {L : List En} {e : En} (h : ∀ y ∈ L, y.1 ≠ e.1) (v : Int) : codeOf (L ++ [e]) v = if v = e.1 then e.2 else codeOf L v := by
  unfold codeOf
  rw [fnd_more h]
  split <;> rfl
/-- an entry is written -/
theorem tabC_put {B : List Int} {v : Value} {L : List En} {m : Nat} (hB : B.length = 16) (z b s : Nat) (hz : z < 256) (hn : ∀ y ∈ L, y.1 ≠ (z : Int)) :
    ((tabC B v L m).setIfInBounds (17 + z * 2) (.int .i64 (b : Int))).setIfInBounds (17 + z * 2 + 1) (.int .i64 (s : Int)) = tabC B v (L ++ [((z : Int), b, s)]) m := by
  have hnum : ∀ j, numAt (L ++ [((z : Int), b, s)]) j = if j = z * 2 then b else if j = z * 2 + 1 then s else numAt L j := by
    intro j
    unfold numAt
    rw [codeOf_more (e := ((z : Int), b, s)) hn]
    by_cases h2 : j / 2 = z
    · rw [if_pos (show ((j / 2 : Nat) : Int) = (z : Int) by omega)]
      by_cases h1 : j % 2 = 0
      · rw [if_pos h1, if_pos (by omega)]
      · rw [if_neg h1, if_neg (by omega), if_pos (by omega)]
    · rw [if_neg (show ¬ ((j / 2 : Nat) : Int) = (z : Int) by omega), if_neg (show ¬ j = z * 2 by omega), if_neg (show ¬ j = z * 2 + 1 by omega)]
  refine tabC_ext hB (by simp [tabC_size hB]) (fun i hi => ?_) (fun j hj => ?_) ?_
  · rw [Array.getElem?_setIfInBounds_ne (by omega), Array.getElem?_setIfInBounds_ne (by omega)]
    by_cases h16 : i < 16
    · rw [tabC_bits hB h16, tabC_bits hB h16]
    · obtain rfl : i = 16 := by omega
      rw [tabC_vals hB, tabC_vals hB]
  · rw [hnum]
    by_cases h1 : j = z * 2
    · subst h1
      rw [if_pos rfl, Array.getElem?_setIfInBounds_ne (by omega), Array.getElem?_setIfInBounds_self_of_lt (by rw [tabC_size hB]; omega)]
    by_cases h2 : j = z * 2 + 1
    · subst h2
      rw [if_neg h1, if_pos rfl, show 17 + (z * 2 + 1) = 17 + z * 2 + 1 by omega, Array.getElem?_setIfInBounds_self_of_lt (by simp [tabC_size hB]; omega)]
    · rw [if_neg h1, if_neg h2, Array.getElem?_setIfInBounds_ne (by omega), Array.getElem?_setIfInBounds_ne (by omega), tabC_num hB hj]
  · rw [Array.getElem?_setIfInBounds_ne (by omega), Array.getElem?_setIfInBounds_ne (by omega), tabC_map hB]

/-- a table is built -/
theorem build_tab (w : World) {B : List Int} (A : Option Addr) (n c m : Nat) (hB : B.length = 16) : (Instr.build 157 #[(0, specV B (.slice A n c)), (2, .map (some m))]).run Tryd.prog w = .ok (.agg (tabC B (.slice A n c) [] m)) w := by
  refine run_build w 157 _ _ ?_
  match B, hB with
  | [b0, b1, b2, b3, b4, b5, b6, b7, b8, b9, b10, b11, b12, b13, b14, b15], _ =>
    show Program.built _ _ _ = _
    kernel_rfl

/-- block t is a table of a specification whose codes L are in it; its blocks lie from lo on and ahead of hi -/
structure TbAt (w : World) (lo hi t : Nat) (B V : List Int) (L : List En) (A : Option Addr) (n c m : Nat) : Prop where
  box : Box w t 157 (tabC B (.slice A n c) L m)
  vals : Il w A n c V
  map : Mq w m L
  tin : lo ≤ t ∧ t < hi
  min : lo ≤ m ∧ m < hi
  ain : ∀ b off, A = some ⟨b, off, none⟩ → lo ≤ b ∧ b < hi
  len : B.length = 16
  few : n ≤ 300
def Tb (w : World) (lo hi t : Nat) (B V : List Int) (L : List En) : Prop := ∃ A n c m, TbAt w lo hi t B V L A n c m
theorem TbAt.kept {S : Nat → Prop} {w w' : World} {lo hi t : Nat} {B V : List Int} {L : List En} {A : Option Addr} {n c m : Nat} (h : TbAt w lo hi t B V L A n c m) (k : Kept S w w') (hS : ∀ b, lo ≤ b → b < hi → ¬ S b) : TbAt w' lo hi t B V L A n c m :=
  ⟨k.box h.box (hS _ h.tin.1 h.tin.2), h.vals.kept k (fun b off e => hS b (h.ain b off e).1 (h.ain b off e).2), h.map.block (k.block m h.map.lt (hS _ h.min.1 h.min.2)), h.tin, h.min, h.ain, h.len, h.few⟩
theorem Tb.kept {S : Nat → Prop} {w w' : World} {lo hi t : Nat} {B V : List Int} {L : List En} (h : Tb w lo hi t B V L) (k : Kept S w w') (hS : ∀ b, lo ≤ b → b < hi → ¬ S b) : Tb w' lo hi t B V L := by
  obtain ⟨A, n, c, m, h⟩ := h
  exact ⟨A, n, c, m, h.kept k hS⟩
theorem Tb.on {w w' : World} {lo hi t : Nat} {B V : List Int} {L : List En} (h : Tb w lo hi t B V L) (k : Below w.heap.size w w') : Tb w' lo hi t B V L := h.kept (Kept.of_below k (fun _ => False)) (fun _ _ _ h => h)

/-- what add leaves -/
def CodeAdded (w : World) (g b s x : Nat) (e : Ending) (w' : World) : Prop := e = .returned (.tuple #[]) ∧ Box w' g 154 #[.int .i64 ((2 * b + x : Nat) : Int), .int .i64 ((s + 1 : Nat) : Int)] ∧ Kept (fun i => i = g) w w'

set_option maxHeartbeats 800000 in
theorem codeAdd_any (w : World) (g b s x : Nat) (hb : Box w g 154 #[.int .i64 (b : Int), .int .i64 (s : Int)]) (hx : x < 2) (hb2 : b < 1048576) (hs : s < 1000) :
    Calls Tryd.prog 75 #[.pointer (some ⟨g, 0, none⟩), .int .i64 (x : Int)] w (CodeAdded w g b s x) := by
  have c0 : w.cell? ⟨g, 0, none⟩ = some (.int .i64 (b : Int)) := hb.cell 0
  have c1 : w.cell? ⟨g, 1, none⟩ = some (.int .i64 (s : Int)) := hb.cell 1
  have f0 := hb.free 0
  have f1 := hb.free 1
  have hor : bits .or .i64 ((b : Int) * 2) (x : Int) = 2 * (b : Int) + x := by
    have := or_i64 (b * 2) x (by omega) (by omega)
    rw [show (((b * 2 : Nat)) : Int) = (b : Int) * 2 by omega] at this
    rw [this]
    have h2 : b * 2 ||| x = b * 2 + x := by
      have := or_join b x 1 (by omega)
      rw [Nat.pow_one] at this
      exact this
    rw [h2]
    omega
  have HB := Lib.hid hb
  clear hb
  go_enter Tryd.func75, Tryd.ntmps75
  go_wp2
  go_end0
  refine ⟨rfl, ?_, ?_⟩
  · have := (HB.out.put 0 (.int .i64 ((2 * b + x : Nat) : Int))).put 1 (.int .i64 ((s + 1 : Nat) : Int))
    exact this
  · exact ((Kept.refl (fun i => i = g) w).setCell (p := ⟨g, 0, none⟩) (fun _ => rfl) _).setCell (p := ⟨g, 1, none⟩) (fun _ => rfl) _
end Go.Proofs.YtdnjnbfmmgkpjaaDoor

namespace Go.Proofs.YtdnjnbfmmgkpjaaDoor
open Go.RowKit

/-- what Code tells -/
def Coded (w : World) (x : Nat × Nat) (e : Ending) (w' : World) : Prop := e = .returned (.tuple #[.int .i64 (x.1 : Int), .int .i64 (x.2 : Int), .bool (decide (0 < x.2))]) ∧ Below w.heap.size w w'

set_option maxHeartbeats 400000 in
theorem code_nil (w : World) (v : Int) : Calls Tryd.prog 54 #[.pointer none, .int .i64 v] w (Coded w (0, 0)) := by
  go_enter Tryd.func54, Tryd.ntmps54
  go_wp2
  go_ret3
  exact ⟨rfl, Below.refl _ _⟩

theorem codeOf_out {L : List En} {v : Int} (hL : ∀ e ∈ L, e.1 ≠ v) : codeOf L v = (0, 0) := by
  have : fnd L v = none := List.find?_eq_none.2 (fun y hy => by simpa using hL y hy)
  unfold codeOf
  rw [this]
  rfl
theorem numAt_even (L : List En) (z : Nat) : numAt L (z * 2) = (codeOf L (z : Int)).1 := by
  unfold numAt
  rw [if_pos (by omega), show z * 2 / 2 = z by omega]
theorem numAt_odd (L : List En) (z : Nat) : numAt L (z * 2 + 1) = (codeOf L (z : Int)).2 := by
  unfold numAt
  rw [if_neg (by omega), show (z * 2 + 1) / 2 = z by omega]

set_option maxRecDepth 20000 in
set_option maxHeartbeats 800000 in
theorem code_any (w : World) (lo hi t : Nat) (B V : List Int) (L : List En) (v : Int) (h : Tb w lo hi t B V L) (hL : ∀ e ∈ L, 0 ≤ e.1 ∧ e.1 ≤ 255) :
    Calls Tryd.prog 54 #[.pointer (some ⟨t, 0, none⟩), .int .i64 v] w (Coded w (codeOf L v)) := by
  obtain ⟨A, n, c, m, h⟩ := h
  by_cases h0 : v < 0
  · rw [codeOf_out (fun e he e' => by have := hL e he; omega)]
    clear h hL
    go_enter Tryd.func54, Tryd.ntmps54
    go_wp2
    go_ret3
    exact ⟨rfl, Below.refl _ _⟩
  by_cases h1 : 256 ≤ v
  · rw [codeOf_out (fun e he e' => by have := hL e he; omega)]
    clear h hL
    go_enter Tryd.func54, Tryd.ntmps54
    go_wp2
    go_ret3
    exact ⟨rfl, Below.refl _ _⟩
  obtain ⟨z, rfl⟩ := Int.eq_ofNat_of_zero_le (show 0 ≤ v by omega)
  have hz : z < 256 := by omega
  have c0 := (h.box.cell (17 + z * 2)).trans (tabC_num h.len (show z * 2 < 512 by omega))
  have c1 := (h.box.cell (17 + (z * 2 + 1))).trans (tabC_num h.len (show z * 2 + 1 < 512 by omega))
  rw [numAt_even] at c0
  rw [numAt_odd, ← Nat.add_assoc] at c1
  obtain ⟨x, hx⟩ : ∃ x, x = codeOf L (z : Int) := ⟨_, rfl⟩
  rw [← hx] at c0 c1 ⊢
  obtain ⟨b, s⟩ := x
  dsimp only at c0 c1
  have ht := h.box.lt
  have hne : t ≠ w.heap.size := by omega
  have hz63 : ∀ w, (zeroValue 154).run Tryd.prog w = .ok (.agg #[.int .i64 0, .int .i64 0]) w := fun w => by kernel_rfl
  clear h hL hx
  go_enter Tryd.func54, Tryd.ntmps54
  go_wp2_with fail
  go_quiet (fail)
  go_wp2
  go_ret3
  exact ⟨by simp, on_trans (on_alloc _ _) (below_drewN_refl _ _)⟩

/-- a table's specification is read -/
theorem load_tab {w : World} {t m : Nat} {B : List Int} {v : Value} {L : List En} (h : Box w t 157 (tabC B v L m)) (hB : B.length = 16) : (Instr.loadAt 30 (.pointer (some ⟨t, 0, none⟩))).run Tryd.prog w = .ok (specV B v) w := by
  refine run_loadAt_mid w t 0 30 (cellsI B ++ [v]) _ ?_ Tryd.underlying30 rfl (by rw [spec_size]; simp [cellsI_len, hB])
  intro j u hu
  have hj : j < (cellsI B ++ [v]).length := (List.getElem?_eq_some_iff.1 hu).1
  rw [Nat.zero_add, h.cell j]
  have e : (cellsI B ++ [v])[j]? = (specC B v)[j]? := by simp [specC]
  rw [← hu, e]
  rw [List.length_append, cellsI_len, hB] at hj
  by_cases h16 : j < 16
  · rw [tabC_bits hB h16, specC_at hB h16]
  · obtain rfl : j = 16 := by simp at hj; omega
    rw [tabC_vals hB, specC_last hB]

end Go.Proofs.YtdnjnbfmmgkpjaaDoor

namespace Go.Proofs.YtdnjnbfmmgkpjaaDoor
open Go.RowKit

/-- what New leaves -/
def Newed (w : World) (B V : List Int) (e : Ending) (w' : World) : Prop := Below w.heap.size w w' ∧
  ((¬ Valid B V ∧ e = .returned (.tuple #[.pointer none, .int .i64 4])) ∨ (Valid B V ∧ ∃ t, e = .returned (.tuple #[.pointer (some ⟨t, 0, none⟩), .int .i64 0]) ∧ Tb w' w.heap.size w'.heap.size t B V (codes B V)))

theorem TbAt.drew {w : World} {lo hi t : Nat} {B V : List Int} {L : List En} {A : Option Addr} {n c m : Nat} (h : TbAt w lo hi t B V L A n c m) : TbAt w.drew lo hi t B V L A n c m := h.kept ((Kept.refl (fun _ => False) w).drew) (fun _ _ _ h => h)
theorem TbAt.ne {w : World} {lo hi t : Nat} {B V : List Int} {L : List En} {A : Option Addr} {n c m : Nat} (h : TbAt w lo hi t B V L A n c m) : t ≠ m := by
  obtain ⟨es, k, hm⟩ := h.map.is
  have hb := h.box
  unfold Box at hb
  intro e
  rw [e, hm] at hb
  cases hb
theorem TbAt.ain2 {w : World} {lo hi t : Nat} {B V : List Int} {L : List En} {A : Option Addr} {n c m : Nat} (h : TbAt w lo hi t B V L A n c m) : ∀ b off, A = some ⟨b, off, none⟩ → b ≠ t ∧ b ≠ m := by
  intro b off e
  obtain ⟨cs, fr, hh⟩ := h.vals.typ b off e
  obtain ⟨es, k, hm⟩ := h.map.is
  have hb := h.box
  unfold Box at hb
  constructor
  · intro e; rw [e, hb] at hh; simp at hh
  · intro e; rw [e, hm] at hh; cases hh
/-- a code is written into the array -/
theorem TbAt.put1 {w : World} {lo hi t : Nat} {B V : List Int} {L : List En} {A : Option Addr} {n c m : Nat} (h : TbAt w lo hi t B V L A n c m) (z b s : Nat) (hz : z < 256) (hn : ∀ y ∈ L, y.1 ≠ (z : Int)) :
    ∀ w1, w1 = (w.setCell ⟨t, 17 + z * 2, none⟩ (.int .i64 (b : Int))).setCell ⟨t, 17 + z * 2 + 1, none⟩ (.int .i64 (s : Int)) →
    Box w1 t 157 (tabC B (.slice A n c) (L ++ [((z : Int), b, s)]) m) ∧ Mq w1 m L ∧ Kept (fun i => i = t) w w1 := by
  rintro w1 rfl
  have k1 : Kept (fun i => i = t) w ((w.setCell ⟨t, 17 + z * 2, none⟩ (.int .i64 (b : Int))).setCell ⟨t, 17 + z * 2 + 1, none⟩ (.int .i64 (s : Int))) :=
    ((Kept.refl (fun i => i = t) w).setCell (p := ⟨t, 17 + z * 2, none⟩) (fun _ => rfl) _).setCell (p := ⟨t, 17 + z * 2 + 1, none⟩) (fun _ => rfl) _
  have b1 := (h.box.put (17 + z * 2) (.int .i64 (b : Int))).put (17 + z * 2 + 1) (.int .i64 (s : Int))
  rw [tabC_put h.len z b s hz hn] at b1
  exact ⟨b1, h.map.block (k1.block m h.map.lt (fun e => h.ne e.symm)), k1⟩
/-- .. and into the map -/
theorem TbAt.put2 {w w1 w2 : World} {lo hi t : Nat} {B V : List Int} {L : List En} {A : Option Addr} {n c m : Nat} (h : TbAt w lo hi t B V L A n c m) {e : En}
    (b1 : Box w1 t 157 (tabC B (.slice A n c) (L ++ [e]) m)) (k1 : Kept (fun i => i = t) w w1) (m2 : Mq w2 m (L ++ [e])) (g2 : w1.grownBy w2 (some m)) :
    TbAt w2 lo hi t B V (L ++ [e]) A n c m ∧ Kept (fun i => i = t ∨ i = m) w w2 := by
  have k2 : Kept (fun i => i = m) w1 w2 := ⟨g2.os, g2.tape, g2.output, g2.size, fun i hi hne => g2.block i hi (fun e => hne (by cases e; rfl))⟩
  have k3 : Kept (fun i => i = t ∨ i = m) w w2 := (k1.mono (S' := fun i => i = t ∨ i = m) (fun _ _ e => Or.inl e)).trans k2 (fun _ _ e => Or.inr e)
  exact ⟨⟨k2.box b1 h.ne, h.vals.kept k3 (fun b off e => by have := h.ain2 b off e; omega), m2, h.tin, h.min, h.ain, h.len, h.few⟩, k3⟩
theorem Tb.more {w : World} {lo hi hi' t : Nat} {B V : List Int} {L : List En} (h : Tb w lo hi t B V L) (hh : hi ≤ hi') : Tb w lo hi' t B V L := by
  obtain ⟨A, n, c, m, h⟩ := h
  exact ⟨A, n, c, m, h.box, h.vals, h.map, ⟨h.tin.1, by have := h.tin.2; omega⟩, ⟨h.min.1, by have := h.min.2; omega⟩, fun b off e => ⟨(h.ain b off e).1, by have := (h.ain b off e).2; omega⟩, h.len, h.few⟩

/-- the head of a slice of numbers -/
theorem il_head {w : World} {A : Option Addr} {n c k : Nat} {xs : List Int} (h : Il w A n c xs) (hk : k ≤ n) : Il w A k c (xs.take k) := by
  refine ⟨by have := h.len; rw [List.length_take]; omega, by have := h.cap; omega, h.max, h.nil, h.typ, fun h0 => ?_⟩
  obtain ⟨b, off, e, hb, hc⟩ := h.at_ (by omega)
  refine ⟨b, off, e, hb, fun i hi => ?_⟩
  rw [hc i (by omega)]
  simp only [List.getD_eq_getElem?_getD]
  rw [List.getElem?_take_of_lt hi]
/-- what is left of a slice of numbers -/
theorem il_rest {w : World} {b off n c k : Nat} {xs : List Int} (h : Il w (some ⟨b, off, none⟩) n c xs) (hk : k ≤ n) : Il w (some ⟨b, if c = k then off else off + k, none⟩) (n - k) (c - k) (xs.drop k) := by
  refine ⟨by have := h.len; rw [List.length_drop]; omega, by have := h.cap; omega, by have := h.max; omega, (fun e => by cases e), (fun b2 off2 e => by cases e; exact h.typ _ _ rfl), fun h0 => ?_⟩
  obtain ⟨b', off', e, hb, hc⟩ := h.at_ (by omega)
  cases e
  have := h.cap
  refine ⟨b, _, rfl, hb, fun i hi => ?_⟩
  rw [if_neg (by omega), Nat.add_assoc, hc (k + i) (by omega)]
  simp only [List.getD_eq_getElem?_getD, List.getElem?_drop]

/-- how New stands: the codes cs are in the table, the next one is x of y bits -/
structure Newing (w : World) (lo hi t q : Nat) (B V : List Int) (A : Option Addr) (n c m : Nat) (cs : List (Nat × Nat)) (x y : Nat) (wr : World) : Prop where
  tab : TbAt wr lo hi t B V (ents V cs) A n c m
  nxt : Box wr q 154 #[.int .i64 (x : Int), .int .i64 (y : Int)]
  bel : Below lo w wr
  out : hi ≤ q
  lo_ : lo = w.heap.size
/-- what is left of the values -/
structure Resting (wr : World) (lo hi : Nat) (V : List Int) (S : Nat) (Ar : Option Addr) (nr cr : Nat) : Prop where
  row : Il wr Ar nr cr (V.drop S)
  ain : ∀ b off, Ar = some ⟨b, off, none⟩ → lo ≤ b ∧ b < hi
  some_ : ∃ b off, Ar = some ⟨b, off, none⟩
end Go.Proofs.YtdnjnbfmmgkpjaaDoor

namespace Go.Proofs.YtdnjnbfmmgkpjaaDoor
open Go.RowKit

set_option maxRecDepth 20000 in
/-- a table of no codes yet, and the code beside it -/
theorem newing_start {w w0 : World} {B V : List Int} {A : Option Addr} {n c : Nat} (hB : B.length = 16) (hn : n ≤ 300) (hA : ∀ b off, A = some ⟨b, off, none⟩ → w.heap.size ≤ b) (hi : Il w0 A n c V) (bel : Below w.heap.size w w0) :
    ∀ wa wb w3 m, wa = w0.alloc (.map #[] 0) → m = w0.heap.size → wb = wa.alloc (.cells (tabC B (.slice A n c) [] m) 157) → w3 = wb.alloc (.cells #[.int .i64 0, .int .i64 0] 154) → Newing w w.heap.size (m + 1 + 1) (m + 1) (m + 1 + 1) B V A n c m [] 0 0 w3 := by
  intro wa wb w3 m ea hm eb e3
  have h1 : Mq wa m [] := by rw [ea, hm]; exact Mq.made w0
  have sa : wa.heap.size = m + 1 := by rw [ea, World.size_alloc, hm]
  have sb : wb.heap.size = m + 1 + 1 := by rw [eb, World.size_alloc, sa]
  have h2 : Box wb (m + 1) 157 (tabC B (.slice A n c) [] m) := by rw [← sa, eb]; exact Box.made _ _ _
  have ba : Below w0.heap.size w0 wa := by rw [ea]; exact on_alloc _ _
  have bb : Below wa.heap.size wa wb := by rw [eb]; exact on_alloc _ _
  have bc : Below wb.heap.size wb w3 := by rw [e3]; exact on_alloc _ _
  have b3 := on_trans (on_trans ba bb) bc
  have b0 := bel.size
  have hq : Box w3 (m + 1 + 1) 154 #[.int .i64 0, .int .i64 0] := by rw [← sb, e3]; exact Box.made _ _ _
  have hmq : Mq w3 m [] := (h1.block (bb.block m (by omega))).block (bc.block m (by omega))
  have e0 : ents V [] = [] := by simp [ents]
  refine ⟨⟨by rw [e0]; exact h2.on bc, hi.on b3, by rw [e0]; exact hmq, ⟨by omega, by omega⟩, ⟨by omega, by omega⟩, fun b off e => ⟨hA b off e, ?_⟩, hB, hn⟩, hq, bel.trans (b3.mono b0), Nat.le_refl _, rfl⟩
  obtain ⟨cs, fr, hh⟩ := hi.typ b off e
  have := (Array.getElem?_eq_some_iff.1 hh).1
  omega

theorem newing_add {w : World} {lo hi t q : Nat} {B V : List Int} {A : Option Addr} {n c m : Nat} {cs : List (Nat × Nat)} {X k : Nat} {wr w2 : World} {e : Ending} (h : Newing w lo hi t q B V A n c m cs X k wr) (h2 : CodeAdded wr q X k 0 e w2) :
    e = .returned (.tuple #[]) ∧ Newing w lo hi t q B V A n c m cs (2 * X) (k + 1) w2 ∧ Kept (fun i => i = q) wr w2 := by
  obtain ⟨he, hb, hk⟩ := h2
  have ho := h.out
  have hl := h.lo_
  have hs := h.tab.tin
  exact ⟨he, ⟨h.tab.kept hk (fun b _ h2 e => by omega), hb, h.bel.trans (hk.below (by have := h.bel.size; omega) (fun i hi e => by omega)), ho, hl⟩, hk⟩
theorem resting_kept {wr w2 : World} {lo hi S nr cr : Nat} {V : List Int} {Ar : Option Addr} {P : Nat → Prop} (h : Resting wr lo hi V S Ar nr cr) (k : Kept P wr w2) (hP : ∀ b off, Ar = some ⟨b, off, none⟩ → ¬ P b) : Resting w2 lo hi V S Ar nr cr :=
  ⟨h.row.kept k hP, h.ain, h.some_⟩

theorem resting_apart {w : World} {lo hi t q : Nat} {B V : List Int} {A : Option Addr} {n c m : Nat} {cs : List (Nat × Nat)} {X k : Nat} {wr : World} {S nr cr : Nat} {Ar : Option Addr} (h : Newing w lo hi t q B V A n c m cs X k wr) (hR : Resting wr lo hi V S Ar nr cr) :
    ∀ b off, Ar = some ⟨b, off, none⟩ → ¬ (b = t ∨ b = m ∨ b = q) := by
  intro b off e
  obtain ⟨cs, fr, hh⟩ := hR.row.typ b off e
  obtain ⟨es, k, hm⟩ := h.tab.map.is
  have hb := h.tab.box
  unfold Box at hb
  rintro (e | e | e)
  · rw [e, hb] at hh; simp at hh
  · rw [e, hm] at hh; cases hh
  · have := hR.ain b _ (by assumption); have := h.out; omega

/-- what one entry asks and gives -/
structure Entry (w : World) (lo hi t q : Nat) (B V : List Int) (A : Option Addr) (n c m : Nat) (cs : List (Nat × Nat)) (x y z : Nat) (wr w1 w2 : World) : Prop where
  eq1 : w1 = ((wr.setCell ⟨t, 17 + z * 2, none⟩ (.int .i64 (x : Int))).setCell ⟨t, 17 + z * 2 + 1, none⟩ (.int .i64 (y : Int))).drew
  q1 : Box w1 q 154 #[.int .i64 (x : Int), .int .i64 (y : Int)]
  m1 : w1.cell? ⟨t, 529, none⟩ = some (.map (some m))
  upd : (Instr.mapUpdate 152 (.map (some m)) (.agg #[.int .i64 (x : Int), .int .i64 (y : Int)]) (.int .i64 (z : Int))).run Tryd.prog w1.drew = .ok () w2
  q2 : Box w2 q 154 #[.int .i64 (x : Int), .int .i64 (y : Int)]
  new : Newing w lo hi t q B V A n c m (cs ++ [(x, y)]) (x + 1) y (w2.setCell ⟨q, 0, none⟩ (.int .i64 ((x + 1 : Nat) : Int)))
  kept : Kept (fun i => i = t ∨ i = m ∨ i = q) wr (w2.setCell ⟨q, 0, none⟩ (.int .i64 ((x + 1 : Nat) : Int)))

theorem entry_of {w : World} {lo hi t q : Nat} {B V : List Int} {A : Option Addr} {n c m : Nat} {cs : List (Nat × Nat)} {x y z : Nat} {wr : World} (h : Newing w lo hi t q B V A n c m cs x y wr) (hV : Diff V) (hlen : cs.length < V.length) (hz : V.getD cs.length 0 = (z : Int)) (hz2 : z < 256)
    (hx : x < 1000000) (hy : y < 1000000) (hnew : (x, y) ∉ cs) : ∃ w1 w2, Entry w lo hi t q B V A n c m cs x y z wr w1 w2 := by
  have hn1 : ∀ e ∈ ents V cs, e.1 ≠ (z : Int) := by
    intro e he
    have h1 := fst_ents he
    have h2 := ((diff_more hlen).1 (diff_take hV _)).2.2
    rw [hz] at h2
    exact fun e' => h2 (e' ▸ h1)
  have hn2 : ∀ e ∈ ents V cs, e.2 ≠ (x, y) := fun e he e' => hnew (e' ▸ (mem_ents he).2)
  have e1 : ents V (cs ++ [(x, y)]) = ents V cs ++ [((z : Int), x, y)] := by rw [ents_more cs V (x, y) hlen, hz]
  have ht := h.tab
  have htq : t ≠ q := by have := h.tab.tin; have := h.out; omega
  have hmq : m ≠ q := by have := h.tab.min; have := h.out; omega
  obtain ⟨b1, m1, k1⟩ := ht.put1 z x y hz2 hn1 _ rfl
  obtain ⟨w1, hw1⟩ : ∃ w1, w1 = ((wr.setCell ⟨t, 17 + z * 2, none⟩ (.int .i64 (x : Int))).setCell ⟨t, 17 + z * 2 + 1, none⟩ (.int .i64 (y : Int))).drew := ⟨_, rfl⟩
  replace b1 : Box w1 t 157 (tabC B (.slice A n c) (ents V cs ++ [((z : Int), x, y)]) m) := by rw [hw1]; exact b1
  replace m1 : Mq w1 m (ents V cs) := by rw [hw1]; exact m1.block rfl
  replace k1 : Kept (fun i => i = t) wr w1 := by rw [hw1]; exact k1.drew
  have hl : (ents V cs).length ≤ 1000 := by rw [ents_len (Nat.le_of_lt hlen)]; have := h.tab.vals.len; have := h.tab.few; omega
  have m1d : Mq w1.drew m (ents V cs) := m1.block rfl
  obtain ⟨w2, hu, m2, g2⟩ := m1d.store (b := x) (s := y) (by omega) (by omega) (z : Int) hl hn2
  have k1d : Kept (fun i => i = t) wr w1.drew := k1.drew
  obtain ⟨t2, k2⟩ := ht.put2 (w1 := w1.drew) (e := ((z : Int), x, y)) b1 k1d m2 g2
  have k2' := k2
  have q1 : Box w1 q 154 #[.int .i64 (x : Int), .int .i64 (y : Int)] := k1.box h.nxt htq.symm
  have q2 : Box w2 q 154 #[.int .i64 (x : Int), .int .i64 (y : Int)] := k2'.box h.nxt (by omega)
  have kq : Kept (fun i => i = q) w2 (w2.setCell ⟨q, 0, none⟩ (.int .i64 ((x + 1 : Nat) : Int))) := (Kept.refl (fun i => i = q) w2).setCell (p := ⟨q, 0, none⟩) (fun _ => rfl) _
  have hk : Kept (fun i => i = t ∨ i = m ∨ i = q) wr (w2.setCell ⟨q, 0, none⟩ (.int .i64 ((x + 1 : Nat) : Int))) :=
    (k2'.mono (S' := fun i => i = t ∨ i = m ∨ i = q) (fun _ _ e => e.elim Or.inl (fun e => Or.inr (Or.inl e)))).trans kq (fun _ _ e => Or.inr (Or.inr e))
  rw [← e1] at t2
  have hlo := h.lo_
  refine ⟨w1, w2, hw1, q1, ?_, hu, q2, ⟨t2.kept kq (fun b _ h2 e => by have := h.out; omega), q2.put 0 _, h.bel.trans (hk.below (by have := h.bel.size; omega) (fun i hi e => ?_)), h.out, hlo⟩, hk⟩
  · rw [b1.cell 529]; exact tabC_map h.tab.len
  · have := h.tab.tin; have := h.tab.min; have := h.out; omega

set_option maxRecDepth 20000 in
set_option maxHeartbeats 4000000 in
theorem new_any (w : World) (B V : List Int) (A : Option Addr) (n c : Nat) (hB : B.length = 16) (h : Ia w A n c V) (hn : n ≤ 300) :
    Calls Tryd.prog 50 #[specV B (.slice A n c)] w (Newed w B V) := by
  obtain ⟨C, hC⟩ : ∃ C, C = specC B (.slice A n c) := ⟨_, rfl⟩
  have eV : specV B (.slice A n c) = .agg C := by rw [hC]; rfl
  rw [eV]
  obtain ⟨g, hg⟩ : ∃ g, g = w.heap.size := ⟨_, rfl⟩
  obtain ⟨w1, hw1⟩ : ∃ w1, w1 = w.alloc (.cells C 30) := ⟨_, rfl⟩
  have hb : Box w1 g 30 (specC B (.slice A n c)) := by rw [hw1, hg, ← hC]; exact Box.made _ _ _
  have bel : Below w.heap.size w w1 := by rw [hw1]; exact on_alloc _ _
  have HH := Lib.hid (And.intro hb (And.intro bel (And.intro (h.on bel) (And.intro hw1 (And.intro hg (And.intro hB h.len))))))
  have hL := load_spec hb hB
  rw [hw1, hg] at hL
  have HL := Lib.hid hL
  clear hb bel hw1 hg hC hB h eV hL
  go_enter Tryd.func50, Tryd.ntmps50
  go_wp2_with (first
    | (with_reducible refine wpList_load_to (op := ⟨some 11, _, _, _, _, _⟩) rfl 30 (.tmp 1) rfl (.pointer (some ⟨w.heap.size, 0, none⟩)) rfl (specV B (.slice A n c)) HL.out ?_)
    | fail)
  rw [← HH.out.2.2.2.1, ← HH.out.2.2.2.2.1]
  clear HL
  refine (right_any w1 B V A n c HH.out.2.2.2.2.2.1 HH.out.2.2.1 hn).mono ?_
  rintro e w2 ⟨d, rfl, hd, b2⟩
  have H2 := Lib.hid (And.intro hd (And.intro (HH.out.1.on b2) (And.intro (HH.out.2.2.1.on b2) (on_trans HH.out.2.1 b2))))
  clear hd b2
  cases d with
  | false =>
    go_wp2
    go_ret2
    exact ⟨H2.out.2.2.2, .inl ⟨fun hv => absurd (H2.out.1.2 hv) (by simp), rfl⟩⟩
  | true =>
    have HV := Lib.hid (H2.out.1.1 rfl)
    go_wp2_with (first
      | (with_reducible refine wpList_load_to (op := ⟨some 14, _, _, _, _, _⟩) rfl 30 (.tmp 1) rfl (.pointer (some ⟨g, 0, none⟩)) rfl (specV B (.slice A n c)) (load_spec H2.out.2.1 HH.out.2.2.2.2.2.1) ?_)
      | fail)
    refine (copied_any w2 B V A n c HH.out.2.2.2.2.2.1 H2.out.2.2.1 hn).mono ?_
    rintro e w3 ⟨A', c', rfl, hi3, hlo3, b3⟩
    have hs2 := H2.out.2.2.2.size
    have H3 := Lib.hid (And.intro hi3 (And.intro (fun b off e => Nat.le_trans hs2 (hlo3 b off e).1) (And.intro (on_trans H2.out.2.2.2 b3) (H2.out.2.1.on b3))))
    clear hi3 hlo3 b3 hs2
    have hmm : ∀ w, (Instr.makeMap 152 none).run Tryd.prog w = .ok (.map (some w.heap.size)) (w.alloc (.map #[] 0)) := fun w => rfl
    have hz63 : ∀ w, (zeroValue 154).run Tryd.prog w = .ok (.agg #[.int .i64 0, .int .i64 0]) w := fun w => by kernel_rfl
    obtain ⟨m, hm⟩ : ∃ m, m = w3.heap.size := ⟨_, rfl⟩
    obtain ⟨T, hT⟩ : ∃ T, T = tabC B (.slice A' n c') [] m := ⟨_, rfl⟩
    obtain ⟨w4, hw4⟩ : ∃ w4, w4 = ((w3.alloc (.map #[] 0)).alloc (.cells T 157)).alloc (.cells #[.int .i64 0, .int .i64 0] 154) := ⟨_, rfl⟩
    have hN := newing_start HH.out.2.2.2.2.2.1 hn H3.out.2.1 H3.out.1 H3.out.2.2.1 _ _ w4 m rfl hm rfl (by rw [hw4, hT])
    have c16 : w4.cell? ⟨m + 1, 16, none⟩ = some (.slice A' n c') := (hN.tab.box.cell 16).trans (tabC_vals hN.tab.len)
    have hbd : ∀ w', (Instr.build 157 #[(0, specV B (.slice A' n c')), (2, .map (some w3.heap.size))]).run Tryd.prog w' = .ok (.agg T) w' := fun w' => by rw [hT, ← hm]; exact build_tab w' A' n c' m HH.out.2.2.2.2.2.1
    rw [hw4, hm] at c16
    have g4 : Box w4 g 30 (specC B (.slice A n c)) := by rw [hw4]; exact ((H3.out.2.2.2.alloc _).alloc _).alloc _
    have HN := Lib.hid (And.intro hN (And.intro hm (And.intro hw4 (And.intro hbd g4))))
    clear hN hm hT hw4 hbd g4
    go_wp2_with (first
      | (with_reducible refine wpList_build_to (op := ⟨some 17, _, _, _, _, _⟩) rfl 157 _ rfl (.agg T) #[(0, specV B (.slice A' n c')), (2, .map (some w3.heap.size))] (by simp [Act.eval]) (HN.out.2.2.2.1 _) ?_)
      | (refine wpList_load_to (op := ⟨some 25, _, _, _, _, _⟩) rfl 27 (.tmp 24) rfl (.pointer (some ⟨g, 0, none⟩)) rfl (.agg (cellsI B).toArray) (by rw [← HN.out.2.2.1]; exact load_bits HN.out.2.2.2.2 HH.out.2.2.2.2.2.1) ?_)
      | fail)
    rw [← HN.out.2.1, ← HN.out.2.2.1]
    have hrest : Resting w4 w.heap.size (m + 1 + 1) V 0 A' n c' := by
      have hN := HN.out.1
      refine ⟨by rw [List.drop_zero]; exact hN.tab.vals, hN.tab.ain, ?_⟩
      obtain ⟨b, off, e, _⟩ := hN.tab.vals.at_ (by have := HV.out.pos; have := HH.out.2.2.2.2.2.2; omega)
      exact ⟨b, off, e⟩
    have HM := Lib.hid (And.intro HN.out.1 hrest)
    clear hrest c16 hmm HN H3 H2
    obtain ⟨q, hq⟩ : ∃ q, q = m + 1 + 1 := ⟨_, rfl⟩
    obtain ⟨t, ht⟩ : ∃ t, t = m + 1 := ⟨_, rfl⟩
    rw [← ht] at hq
    rw [← ht, ← hq] at HM ⊢
    clear ht hq
    have HB := Lib.hid (And.intro HH.out.2.2.2.2.2.1 HH.out.2.2.2.2.2.2)
    clear HH
    go_loopw [26, 6] (fun i r wr => ∃ (k : Nat) (Ar : Option Addr) (nr cr : Nat), k ≤ 16 ∧ i = .int .i64 k ∧ r = .slice Ar nr cr ∧ Newing w w.heap.size q t q B V A' n c' m (pre (cnt B) k) (nx (cnt B) k) k wr ∧ Resting wr w.heap.size q V (sm (cnt B) k) Ar nr cr) (fun i _ _ => 16 - (intOf i).toNat)
    case atStart => exact ⟨0, A', n, c', Nat.zero_le _, rfl, rfl, HM.out.1, HM.out.2⟩
    case round =>
      obtain ⟨k, Ar, nr, cr, hk, rfl, rfl, hN, hR⟩ := hrel
      by_cases hlt : k < 16
      · obtain ⟨cK, hcK⟩ : ∃ cK, cK = cnt B k := ⟨_, rfl⟩
        obtain ⟨S, hS⟩ : ∃ S, S = sm (cnt B) k := ⟨_, rfl⟩
        obtain ⟨X, hX⟩ : ∃ X, X = nx (cnt B) k := ⟨_, rfl⟩
        have hix := index_bits wr HB.out.1 hlt
        have hv : B.getD k 0 = (cK : Int) := by
          have := HV.out.nn k hlt
          rw [hcK]
          unfold cnt
          omega
        rw [hv] at hix
        have hX16 : X < 65536 := by
          have h1 := HV.out.fits k hlt
          have h2 := pow16 (i := k + 1) (by omega)
          rw [nx, ← hX] at h1
          omega
        have hSc : S + cK ≤ n := by
          have h1 := sm_mono (c := cnt B) (show k + 1 ≤ 16 by omega)
          rw [sm, ← hS, ← hcK, HV.out.sum, HB.out.2] at h1
          exact h1
        have hXc : 2 * X + cK < 131072 := by
          have h1 := HV.out.fits k hlt
          have h2 := pow16 (i := k + 1) (by omega)
          rw [nx, ← hX, ← hcK] at h1
          omega
        rw [← hS] at hR
        rw [← hX] at hN
        have hnr : nr = n - S := by have := hR.row.len; rw [List.length_drop, HB.out.2] at this; omega
        have hcap := hR.row.cap
        obtain ⟨b, off, hAr⟩ := hR.some_
        subst hAr
        have HK := Lib.hid (And.intro hN (And.intro hR (And.intro hcK (And.intro hS (And.intro hX (And.intro hix (And.intro hnr hv)))))))
        have s1 : (cK : Int) ≤ (cr : Int) := by omega
        clear hN hR hcK hS hX hix hv
        go_wp2_with (first
          | (with_reducible refine wpList_index_to (op := ⟨some 28, _, _, _, _, _⟩) rfl 27 (.tmp 25) (.tmp 26) rfl (.agg (cellsI B).toArray) (.int .i64 (k : Int)) rfl rfl _ HK.out.2.2.2.2.2.1 ?_)
          | fail)
        refine (codeAdd_any wr q X k 0 HK.out.1.nxt (by omega) (by omega) (by omega)).mono ?_
        intro e w5 h5
        obtain ⟨he, hN5, k5⟩ := newing_add HK.out.1 h5
        subst he
        have hq5 := HK.out.1.out
        have hR5 := resting_kept HK.out.2.1 k5 (fun b' off' e' hb' => by have := HK.out.2.1.ain b' off' e'; omega)
        have H5 := Lib.hid (And.intro hN5 hR5)
        clear h5 hN5 k5 hR5 hq5
        go_wp2_with fail
        obtain ⟨Y, hY⟩ : ∃ Y, Y = k + 1 := ⟨_, rfl⟩
        rw [← hY] at H5
        have hY17 : Y ≤ 17 := by omega
        have HY := Lib.hid hY
        clear hY
        go_loopw [34] (fun i w6 => ∃ j : Nat, j ≤ cK ∧ i = .int .i64 j ∧ Newing w w.heap.size q t q B V A' n c' m (pre (cnt B) k ++ row (cnt B) k j) (2 * X + j) Y w6 ∧ Resting w6 w.heap.size q V S (some ⟨b, off, none⟩) (n - S) cr) (fun i _ => cK - (intOf i).toNat)
        case atStart => exact ⟨0, Nat.zero_le _, rfl, by rw [show row (cnt B) k 0 = [] from rfl, List.append_nil]; exact H5.out.1, by rw [← HK.out.2.2.2.2.2.2.1]; exact H5.out.2⟩
        case round =>
          obtain ⟨j, hj, rfl, hN, hR⟩ := hrel
          by_cases hjl : j < cK
          · have hcslen : (pre (cnt B) k ++ row (cnt B) k j).length = S + j := by rw [List.length_append, pre_len, row_len, ← HK.out.2.2.2.1]
            obtain ⟨v, hv⟩ : ∃ v, v = V.getD (S + j) 0 := ⟨_, rfl⟩
            have hvV : v ∈ V := by
              have : S + j < V.length := by rw [HB.out.2]; omega
              rw [hv, List.getD_eq_getElem?_getD, List.getElem?_eq_getElem this]
              exact List.getElem_mem this
            have hv2 := HV.out.rng v hvV
            obtain ⟨z, rfl⟩ := Int.eq_ofNat_of_zero_le hv2.1
            have hz : z < 256 := by omega
            have hrow := (il_head hR.row (show cK ≤ n - S by omega))
            obtain ⟨b', off', e', _, hc⟩ := hrow.at_ (by omega)
            cases e'
            have c10 := hc j hjl
            have hg : ((V.drop S).take cK).getD j 0 = (z : Int) := by
              rw [hv]
              simp only [List.getD_eq_getElem?_getD]
              rw [List.getElem?_take_of_lt hjl, List.getElem?_drop]
            rw [hg] at c10
            obtain ⟨x, hx⟩ : ∃ x, x = 2 * X + j := ⟨_, rfl⟩
            rw [← hx] at hN
            obtain ⟨w7, w8, hE⟩ := entry_of hN HV.out.diff (by rw [hcslen, HB.out.2]; omega) (by rw [hcslen]; exact hv.symm) hz (by omega) (by omega) (by
              have := row_new (c := cnt B) k j
              rw [hx, HY.out, HK.out.2.2.2.2.1]
              exact this)
            have c0 : wr.cell? ⟨q, 0, none⟩ = some (.int .i64 (x : Int)) := hN.nxt.cell 0
            have c1 : wr.cell? ⟨q, 1, none⟩ = some (.int .i64 (Y : Int)) := hN.nxt.cell 1
            have t0 := hN.tab.box.cell (17 + z * 2)
            have t1 := hN.tab.box.cell (17 + z * 2 + 1)
            rw [tabC_num HB.out.1 (show z * 2 < 512 by omega)] at t0
            rw [Nat.add_assoc, tabC_num HB.out.1 (show z * 2 + 1 < 512 by omega), ← Nat.add_assoc] at t1
            have f0 := hN.tab.box.free (17 + z * 2)
            have f1 := hN.tab.box.free (17 + z * 2 + 1)
            have htq : t ≠ q := by have := hN.tab.tin; omega
            have HA := Lib.hid (resting_apart hN hR)
            have HE := Lib.hid (And.intro hE (And.intro hR (And.intro hv hx)))
            have zi : (z : Int) < 256 := by omega
            clear hN hR hE hrow hc hg hv hx hvV hv2 hcslen
            go_wp2_with fail
            go_region
            go_wp2_with fail
            rw [← HE.out.1.eq1]
            clear c0 c1 t0 t1 f0 f1
            have d0 : w7.cell? ⟨q, 0, none⟩ = some (.int .i64 (x : Int)) := HE.out.1.q1.cell 0
            have d1 : w7.cell? ⟨q, 1, none⟩ = some (.int .i64 (Y : Int)) := HE.out.1.q1.cell 1
            have d2 := HE.out.1.m1
            have hu := HE.out.1.upd
            go_region
            all_goals
              (clear d0 d1 d2 hu
               have g0 : w8.cell? ⟨q, 0, none⟩ = some (.int .i64 (x : Int)) := HE.out.1.q2.cell 0
               have g1 := HE.out.1.q2.free 0
               have hx6 : x < 200000 := by have := HE.out.2.2.2; omega
               go_wp2
               go_roundw
               case rel =>
                 have hN := HE.out.1.new
                 have hx := HE.out.2.2.2
                 have hY := HY.out
                 refine ⟨j + 1, by omega, by go_num, ?_, ?_⟩
                 · have e1 : row (cnt B) k (j + 1) = row (cnt B) k j ++ [(x, Y)] := by rw [row_more, hx, hY, ← HK.out.2.2.2.2.1]
                   rw [e1, ← List.append_assoc, show 2 * X + (j + 1) = x + 1 by omega]
                   exact hN
                 · exact resting_kept HE.out.2.1 HE.out.1.kept HA.out
               case measure => simp [intOf]; omega)
          · have ej : j = cK := by omega
            have HE := Lib.hid (And.intro hN (And.intro hR ej))
            clear hN hR ej
            have s2 : (cK : Int) ≤ ((n - S : Nat) : Int) := by omega
            have HX : Resting wr w.heap.size q V (S + cK) (some ⟨b, if cr = cK then off else off + cK, none⟩) (n - S - cK) (cr - cK) := by
              have hR := HE.out.2.1
              have h1 := il_rest hR.row (show cK ≤ n - S by omega)
              rw [List.drop_drop] at h1
              exact ⟨h1, (fun b2 off2 e2 => by cases e2; exact hR.ain b off rfl), ⟨_, _, rfl⟩⟩
            have HZ := Lib.hid HX
            clear HX
            have hfin : ∀ k', k' = k + 1 → Newing w w.heap.size q t q B V A' n c' m (pre (cnt B) k') (nx (cnt B) k') k' wr ∧ sm (cnt B) k' = S + cK := by
              intro k' hk'
              have hN := HE.out.1
              rw [HE.out.2.2] at hN
              rw [hk', pre, nx, sm, ← HK.out.2.2.1, ← HK.out.2.2.2.1, ← HK.out.2.2.2.2.1, ← HY.out]
              exact ⟨hN, rfl⟩
            have HF := Lib.hid hfin
            clear hfin
            by_cases hcc : cr = cK
            · have hcc2 : (cr : Int) = (cK : Int) := by omega
              have hZ := HZ.out
              rw [if_pos hcc, show cr - cK = 0 by omega] at hZ
              have HZ2 := Lib.hid hZ
              clear hZ HZ
              go_wp2
              go_roundw
              case rel =>
                obtain ⟨h1, h2⟩ := HF.out (k + 1) rfl
                exact ⟨k + 1, _, _, _, by omega, by go_num, rfl, h1, by rw [h2]; exact HZ2.out⟩
              case measure => simp [intOf]; omega
            · have hcc2 : ¬ (cr : Int) = (cK : Int) := by omega
              have hZ := HZ.out
              rw [if_neg hcc] at hZ
              have HZ2 := Lib.hid hZ
              clear hZ HZ
              go_wp2
              go_roundw
              case rel =>
                obtain ⟨h1, h2⟩ := HF.out (k + 1) rfl
                exact ⟨k + 1, _, _, _, by omega, by go_num, rfl, h1, by rw [h2]; exact HZ2.out⟩
              case measure => simp [intOf]; omega
      · have ek : k = 16 := by omega
        have HE := Lib.hid hN
        clear hN hR
        subst ek
        go_wp2
        go_ret2
        have hN := HE.out
        refine ⟨hN.bel, .inr ⟨HV.out, t, rfl, Tb.more ⟨A', n, c', m, hN.tab⟩ (Nat.le_trans hN.out (Nat.le_of_lt hN.nxt.lt))⟩⟩
end Go.Proofs.YtdnjnbfmmgkpjaaDoor

namespace Go.Proofs.YtdnjnbfmmgkpjaaDoor
open Go.RowKit

def B1 : List Int := [1, 0, 2, 0, 0, 0, 0, 0, 0, 0, 0, 0, 0, 0, 0, 0]
def V1 : List Int := [5, 6, 7]
theorem valid1 : Valid B1 V1 := by
  refine ⟨?_, by decide, by decide, by decide, ?_, by decide, ?_⟩
  · intro i hi
    have hc : i = 0 ∨ i = 1 ∨ i = 2 ∨ i = 3 ∨ i = 4 ∨ i = 5 ∨ i = 6 ∨ i = 7 ∨ i = 8 ∨ i = 9 ∨ i = 10 ∨ i = 11 ∨ i = 12 ∨ i = 13 ∨ i = 14 ∨ i = 15 := by omega
    rcases hc with rfl | rfl | rfl | rfl | rfl | rfl | rfl | rfl | rfl | rfl | rfl | rfl | rfl | rfl | rfl | rfl <;> decide
  · intro v hv
    simp [V1] at hv
    omega
  · intro i hi
    have hc : i = 0 ∨ i = 1 ∨ i = 2 ∨ i = 3 ∨ i = 4 ∨ i = 5 ∨ i = 6 ∨ i = 7 ∨ i = 8 ∨ i = 9 ∨ i = 10 ∨ i = 11 ∨ i = 12 ∨ i = 13 ∨ i = 14 ∨ i = 15 := by omega
    rcases hc with rfl | rfl | rfl | rfl | rfl | rfl | rfl | rfl | rfl | rfl | rfl | rfl | rfl | rfl | rfl | rfl <;> decide
theorem code1 : codeOf (codes B1 V1) 7 = (5, 3) := by decide
theorem valid0 : ¬ Valid (List.replicate 16 0) [] := fun h => absurd h.pos (by simp)
theorem build_arr1 (w : World) : (Instr.build 27 #[(0, .int .i64 1), (1, .int .i64 0), (2, .int .i64 2)]).run Tryd.prog w = .ok (.agg (cellsI B1).toArray) w := run_build w 27 _ _ (by kernel_rfl)
theorem build_zero (w : World) : (Instr.build 30 #[]).run Tryd.prog w = .ok (specV (List.replicate 16 0) (.slice none 0 0)) w := run_build w 30 _ _ (by kernel_rfl)
theorem valid_vals {B V : List Int} (h : Valid B V) : ∀ e ∈ codes B V, 0 ≤ e.1 ∧ e.1 ≤ 255 := fun _ he => h.rng _ (mem_ents he).1

/-- what awake answers -/
def Awake5 (w : World) (e : Ending) (w' : World) : Prop := e = .returned (.bool true) ∧ Below w.heap.size w w'

end Go.Proofs.YtdnjnbfmmgkpjaaDoor

namespace Go.Proofs.YtdnjnbfmmgkpjaaDoor
open Go.RowKit

/-- where a reader stands: how many bytes lie ahead, and what is left of the last one of them -/
structure St where
  at_ : Nat
  v : Nat
  c : Nat
/-- a place that a reader of n bytes can stand at -/
structure St.ok (s : St) (n : Nat) : Prop where
  at_ : s.at_ ≤ n
  c : s.c ≤ 8
  v : s.v < 2 ^ s.c
/-- why the next byte can't be begun: 0 if it can -/
def beginE (l : List Int) (a : Nat) : Int :=
  if a < l.length then (if l.getD a 0 = 255 then (if a + 1 < l.length then (if l.getD (a + 1) 0 = 0 then 0 else 7) else 3) else 0) else 3
/-- how many bytes the next one takes -/
def beginS (l : List Int) (a : Nat) : Nat := if l.getD a 0 = 255 then 2 else 1
/-- behind the beginning of a byte -/
def begun (l : List Int) (a : Nat) : St := ⟨a + beginS l a, (l.getD a 0).toNat, 8⟩
/-- the next bit: where the reader stands then, the bit, the error -/
def bitF (l : List Int) (s : St) : St × Nat × Int :=
  if 0 < s.c then (⟨s.at_, s.v % 2 ^ (s.c - 1), s.c - 1⟩, s.v / 2 ^ (s.c - 1), 0)
  else if beginE l s.at_ = 0 then (⟨s.at_ + beginS l s.at_, (l.getD s.at_ 0).toNat % 128, 7⟩, (l.getD s.at_ 0).toNat / 128, 0)
  else (s, 0, beginE l s.at_)
/-- k bits more, behind a number m; on an error the reader is at s0 -/
def goF (l : List Int) (s0 : St) : Nat → St → Nat → St × Nat × Int
  | 0, s, m => (s, m, 0)
  | k + 1, s, m => if (bitF l s).2.2 = 0 then goF l s0 k (bitF l s).1 (2 * m + (bitF l s).2.1) else (s0, 0, (bitF l s).2.2)
/-- so many bits -/
def getF (l : List Int) (s : St) (count : Int) : St × Nat × Int :=
  if count < 0 ∨ 24 < count then (s, 0, 2) else goF l s count.toNat s 0
/-- past the byte -/
def skipF (s : St) : St := ⟨s.at_, 0, 0⟩
/-- why there is no marker -/
def markE (l : List Int) (a : Nat) : Int :=
  if l.length < a + 2 then 3 else if l.getD a 0 = 255 ∧ l.getD (a + 1) 0 ≠ 255 ∧ l.getD (a + 1) 0 ≠ 0 then 0 else 4
def markF (l : List Int) (s : St) : St × Nat × Int :=
  if markE l s.at_ = 0 then (⟨s.at_ + 2, 0, 0⟩, (l.getD (s.at_ + 1) 0).toNat, 0) else (s, 0, markE l s.at_)

theorem beginE_some {l : List Int} {a : Nat} (h : beginE l a = 0) : a + beginS l a ≤ l.length := by
  unfold beginE at h
  unfold beginS
  split at h
  · split at h
    · next h2 =>
      rw [if_pos h2]
      split at h
      · omega
      · cases h
    · next h2 => rw [if_neg h2]; omega
  · cases h
theorem bitF_full {l : List Int} {s : St} (h : 0 < s.c) : bitF l s = (⟨s.at_, s.v % 2 ^ (s.c - 1), s.c - 1⟩, s.v / 2 ^ (s.c - 1), 0) := by rw [bitF, if_pos h]
/-- a byte is begun ahead of its first bit -/
theorem bitF_begun {l : List Int} {s : St} (h : s.c = 0) (h0 : beginE l s.at_ = 0) : bitF l s = bitF l (begun l s.at_) := by
  rw [bitF_full (s := begun l s.at_) (by show 0 < 8; omega), bitF, if_neg (by omega), if_pos h0]
  rfl
theorem bitF_none {l : List Int} {s : St} (h : s.c = 0) (h0 : beginE l s.at_ ≠ 0) : bitF l s = (s, 0, beginE l s.at_) := by
  rw [bitF, if_neg (by omega), if_neg h0]
theorem begun_ok {l : List Int} (hf : Fit l) {a : Nat} (h : beginE l a = 0) : (begun l a).ok l.length := by
  refine ⟨beginE_some h, Nat.le_refl _, ?_⟩
  have := hf.getD a
  show (l.getD a 0).toNat < 256
  omega
theorem bitF_ok {l : List Int} (hf : Fit l) {s : St} (h : s.ok l.length) : (bitF l s).1.ok l.length := by
  by_cases hc : 0 < s.c
  · rw [bitF_full hc]
    exact ⟨h.at_, by have := h.c; show s.c - 1 ≤ 8; omega, Nat.mod_lt _ (pow_pos' _)⟩
  · by_cases h0 : beginE l s.at_ = 0
    · rw [bitF_begun (by omega) h0, bitF_full (by show 0 < 8; omega)]
      have := begun_ok hf h0
      exact ⟨this.at_, by show 7 ≤ 8; omega, Nat.mod_lt _ (pow_pos' _)⟩
    · rw [bitF_none (by omega) h0]
      exact h
theorem bitF_bit {l : List Int} (hf : Fit l) {s : St} (h : s.ok l.length) : (bitF l s).2.1 < 2 := by
  have full : ∀ s : St, 0 < s.c → s.v < 2 ^ s.c → (bitF l s).2.1 < 2 := by
    intro s hc hv
    rw [bitF_full hc]
    show s.v / 2 ^ (s.c - 1) < 2
    rw [Nat.div_lt_iff_lt_mul (pow_pos' _), ← Nat.pow_succ']
    rw [show (s.c - 1).succ = s.c by omega]
    exact hv
  by_cases hc : 0 < s.c
  · exact full s hc h.v
  · by_cases h0 : beginE l s.at_ = 0
    · rw [bitF_begun (by omega) h0]
      exact full _ (by show 0 < 8; omega) (begun_ok hf h0).v
    · rw [bitF_none (by omega) h0]
      show 0 < 2
      omega
theorem goF_ok {l : List Int} (hf : Fit l) {s0 : St} (h0 : s0.ok l.length) : ∀ (k : Nat) (s : St) (m : Nat), s.ok l.length → (goF l s0 k s m).1.ok l.length
  | 0, _, _, h => h
  | k + 1, s, m, h => by
    unfold goF
    split
    · exact goF_ok hf h0 k _ _ (bitF_ok hf h)
    · exact h0
theorem getF_ok {l : List Int} (hf : Fit l) {s : St} (h : s.ok l.length) (count : Int) : (getF l s count).1.ok l.length := by
  unfold getF
  split
  · exact h
  · exact goF_ok hf h _ _ _ h
theorem goF_begun {l : List Int} {s0 s : St} (k m : Nat) (h : s.c = 0) (h0 : beginE l s.at_ = 0) : goF l s0 (k + 1) s m = goF l s0 (k + 1) (begun l s.at_) m := by
  rw [goF, goF, bitF_begun h h0]
theorem goF_none {l : List Int} {s0 s : St} (k m : Nat) (h : s.c = 0) (h0 : beginE l s.at_ ≠ 0) : goF l s0 (k + 1) s m = (s0, 0, beginE l s.at_) := by
  rw [goF, bitF_none h h0, if_neg h0]
theorem goF_full {l : List Int} {s0 s : St} (k m : Nat) (h : 0 < s.c) : goF l s0 (k + 1) s m = goF l s0 k ⟨s.at_, s.v % 2 ^ (s.c - 1), s.c - 1⟩ (2 * m + s.v / 2 ^ (s.c - 1)) := by
  rw [goF, bitF_full h, if_pos rfl]
end Go.Proofs.YtdnjnbfmmgkpjaaDoor

namespace Go.Proofs.YtdnjnbfmmgkpjaaDoor
open Go.RowKit

/-- l is the scan bytes of bits L -/
def Scan (L l : List Int) : Prop := ∃ B v c, Fit B ∧ c < 8 ∧ v < 2 ^ c ∧ L = by8 B ++ dig v c ∧ l = stuff (filledUp B v c)
theorem Scan.same {L l l' : List Int} (h : Scan L l) (h' : Scan L l') : l = l' := by
  obtain ⟨B, v, c, h1, h2, h3, h4, rfl⟩ := h
  obtain ⟨B', v', c', g1, g2, g3, g4, rfl⟩ := h'
  obtain ⟨rfl, rfl, rfl⟩ := parts_inj h1 g1 h2 g2 h3 g3 (h4.symm.trans g4)
  rfl
theorem Scan.fit {L l : List Int} (h : Scan L l) : Fit l := by
  obtain ⟨B, v, c, h1, h2, h3, h4, rfl⟩ := h
  exact stuff_fit (fit_filledUp h1 h2 h3)

theorem own_of_box {w : World} {base g n : Nat} {l : List Int} (h : Box w g 5 (cellsOf l).toArray) (hl : l.length = n) (hb : base ≤ g) (hm : n ≤ maxLen) : w.ownsRow base 5 1 (.slice (some ⟨g, 0, none⟩) n n) n (cellsOf l) := by
  refine ⟨by rw [cellsOf_len, hl, Nat.mul_one], .inr ⟨g, n, (cellsOf l).toArray, rfl, hb, h, Nat.le_refl _, hm, by simp [cellsOf_len, hl], ?_⟩⟩
  rw [List.take_of_length_le]
  simp [cellsOf_len, hl]

/-- what Bytes tells -/
def Tells (w : World) (L : List Int) (e : Ending) (w' : World) : Prop := ∃ A m c l, e = .returned (.slice A m c) ∧ Scan L l ∧ Sl w' (fun _ => True) A m c l ∧ Below w.heap.size w w'

set_option maxHeartbeats 400000 in
theorem bytes_nil (w : World) : Calls Tryd.prog 28 #[.pointer none] w fun e w' => e = .returned (.slice none 0 0) ∧ w = w' := by
  go_enter Tryd.func28, Tryd.ntmps28
  go_wp2
  go_ret
  exact ⟨rfl, rfl⟩

set_option maxHeartbeats 800000 in
theorem bytes_any (w : World) (d : Nat) (L : List Int) (h : Wr w d L) : Calls Tryd.prog 28 #[.pointer (some ⟨d, 0, none⟩)] w (Tells w L) := by
  obtain ⟨n, v, c, ⟨op, hb, ho, hf, hv, hL⟩, hc, hn⟩ := h
  have htl : (op.take n).length = n := by rw [List.length_take]; omega
  have HH := Lib.hid (And.intro hb (And.intro ho (And.intro hf (And.intro hv (And.intro hL htl)))))
  clear hb ho hf hv hL htl
  by_cases h0 : c = 0
  · subst h0
    go_enter Tryd.func28, Tryd.ntmps28
    go_wp2_with fail
    refine (all_any w d op n v 0 HH.out.1 HH.out.2.1 (by omega)).mono ?_
    rintro e w1 ⟨rfl, hb1, b1⟩
    have hsl := sl_of_box (K := fun _ => True) hb1 (HH.out.2.2.1.take n) HH.out.2.2.2.2.2 (by unfold maxLen; omega) trivial
    have H1 := Lib.hid (And.intro hsl b1)
    have c1 : w1.cell? ⟨d, 259, none⟩ = some (.int .i64 (0 : Nat)) := ((HH.out.1.on b1).cell 259).trans (cellsW_c HH.out.2.1)
    clear hb1 b1 hsl
    go_wp2_with fail
    refine (stuffed_any w1 _ _ n n (op.take n) H1.out.1 (by omega)).mono ?_
    rintro e w2 ⟨A, c2, rfl, hs2, b2⟩
    have H2 := Lib.hid (And.intro hs2 b2)
    clear hs2 b2
    go_wp2
    go_ret
    exact ⟨A, _, c2, _, rfl, ⟨op.take n, v, 0, HH.out.2.2.1.take n, by omega, HH.out.2.2.2.1, HH.out.2.2.2.2.1, by simp [filledUp]⟩, H2.out.1, on_trans H1.out.2 H2.out.2⟩
  · go_enter Tryd.func28, Tryd.ntmps28
    go_wp2_with fail
    refine (all_any w d op n v c HH.out.1 HH.out.2.1 (by omega)).mono ?_
    rintro e w1 ⟨rfl, hb1, b1⟩
    have hown := own_of_box hb1 HH.out.2.2.2.2.2 (Nat.le_refl _) (by unfold maxLen; omega)
    have H1 := Lib.hid (And.intro hown b1)
    have c1 : w1.cell? ⟨d, 259, none⟩ = some (.int .i64 (c : Int)) := ((HH.out.1.on b1).cell 259).trans (cellsW_c HH.out.2.1)
    have hc0 : (0 : Int) < c := by omega
    clear hb1 b1 hown
    go_wp2_with fail
    refine (filled_any w1 d op n v c (HH.out.1.on H1.out.2) HH.out.2.1 (by omega) HH.out.2.2.2.1).mono ?_
    rintro e w1' ⟨rfl, rfl⟩
    have hfl := fill_lt (show c ≤ 8 by omega) HH.out.2.2.2.1
    obtain ⟨z, hz⟩ : ∃ z, z = fill v c := ⟨_, rfl⟩
    rw [← hz] at hfl ⊢
    have HZ := Lib.hid hz
    clear hz
    go_wp2_with (first
      | (at_builtin; refine wpList_append_sl rfl (.tmp 16) (.tmp 21) rfl w.heap.size (.slice (some ⟨w.heap.size, 0, none⟩) n n) n (op.take n) rfl (H1.out.1.alloc _) _ (some ⟨w1.heap.size, 0, none⟩) 1 1 [(z : Int)] rfl (sl_byte w1 z (by omega) (by omega)) (by omega) (by have := H1.out.2.size; simp; omega) ?_; intro v3 w3 hown3 b3; have hb3 := (H1.out.2.trans ((on_alloc w1 _).mono H1.out.2.size)).trans b3; obtain ⟨A3, c3, rfl, hs3⟩ := sl_of_own hown3 ((HH.out.2.2.1.take n).app (fun y hy => by simp at hy; omega)); have H3 := Lib.hid (And.intro hs3 hb3); clear hown3 b3 hb3 hs3)
      | fail)
    refine (stuffed_any w3 _ _ _ _ _ H3.out.1 (by omega)).mono ?_
    rintro e w4 ⟨A4, c4, rfl, hs4, b4⟩
    have H4 := Lib.hid (And.intro hs4 b4)
    clear hs4 b4
    go_wp2
    go_ret
    refine ⟨A4, _, c4, _, rfl, ⟨op.take n, v, c, HH.out.2.2.1.take n, hc, HH.out.2.2.2.1, HH.out.2.2.2.2.1, ?_⟩, H4.out.1, on_trans H3.out.2 H4.out.2⟩
    rw [filledUp, if_neg h0, HZ.out]
end Go.Proofs.YtdnjnbfmmgkpjaaDoor

namespace Go.Proofs.YtdnjnbfmmgkpjaaDoor
open Go.RowKit

/-- what awake answers -/
def Awake (w : World) (e : Ending) (w' : World) : Prop := e = .returned (.bool true) ∧ Below w.heap.size w w'

theorem awake_scan {l : List Int} (h : Scan (putL (putL [] 255 8) 0 1) l) : strOfNums l = ⟨#[255, 0, 127]⟩ := by
  have h2 : Scan (putL (putL [] 255 8) 0 1) [255, 0, 127] := ⟨[255], 0, 1, (fun z hz => by simp at hz; omega), by omega, by omega, by decide, by decide⟩
  rw [h.same h2]
  rfl

end Go.Proofs.YtdnjnbfmmgkpjaaDoor

namespace Go.Proofs.YtdnjnbfmmgkpjaaDoor
open Go.RowKit

set_option maxHeartbeats 400000 in
theorem power_any (w : World) (n : Nat) (hn : n ≤ 24) : Calls Tryd.prog 79 #[.int .i64 (n : Int)] w fun e w' => e = .returned (.int .i64 ((2 ^ n : Nat) : Int)) ∧ w = w' := by
  go_enter Tryd.func79, Tryd.ntmps79
  go_wp2
  go_loop [3, 4] (fun p i => ∃ k : Nat, k ≤ n ∧ p = .int .i64 ((2 ^ k : Nat) : Int) ∧ i = .int .i64 k) (fun _ i => n - (intOf i).toNat)
  case atStart => exact ⟨0, Nat.zero_le _, rfl, rfl⟩
  case round =>
    obtain ⟨k, hk, rfl, rfl⟩ := hrel
    obtain ⟨q, hq⟩ : ∃ q, q = 2 ^ k := ⟨_, rfl⟩
    have hq1 : q ≤ 16777216 := by rw [hq]; exact Nat.le_trans (Nat.pow_le_pow_right (by omega) (show k ≤ 24 by omega)) (by decide)
    rw [← hq]
    have HQ := Lib.hid hq
    clear hq
    by_cases hlt : k < n
    · go_wp2
      go_round
      case rel =>
        refine ⟨k + 1, by omega, ?_, by go_num⟩
        rw [Nat.pow_succ, ← HQ.out]
        congr 1
      case measure => simp [intOf]; omega
    · have ek : k = n := by omega
      have HE := Lib.hid ek
      clear ek
      go_wp2
      go_ret
      obtain rfl := HE.out
      exact ⟨by rw [HQ.out]; simp, rfl⟩

/-- a new block of one number, to be appended to -/
theorem own_one (w : World) (z : Int) : (w.alloc (.cells #[.int .i64 z] 3)).ownsRow w.heap.size 3 1 (.slice (some ⟨w.heap.size, 0, none⟩) 1 1) 1 (cellsI [z]) :=
  ⟨rfl, .inr ⟨w.heap.size, 1, #[.int .i64 z], rfl, Nat.le_refl _, heap_alloc_new w _, Nat.le_refl _, by unfold maxLen; omega, rfl, rfl⟩⟩
/-- the bits of a number, one more -/
theorem dig_step (v k : Nat) : dig v (k + 1) = [((v / 2 ^ k % 2 : Nat) : Int)] ++ dig v k := by
  rw [Nat.add_comm k 1, dig_app v 1 k]
  rfl

set_option maxHeartbeats 1600000 in
theorem digits_any (w : World) (v n : Nat) (hn : n ≤ 24) (hv : v ≤ 4611686018427387904) : Calls Tryd.prog 65 #[.int .i64 (v : Int), .int .i64 (n : Int)] w fun e w' => ∃ A c, e = .returned (.slice A n c) ∧ Il w' A n c (dig v n) ∧ Below w.heap.size w w' := by
  go_enter Tryd.func65, Tryd.ntmps65
  go_wp2
  go_loopw [0, 5, 6] (fun x s i wr => ∃ k A c, k ≤ n ∧ x = .int .i64 ((v / 2 ^ k : Nat) : Int) ∧ s = .slice A k c ∧ i = .int .i64 (k : Nat) ∧ Il wr A k c (dig v k) ∧ Below w.heap.size w wr) (fun _ _ i _ => n - (intOf i).toNat)
  case atStart => exact ⟨0, _, _, Nat.zero_le _, by simp, rfl, rfl, Il.none _, Below.refl _ _⟩
  case round =>
    obtain ⟨k, A, c, hk, rfl, rfl, rfl, hI, hbel⟩ := hrel
    obtain ⟨q, hq⟩ : ∃ q, q = v / 2 ^ k := ⟨_, rfl⟩
    have hq1 : q ≤ v := by rw [hq]; exact Nat.div_le_self _ _
    rw [← hq]
    have HQ := Lib.hid (And.intro hq (And.intro hI hbel))
    clear hq hI hbel
    by_cases hlt : k < n
    · obtain ⟨r, hr⟩ : ∃ r, r = q % 2 := ⟨_, rfl⟩
      have hr1 : (q : Int) % 2 = (r : Int) := by omega
      obtain ⟨h, hh⟩ : ∃ h, h = q / 2 := ⟨_, rfl⟩
      have hh1 : (q : Int) / 2 = (h : Int) := by omega
      have HR := Lib.hid (And.intro hr hh)
      clear hr hh
      go_wp2_with (first
        | (at_builtin; refine wpList_append_il rfl (.tmp 14) (.tmp 15) rfl wr.heap.size (.slice (some ⟨wr.heap.size, 0, none⟩) 1 1) 1 [(r : Int)] rfl (own_one wr r) A k c (dig v k) rfl (HQ.out.2.1.on (on_alloc _ _)) (by omega) (by simp) ?_; intro v3 w3 hown3 b3; obtain ⟨A3, c3, rfl, hs3, _⟩ := il_of_own hown3; have H3 := Lib.hid (And.intro hs3 (on_trans HQ.out.2.2 ((on_alloc wr _).trans b3))); clear hown3 b3 hs3)
        | fail)
      refine ⟨⟨k + 1, A3, c3, by omega, ?_, by rw [Nat.add_comm], by go_num, ?_, H3.out.2⟩, by simp [intOf]; omega⟩
      · rw [HR.out.2, HQ.out.1, Nat.div_div_eq_div_mul, Nat.pow_succ]
      · rw [dig_step, ← HQ.out.1, ← HR.out.1, Nat.add_comm k 1]
        exact H3.out.1
    · have ek : k = n := by omega
      have HE := Lib.hid ek
      clear ek
      go_wp2
      go_ret
      obtain ⟨_, hI, hb⟩ := HQ.out
      rw [← HE.out]
      exact ⟨A, c, rfl, hI, hb⟩

/-- what the reference's Put tells -/
def RefPut (w : World) (A : Option Addr) (L : List Int) (v k : Int) (e : Ending) (w' : World) : Prop :=
  ∃ A' m c', e = .returned (.tuple #[.slice A' m c', .int .i64 (putE v k)]) ∧ Il w' A' m c' (putL L v k) ∧ (A' = A ∨ ∀ b off, A' = some ⟨b, off, none⟩ → w.heap.size ≤ b) ∧ Below w.heap.size w w'

end Go.Proofs.YtdnjnbfmmgkpjaaDoor

namespace Go.Proofs.YtdnjnbfmmgkpjaaDoor
open Go.RowKit

theorem dig_at (v c i : Nat) (hi : i < c) : (dig v c).getD i 0 = ((v / 2 ^ (c - 1 - i) % 2 : Nat) : Int) := by
  induction c generalizing v with
  | zero => omega
  | succ c ih =>
    show (dig (v / 2) c ++ [((v % 2 : Nat) : Int)]).getD i 0 = _
    by_cases h : i < c
    · rw [List.getD_eq_getElem?_getD, List.getElem?_append_left (by rw [dig_len]; exact h), ← List.getD_eq_getElem?_getD, ih (v / 2) h, Nat.div_div_eq_div_mul, show 2 * 2 ^ (c - 1 - i) = 2 ^ (c + 1 - 1 - i) by
        rw [show c + 1 - 1 - i = (c - 1 - i) + 1 by omega, Nat.pow_succ]; omega]
    · obtain rfl : i = c := by omega
      rw [List.getD_eq_getElem?_getD, List.getElem?_append_right (by rw [dig_len]; omega), dig_len]
      simp
theorem by8_at (B : List Int) (k j : Nat) (hk : k < B.length) (hj : j < 8) : (by8 B).getD (8 * k + j) 0 = (((B.getD k 0).toNat / 2 ^ (7 - j) % 2 : Nat) : Int) := by
  induction B generalizing k with
  | nil => simp at hk
  | cons b B ih =>
    rw [by8_cons]
    cases k with
    | zero =>
      rw [List.getD_eq_getElem?_getD, List.getElem?_append_left (by rw [dig_len]; omega), ← List.getD_eq_getElem?_getD, Nat.mul_zero, Nat.zero_add, dig_at _ _ _ hj]
      simp
    | succ k =>
      rw [List.getD_eq_getElem?_getD, List.getElem?_append_right (by rw [dig_len]; omega), ← List.getD_eq_getElem?_getD, dig_len, show 8 * (k + 1) + j - 8 = 8 * k + j by omega, ih k (by simpa using hk)]
      simp
/-- one bit more of a number -/
theorem more_bit (q j : Nat) (hj : j < 8) : q / 2 ^ (8 - j) * 2 + q / 2 ^ (7 - j) % 2 = q / 2 ^ (8 - (j + 1)) := by
  have e : q / 2 ^ (8 - j) = q / 2 ^ (7 - j) / 2 := by
    rw [Nat.div_div_eq_div_mul, show 8 - j = (7 - j) + 1 by omega, Nat.pow_succ]
  rw [e, show 8 - (j + 1) = 7 - j by omega]
  omega

/-- a slice's length -/
def lenOf : Value → Nat
  | .slice _ n _ => n
  | _ => 0

/-- a row of numbers of one's own, and what is older is as it was -/
structure IRow (w wr : World) (v : Value) (n : Nat) (l : List Int) : Prop where
  own : wr.ownsRow w.heap.size 3 1 v n (cellsI l)
  bel : Below w.heap.size w wr

/-- how the reference's Bytes stands behind k bytes -/
structure RB (w w1 wr : World) (u : Value) (k : Nat) (F : List Int) : Prop where
  row : wr.ownsRow w1.heap.size 5 1 u (stuff (F.take k)).length (cellsOf (stuff (F.take k)))
  bel : Below w1.heap.size w1 wr

theorem Wr.parts {w : World} {d : Nat} {L : List Int} (h : Wr w d L) : ∃ B v c, Fit B ∧ c < 8 ∧ v < 2 ^ c ∧ L = by8 B ++ dig v c := by
  obtain ⟨n, v, c, ⟨op, _, _, hf, hv, hL⟩, hc, _⟩ := h
  exact ⟨op.take n, v, c, hf.take n, hc, hv, hL⟩

end Go.Proofs.YtdnjnbfmmgkpjaaDoor

namespace Go.Proofs.YtdnjnbfmmgkpjaaDoor
open Go.RowKit

/-- where a reader stands behind k bits of the bytes F, stuffed -/
def stAt (F : List Int) (k : Nat) : St := ⟨(stuff (F.take ((k + 7) / 8))).length, (F.getD ((k + 7) / 8 - 1) 0).toNat % 2 ^ (8 * ((k + 7) / 8) - k), 8 * ((k + 7) / 8) - k⟩

theorem stAt_zero (F : List Int) : stAt F 0 = ⟨0, 0, 0⟩ := by simp [stAt, stuff, Nat.mod_one]

/-- the byte that stands behind i bytes, stuffed -/
theorem stuff_at (F T : List Int) (i : Nat) (hi : i < F.length) : (stuff F ++ T).getD (stuff (F.take i)).length 0 = F.getD i 0 ∧ (F.getD i 0 = 255 → (stuff (F.take i)).length + 1 < (stuff F ++ T).length ∧ (stuff F ++ T).getD ((stuff (F.take i)).length + 1) 0 = 0) ∧ (stuff (F.take i)).length < (stuff F ++ T).length := by
  have e : stuff F ++ T = stuff (F.take i) ++ ((if F.getD i 0 = 255 then [255, 0] else [F.getD i 0]) ++ (stuff (F.drop (i + 1)) ++ T)) := by
    have h1 := stuff_more hi
    rw [← List.append_assoc, ← h1, ← List.append_assoc, ← stuff_app, List.take_append_drop]
  rw [e]
  obtain ⟨P, hP⟩ : ∃ P, P = stuff (F.take i) := ⟨_, rfl⟩
  rw [← hP]
  by_cases h : F.getD i 0 = 255
  · rw [if_pos h, h]
    refine ⟨by simp [List.getD_eq_getElem?_getD], fun _ => ⟨by simp, ?_⟩, by simp⟩
    rw [List.getD_eq_getElem?_getD, List.getElem?_append_right (by omega)]
    simp
  · rw [if_neg h]
    exact ⟨by simp [List.getD_eq_getElem?_getD], fun e => absurd e h, by simp⟩

theorem stAt_step (F T : List Int) (hf : Fit F) (k : Nat) (hk : k < 8 * F.length) :
    ∃ b : Nat, b < 2 ∧ (b : Int) = (by8 F).getD k 0 ∧ bitF (stuff F ++ T) (stAt F k) = (stAt F (k + 1), b, 0) := by
  obtain ⟨i, hi⟩ : ∃ i, i = (k + 7) / 8 := ⟨_, rfl⟩
  obtain ⟨c, hc⟩ : ∃ c, c = 8 * i - k := ⟨_, rfl⟩
  have hs : stAt F k = ⟨(stuff (F.take i)).length, (F.getD (i - 1) 0).toNat % 2 ^ c, c⟩ := by rw [hc, hi]; rfl
  rw [hs]
  by_cases hc0 : 0 < c
  · have hi2 : (k + 1 + 7) / 8 = i := by omega
    have hs2 : stAt F (k + 1) = ⟨(stuff (F.take i)).length, (F.getD (i - 1) 0).toNat % 2 ^ (c - 1), c - 1⟩ := by
      unfold stAt
      rw [hi2, show 8 * i - (k + 1) = c - 1 by omega]
    obtain ⟨z, hz⟩ : ∃ z, z = (F.getD (i - 1) 0).toNat := ⟨_, rfl⟩
    have hb := by8_at F (i - 1) (8 - c) (by omega) (by omega)
    rw [show 8 * (i - 1) + (8 - c) = k by omega, show 7 - (8 - c) = c - 1 by omega, ← hz] at hb
    have h1 : z % 2 ^ c % 2 ^ (c - 1) = z % 2 ^ (c - 1) := by
      obtain ⟨d, rfl⟩ : ∃ d, c = d + 1 := ⟨c - 1, by omega⟩
      rw [Nat.add_sub_cancel, Nat.pow_succ, Nat.mod_mul_right_mod]
    have h2 : z % 2 ^ c / 2 ^ (c - 1) = z / 2 ^ (c - 1) % 2 := by
      obtain ⟨d, rfl⟩ : ∃ d, c = d + 1 := ⟨c - 1, by omega⟩
      rw [Nat.add_sub_cancel, Nat.pow_succ, Nat.mod_mul_right_div_self]
    refine ⟨z / 2 ^ (c - 1) % 2, by omega, hb.symm, ?_⟩
    rw [hs2, bitF_full (by exact hc0), ← hz]
    show ((⟨_, z % 2 ^ c % 2 ^ (c - 1), c - 1⟩ : St), z % 2 ^ c / 2 ^ (c - 1), (0 : Int)) = _
    rw [h1, h2]
  · have hki : k = 8 * i := by omega
    have hil : i < F.length := by omega
    obtain ⟨h1, h2, h3⟩ := stuff_at F T i hil
    have hi2 : (k + 1 + 7) / 8 = i + 1 := by omega
    have hlen : (stuff (F.take (i + 1))).length = (stuff (F.take i)).length + (if F.getD i 0 = 255 then 2 else 1) := by
      rw [stuff_more hil, List.length_append]
      split <;> rfl
    have hs2 : stAt F (k + 1) = ⟨(stuff (F.take i)).length + (if F.getD i 0 = 255 then 2 else 1), (F.getD i 0).toNat % 128, 7⟩ := by
      unfold stAt
      rw [hi2, Nat.add_sub_cancel, show 8 * (i + 1) - (k + 1) = 7 by omega, hlen]
    have hE : beginE (stuff F ++ T) (stuff (F.take i)).length = 0 := by
      unfold beginE
      rw [if_pos h3, h1]
      split
      · next e => rw [if_pos (h2 e).1, if_pos (h2 e).2]
      · rfl
    have hS : beginS (stuff F ++ T) (stuff (F.take i)).length = if F.getD i 0 = 255 then 2 else 1 := by rw [beginS, h1]
    have hz := hf.getD i
    have hb := by8_at F i 0 hil (by omega)
    rw [Nat.add_zero, ← hki] at hb
    refine ⟨(F.getD i 0).toNat / 128, by omega, ?_, ?_⟩
    · rw [hb, show (2 : Nat) ^ (7 - 0) = 128 from rfl, Nat.mod_eq_of_lt (by omega)]
    · rw [hs2, bitF, if_neg hc0]
      show (if beginE (stuff F ++ T) (stuff (F.take i)).length = 0 then _ else _) = _
      rw [if_pos hE]
      show ((⟨(stuff (F.take i)).length + beginS (stuff F ++ T) (stuff (F.take i)).length, ((stuff F ++ T).getD (stuff (F.take i)).length 0).toNat % 128, 7⟩ : St), ((stuff F ++ T).getD (stuff (F.take i)).length 0).toNat / 128, (0 : Int)) = _
      rw [hS, h1]

/-- behind all bits the reader stands behind all bytes -/
theorem stAt_end (F : List Int) (k : Nat) (h1 : k ≤ 8 * F.length) (h2 : 8 * F.length < k + 8) : (stAt F k).at_ = (stuff F).length ∧ (stAt F k).c = 8 * F.length - k := by
  have e : (k + 7) / 8 = F.length := by omega
  unfold stAt
  rw [e, List.take_length]
  exact ⟨rfl, rfl⟩

/-- a number made of bits, the highest first -/
def num (m : Nat) (L : List Int) : Nat := L.foldl (fun a b => 2 * a + b.toNat) m
theorem num_dig (m v c : Nat) (hv : v < 2 ^ c) : num m (dig v c) = m * 2 ^ c + v := by
  induction c generalizing v with
  | zero => simp at hv; subst hv; simp [num, dig]
  | succ c ih =>
    have h2 : (2 : Nat) ^ (c + 1) = 2 ^ c * 2 := Nat.pow_succ 2 c
    show num m (dig (v / 2) c ++ [((v % 2 : Nat) : Int)]) = _
    unfold num at ih ⊢
    rw [List.foldl_append, ih (v / 2) (by omega), h2, ← Nat.mul_assoc]
    simp
    omega
theorem goF_bits (F T : List Int) (hf : Fit F) (s0 : St) : ∀ (n k m : Nat), k + n ≤ 8 * F.length → goF (stuff F ++ T) s0 n (stAt F k) m = (stAt F (k + n), num m (((by8 F).drop k).take n), 0)
  | 0, k, m, _ => by simp [goF, num]
  | n + 1, k, m, h => by
    obtain ⟨b, hb, he, hs⟩ := stAt_step F T hf k (by omega)
    rw [goF, hs, if_pos rfl, goF_bits F T hf s0 n (k + 1) (2 * m + b) (by omega), show k + 1 + n = k + (n + 1) by omega]
    have hkl : k < (by8 F).length := by rw [by8_len]; omega
    have hd : ((by8 F).drop k).take (n + 1) = (b : Int) :: ((by8 F).drop (k + 1)).take n := by
      rw [List.drop_eq_getElem_cons hkl, List.take_succ_cons]
      congr 1
      rw [he, List.getD_eq_getElem?_getD, List.getElem?_eq_getElem hkl]
      rfl
    rw [hd]
    rfl

/-- a mark that is stuffed is followed by the stuffing -/
theorem stuff_marks (F : List Int) : ∀ i, i < (stuff F).length → (stuff F).getD i 0 = 255 → i + 1 < (stuff F).length ∧ (stuff F).getD (i + 1) 0 = 0 := by
  induction F with
  | nil => intro i hi; simp [stuff] at hi
  | cons a F ih =>
    have e : stuff (a :: F) = (if a = 255 then [255, 0] else [a]) ++ stuff F := by simp [stuff]
    intro i hi h
    rw [e] at hi h ⊢
    by_cases ha : a = 255
    · rw [if_pos ha] at hi h ⊢
      match i with
      | 0 => exact ⟨by simp, rfl⟩
      | 1 => cases h
      | i + 2 =>
        have := ih i (by simpa using hi) (by simpa using h)
        exact ⟨by have := this.1; simp; omega, by simpa using this.2⟩
    · rw [if_neg ha] at hi h ⊢
      match i with
      | 0 => exact absurd h ha
      | i + 1 =>
        have := ih i (by simpa using hi) (by simpa using h)
        exact ⟨by have := this.1; simp; omega, by simpa using this.2⟩
end Go.Proofs.YtdnjnbfmmgkpjaaDoor
