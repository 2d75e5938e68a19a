/-
  The contracts of filled and all.
-/
import Derived.Test.YthfpdebpepbejaaDoorAdd
import Derived.Deep.RegionHeld3
import Derived.Deep.RegionLaw
namespace Go.Proofs.YthfpdebpepbejaaDoor
open Go.RowKit

/-- what filled tells -/
def fill (v c : Nat) : Nat := (v + 1) * 2 ^ (8 - c) - 1

theorem fill_lt {v c : Nat} (hc : c ≤ 8) (hv : v < 2 ^ c) : fill v c < 256 := by
  unfold fill
  have h1 : 2 ^ c * 2 ^ (8 - c) = 256 := by rw [← Nat.pow_add, show c + (8 - c) = 8 by omega]
  have h2 : (v + 1) * 2 ^ (8 - c) ≤ 2 ^ c * 2 ^ (8 - c) := Nat.mul_le_mul_right _ hv
  have h3 : 0 < (v + 1) * 2 ^ (8 - c) := Nat.mul_pos (by omega) (pow_pos' _)
  omega

set_option maxHeartbeats 400000 in
theorem filled_any (w : World) (d : Nat) (op : List Int) (n v c : Nat) (hb : Box w d 88 (cellsW op n v c)) (ho : op.length = 256) (hc : c ≤ 8) (hv : v < 2 ^ c) :
    Calls Tryd.prog 48 #[.pointer (some ⟨d, 258, none⟩)] w fun e w' => e = .returned (.int .u8 (fill v c : Nat)) ∧ w = w' := by
  have c1 : w.cell? ⟨d, 258, none⟩ = some (.int .i64 (v : Int)) := (hb.cell 258).trans (cellsW_v ho)
  have c2 : w.cell? ⟨d, 259, none⟩ = some (.int .i64 (c : Int)) := (hb.cell 259).trans (cellsW_c ho)
  have hf := fill_lt hc hv
  obtain ⟨k, hk⟩ : ∃ k, k = 8 - c := ⟨_, rfl⟩
  have e1 : (8 : Int) - c = k := by omega
  have hp : v + 1 ≤ 256 := Nat.le_trans hv (Nat.pow_le_pow_right (by omega) hc)
  obtain ⟨f, hf0⟩ : ∃ f, f = fill v c := ⟨_, rfl⟩
  have e2 : ((v : Int) + 1) * 2 ^ k = ((f + 1 : Nat) : Int) := by
    have h3 : 0 < (v + 1) * 2 ^ (8 - c) := Nat.mul_pos (by omega) (pow_pos' _)
    have : f + 1 = (v + 1) * 2 ^ k := by rw [hf0, hk]; unfold fill; omega
    rw [this]; simp
  rw [← hf0] at hf ⊢
  have hk8 : k ≤ 8 := by omega
  have hv1 : v ≤ 255 := by omega
  clear hb hf0 hk hv hp
  go_enter Tryd.func48, Tryd.ntmps48
  go_wp2
  go_ret
  exact ⟨rfl, rfl⟩

theorem splice_cells (L : List Int) (off : Nat) (cs : List Int) : splice (cellsOf L) off (cellsOf cs) = cellsOf (splice L off cs) := by
  simp [splice, cellsOf, List.map_take, List.map_drop]
/-- a copy into a block that is known whole: only that block turns -/
theorem step_copy_only {ops : Array Oper} {o : Oper} {a : Act} {w : World} {K : Act → World → Prop} {Q : Exit → Act → World → Prop} {E : Prop} (hgd : o.guard = none) (d s : Operand)
    (ho : o.op = .call { callee := .builtin .copy, args := #[d, s], argTypes := #[54, 54] })
    (g off dLen dCap sLen sCap : Nat) (ad : Addr) (hd : a.eval d = .slice (some ⟨g, off, none⟩) dLen dCap) (hs : a.eval s = .slice (some ad) sLen sCap)
    (l cs : List Int) (hg : Box w g 5 (cellsOf l).toArray) (hn : cs.length = Nat.min sLen dLen) (hsrc : ∀ j v, (cellsOf cs)[j]? = some v → w.cell? (ad.add j) = some v) (hfit : off + cs.length ≤ l.length)
    (h : ∀ w', Box w' g 5 (cellsOf (splice l off cs)).toArray → Kept (fun k => k = g) w w' → K (a.put o.dst (goInt cs.length)) w') :
    if Region.wanted o (yielded ops a.tmps) = true then Oper.wp Tryd.prog o a w K Q else E := by
  have hw : Region.wanted o (yielded ops a.tmps) = true := by simp [Region.wanted, hgd]
  rw [if_pos hw]
  have hrun := run_copy_row (P := Tryd.prog) w 54 54 o.type 5 g off dLen dCap ad sLen sCap (cellsOf l).toArray 5 (cellsOf cs) Tryd.underlying54 byte_size hg (by rw [cellsOf_len]; exact hn) hsrc (by simpa [cellsOf_len] using hfit) (cellsOf_one _)
  unfold Oper.wp
  simp [execOp, ho, resolve, invoke, builtin, hd, hs, hrun, Result.andThen]
  have e := setRow_heap w g _ (cellsOf (splice l off cs)).toArray 5 _ hg
  rw [← splice_cells] at e
  rw [cellsOf_len]
  refine h _ ?_ ⟨rfl, rfl, rfl, by simp [World.setRow], fun k hk hne => setRow_other w g k _ hne⟩
  rw [← splice_cells]
  unfold Box
  simpa [splice, cellsOf_len] using e


theorem below_kept {g : Nat} {w w1 w2 : World} (a : Below w.heap.size w w1) (b : Kept (fun k => k = g) w1 w2) (hg : g = w.heap.size) : Below g w w2 := by
  subst hg
  exact a.trans (b.below a.size (fun i hi e => by omega))
theorem splice_front (L cs : List Value) (h : cs.length = L.length) : splice L 0 cs = cs := splice_all L cs (by omega)

set_option maxRecDepth 10000 in
set_option maxHeartbeats 800000 in
theorem all_any (w : World) (d : Nat) (op : List Int) (n v c : Nat) (hb : Box w d 88 (cellsW op n v c)) (ho : op.length = 256) (hn : n ≤ 255) :
    Calls Tryd.prog 47 #[.pointer (some ⟨d, 0, none⟩)] w fun e w' => e = .returned (.slice (some ⟨w.heap.size, 0, none⟩) n n) ∧ Box w' w.heap.size 5 (cellsOf (op.take n)).toArray ∧ Below w.heap.size w w' := by
  have c1 : w.cell? ⟨d, 257, none⟩ = some (.int .i64 (n : Int)) := (hb.cell 257).trans (cellsW_n ho)
  have ld := hb.lt
  have hmk := run_make_row' (P := Tryd.prog) 54 5 (.int .u8 0) 1 Tryd.underlying54 byte_info rfl .i64 .i64 n (by omega) (by omega)
  obtain ⟨M, hM⟩ : ∃ M, M = madeCells #[.int .u8 0] n := ⟨_, rfl⟩
  rw [← hM] at hmk
  obtain ⟨g, hg⟩ : ∃ g, g = w.heap.size := ⟨_, rfl⟩
  obtain ⟨w1, hw1⟩ : ∃ w1, w1 = w.alloc (.cells M 5) := ⟨_, rfl⟩
  have hM2 : M = (cellsOf (List.replicate n 0)).toArray := by
    apply Array.toList_inj.1
    rw [hM, toList_madeCells_one]
    simp [cellsOf]
  have hbm : Box w1 g 5 (cellsOf (List.replicate n 0)).toArray := by rw [hw1, hg, ← hM2]; exact Box.made _ _ _
  have bel1 : Below w.heap.size w w1 := by rw [hw1]; exact on_alloc _ _
  have hb1 := hb.on bel1
  have hmw := hmk w
  rw [← hw1, ← hg] at hmw
  have d1 : w1.cell? ⟨d, 257, none⟩ = some (.int .i64 (n : Int)) := (hb1.cell 257).trans (cellsW_n ho)
  have hsrc : ∀ j u, (cellsOf (op.take n))[j]? = some u → w1.cell? ((⟨d, 1, none⟩ : Addr).add j) = some u := fun j u hu => by
    have hj : j < n := by
      have := (List.getElem?_eq_some_iff.1 hu).1
      rw [cellsOf_len, List.length_take] at this
      omega
    rw [plain_add]
    refine (hb1.cell (1 + j)).trans ((cellsW_at ho j (by omega)).trans ?_)
    rw [← hu]
    simp only [cellsOf, List.getElem?_map]
    rw [List.getElem?_take_of_lt hj, List.getElem?_eq_getElem (by omega), List.getD_eq_getElem?_getD, List.getElem?_eq_getElem (by omega)]
    rfl
  have htl : (op.take n).length = n := by rw [List.length_take]; omega
  have HH := Lib.hid (And.intro hb (And.intro ho (And.intro hbm (And.intro bel1 (And.intro hg (And.intro hsrc htl))))))
  clear hb1 hsrc htl hb ho hmk hM hM2 hw1 hbm bel1 ld
  have e1 : (n : Int) % 256 = n := by omega
  rw [← hg]
  clear hg
  go_enter Tryd.func47, Tryd.ntmps47
  go_wp2_with fail
  go_quiet (fail)
  go_wp2_with fail
  generalize hw2 : World.drewN w1 nq = w2
  have HF : Hid (Box w2.drew g 5 (cellsOf (List.replicate n 0)).toArray ∧ (∀ j v, (cellsOf (op.take n))[j]? = some v → (w2.drew).cell? ((⟨d, 1, none⟩ : Addr).add j) = some v) ∧ Below w.heap.size w w2.drew ∧ (op.take n).length = Nat.min 256 n ∧ 0 + (op.take n).length ≤ (List.replicate n (0 : Int)).length) := by
    subst hw2
    exact Lib.hid ⟨HH.out.2.2.1, HH.out.2.2.2.2.2.1, on_trans (on_trans HH.out.2.2.2.1 (below_drewN_refl _ _)) (on_drew _), by rw [HH.out.2.2.2.2.2.2]; exact (Nat.min_eq_right (by omega)).symm, by rw [HH.out.2.2.2.2.2.2, List.length_replicate]; omega⟩
  clear hw2 d1 c1 hmw e1
  go_region_held3 (fun _ => True) (exact trivial)
    (first
      | (refine step_copy_only rfl (.tmp 23) (.tmp 27) rfl g 0 n n 256 256 ⟨d, 1, none⟩ rfl rfl (List.replicate n 0) (op.take n) HF.out.1 HF.out.2.2.2.1 HF.out.2.1 HF.out.2.2.2.2 ?_
         intro w6 hb6 k6
         have H6 := Lib.hid (And.intro hb6 k6)
         clear hb6 k6))
  all_goals
    (have lt := HH.out.1.lt
     have hd6 : Box w6 d 88 (cellsW op n v c) := H6.out.2.box (HH.out.1.on HF.out.2.2.1) (fun e => by have := HH.out.2.2.2.2.1; omega)
     have c0 : w6.cell? ⟨d, 0, none⟩ = some (.pointer none) := (hd6.cell 0).trans cellsW_0
     have hfin : Box w6 g 5 (cellsOf (op.take n)).toArray := by
       have := H6.out.1
       rwa [splice_all _ _ (by rw [List.length_replicate, HH.out.2.2.2.2.2.2]; exact Nat.le_refl _)] at this
     have hbel : Below g w w6 := below_kept HF.out.2.2.1 H6.out.2 HH.out.2.2.2.2.1
     have HE := Lib.hid (And.intro hfin hbel)
     clear hfin hbel hd6 lt
     go_wp2_with fail
     go_loop [5] (fun p => p = .pointer none) (fun _ => 0)
     case atStart => exact rfl
     case round =>
       subst hrel
       go_wp2
       go_ret
       exact ⟨rfl, HE.out.1, HE.out.2⟩)
end Go.Proofs.YthfpdebpepbejaaDoor
