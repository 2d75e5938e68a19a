/-
  Put's two functions: the contracts of Put$1 (a block is put) and Put$2 (a restart).
-/
import Derived.Test.YtdnjnbfmmgkpjaaDoorPB
import Derived.Test.YtdnjnbfmmgkpjaaDoorSL
import Derived.Test.YtdnjnbfmmgkpjaaDoorEB
namespace Go.Proofs.YtdnjnbfmmgkpjaaDoor
open Go.RowKit

theorem load_blkAt {w : World} {bb ob : Nat} {b : List Int} (hb : b.length = 64) (h : ∀ j, j < 64 → w.cell? ⟨bb, ob + j, none⟩ = some (.int .i64 (b.getD j 0))) : (Instr.loadAt 25 (.pointer (some ⟨bb, ob, none⟩))).run Tryd.prog w = .ok (blkV b) w :=
  run_loadAt_mid w bb ob 25 (cellsI b) _ (fun k u hu => by
    have hk := (List.getElem?_eq_some_iff.1 hu).1
    rw [cellsI_len, hb] at hk
    rw [h k hk, ← hu, cellsI_get _ _ (by omega)]) Tryd.underlying25 rfl (by rw [arr23_size, cellsI_len, hb])
section
variable (w : World) (gc gw d lo N p : Nat) (T : Tbs) (P : Nat → Value) (z : Int) (bb ob : Nat) (b bs : List Int)
set_option maxRecDepth 10000 in
set_option maxHeartbeats 3200000 in
theorem putB1_any (hT : Tab w) (hc : Box w gc 69 (cod4 P)) (hR : CodR w lo N T P (min p 1)) (hv : Valid (T.B (min p 1)) (T.V (min p 1)) ∧ Valid (T.B (min p 1 + 2)) (T.V (min p 1 + 2))) (hw : Box w gw 72 #[.pointer (some ⟨d, 0, none⟩)]) (hx : Wx w d bs) (hd : N ≤ d) (hN : N ≤ w.heap.size) (h0 : 0 < N)
    (hp : p ≤ 3) (hlen : bs.length ≤ 158000) (hb : b.length = 64) (hbb : bb < w.heap.size) (hbd : bb ≠ d) (hcell : ∀ j, j < 64 → w.cell? ⟨bb, ob + j, none⟩ = some (.int .i64 (b.getD j 0))) :
    Calls Tryd.prog 24 #[.int .i64 (p : Int), .pointer (some ⟨bb, ob, none⟩), .int .i64 z, .pointer (some ⟨gc, 0, none⟩), .pointer (some ⟨gw, 0, none⟩)] w fun e w' => e = .returned (.int .i64 (putBE (Cd T p) (Ca T p) z b)) ∧ Wx w' d (putBL (Cd T p) (Ca T p) bs z b) ∧ Kept (fun i => i = d) w w' := by
  obtain ⟨l1, h1, t1, l2, h2, t2, e1, e2, b1, b2, r1, r2, r3, r4⟩ := hR
  obtain ⟨c, hcc⟩ : ∃ c, c = min p 1 := ⟨_, rfl⟩
  have hc2 : c ≤ 1 := by rw [hcc]; exact Nat.min_le_right _ _
  rw [← hcc] at e1 e2 b1 b2 hv
  have hCd : Cd T p = codes (T.B c) (T.V c) := by rw [Cd, ← hcc]
  have hCa : Ca T p = codes (T.B (c + 2)) (T.V (c + 2)) := by rw [Ca, ← hcc]
  rw [hCd, hCa]
  have hwh := fun w' => which_any w' p (by omega)
  rw [← hcc] at hwh
  have HWh := Lib.hid hwh
  have hci : (c : Int) < 2 := by omega
  have hk0 : w.cell? ⟨gc, c * 2, none⟩ = some (.pointer (some ⟨t1, 0, none⟩)) := by
    rw [hc.cell]
    rcases (show c = 0 ∨ c = 1 by omega) with rfl | rfl
    · rw [← e1]; rfl
    · rw [← e1]; rfl
  have hk1 : w.cell? ⟨gc, c * 2 + 1, none⟩ = some (.pointer (some ⟨t2, 0, none⟩)) := by
    rw [hc.cell]
    rcases (show c = 0 ∨ c = 1 by omega) with rfl | rfl
    · rw [← e2]; rfl
    · rw [← e2]; rfl
  have hld : (Instr.loadAt 68 (.pointer (some ⟨gc, c * 2, none⟩))).run Tryd.prog w = .ok (.agg #[.pointer (some ⟨t1, 0, none⟩), .pointer (some ⟨t2, 0, none⟩)]) w :=
    run_loadAt_mid w gc (c * 2) 68 [.pointer (some ⟨t1, 0, none⟩), .pointer (some ⟨t2, 0, none⟩)] _ (fun k u hu => by
      match k, hu with
      | 0, hu => rw [Nat.add_zero, hk0]; exact hu
      | 1, hu => rw [hk1]; exact hu) Tryd.underlying68 rfl (by rw [coder_size]; rfl)
  have HLd := Lib.hid hld
  obtain ⟨w1, hw1⟩ : ∃ w1, w.alloc (.cells #[.pointer (some ⟨t1, 0, none⟩), .pointer (some ⟨t2, 0, none⟩)] 68) = w1 := ⟨_, rfl⟩
  obtain ⟨g9, hg9⟩ : ∃ g9, w.heap.size = g9 := ⟨_, rfl⟩
  have b9 : Box w1 g9 68 #[.pointer (some ⟨t1, 0, none⟩), .pointer (some ⟨t2, 0, none⟩)] := by rw [← hw1, ← hg9]; exact Box.made _ _ _
  have k1 : Below w.heap.size w w1 := by rw [← hw1]; exact on_alloc _ _
  have HW := Lib.hid (And.intro (hw.on k1) (And.intro b9 k1))
  have hd117 := hx.box
  have hgd : gw ≠ d := fun e => by obtain ⟨cs, hb'⟩ := hd117; subst e; exact hw.apart hb' (by decide) rfl
  have HK := Lib.hid (fun w' (k : Kept (fun i => i = d) w1 w') => And.intro (k.box (hw.on k1) hgd) (k.box b9 (fun e => by have := hx.lt; omega)))
  have HB := Lib.hid (fun w' (k : Kept (fun i => i = d) w1 w') => load_blkAt (w := w') hb (fun j hj => (k.cell (p := ⟨bb, ob + j, none⟩) (Nat.lt_of_lt_of_le hbb k1.size) hbd).trans ((k1.cell (p := ⟨bb, ob + j, none⟩) hbb).trans (hcell j hj))))
  have HC := Lib.hid (fun w' (k : Below w1.heap.size w1 w') => putBX_any w' d l1 h1 t1 l2 h2 t2 (T.B c) (T.V c) (T.B (c + 2)) (T.V (c + 2)) bs z b (hT.on (on_trans k1 k)) hb (b1.on (on_trans k1 k)) hv.1 (b2.on (on_trans k1 k)) hv.2 (hx.on (on_trans k1 k)) hlen (by omega) (by omega)
    (by have := (on_trans k1 k).size; omega) (by have := (on_trans k1 k).size; omega) (by omega))
  have hg9d : g9 ≠ d := fun e => by have := hx.lt; omega
  have hz68 : ∀ w, (zeroValue 68).run Tryd.prog w = .ok (.agg #[.pointer none, .pointer none]) w := fun w => by kernel_rfl
  clear hT hc hv hw hx hwh hk0 hk1 hld b9 b1 b2 hb hcell e1 e2 hCd hCa hcc
  unfold PutBX at HC
  go_enter Tryd.func24, Tryd.ntmps24
  go_upto_region 2 with (first
    | (go_at_call 25; with_reducible refine (HWh.out _).mono ?_; rintro e w6 ⟨rfl, rfl⟩)
    | (with_reducible refine wpList_load_to (op := ⟨some 13, _, _, _, _, _⟩) rfl 68 (.tmp 12) rfl (.pointer (some ⟨gc, c * 2, none⟩)) rfl (.agg #[.pointer (some ⟨t1, 0, none⟩), .pointer (some ⟨t2, 0, none⟩)]) HLd.out ?_)
    | fail)
  refine wp_region_held_drew (S := fun w' => Hid (Kept (fun i => i = d) w1 w')) (by kernel_rfl) (Lib.hid (Kept.of_below (on_drew w1) _)) fun s0 => ?_
  refine take_to (i := 0) (v := .pointer (some ⟨d, 0, none⟩)) rfl (by kernel_rfl) (by kernel_rfl) (by kernel_rfl) (fun _ _ _ h => h) (Or.inl ⟨by rfl, fun w' hS => by have := (HK.out w' hS.out).1.cell 0; go_simp⟩) s0 (some 14) rfl ?_
  try simp only [Act.put, List.setIfInBounds_toArray, List.set_cons_zero, List.set_cons_succ]
  refine take_to (i := 1) (v := .pointer (some ⟨g9, 0, none⟩)) rfl (by kernel_rfl) (by kernel_rfl) (by kernel_rfl) (fun _ _ _ h => h) (Or.inl ⟨by rfl, fun w' hS => by go_simp⟩) s0 (some 15) rfl ?_
  try simp only [Act.put, List.setIfInBounds_toArray, List.set_cons_zero, List.set_cons_succ]
  refine take_to (i := 2) (v := .pointer (some ⟨t1, 0, none⟩)) rfl (by kernel_rfl) (by kernel_rfl) (by kernel_rfl) (fun _ _ _ h => h) (Or.inl ⟨by rfl, fun w' hS => by have := (HK.out w' hS.out).2.cell 0; go_simp⟩) s0 (some 16) rfl ?_
  try simp only [Act.put, List.setIfInBounds_toArray, List.set_cons_zero, List.set_cons_succ]
  refine take_to (i := 3) (v := .pointer (some ⟨g9, 1, none⟩)) rfl (by kernel_rfl) (by kernel_rfl) (by kernel_rfl) (fun _ _ _ h => h) (Or.inl ⟨by rfl, fun w' hS => by go_simp⟩) s0 (some 17) rfl ?_
  try simp only [Act.put, List.setIfInBounds_toArray, List.set_cons_zero, List.set_cons_succ]
  refine take_to (i := 4) (v := .pointer (some ⟨t2, 0, none⟩)) rfl (by kernel_rfl) (by kernel_rfl) (by kernel_rfl) (fun _ _ _ h => h) (Or.inl ⟨by rfl, fun w' hS => by have := (HK.out w' hS.out).2.cell 1; go_simp⟩) s0 (some 18) rfl ?_
  try simp only [Act.put, List.setIfInBounds_toArray, List.set_cons_zero, List.set_cons_succ]
  refine take_to (i := 5) (v := .int .i64 z) rfl (by kernel_rfl) (by kernel_rfl) (by kernel_rfl) (fun _ _ _ h => h) (Or.inl ⟨by rfl, fun w' hS => by go_simp⟩) s0 (some 19) rfl ?_
  try simp only [Act.put, List.setIfInBounds_toArray, List.set_cons_zero, List.set_cons_succ]
  refine take_to (i := 6) (v := .pointer (some ⟨bb, ob, none⟩)) rfl (by kernel_rfl) (by kernel_rfl) (by kernel_rfl) (fun _ _ _ h => h) (Or.inl ⟨by rfl, fun w' hS => by go_simp⟩) s0 (some 20) rfl ?_
  try simp only [Act.put, List.setIfInBounds_toArray, List.set_cons_zero, List.set_cons_succ]
  refine take_to (i := 7) (v := .pointer (some ⟨bb, ob, none⟩)) rfl (by kernel_rfl) (by kernel_rfl) (by kernel_rfl) (fun _ _ _ h => h) (Or.inl ⟨by rfl, fun w' hS => by go_simp⟩) s0 (some 21) rfl ?_
  try simp only [Act.put, List.setIfInBounds_toArray, List.set_cons_zero, List.set_cons_succ]
  refine take_to (i := 8) (v := blkV b) rfl (by kernel_rfl) (by kernel_rfl) (by kernel_rfl) (fun _ _ _ h => h) (yieldsIf_load7 (by rfl) 25 (.tmp 21) rfl (.pointer (some ⟨bb, ob, none⟩)) rfl (blkV b) (fun w' hS => HB.out w' hS.out)) s0 (some 22) rfl ?_
  try simp only [Act.put, List.setIfInBounds_toArray, List.set_cons_zero, List.set_cons_succ]
  refine wpAnyH_ready (rs := [9]) (by kernel_rfl) (by simp) ?_
  refine AllReadyH.cons rfl (fun Kq hKq => ?_) AllReadyH.nil
  go_simp
  refine Calls.mono (HC.out _ (on_drew w1)) ?_
  rintro e wq ⟨rfl, hx, kq⟩
  have sq := Lib.hid (s0.out.trans kq (fun _ _ h => h))
  refine hKq.out _ _ sq fun _ => ?_
  have HX := Lib.hid hx
  clear hKq Kq s0 kq hx
  have s0 := sq
  clear sq
  refine take_to (i := 10) (v := .int .i64 (putBE (codes (T.B c) (T.V c)) (codes (T.B (c + 2)) (T.V (c + 2))) z b)) rfl (by kernel_rfl) (by kernel_rfl) (by kernel_rfl) (fun _ _ _ h => h) (Or.inl ⟨by rfl, fun w' hS => by go_simp⟩) s0 (some 8) rfl ?_
  try simp only [Act.put, List.setIfInBounds_toArray, List.set_cons_zero, List.set_cons_succ]
  refine wpAnyH_done (by kernel_rfl) ?_ _
  go_wp2_with fail
  go_ret
  exact ⟨rfl, HX.out, (Kept.of_below HW.out.2.2 (fun i => i = d)).trans s0.out (fun _ _ h => h)⟩
end
end Go.Proofs.YtdnjnbfmmgkpjaaDoor
