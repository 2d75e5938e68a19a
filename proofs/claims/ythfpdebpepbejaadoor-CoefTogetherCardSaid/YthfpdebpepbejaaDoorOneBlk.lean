/-
  A writer with pages: the contract of the program's Put of a block. Slices of blocks in memory; blocks one behind the other. A slice built of one block.
-/
import Derived.Test.YthfpdebpepbejaaDoorPutBlk
import Derived.Test.YthfpdebpepbejaaDoorBytesX
import Derived.Test.YthfpdebpepbejaaDoorRefPutB
import Derived.Test.YthfpdebpepbejaaDoorBackMath7
import Derived.Great.BuildSlice
namespace Go.Proofs.YthfpdebpepbejaaDoor
open Go.RowKit

/-- what Put tells -/
def PutTX (w : World) (d : Nat) (L : List En) (v : Int) (bs : List Int) (e : Ending) (w' : World) : Prop :=
  e = .returned (.int .i64 (if (fnd L v).isSome then 0 else 6)) ∧ Wx w' d (bs ++ dig (codeOf L v).1 (codeOf L v).2) ∧ Kept (fun i => i = d) w w'

set_option maxHeartbeats 800000 in
theorem putTX_any (w : World) (lo hi t d : Nat) (B V bs : List Int) (v : Int) (h : Tb w lo hi t B V (codes B V)) (hv : Valid B V) (hw : Wx w d bs) (hl : bs.length ≤ 31000) :
    Calls Tryd.prog 58 #[.pointer (some ⟨t, 0, none⟩), .pointer (some ⟨d, 0, none⟩), .int .i64 v] w (PutTX w d (codes B V) v bs) := by
  unfold PutTX
  obtain ⟨L, hL⟩ : ∃ L, L = codes B V := ⟨_, rfl⟩
  have hcode := code_any w lo hi t B V L v (by rw [hL]; exact h) (by rw [hL]; exact valid_vals hv)
  rw [← hL]
  cases ho : fnd L v with
  | none =>
    have hc : codeOf L v = (0, 0) := by unfold codeOf; rw [ho]; rfl
    rw [hc] at hcode ⊢
    have HC := Lib.hid hcode
    have HW := Lib.hid hw
    clear h hL hcode hw hl hv ho hc
    go_enter Tryd.func58, Tryd.ntmps58
    go_wp2_with fail
    refine HC.out.mono ?_
    rintro e w1 ⟨rfl, b1⟩
    have H1 := Lib.hid b1
    clear b1
    go_wp2
    go_ret
    exact ⟨rfl, by simpa [dig] using HW.out.on H1.out, Kept.of_below H1.out _⟩
  | some en =>
    have hc : codeOf L v = en.2 := by unfold codeOf; rw [ho]; rfl
    have hm := may_code hv (en := en) (by rw [← hL]; exact (fnd_some ho).1)
    have hz : 1 ≤ en.2.2 := (hv.code (by rw [← hL]; exact (fnd_some ho).1)).1
    rw [hc] at hcode ⊢
    have HC := Lib.hid hcode
    have HW := Lib.hid hw
    have HM := Lib.hid (And.intro hm hl)
    obtain ⟨z, x, y⟩ := en
    dsimp only at hz
    have hpos : 0 < y := hz
    clear h hL hcode hw hl hv ho hc hm hz
    go_enter Tryd.func58, Tryd.ntmps58
    go_wp2_with fail
    refine HC.out.mono ?_
    rintro e w1 ⟨rfl, b1⟩
    have H1 := Lib.hid b1
    clear b1
    go_wp2_with fail
    refine (putX_any w1 d bs (x : Int) (y : Int) (HW.out.on H1.out) HM.out.2).mono ?_
    rintro e w2 ⟨rfl, hw2, k2⟩
    have H2 := Lib.hid (And.intro hw2 k2)
    clear hw2 k2
    go_wp2
    go_ret
    have h2 := H2.out.1
    rw [putL, if_pos HM.out.1, Int.toNat_natCast, Int.toNat_natCast] at h2
    refine ⟨?_, h2, (Kept.of_below H1.out _).trans H2.out.2 (fun _ _ e => e)⟩
    rw [putE, if_pos HM.out.1]
    rfl

/-- what a symbol's put tells -/
def SymPutX (w : World) (d : Nat) (L : List En) (s : Sym) (bs : List Int) (e : Ending) (w' : World) : Prop :=
  e = .returned (.int .i64 0) ∧ Wx w' d (bs ++ symBits L s) ∧ Kept (fun i => i = d) w w'
set_option maxRecDepth 10000 in
set_option maxHeartbeats 1600000 in
theorem symPutX_any (w : World) (lo hi t d : Nat) (B V bs : List Int) (s : Sym) (h : Tb w lo hi t B V (codes B V)) (hv : Valid B V) (hw : Wx w d bs) (hl : bs.length ≤ 30900) (hs : s.2.2.natAbs ≤ 2046) (hf : (fnd (codes B V) (s.2.1 : Int)).isSome = true) :
    Calls Tryd.prog 44 #[symV s, .pointer (some ⟨d, 0, none⟩), .pointer (some ⟨t, 0, none⟩)] w (SymPutX w d (codes B V) s bs) := by
  unfold SymPutX symBits
  obtain ⟨tt, v, z⟩ := s
  dsimp only at hs hf ⊢
  have hsz := diff_size hs
  have hcl := code_len hv (v : Int)
  have hmay := may_num z (by omega)
  obtain ⟨w1, hw1⟩ : ∃ w1, w1 = w.alloc (.cells #[.int .i64 (tt : Int), .int .i64 (v : Int), .int .i64 z] 74) := ⟨_, rfl⟩
  have bel : Below w.heap.size w w1 := by rw [hw1]; exact on_alloc _ _
  have hb : Box w1 w.heap.size 74 #[.int .i64 (tt : Int), .int .i64 (v : Int), .int .i64 z] := by rw [hw1]; exact Box.made _ _ _
  have HP := Lib.hid (putTX_any w1 lo hi t d B V bs (v : Int) (h.on bel) hv (hw.on bel) (by omega))
  unfold PutTX at HP
  rw [if_pos hf] at HP
  obtain ⟨cb, hcb⟩ : ∃ cb, cb = bs ++ dig (codeOf (codes B V) v).1 (codeOf (codes B V) v).2 := ⟨_, rfl⟩
  have hcbl : cb.length ≤ 31000 := by rw [hcb, List.length_append, dig_len]; omega
  rw [← hcb] at HP
  have hz1 : isInt z := by unfold isInt; omega
  have hzlo : -2046 ≤ z ∧ z ≤ 2046 := by omega
  obtain ⟨y, hy⟩ : ∃ y, y = sz z := ⟨_, rfl⟩
  obtain ⟨x, hx⟩ : ∃ x, x = numB z := ⟨_, rfl⟩
  have hpos : ¬ z < 0 → z = (x : Int) := by rw [hx]; unfold numB; intro h; rw [if_neg h]; omega
  obtain ⟨q, hq⟩ : ∃ q : Nat, q = 2 ^ y := ⟨_, rfl⟩
  have hneg : z < 0 → z + ((q : Int) - 1) = (x : Int) := by
    intro h
    have h1 := (sz_le (z := z)).1 (Nat.le_refl _)
    rw [hx, hq, hy]
    unfold numB
    rw [if_pos h]
    omega
  rw [← List.append_assoc, ← hcb]
  rw [← hy] at hsz hmay ⊢
  rw [← hx] at hmay ⊢
  have hq1 : q ≤ 2048 := by rw [hq]; exact Nat.le_trans (Nat.pow_le_pow_right (by omega) hsz) (by decide)
  have hq2 : (2 : Int) ^ y = (q : Int) := by rw [hq]; simp
  have HW := Lib.hid (And.intro hb (And.intro bel (And.intro hw1 (And.intro hcbl (And.intro hz1 (And.intro hmay (And.intro hy hw.lt)))))))
  have HX := Lib.hid (And.intro hpos hneg)
  have c1 : (w.alloc (.cells #[.int .i64 (tt : Int), .int .i64 (v : Int), .int .i64 z] 74)).cell? ⟨w.heap.size, 1, none⟩ = some (.int .i64 (v : Int)) := by rw [← hw1]; exact hb.cell 1
  have hsv : symV (tt, v, z) = .agg #[.int .i64 (tt : Int), .int .i64 (v : Int), .int .i64 z] := rfl
  rw [hsv]
  clear hb bel hw1 hcbl hz1 hmay hy hx hq hcb hpos hneg h hv hw hl hs hf hcl hsv
  go_enter Tryd.func44, Tryd.ntmps44
  go_wp2_with fail
  rw [← HW.out.2.2.1]
  refine HP.out.mono ?_
  rintro e w2 ⟨rfl, hw2, k2⟩
  have H2 := Lib.hid (And.intro hw2 (And.intro k2 (k2.box HW.out.1 (by have := HW.out.2.2.2.2.2.2.2; omega))))
  clear hw2 k2 c1
  go_wp2_with fail
  have HC := Lib.hid (show w2.cell? ⟨w.heap.size, 2, none⟩ = some (.int .i64 z) from H2.out.2.2.cell 2)
  refine wp_region_held_drew (S := fun w' => w' = w2.drew) (by kernel_rfl) rfl fun q0 => ?_
  refine take_to (i := 0) (v := .pointer (some ⟨w.heap.size, 2, none⟩)) rfl (by kernel_rfl) (by kernel_rfl) (by kernel_rfl) (fun _ _ _ h => h) (Or.inl ⟨by rfl, fun w' hS => by go_simp⟩) q0 (some 18) rfl ?_
  try simp only [Act.put, List.setIfInBounds_toArray, List.set_cons_zero, List.set_cons_succ]
  refine take_to (i := 1) (v := .int .i64 z) rfl (by kernel_rfl) (by kernel_rfl) (by kernel_rfl) (fun _ _ _ h => h) (Or.inl ⟨by rfl, fun w' hS => by have := HC.out; go_simp⟩) q0 (some 19) rfl ?_
  try simp only [Act.put, List.setIfInBounds_toArray, List.set_cons_zero, List.set_cons_succ]
  refine take_to (i := 2) (v := .pointer (some ⟨w.heap.size, 2, none⟩)) rfl (by kernel_rfl) (by kernel_rfl) (by kernel_rfl) (fun _ _ _ h => h) (Or.inl ⟨by rfl, fun w' hS => by go_simp⟩) q0 (some 20) rfl ?_
  try simp only [Act.put, List.setIfInBounds_toArray, List.set_cons_zero, List.set_cons_succ]
  refine take_to (i := 3) (v := .int .i64 z) rfl (by kernel_rfl) (by kernel_rfl) (by kernel_rfl) (fun _ _ _ h => h) (Or.inl ⟨by rfl, fun w' hS => by have := HC.out; go_simp⟩) q0 (some 21) rfl ?_
  try simp only [Act.put, List.setIfInBounds_toArray, List.set_cons_zero, List.set_cons_succ]
  refine wpAnyH_ready (rs := [4]) (by kernel_rfl) (by simp) ?_
  refine AllReadyH.cons rfl (fun K hK => ?_) AllReadyH.nil
  go_simp
  refine (size_any _ z HW.out.2.2.2.2.1).mono ?_
  rintro e w3 ⟨rfl, rfl⟩
  rw [← HW.out.2.2.2.2.2.2.1]
  refine hK.out _ _ rfl fun q1 => ?_
  clear hK K
  try simp only [Act.put, List.setIfInBounds_toArray, List.set_cons_zero, List.set_cons_succ]
  refine take_to (i := 5) (v := .int .i64 z) rfl (by kernel_rfl) (by kernel_rfl) (by kernel_rfl) (fun _ _ _ h => h) (Or.inl ⟨by rfl, fun w' hS => by go_simp⟩) q1 (some 8) rfl ?_
  try simp only [Act.put, List.setIfInBounds_toArray, List.set_cons_zero, List.set_cons_succ]
  refine take_to (i := 6) (v := .int .i64 (y : Int)) rfl (by kernel_rfl) (by kernel_rfl) (by kernel_rfl) (fun _ _ _ h => h) (Or.inl ⟨by rfl, fun w' hS => by go_simp⟩) q1 (some 9) rfl ?_
  try simp only [Act.put, List.setIfInBounds_toArray, List.set_cons_zero, List.set_cons_succ]
  refine wpAnyH_done (by kernel_rfl) ?_ _
  clear q0 q1
  have HW2 := Lib.hid (And.intro (H2.out.1.on (on_drew w2)) (H2.out.2.1.trans (Kept.of_below (on_drew w2) (fun _ => False)) (fun _ _ h => h.elim)))
  obtain ⟨w4, hw4⟩ : ∃ w4, w4 = w2.drew := ⟨_, rfl⟩
  rw [← hw4] at HW2 ⊢
  clear hw4 HC
  by_cases hn : z < 0
  · have hxz := HX.out.2 hn
    go_wp2_with fail
    refine (putX_any w4 d cb (x : Int) (y : Int) HW2.out.1 HW.out.2.2.2.1).mono ?_
    rintro e w5 ⟨rfl, hw5, k5⟩
    have H5 := Lib.hid (And.intro hw5 k5)
    clear hw5 k5
    go_wp2
    go_ret
    have h5 := H5.out.1
    rw [putL, if_pos HW.out.2.2.2.2.2.1, Int.toNat_natCast, Int.toNat_natCast] at h5
    refine ⟨?_, h5, ((Kept.of_below HW.out.2.1 (fun i => i = d)).trans (HW2.out.2.trans H5.out.2 (fun _ _ e => e)) (fun _ _ e => e))⟩
    rw [putE, if_pos HW.out.2.2.2.2.2.1]
    rfl
  · have hxz := HX.out.1 (by omega)
    clear HX
    subst hxz
    go_wp2_with fail
    refine (putX_any w4 d cb (x : Int) (y : Int) HW2.out.1 HW.out.2.2.2.1).mono ?_
    rintro e w5 ⟨rfl, hw5, k5⟩
    have H5 := Lib.hid (And.intro hw5 k5)
    clear hw5 k5
    go_wp2
    go_ret
    have h5 := H5.out.1
    rw [putL, if_pos HW.out.2.2.2.2.2.1, Int.toNat_natCast, Int.toNat_natCast] at h5
    refine ⟨?_, h5, ((Kept.of_below HW.out.2.1 (fun i => i = d)).trans (HW2.out.2.trans H5.out.2 (fun _ _ e => e)) (fun _ _ e => e))⟩
    rw [putE, if_pos HW.out.2.2.2.2.2.1]
    rfl

section
variable (w : World) (g13 g5 g11 lo hi t d : Nat) (B V bs : List Int) (s : Sym)
set_option maxRecDepth 10000 in
set_option maxHeartbeats 1600000 in
theorem put2X_any (h : Tb w lo hi t B V (codes B V)) (hv : Valid B V) (hw : Wx w d bs) (hl : bs.length ≤ 30900) (hn : s.2.2.natAbs ≤ 2046) (hf : (fnd (codes B V) (s.2.1 : Int)).isSome = true) (h13 : Box w g13 31 #[.int .i64 0])
    (h5 : w.cell? ⟨g5, 0, none⟩ = some (.pointer (some ⟨d, 0, none⟩))) (h11 : w.cell? ⟨g11, s.1, none⟩ = some (.pointer (some ⟨t, 0, none⟩))) (hs : s.1 < 2) (hd5 : d ≠ g5) (hd11 : d ≠ g11) (h135 : g13 ≠ g5) (h1311 : g13 ≠ g11) :
    Calls Tryd.prog 43 #[symV s, .pointer (some ⟨g13, 0, none⟩), .pointer (some ⟨g5, 0, none⟩), .pointer (some ⟨g11, 0, none⟩)] w fun e w' => e = .returned (.tuple #[]) ∧ (Box w' g13 31 #[.int .i64 0] ∧ Wx w' d (bs ++ symBits (codes B V) s)) ∧ Kept (fun i => i = d ∨ i = g13) w w' := by
  have hg11 : g11 < w.heap.size := World.block_lt_of_cell? w _ h11
  have hg5 : g5 < w.heap.size := World.block_lt_of_cell? w _ h5
  obtain ⟨cs, hcs⟩ : ∃ cs : Array Value, cs = #[.int .i64 (s.1 : Int), .int .i64 (s.2.1 : Int), .int .i64 s.2.2] := ⟨_, rfl⟩
  have hsv : symV s = .agg cs := by rw [hcs]; rfl
  have hcs3 : cs.size = 3 := by rw [hcs]; rfl
  obtain ⟨w1, hw1⟩ : ∃ w1, w1 = w.alloc (.cells cs 74) := ⟨_, rfl⟩
  have bel : Below w.heap.size w w1 := by rw [hw1]; exact on_alloc _ _
  have hb : Box w1 w.heap.size 74 cs := by rw [hw1]; exact Box.made _ _ _
  have hdw : d ≠ w.heap.size := by have := hw.lt; omega
  have h13w : g13 ≠ w.heap.size := by have := h13.lt; omega
  have hd13 : d ≠ g13 := by
    obtain ⟨_, hbd⟩ := hw.box
    exact hbd.apart h13 (by decide)
  have HF := Lib.hid (fun w' (k : Kept (fun i => i = d ∨ i = g13) w1 w') => (show Box w' w.heap.size 74 cs ∧ w'.cell? ⟨w.heap.size, 0, none⟩ = some (.int .i64 (s.1 : Int)) ∧ w'.cell? ⟨g5, 0, none⟩ = some (.pointer (some ⟨d, 0, none⟩)) ∧ w'.cell? ⟨g11, s.1, none⟩ = some (.pointer (some ⟨t, 0, none⟩)) from by
    have hb' := k.box hb (by omega)
    refine ⟨hb', by rw [hb'.cell 0, hcs]; rfl, ?_, ?_⟩
    · exact ((k.cell (p := ⟨g5, 0, none⟩) (Nat.lt_of_lt_of_le hg5 bel.size) (fun h => h.elim (fun e => hd5 e.symm) (fun e => h135 e.symm))).trans (bel.cell (p := ⟨g5, 0, none⟩) hg5)).trans h5
    · exact ((k.cell (p := ⟨g11, s.1, none⟩) (Nat.lt_of_lt_of_le hg11 bel.size) (fun h => h.elim (fun e => hd11 e.symm) (fun e => h1311 e.symm))).trans (bel.cell (p := ⟨g11, s.1, none⟩) hg11)).trans h11))
  have HC := Lib.hid (fun w' (b : Below w1.heap.size w1 w') => symPutX_any w' lo hi t d B V bs s ((h.on bel).on b) hv ((hw.on bel).on b) hl hn hf)
  rw [hsv] at HC ⊢
  have c0 : (w.alloc (.cells cs 74)).cell? ⟨g13, 0, none⟩ = some (.int .i64 0) := by rw [← hw1]; exact (h13.on bel).cell 0
  have H1 := Lib.hid (And.intro bel (And.intro hw1 (And.intro (h13.on bel) (And.intro hd13 hcs3))))
  obtain ⟨tt, htt⟩ : ∃ tt, tt = s.1 := ⟨_, rfl⟩
  rw [← htt] at HF hs
  have hti : (tt : Int) < 2 := by omega
  clear hg11 hg5 hsv bel hb hdw h13w h hv hw hl hn hf h13 h5 h11 hs hd5 hd11 h135 h1311 hcs hcs3 hw1 hd13 htt
  go_enter Tryd.func43, Tryd.ntmps43
  go_wp2_with fail
  rw [← H1.out.2.1]
  have q0 : Hid (Kept (fun i => i = d ∨ i = g13) w1 w1.drew) := Lib.hid (Kept.of_below (on_drew w1) _)
  refine wp_region_held_drew (S := fun w' => Hid (Kept (fun i => i = d ∨ i = g13) w1 w')) (by kernel_rfl) q0 fun q0 => ?_
  refine take_to (i := 0) (v := .agg cs) rfl (by kernel_rfl) (by kernel_rfl) (by kernel_rfl) (fun _ _ _ h => h) (yieldsIf_load7 (by rfl) 74 (.tmp 4) rfl (.pointer (some ⟨w.heap.size, 0, none⟩)) rfl (.agg cs) (fun w' h => load74 (HF.out w' h.out).1 H1.out.2.2.2.2)) q0 (some 7) rfl ?_
  try simp only [Act.put, List.setIfInBounds_toArray, List.set_cons_zero, List.set_cons_succ]
  refine take_to (i := 1) (v := .pointer (some ⟨d, 0, none⟩)) rfl (by kernel_rfl) (by kernel_rfl) (by kernel_rfl) (fun _ _ _ h => h) (Or.inl ⟨by rfl, fun w' hS => by have := (HF.out w' hS.out).2.2.1; go_simp⟩) q0 (some 8) rfl ?_
  try simp only [Act.put, List.setIfInBounds_toArray, List.set_cons_zero, List.set_cons_succ]
  refine take_to (i := 2) (v := .pointer (some ⟨w.heap.size, 0, none⟩)) rfl (by kernel_rfl) (by kernel_rfl) (by kernel_rfl) (fun _ _ _ h => h) (Or.inl ⟨by rfl, fun w' hS => by go_simp⟩) q0 (some 9) rfl ?_
  try simp only [Act.put, List.setIfInBounds_toArray, List.set_cons_zero, List.set_cons_succ]
  refine take_to (i := 3) (v := .int .i64 (tt : Int)) rfl (by kernel_rfl) (by kernel_rfl) (by kernel_rfl) (fun _ _ _ h => h) (Or.inl ⟨by rfl, fun w' hS => by have := (HF.out w' hS.out).2.1; go_simp⟩) q0 (some 10) rfl ?_
  try simp only [Act.put, List.setIfInBounds_toArray, List.set_cons_zero, List.set_cons_succ]
  refine take_to (i := 4) (v := .pointer (some ⟨g11, tt, none⟩)) rfl (by kernel_rfl) (by kernel_rfl) (by kernel_rfl) (fun _ _ _ h => h) (Or.inl ⟨by rfl, fun w' hS => by go_simp⟩) q0 (some 11) rfl ?_
  try simp only [Act.put, List.setIfInBounds_toArray, List.set_cons_zero, List.set_cons_succ]
  refine take_to (i := 5) (v := .pointer (some ⟨t, 0, none⟩)) rfl (by kernel_rfl) (by kernel_rfl) (by kernel_rfl) (fun _ _ _ h => h) (Or.inl ⟨by rfl, fun w' hS => by have := (HF.out w' hS.out).2.2.2; go_simp⟩) q0 (some 12) rfl ?_
  try simp only [Act.put, List.setIfInBounds_toArray, List.set_cons_zero, List.set_cons_succ]
  refine wpAnyH_ready (rs := [6]) (by kernel_rfl) (by simp) ?_
  refine AllReadyH.cons rfl (fun K hK => ?_) AllReadyH.nil
  go_simp
  refine (HC.out _ (on_drew w1)).mono ?_
  rintro e w3 ⟨rfl, hw3, k3⟩
  have H3 := Lib.hid (And.intro hw3 (And.intro ((Kept.of_below (on_drew w1) (fun i => i = d)).trans k3 (fun _ _ h => h)) (k3.box (H1.out.2.2.1.on (on_drew w1)) (fun e => H1.out.2.2.2.1 e.symm))))
  have q1 : Hid (Kept (fun i => i = d ∨ i = g13) w1 w3) := Lib.hid (H3.out.2.1.mono (fun i _ h => Or.inl h))
  clear hw3 k3
  refine hK.out _ _ q1 fun _ => ?_
  clear hK K
  try simp only [Act.put, List.setIfInBounds_toArray, List.set_cons_zero, List.set_cons_succ]
  refine wpAnyH_ready (rs := [7]) (by kernel_rfl) (by simp) ?_
  refine AllReadyH.cons rfl (fun K hK => ?_) AllReadyH.nil
  have f0 := H3.out.2.2.free 0
  have c3 : w3.cell? ⟨g13, 0, none⟩ = some (.int .i64 0) := H3.out.2.2.cell 0
  rw [if_pos (by rfl)]
  go_simp
  have kk : Kept (fun i => i = g13) w3 (w3.setCell ⟨g13, 0, none⟩ (.int .i64 0)) := (Kept.refl (fun i => i = g13) w3).setCell (p := ⟨g13, 0, none⟩) (fun _ => rfl) _
  have H4 := Lib.hid (And.intro (H3.out.2.2.put 0 (.int .i64 0)) (And.intro (H3.out.1.kept kk H1.out.2.2.2.1 (fun i cs e h => by
  have e : i = g13 := e
  subst e
  have hbb : w3.heap[i]? = some (.cells #[.int .i64 0] 31 (0, 0)) := H3.out.2.2
  rw [hbb] at h
  simp at h)) ((Kept.of_below H1.out.1 (fun i => i = d ∨ i = g13)).trans (q1.out.trans (kk.mono (fun i _ h => Or.inr h)) (fun _ _ h => h)) (fun _ _ h => h))))
  have q2 : Hid (Kept (fun i => i = d ∨ i = g13) w1 (w3.setCell ⟨g13, 0, none⟩ (.int .i64 0))) := Lib.hid (q1.out.trans (kk.mono (fun i _ h => Or.inr h)) (fun _ _ h => h))
  clear kk
  refine hK.out _ _ q2 fun _ => ?_
  clear hK K
  try simp only [Act.put, List.setIfInBounds_toArray, List.set_cons_zero, List.set_cons_succ]
  refine wpAnyH_done (by kernel_rfl) ?_ _
  go_wp2
  go_end0
  exact ⟨rfl, ⟨H4.out.1, H4.out.2.1⟩, H4.out.2.2⟩
end

section
variable {w : World} {g11 g12 g13 g5 d lo hi t lo' hi' t' : Nat} {B V B' V' bs : List Int} {s : Sym} {f : Bool}
theorem twoX_step (h : TwoT w g11 lo hi t lo' hi' t' B V B' V') (hv : Valid B V) (hv' : Valid B' V') (hs : SymOk s) (hf : foundS (codes B V) (codes B' V') s = true) (hw : Wx w d bs) (hl : bs.length ≤ 30900) (h13 : Box w g13 31 #[.int .i64 0])
    (h5 : w.cell? ⟨g5, 0, none⟩ = some (.pointer (some ⟨d, 0, none⟩))) (hd5 : d ≠ g5) (hd11 : d ≠ g11) (h135 : g13 ≠ g5) (h1311 : g13 ≠ g11) (h2 : g13 < lo ∨ hi ≤ g13) (h3 : g13 < lo' ∨ hi' ≤ g13) (hd2 : d < lo ∨ hi ≤ d) (hd3 : d < lo' ∨ hi' ≤ d) :
    Calls Tryd.prog 43 (#[symV s] ++ #[.pointer (some ⟨g13, 0, none⟩), .pointer (some ⟨g5, 0, none⟩), .pointer (some ⟨g11, 0, none⟩)]) w fun e w' => e = .returned (.tuple #[]) ∧ (TwoT w' g11 lo hi t lo' hi' t' B V B' V' ∧ Box w' g13 31 #[.int .i64 0] ∧ w'.cell? ⟨g5, 0, none⟩ = some (.pointer (some ⟨d, 0, none⟩)) ∧ Wx w' d (bs ++ symB (codes B V) (codes B' V') s)) ∧ Kept (fun i => i = d ∨ i = g13) w w' := by
  unfold foundS at hf
  unfold symB
  have h5l : g5 < w.heap.size := World.block_lt_of_cell? w _ h5
  have fin : ∀ w', Kept (fun i => i = d ∨ i = g13) w w' → TwoT w' g11 lo hi t lo' hi' t' B V B' V' ∧ w'.cell? ⟨g5, 0, none⟩ = some (.pointer (some ⟨d, 0, none⟩)) := fun w' k =>
    ⟨h.kept k (fun e => e.elim (fun e => hd11 e.symm) (fun e => h1311 e.symm)) (fun b _ _ e => by rcases e with e | e <;> omega) (fun b _ _ e => by rcases e with e | e <;> omega), (k.cell (p := ⟨g5, 0, none⟩) h5l (fun e => e.elim (fun e => hd5 e.symm) (fun e => h135 e.symm))).trans h5⟩
  by_cases h0 : s.1 = 0
  · rw [if_pos h0] at hf ⊢
    refine (put2X_any w g13 g5 g11 lo hi t d B V bs s h.t1 hv hw hl hs.num hf h13 h5 (by rw [h0]; exact h.c0) hs.tab hd5 hd11 h135 h1311).mono ?_
    rintro e w' ⟨rfl, ⟨hb, hw'⟩, k⟩
    exact ⟨rfl, ⟨(fin w' k).1, hb, (fin w' k).2, hw'⟩, k⟩
  · have h1 : s.1 = 1 := by have := hs.tab; omega
    rw [if_neg h0] at hf ⊢
    refine (put2X_any w g13 g5 g11 lo' hi' t' d B' V' bs s h.t2 hv' hw hl hs.num hf h13 h5 (by rw [h1]; exact h.c1) hs.tab hd5 hd11 h135 h1311).mono ?_
    rintro e w' ⟨rfl, ⟨hb, hw'⟩, k⟩
    exact ⟨rfl, ⟨(fin w' k).1, hb, (fin w' k).2, hw'⟩, k⟩
end


/-- what Put of a block tells -/
def PutBX (w : World) (d : Nat) (Ld La : List En) (prev : Int) (b bs : List Int) (e : Ending) (w' : World) : Prop :=
  e = .returned (.int .i64 (putBE Ld La prev b)) ∧ Wx w' d (putBL Ld La bs prev b) ∧ Kept (fun i => i = d) w w'

section
variable (w : World) (d lo hi t lo' hi' t' : Nat) (B V B' V' bs : List Int) (prev : Int) (b : List Int)
set_option maxRecDepth 10000 in
set_option maxHeartbeats 3200000 in
theorem putBX_any (hT : Tab w) (hb : b.length = 64) (h : Tb w lo hi t B V (codes B V)) (hv : Valid B V) (h' : Tb w lo' hi' t' B' V' (codes B' V')) (hv' : Valid B' V') (hw : Wx w d bs) (hl : bs.length ≤ 29000) (hd2 : d < lo ∨ hi ≤ d) (hd3 : d < lo' ∨ hi' ≤ d) (hhi : hi ≤ w.heap.size) (hhi' : hi' ≤ w.heap.size) (hd0 : d ≠ 0) :
    Calls Tryd.prog 23 #[.pointer (some ⟨d, 0, none⟩), .pointer (some ⟨t, 0, none⟩), .pointer (some ⟨t', 0, none⟩), .int .i64 prev, blkV b] w (PutBX w d (codes B V) (codes B' V') prev b bs) := by
  unfold PutBX
  obtain ⟨cs, hcs⟩ : ∃ cs, cs = (cellsI b).toArray := ⟨_, rfl⟩
  have hvc : blkV b = .agg cs := by rw [hcs]; rfl
  obtain ⟨w1, hw1⟩ : ∃ w1, w1 = (w.alloc (.cells #[.pointer (some ⟨d, 0, none⟩)] 47)).alloc (.cells cs 23) := ⟨_, rfl⟩
  have bel : Below w.heap.size w w1 := by rw [hw1]; exact on_trans (on_alloc _ _) (on_alloc _ _)
  have hs1 : w1.heap.size = w.heap.size + 2 := by rw [hw1]; simp
  have hB : Blk w1 (w.heap.size + 1) b := ⟨by rw [hw1, ← hcs]; have := Box.made (w.alloc (.cells #[.pointer (some ⟨d, 0, none⟩)] 47)) 23 cs; rwa [show (w.alloc (.cells #[.pointer (some ⟨d, 0, none⟩)] 47)).heap.size = w.heap.size + 1 by simp] at this, hb⟩
  have h5 : Box w1 w.heap.size 47 #[.pointer (some ⟨d, 0, none⟩)] := by rw [hw1]; exact (Box.made _ _ _).on (on_alloc _ _)
  have HB := Lib.hid (And.intro hB (And.intro bel (And.intro hw1 (And.intro (hT.on bel) (And.intro (h.on bel) (And.intro (h'.on bel) (And.intro (hw.on bel) (And.intro h5 hs1))))))))
  have HI := Lib.hid (And.intro hb (And.intro hv (And.intro hv' (And.intro hl (And.intro hd2 (And.intro hd3 (And.intro hhi (And.intro hhi' (And.intro hd0 (And.intro hw.lt hT.zero))))))))))
  have HL := Lib.hid (show (Instr.loadAt 23 (.pointer (some ⟨w.heap.size + 1, 0, none⟩))).run Tryd.prog w1 = .ok (blkV b) w1 from hB.load)
  have HV := Lib.hid hvc
  rw [hvc]
  clear hvc hcs hw1 bel hs1 hB h5 hT hb h hv h' hv' hw hl hd2 hd3 hhi hhi' hd0
  by_cases hin : In prev
  · have hd1 : decide (In prev) = true := by simpa using hin
    have HD := Lib.hid (And.intro hd1 hin)
    clear hd1 hin
    go_enter Tryd.func23, Tryd.ntmps23
    go_wp2_with fail
    rw [← HB.out.2.2.1]
    refine (inRange_any _ prev).mono ?_
    rintro e w2 ⟨rfl, rfl⟩
    rw [HD.out.1]
    go_wp2_with (first
      | ((with_reducible refine wpList_load_when (op := ⟨some 18, _, _, _, _, _⟩) ?hw 23 (.tmp 9) rfl (.pointer (some ⟨w.heap.size + 1, 0, none⟩)) rfl (blkV b) HL.out ?_)
         case hw => rfl)
      | fail)
    refine (right64_any _ b HI.out.1).mono ?_
    rintro e w2 ⟨rfl, b2⟩
    have H2 := Lib.hid b2
    clear b2
    by_cases hr : RightB b
    · have hd1 : decide (RightB b) = true := by simpa using hr
      rw [hd1]
      have HR := Lib.hid hr
      clear hd1 hr
      have hz90 : ∀ w, (zeroValue 90).run Tryd.prog w = .ok (.agg #[.pointer none, .pointer none]) w := fun w => by kernel_rfl
      have hb90 : ∀ w, (Instr.build 90 #[(0, .pointer (some ⟨t, 0, none⟩)), (1, .pointer (some ⟨t', 0, none⟩))]).run Tryd.prog w = .ok (.agg #[.pointer (some ⟨t, 0, none⟩), .pointer (some ⟨t', 0, none⟩)]) w := fun w => run_build w 90 _ _ (by show Program.built _ _ _ = _; kernel_rfl)
      have hmf : ∀ (fn : Fn) (first cap : Array Value) (w : World), (Instr.makeFunc fn first cap).run Tryd.prog w = .ok (.func fn first cap) w := fun _ _ _ _ => rfl
      obtain ⟨w3, hw3⟩ : ∃ w3, w3 = (w2.alloc (.cells #[.pointer (some ⟨t, 0, none⟩), .pointer (some ⟨t', 0, none⟩)] 90)).alloc (.cells #[.bool true] 4) := ⟨_, rfl⟩
      have b3 : Below w2.heap.size w2 w3 := by rw [hw3]; exact on_trans (on_alloc _ _) (on_alloc _ _)
      have HL3 := Lib.hid (show (Instr.loadAt 23 (.pointer (some ⟨w.heap.size + 1, 0, none⟩))).run Tryd.prog w3 = .ok (blkV b) w3 from ((HB.out.1.on H2.out).on b3).load)
      have H3 := Lib.hid (And.intro hw3 b3)
      clear hw3 b3
      go_wp2_with (first
        | (with_reducible refine wpList_load_to (op := ⟨some 26, _, _, _, _, _⟩) rfl 23 (.tmp 9) rfl (.pointer (some ⟨w.heap.size + 1, 0, none⟩)) rfl (blkV b) (by rw [← H3.out.1]; exact HL3.out) ?_)
        | fail)
      rw [← H3.out.1]
      have hsz2 := H2.out.size
      have hsz1 := HB.out.2.2.2.2.2.2.2.2
      have hT2 : TwoT w3 w2.heap.size lo hi t lo' hi' t' B V B' V' := by
        have hbx : Box w3 w2.heap.size 90 #[.pointer (some ⟨t, 0, none⟩), .pointer (some ⟨t', 0, none⟩)] := by rw [H3.out.1]; exact (Box.made _ _ _).on (on_alloc _ _)
        exact ⟨hbx.cell 0, hbx.cell 1, (HB.out.2.2.2.2.1.on H2.out).on H3.out.2, (HB.out.2.2.2.2.2.1.on H2.out).on H3.out.2⟩
      have hok : Box w3 (w2.heap.size + 1) 4 #[.bool true] := by
        have := Box.made (w2.alloc (.cells #[.pointer (some ⟨t, 0, none⟩), .pointer (some ⟨t', 0, none⟩)] 90)) 4 #[.bool true]
        rw [show (w2.alloc (.cells #[.pointer (some ⟨t, 0, none⟩), .pointer (some ⟨t', 0, none⟩)] 90)).heap.size = w2.heap.size + 1 by simp] at this
        rw [H3.out.1]
        exact this
      obtain ⟨g11, hg11⟩ : ∃ g11, g11 = w2.heap.size := ⟨_, rfl⟩
      obtain ⟨hhi, hhi'⟩ : hi ≤ w.heap.size ∧ hi' ≤ w.heap.size := ⟨HI.out.2.2.2.2.2.2.1, HI.out.2.2.2.2.2.2.2.1⟩
      rw [← hg11] at hT2 hok ⊢
      have hokl := hok.lt
      have h30 : 0 < w3.heap.size := by omega
      have HX := Lib.hid (And.intro hsz2 (And.intro hsz1 (And.intro hg11 (And.intro hhi (And.intro hhi' hokl)))))
      refine (each_any (fun i => i = g11 + 1) (fun l w => TwoT w g11 lo hi t lo' hi' t' B V B' V' ∧ Box w (g11 + 1) 4 #[.bool (l.all (foundS (codes B V) (codes B' V')))]) 41 #[.pointer (some ⟨g11, 0, none⟩), .pointer (some ⟨g11 + 1, 0, none⟩)] calls41 (fun l w1 w2 h k => ⟨h.1.on k, h.2.on k⟩) w3 prev b ((HB.out.2.2.2.1.on H2.out).on H3.out.2) HI.out.1 HR.out HD.out.2 ?_ ⟨hT2, hok⟩ ?_).mono ?_
      · intro i hi
        have hi : i = g11 + 1 := hi
        omega
      · intro l s w6 ⟨r, hr⟩ hc hk
        have hs : SymOk s := allS_ok HR.out HD.out.2 s (by rw [← hr]; simp)
        refine (one_step hc.1 HI.out.2.1 HI.out.2.2.1 hs hc.2 (by omega) (.inr (by omega)) (.inr (by omega))).mono ?_
        rintro e w7 ⟨rfl, ⟨h7, h8⟩, k7⟩
        refine ⟨rfl, ⟨h7, ?_⟩, k7⟩
        rw [List.all_append, List.all_cons, List.all_nil, Bool.and_true]
        exact h8
      rintro e w4 ⟨rfl, ⟨hT4, hok4⟩, k4⟩
      obtain ⟨fo, hfo⟩ : ∃ fo, fo = (allS prev b).all (foundS (codes B V) (codes B' V')) := ⟨_, rfl⟩
      rw [← hfo] at hok4
      have c4 : w4.cell? ⟨g11 + 1, 0, none⟩ = some (.bool fo) := hok4.cell 0
      have bel4 : Below w1.heap.size w1 w4 := by
        have b13 := on_trans H2.out H3.out.2
        exact b13.trans (k4.below b13.size (fun i hi e => by omega))
      have H4 := Lib.hid (And.intro hT4 (And.intro bel4 (And.intro hfo k4.size)))
      clear hT2 hok hT4 hok4 k4 bel4 hfo hsz2 hsz1 hg11 hhi hhi' hokl h30
      cases fo with
      | false =>
        have hE : putBE (codes B V) (codes B' V') prev b = 6 := by unfold putBE; rw [if_pos ⟨HD.out.2, HR.out⟩, ← H4.out.2.2.1]; rfl
        have HE := Lib.hid hE
        clear hE
        go_wp2
        go_ret
        unfold putBL
        rw [HE.out, if_neg (by decide)]
        exact ⟨rfl, HB.out.2.2.2.2.2.2.1.on H4.out.2.1, Kept.of_below (on_trans HB.out.2.1 H4.out.2.1) _⟩
      | true =>
        have hz31 : ∀ w, (zeroValue 31).run Tryd.prog w = .ok (.int .i64 0) w := fun w => by kernel_rfl
        obtain ⟨w5, hw5⟩ : ∃ w5, w5 = w4.alloc (.cells #[.int .i64 0] 31) := ⟨_, rfl⟩
        have b5 : Below w4.heap.size w4 w5 := by rw [hw5]; exact on_alloc _ _
        have H5 := Lib.hid (And.intro hw5 b5)
        have HL5 := Lib.hid (show (Instr.loadAt 23 (.pointer (some ⟨w.heap.size + 1, 0, none⟩))).run Tryd.prog w5 = .ok (blkV b) w5 from ((HB.out.1.on H4.out.2.1).on b5).load)
        clear hw5 b5
        go_wp2_with (first
          | (with_reducible refine wpList_load_to (op := ⟨some 32, _, _, _, _, _⟩) rfl 23 (.tmp 9) rfl (.pointer (some ⟨w.heap.size + 1, 0, none⟩)) rfl (blkV b) (by rw [← H5.out.1]; exact HL5.out) ?_)
          | fail)
        rw [← H5.out.1]
        obtain ⟨hsz2, hsz1, hg11, hhi, hhi', hokl⟩ := HX.out
        have hsz4 := H4.out.2.2.2
        have hall : ∀ s ∈ allS prev b, foundS (codes B V) (codes B' V') s = true := List.all_eq_true.1 H4.out.2.2.1.symm
        have h5b := HB.out.2.2.2.2.2.2.2.1.on (on_trans H4.out.2.1 H5.out.2)
        obtain ⟨g13, hg13⟩ : ∃ g13, g13 = w4.heap.size := ⟨_, rfl⟩
        have h13 : Box w5 g13 31 #[.int .i64 0] := by rw [H5.out.1, hg13]; exact Box.made _ _ _
        rw [← hg13]
        have hdl := HI.out.2.2.2.2.2.2.2.2.2.1
        have hd0 := HI.out.2.2.2.2.2.2.2.2.1
        have hd2 := HI.out.2.2.2.2.1
        have hd3 := HI.out.2.2.2.2.2.1
        have hbs := HI.out.2.2.2.1
        have h13l := h13.lt
        have HY := Lib.hid (And.intro hsz4 (And.intro hg13 hdl))
        refine (each_any (fun i => i = d ∨ i = g13) (fun l w6 => TwoT w6 g11 lo hi t lo' hi' t' B V B' V' ∧ Box w6 g13 31 #[.int .i64 0] ∧ w6.cell? ⟨w.heap.size, 0, none⟩ = some (.pointer (some ⟨d, 0, none⟩)) ∧ Wx w6 d (bs ++ bitsOf (codes B V) (codes B' V') l)) 43 #[.pointer (some ⟨g13, 0, none⟩), .pointer (some ⟨w.heap.size, 0, none⟩), .pointer (some ⟨g11, 0, none⟩)] calls43
          (fun l w1 w2 h k => ⟨h.1.on k, h.2.1.on k, (k.cell (p := ⟨w.heap.size, 0, none⟩) (World.block_lt_of_cell? _ _ h.2.2.1)).trans h.2.2.1, h.2.2.2.on k⟩) w5 prev b ((HB.out.2.2.2.1.on H4.out.2.1).on H5.out.2) HI.out.1 HR.out HD.out.2 ?_ ⟨H4.out.1.on H5.out.2, h13, h5b.cell 0, by simpa [bitsOf] using (HB.out.2.2.2.2.2.2.1.on H4.out.2.1).on H5.out.2⟩ ?_).mono ?_
        · intro i hi
          have hi : i = d ∨ i = g13 := hi
          omega
        · intro l s w6 ⟨r, hr⟩ hc hk
          have hmem : s ∈ allS prev b := by rw [← hr]; simp
          have hs : SymOk s := allS_ok HR.out HD.out.2 s hmem
          have hlen : l.length ≤ 64 := by
            have h1 := allS_len prev b
            have h2 := congrArg List.length hr
            simp only [List.length_append, List.length_cons, List.length_nil] at h2
            omega
          have hbl := bitsOf_len HI.out.2.1 HI.out.2.2.1 l (fun x hx => allS_ok HR.out HD.out.2 x (by rw [← hr]; simp [hx]))
          refine (twoX_step hc.1 HI.out.2.1 HI.out.2.2.1 hs (hall s hmem) hc.2.2.2 (by rw [List.length_append]; omega) hc.2.1 hc.2.2.1 (by omega) (by omega) (by omega) (by omega) (.inr (by omega)) (.inr (by omega)) hd2 hd3).mono ?_
          rintro e w7 ⟨rfl, ⟨h7, h8, h9, h10⟩, k7⟩
          refine ⟨rfl, ⟨h7, h8, h9, ?_⟩, k7⟩
          rw [bitsOf_snoc, ← List.append_assoc]
          exact h10
        rintro e w6 ⟨rfl, ⟨hT6, h136, hc6, hw6⟩, k6⟩
        have c6 : w6.cell? ⟨g13, 0, none⟩ = some (.int .i64 0) := h136.cell 0
        have H6 := Lib.hid (And.intro hw6 k6)
        have hE : putBE (codes B V) (codes B' V') prev b = 0 := by unfold putBE; rw [if_pos ⟨HD.out.2, HR.out⟩, ← H4.out.2.2.1]; rfl
        have HE := Lib.hid hE
        clear hE hT6 h136 hc6 hw6 k6 hsz2 hsz1 hg11 hhi hhi' hokl hsz4 hg13 hdl hd0 hd2 hd3 hbs h13l hall h5b h13
        go_wp2
        go_ret
        unfold putBL
        rw [HE.out, if_pos rfl]
        refine ⟨rfl, H6.out.1, ?_⟩
        obtain ⟨hsz4, hg13, hdl⟩ := HY.out
        obtain ⟨hsz2, hsz1, hg11, hhi, hhi', hokl⟩ := HX.out
        exact (Kept.of_below (on_trans HB.out.2.1 (on_trans H4.out.2.1 H5.out.2)) (fun i => i = d)).trans H6.out.2 (fun i hi h => by rcases h with h | h; exact h; omega)
    · have hd1 : decide (RightB b) = false := by simpa using hr
      rw [hd1]
      have hE : putBE (codes B V) (codes B' V') prev b = 2 := by unfold putBE; rw [if_neg (fun e => hr e.2)]
      have HE := Lib.hid hE
      clear hd1 hr hE
      go_wp2
      go_ret
      unfold putBL
      rw [HE.out, if_neg (by decide)]
      exact ⟨rfl, HB.out.2.2.2.2.2.2.1.on H2.out, Kept.of_below (on_trans HB.out.2.1 H2.out) _⟩
  · have hd1 : decide (In prev) = false := by simpa using hin
    have HD := Lib.hid hd1
    have hE : putBE (codes B V) (codes B' V') prev b = 2 := by unfold putBE; rw [if_neg (fun e => hin e.1)]
    unfold putBL
    rw [hE, if_neg (by decide)]
    clear hd1 hin hE
    go_enter Tryd.func23, Tryd.ntmps23
    go_wp2_with fail
    rw [← HB.out.2.2.1]
    refine (inRange_any _ prev).mono ?_
    rintro e w2 ⟨rfl, rfl⟩
    rw [HD.out]
    go_wp2
    go_ret
    exact ⟨rfl, HB.out.2.2.2.2.2.2.1, Kept.of_below HB.out.2.1 _⟩
end
end Go.Proofs.YthfpdebpepbejaaDoor

namespace Go.Proofs.YthfpdebpepbejaaDoor
open Go.RowKit

/-- a slice that reads as blocks -/
structure Bs (w : World) (A : Option Addr) (n : Nat) (bl : List (List Int)) : Prop where
  len : bl.length = n
  wide : ∀ x ∈ bl, x.length = 64
  at_ : 0 < n → ∃ b off, A = some ⟨b, off, none⟩ ∧ b < w.heap.size ∧ ∀ i x, bl[i]? = some x → ∀ j, j < 64 → w.cell? ⟨b, off + i * 64 + j, none⟩ = some (.int .i64 (x.getD j 0))
theorem Bs.on {w w' : World} {A : Option Addr} {n : Nat} {bl : List (List Int)} (h : Bs w A n bl) (k : Below w.heap.size w w') : Bs w' A n bl :=
  ⟨h.len, h.wide, fun h0 => by
    obtain ⟨b, off, e, hb, hc⟩ := h.at_ h0
    exact ⟨b, off, e, Nat.lt_of_lt_of_le hb k.size, fun i x hx j hj => (k.cell (p := ⟨b, off + i * 64 + j, none⟩) hb).trans (hc i x hx j hj)⟩⟩
/-- one of the blocks is loaded -/
theorem Bs.load {w : World} {b off n : Nat} {bl : List (List Int)} {k : Nat} {x : List Int} (h : Bs w (some ⟨b, off, none⟩) n bl) (hx : bl[k]? = some x) : (Instr.loadAt 23 (.pointer (some ⟨b, off + k * 64, none⟩))).run Tryd.prog w = .ok (blkV x) w := by
  have hk := (List.getElem?_eq_some_iff.1 hx).1
  have hl := h.wide x (List.mem_of_getElem? hx)
  obtain ⟨b', off', e, _, hc⟩ := h.at_ (by have := h.len; omega)
  cases e
  refine run_loadAt_mid w b (off + k * 64) 23 (cellsI x) _ (fun j u hu => ?_) Tryd.underlying23 rfl (by rw [arr23_size, cellsI_len, hl])
  have hj : j < 64 := by
    have := (List.getElem?_eq_some_iff.1 hu).1
    rw [cellsI_len, hl] at this
    exact this
  rw [hc k x hx j hj, ← hu, cellsI_get _ _ (by omega)]

/-- the cells of blocks -/
def blocksC (bl : List (List Int)) : List Value := bl.flatMap cellsI
theorem blocksC_app (a b : List (List Int)) : blocksC (a ++ b) = blocksC a ++ blocksC b := by simp [blocksC]
theorem blocksC_len : ∀ {bl : List (List Int)}, (∀ x ∈ bl, x.length = 64) → (blocksC bl).length = 64 * bl.length
  | [], _ => rfl
  | x :: r, h => by
    have h1 : blocksC (x :: r) = cellsI x ++ blocksC r := by simp [blocksC]
    rw [h1, List.length_append, cellsI_len, h x (by simp), blocksC_len (fun y hy => h y (by simp [hy])), List.length_cons]
    omega
theorem blocksC_at : ∀ {bl : List (List Int)}, (∀ x ∈ bl, x.length = 64) → ∀ {i : Nat} {x : List Int}, bl[i]? = some x → ∀ {j : Nat}, j < 64 → (blocksC bl)[i * 64 + j]? = some (.int .i64 (x.getD j 0))
  | [], _, i, x, hx, j, hj => by simp at hx
  | y :: r, h, 0, x, hx, j, hj => by
    have h1 : blocksC (y :: r) = cellsI y ++ blocksC r := by simp [blocksC]
    simp at hx
    subst hx
    have hy := h y (by simp)
    rw [h1, Nat.zero_mul, Nat.zero_add, List.getElem?_append_left (by rw [cellsI_len]; omega), cellsI_get _ _ (by omega)]
  | y :: r, h, i + 1, x, hx, j, hj => by
    have h1 : blocksC (y :: r) = cellsI y ++ blocksC r := by simp [blocksC]
    have hy := h y (by simp)
    rw [List.getElem?_cons_succ] at hx
    rw [h1, List.getElem?_append_right (by rw [cellsI_len]; omega), cellsI_len, hy, show (i + 1) * 64 + j - 64 = i * 64 + j by omega]
    exact blocksC_at (fun z hz => h z (by simp [hz])) hx hj
theorem bs_of_own {w : World} {base : Nat} {v : Value} {n : Nat} {bl : List (List Int)} (h : w.ownsRow base 23 64 v n (blocksC bl)) (hw : ∀ x ∈ bl, x.length = 64) : ∃ A c, v = .slice A n c ∧ Bs w A n bl ∧ ∀ b off, A = some ⟨b, off, none⟩ → base ≤ b := by
  have hl : bl.length = n := by have := h.1; rw [blocksC_len hw] at this; omega
  have hown := h
  rcases h.2 with ⟨rfl, rfl⟩ | ⟨g, cap, cur, rfl, hg, hh, hn, hm, _, _⟩
  · exact ⟨_, 0, rfl, ⟨hl, hw, fun h0 => by omega⟩, fun b off e => by cases e⟩
  · refine ⟨some ⟨g, 0, none⟩, cap, rfl, ⟨hl, hw, fun _ => ⟨g, 0, rfl, (Array.getElem?_eq_some_iff.1 hh).1, fun i x hx j hj => ?_⟩⟩, fun b off e => by cases e; exact hg⟩
    have hi := (List.getElem?_eq_some_iff.1 hx).1
    rw [Nat.zero_add, hown.cellAt (i * 64 + j) (by omega), blocksC_at hw hx hj]
theorem blk_info : (Tryd.prog.info? 23).map (fun i => (i.zero, i.size, i.bytes)) = some (some (blkV (List.replicate 64 0)), 64, 512) := by kernel_rfl
/-- an append of one block to a row of one's own: only the row's own block turns -/
theorem wpList_append_bk {w : World} {ops : Array Oper} {rest : List Oper} {o : Oper} {a : Act} {Q : Exit → Act → World → Prop} (hgd : o.guard = none) (s x : Operand)
    (ho : o.op = .call { callee := .builtin .append, args := #[s, x], argTypes := #[67, 67] })
    (base : Nat) (v : Value) (n : Nat) (bl : List (List Int)) (y : List Int) (hs : a.eval s = v) (hown : w.ownsRow base 23 64 v n (blocksC bl)) (g : Nat)
    (hx : a.eval x = .slice (some ⟨g, 0, none⟩) 1 1) (hb : Blk w g y) (hn : n ≤ 1000) (hbase : base ≤ w.heap.size)
    (h : ∀ v' w', w'.ownsRow base 23 64 v' (n + 1) (blocksC (bl ++ [y])) → Kept (fun i => v.ownBlock = some i) w w' → wpList Tryd.prog ops Q rest (a.put o.dst v') w') : wpList Tryd.prog ops Q (o :: rest) a w := by
  obtain ⟨i0, hi0, h2⟩ := Option.map_eq_some_iff.1 blk_info
  simp only [Prod.mk.injEq] at h2
  obtain ⟨hz0, hz1, hz2⟩ := h2
  refine wpList_append_own _ hgd s x 67 ho base 23 i0 _ 64 512 Tryd.underlying67 hi0 hz0 hz1 hz2 rfl (by omega) v n (blocksC bl) hs hown ⟨g, 0, none⟩ 1 1 (cellsI y) hx (by rw [cellsI_len, hb.len]) ?_ (cellsI_one y) (by unfold maxLen; omega) (by omega) hbase ?_
  · intro j u hu
    rw [plain_add, Nat.zero_add, hb.box.cell j]
    simpa using hu
  · intro v' w' h1 h2 _
    have e1 : blocksC (bl ++ [y]) = blocksC bl ++ cellsI y := by rw [blocksC_app]; simp [blocksC]
    rw [← e1] at h1
    exact h v' w' h1 ⟨h2.os, h2.tape, h2.output, h2.size, fun k hk hn => h2.block k hk (fun e => hn e.symm)⟩

/-- the number that a sequence of blocks ends with -/
def lastP (prev : Int) : List (List Int) → Int
  | [] => prev
  | b :: r => lastP (b.getD 0 0) r
/-- may blocks be put one behind the other? -/
def seqOK (Ld La : List En) (prev : Int) : List (List Int) → Prop
  | [] => True
  | b :: r => putBE Ld La prev b = 0 ∧ seqOK Ld La (b.getD 0 0) r
/-- the bits of blocks one behind the other -/
def seqBits (Ld La : List En) (prev : Int) : List (List Int) → List Int
  | [] => []
  | b :: r => bitsOf Ld La (allS prev b) ++ seqBits Ld La (b.getD 0 0) r
section
variable {Ld La : List En}
theorem lastP_snoc : ∀ (prev : Int) (r : List (List Int)) (b : List Int), lastP prev (r ++ [b]) = b.getD 0 0
  | _, [], _ => rfl
  | _, x :: r, b => lastP_snoc (x.getD 0 0) r b
theorem seqOK_snoc : ∀ (prev : Int) (r : List (List Int)) (b : List Int), seqOK Ld La prev r → putBE Ld La (lastP prev r) b = 0 → seqOK Ld La prev (r ++ [b])
  | _, [], _, _, h => ⟨h, trivial⟩
  | _, x :: r, b, h, h' => ⟨h.1, seqOK_snoc (x.getD 0 0) r b h.2 h'⟩
theorem seqBits_snoc : ∀ (prev : Int) (r : List (List Int)) (b : List Int), seqBits Ld La prev (r ++ [b]) = seqBits Ld La prev r ++ bitsOf Ld La (allS (lastP prev r) b)
  | prev, [], b => by simp [seqBits, lastP]
  | prev, x :: r, b => by
    show bitsOf Ld La (allS prev x) ++ seqBits Ld La (x.getD 0 0) (r ++ [b]) = _
    rw [seqBits_snoc (x.getD 0 0) r b, ← List.append_assoc]
    rfl
theorem seqOK_at : ∀ (prev : Int) (r : List (List Int)), seqOK Ld La prev r → ∀ (k : Nat) (b : List Int), r[k]? = some b → putBE Ld La (lastP prev (r.take k)) b = 0
  | prev, [], _, k, b, hb => by simp at hb
  | prev, x :: r, h, 0, b, hb => by simp at hb; subst hb; exact h.1
  | prev, x :: r, h, k + 1, b, hb => by
    rw [List.getElem?_cons_succ] at hb
    exact seqOK_at (x.getD 0 0) r h.2 k b hb
theorem seqBits_at (prev : Int) (r : List (List Int)) (k : Nat) (b : List Int) (hb : r[k]? = some b) : ∃ R, seqBits Ld La prev r = seqBits Ld La prev (r.take k) ++ (bitsOf Ld La (allS (lastP prev (r.take k)) b) ++ R) ∧ seqBits Ld La prev (r.take (k + 1)) = seqBits Ld La prev (r.take k) ++ bitsOf Ld La (allS (lastP prev (r.take k)) b) := by
  have h2 : r.take (k + 1) = r.take k ++ [b] := by rw [List.take_add_one, hb]; rfl
  have hsp : ∀ (p : Int) (x y : List (List Int)), ∃ R, seqBits Ld La p (x ++ y) = seqBits Ld La p x ++ R := by
    intro p x
    induction x generalizing p with
    | nil => intro y; exact ⟨seqBits Ld La p y, by simp [seqBits]⟩
    | cons z x ih =>
      intro y
      obtain ⟨R, hR⟩ := ih (z.getD 0 0) y
      refine ⟨R, ?_⟩
      show bitsOf Ld La (allS p z) ++ seqBits Ld La (z.getD 0 0) (x ++ y) = (bitsOf Ld La (allS p z) ++ seqBits Ld La (z.getD 0 0) x) ++ R
      rw [hR, List.append_assoc]
  obtain ⟨R, hR⟩ := hsp prev (r.take (k + 1)) (r.drop (k + 1))
  rw [List.take_append_drop] at hR
  refine ⟨R, ?_, by rw [h2, seqBits_snoc]⟩
  rw [hR, h2, seqBits_snoc, List.append_assoc]
theorem seqBits_len {B V B' V' : List Int} (hv : Valid B V) (hv' : Valid B' V') : ∀ (prev : Int) (r : List (List Int)), seqOK (codes B V) (codes B' V') prev r → (seqBits (codes B V) (codes B' V') prev r).length ≤ 1728 * r.length
  | _, [], _ => Nat.le_refl _
  | prev, b :: r, h => by
    have h1 := seqBits_len hv hv' (b.getD 0 0) r h.2
    have hir : In prev ∧ RightB b := by
      have h0 := h.1
      unfold putBE at h0
      split at h0
      · next h => exact h
      · cases h0
    have h2 := bitsOf_len hv hv' (allS prev b) (allS_ok hir.2 hir.1)
    have h3 := allS_len prev b
    show (bitsOf (codes B V) (codes B' V') (allS prev b) ++ seqBits (codes B V) (codes B' V') (b.getD 0 0) r).length ≤ 1728 * (r.length + 1)
    rw [List.length_append]
    omega
end
end Go.Proofs.YthfpdebpepbejaaDoor

namespace Go.Proofs.YthfpdebpepbejaaDoor
open Go.RowKit

theorem fill67 {cells : Array Value} {xs : List Value} (hc : cells.size = 64) (hx : xs.length = 64) : Instr.fill (fun i => some (i * 64, 64)) cells [(0, .agg xs.toArray)] = some xs.toArray := by
  have hs : ∀ (l : List Value) (s : Nat) (cs : Array Value), ((l.zipIdx s).foldl (fun (cs : Array Value) (p : Value × Nat) => cs.setIfInBounds (0 + p.2) p.1) cs).size = cs.size := by
    intro l
    induction l with
    | nil => intro s cs; rfl
    | cons a l ih => intro s cs; rw [List.zipIdx_cons, List.foldl_cons, ih]; simp
  simp only [Instr.fill]
  have hx2 : (Value.agg xs.toArray).cells = xs.toArray := rfl
  rw [hx2]
  simp [hx, hc]
  apply Array.ext_getElem?
  intro k
  have hf := fold_set 0 xs 0 cells (by simp [hc, hx]) k
  simp only [Nat.zero_add] at hf
  rw [hf]
  by_cases h1 : 0 ≤ k ∧ k < xs.length
  · rw [if_pos h1]
    simp
  · rw [if_neg h1, Array.getElem?_eq_none (by omega), Array.getElem?_eq_none (by simp; omega)]
theorem wpList_one_blk {ops : Array Oper} {rest : List Oper} {o : Oper} {a : Act} {w : World} {Q : Exit → Act → World → Prop} (hg : o.guard = none) (x : Operand) (ho : o.op = .buildSlice 67 1 #[(0, x)])
    (b : List Int) (hb : b.length = 64) (hx : a.eval x = blkV b)
    (h : wpList Tryd.prog ops Q rest (a.put o.dst (.slice (some ⟨w.heap.size, 0, none⟩) 1 1)) (w.alloc (.cells (cellsI b).toArray 23))) : wpList Tryd.prog ops Q (o :: rest) a w := by
  obtain ⟨i0, hi0, h2⟩ := Option.map_eq_some_iff.1 blk_info
  simp only [Prod.mk.injEq] at h2
  obtain ⟨hz0, hz1, hz2⟩ := h2
  refine wpList_buildSlice hg 67 23 1 _ ho (cellsI b).toArray i0 _ Tryd.underlying67 hi0 hz0 (by rw [hz1]; omega) (by rw [hz1]; omega) ?_ h
  have e : ((#[(0, x)] : Array (Nat × Operand)).map fun (i, y) => (i, a.eval y)).toList = [(0, .agg (cellsI b).toArray)] := by
    simp [hx, blkV]
  rw [e, hz1]
  exact fill67 (by simp) (by rw [cellsI_len, hb])

/-- how things stand when k blocks have been offered: those of done were put -/
structure T1 (w0 wr : World) (d base : Nat) (v : Value) (done : List (List Int)) (prev : Int) (Ld La : List En) (k : Nat) : Prop where
  bel : Below w0.heap.size w0 wr
  wx : Wx wr d (seqBits Ld La 0 done)
  row : wr.ownsRow base 23 64 v done.length (blocksC done)
  ok : seqOK Ld La 0 done
  prev : prev = lastP 0 done
  few : done.length ≤ k
  wide : ∀ x ∈ done, x.length = 64
  ord : w0.heap.size ≤ d ∧ d < base ∧ base ≤ wr.heap.size
section
variable {w0 wr w' : World} {d base k : Nat} {v v' : Value} {done : List (List Int)} {prev : Int} {Ld La : List En} {x : List Int}
theorem T1.on (h : T1 w0 wr d base v done prev Ld La k) (b : Below wr.heap.size wr w') : T1 w0 w' d base v done prev Ld La k :=
  ⟨on_trans h.bel b, h.wx.on b, ownsRow_block h.row fun g _ _ hb => b.block g (Array.getElem?_eq_some_iff.1 hb).1, h.ok, h.prev, h.few, h.wide, h.ord.1, h.ord.2.1, Nat.le_trans h.ord.2.2 b.size⟩
theorem T1.more (h : T1 w0 wr d base v done prev Ld La k) : T1 w0 wr d base v done prev Ld La (k + 1) :=
  ⟨h.bel, h.wx, h.row, h.ok, h.prev, by have := h.few; omega, h.wide, h.ord⟩
/-- a block has been put and is laid behind the row -/
theorem T1.next {w2 : World} (h : T1 w0 wr d base v done prev Ld La k) (hE : putBE Ld La prev x = 0) (hx : x.length = 64) (hb : Below w0.heap.size w0 w') (hk : Kept (fun i => i = d) wr w') (hw : Wx w' d (seqBits Ld La 0 done ++ bitsOf Ld La (allS prev x)))
    (b2 : Below w'.heap.size w' w2) (w3 : World) (hr : w3.ownsRow base 23 64 v' (done.length + 1) (blocksC (done ++ [x]))) (k3 : Kept (fun i => v.ownBlock = some i) w2 w3) (hr2 : w2.ownsRow base 23 64 v done.length (blocksC done)) : T1 w0 w3 d base v' (done ++ [x]) (x.getD 0 0) Ld La (k + 1) := by
  have hP := h.prev
  have own : ∀ i, v.ownBlock = some i → base ≤ i ∧ ∃ cs, w2.heap[i]? = some (.cells cs 23 (0, 0)) := fun i e => own_block3 hr2 e
  refine ⟨(on_trans hb b2).trans (k3.below (on_trans hb b2).size (fun i hi e => by have := (own i e).1; have := h.ord; omega)), ?_, ?_, seqOK_snoc 0 done x h.ok (by rw [← hP]; exact hE), (lastP_snoc 0 done x).symm, ?_, ?_, h.ord.1, h.ord.2.1, ?_⟩
  · rw [seqBits_snoc, ← hP]
    exact (hw.on b2).kept k3 (fun e => by have := (own _ e).1; have := h.ord; omega) (fun i cs e h2 => by
      obtain ⟨_, cs2, h1⟩ := own i e
      rw [h1] at h2
      simp at h2)
  · rw [List.length_append]
    exact hr
  · rw [List.length_append, List.length_singleton]
    have := h.few
    omega
  · intro y hy
    rcases List.mem_append.1 hy with hy | hy
    · exact h.wide y hy
    · rw [List.mem_singleton.1 hy]; exact hx
  · exact Nat.le_trans h.ord.2.2 (Nat.le_trans hk.size (Nat.le_trans b2.size k3.size))
end
end Go.Proofs.YthfpdebpepbejaaDoor
