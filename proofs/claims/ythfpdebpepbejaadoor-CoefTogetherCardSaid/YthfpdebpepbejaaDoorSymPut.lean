/-
  The contract of a symbol's put.
-/
import Derived.Test.YthfpdebpepbejaaDoorPutT
import Derived.Test.YthfpdebpepbejaaDoorEach
namespace Go.Proofs.YthfpdebpepbejaaDoor
open Go.RowKit

/-- a symbol's bits: the code of its value, and the bits of its number -/
def symBits (L : List En) (s : Sym) : List Int := dig (codeOf L s.2.1).1 (codeOf L s.2.1).2 ++ dig (numB s.2.2) (sz s.2.2)
/-- what a symbol's put tells -/
def SymPut (w : World) (d : Nat) (L : List En) (s : Sym) (bs : List Int) (e : Ending) (w' : World) : Prop :=
  e = .returned (.int .i64 0) ∧ Wr w' d (bs ++ symBits L s) ∧ Kept (fun i => i = d) w w'
theorem may_num (z : Int) (h : sz z ≤ 24) : mayPut (numB z : Int) (sz z : Int) := by
  unfold mayPut
  rw [Int.toNat_natCast, show ((2 : Int) ^ sz z) = ((2 ^ sz z : Nat) : Int) by simp]
  have := numB_lt z
  omega
theorem code_len {B V : List Int} (hv : Valid B V) (v : Int) : (codeOf (codes B V) v).2 ≤ 16 := by
  unfold codeOf
  cases ho : fnd (codes B V) v with
  | none => exact Nat.zero_le _
  | some en =>
    obtain ⟨_, h2, _⟩ := hv.code (fnd_some ho).1
    exact h2

set_option maxRecDepth 10000 in
set_option maxHeartbeats 1600000 in
theorem symPut_any (w : World) (lo hi t d : Nat) (B V bs : List Int) (s : Sym) (h : Tb w lo hi t B V (codes B V)) (hv : Valid B V) (hw : Wr w d bs) (hl : bs.length ≤ 1900) (hs : s.2.2.natAbs ≤ 2046) (hf : (fnd (codes B V) (s.2.1 : Int)).isSome = true) :
    Calls Tryd.prog 44 #[symV s, .pointer (some ⟨d, 0, none⟩), .pointer (some ⟨t, 0, none⟩)] w (SymPut w d (codes B V) s bs) := by
  unfold SymPut symBits
  obtain ⟨tt, v, z⟩ := s
  dsimp only at hs hf ⊢
  have hsz := diff_size hs
  have hcl := code_len hv (v : Int)
  have hmay := may_num z (by omega)
  obtain ⟨w1, hw1⟩ : ∃ w1, w1 = w.alloc (.cells #[.int .i64 (tt : Int), .int .i64 (v : Int), .int .i64 z] 74) := ⟨_, rfl⟩
  have bel : Below w.heap.size w w1 := by rw [hw1]; exact on_alloc _ _
  have hb : Box w1 w.heap.size 74 #[.int .i64 (tt : Int), .int .i64 (v : Int), .int .i64 z] := by rw [hw1]; exact Box.made _ _ _
  have HP := Lib.hid (putT_any w1 lo hi t d B V bs (v : Int) (h.on bel) hv (hw.on bel) (by omega))
  unfold PutT at HP
  rw [if_pos hf] at HP
  obtain ⟨cb, hcb⟩ : ∃ cb, cb = bs ++ dig (codeOf (codes B V) v).1 (codeOf (codes B V) v).2 := ⟨_, rfl⟩
  have hcbl : cb.length ≤ 1976 := by rw [hcb, List.length_append, dig_len]; omega
  rw [← hcb] at HP
  have hz1 : isInt z := by unfold isInt; omega
  have hzlo : -2046 ≤ z ∧ z ≤ 2046 := by omega
  obtain ⟨y, hy⟩ : ∃ y, y = sz z := ⟨_, rfl⟩
  obtain ⟨x, hx⟩ : ∃ x, x = numB z := ⟨_, rfl⟩
  have hpos : ¬ z < 0 → z = (x : Int) := by rw [hx]; unfold numB; intro h; rw [if_neg h]; omega
  obtain ⟨q, hq⟩ : ∃ q : Nat, q = 2 ^ y := ⟨_, rfl⟩
  have hneg : z < 0 → z + ((q : Int) - 1) = (x : Int) := by
    intro h
    have h1 := (sz_le (z := z)).1 (Nat.le_refl _)
    rw [hx, hq, hy]
    unfold numB
    rw [if_pos h]
    omega
  rw [← List.append_assoc, ← hcb]
  rw [← hy] at hsz hmay ⊢
  rw [← hx] at hmay ⊢
  have hq1 : q ≤ 2048 := by rw [hq]; exact Nat.le_trans (Nat.pow_le_pow_right (by omega) hsz) (by decide)
  have hq2 : (2 : Int) ^ y = (q : Int) := by rw [hq]; simp
  have HW := Lib.hid (And.intro hb (And.intro bel (And.intro hw1 (And.intro hcbl (And.intro hz1 (And.intro hmay (And.intro hy hw.lt)))))))
  have HX := Lib.hid (And.intro hpos hneg)
  have c1 : (w.alloc (.cells #[.int .i64 (tt : Int), .int .i64 (v : Int), .int .i64 z] 74)).cell? ⟨w.heap.size, 1, none⟩ = some (.int .i64 (v : Int)) := by rw [← hw1]; exact hb.cell 1
  have hsv : symV (tt, v, z) = .agg #[.int .i64 (tt : Int), .int .i64 (v : Int), .int .i64 z] := rfl
  rw [hsv]
  clear hb bel hw1 hcbl hz1 hmay hy hx hq hcb hpos hneg h hv hw hl hs hf hcl hsv
  go_enter Tryd.func44, Tryd.ntmps44
  go_wp2_with fail
  rw [← HW.out.2.2.1]
  refine HP.out.mono ?_
  rintro e w2 ⟨rfl, hw2, k2⟩
  have H2 := Lib.hid (And.intro hw2 (And.intro k2 (k2.box HW.out.1 (by have := HW.out.2.2.2.2.2.2.2; omega))))
  clear hw2 k2 c1
  go_wp2_with fail
  have HC := Lib.hid (show w2.cell? ⟨w.heap.size, 2, none⟩ = some (.int .i64 z) from H2.out.2.2.cell 2)
  refine wp_region_held_drew (S := fun w' => w' = w2.drew) (by kernel_rfl) rfl fun q0 => ?_
  refine take_to (i := 0) (v := .pointer (some ⟨w.heap.size, 2, none⟩)) rfl (by kernel_rfl) (by kernel_rfl) (by kernel_rfl) (fun _ _ _ h => h) (Or.inl ⟨by rfl, fun w' hS => by go_simp⟩) q0 (some 18) rfl ?_
  try simp only [Act.put, List.setIfInBounds_toArray, List.set_cons_zero, List.set_cons_succ]
  refine take_to (i := 1) (v := .int .i64 z) rfl (by kernel_rfl) (by kernel_rfl) (by kernel_rfl) (fun _ _ _ h => h) (Or.inl ⟨by rfl, fun w' hS => by have := HC.out; go_simp⟩) q0 (some 19) rfl ?_
  try simp only [Act.put, List.setIfInBounds_toArray, List.set_cons_zero, List.set_cons_succ]
  refine take_to (i := 2) (v := .pointer (some ⟨w.heap.size, 2, none⟩)) rfl (by kernel_rfl) (by kernel_rfl) (by kernel_rfl) (fun _ _ _ h => h) (Or.inl ⟨by rfl, fun w' hS => by go_simp⟩) q0 (some 20) rfl ?_
  try simp only [Act.put, List.setIfInBounds_toArray, List.set_cons_zero, List.set_cons_succ]
  refine take_to (i := 3) (v := .int .i64 z) rfl (by kernel_rfl) (by kernel_rfl) (by kernel_rfl) (fun _ _ _ h => h) (Or.inl ⟨by rfl, fun w' hS => by have := HC.out; go_simp⟩) q0 (some 21) rfl ?_
  try simp only [Act.put, List.setIfInBounds_toArray, List.set_cons_zero, List.set_cons_succ]
  refine wpAnyH_ready (rs := [4]) (by kernel_rfl) (by simp) ?_
  refine AllReadyH.cons rfl (fun K hK => ?_) AllReadyH.nil
  go_simp
  refine (size_any _ z HW.out.2.2.2.2.1).mono ?_
  rintro e w3 ⟨rfl, rfl⟩
  rw [← HW.out.2.2.2.2.2.2.1]
  refine hK.out _ _ rfl fun q1 => ?_
  clear hK K
  try simp only [Act.put, List.setIfInBounds_toArray, List.set_cons_zero, List.set_cons_succ]
  refine take_to (i := 5) (v := .int .i64 z) rfl (by kernel_rfl) (by kernel_rfl) (by kernel_rfl) (fun _ _ _ h => h) (Or.inl ⟨by rfl, fun w' hS => by go_simp⟩) q1 (some 8) rfl ?_
  try simp only [Act.put, List.setIfInBounds_toArray, List.set_cons_zero, List.set_cons_succ]
  refine take_to (i := 6) (v := .int .i64 (y : Int)) rfl (by kernel_rfl) (by kernel_rfl) (by kernel_rfl) (fun _ _ _ h => h) (Or.inl ⟨by rfl, fun w' hS => by go_simp⟩) q1 (some 9) rfl ?_
  try simp only [Act.put, List.setIfInBounds_toArray, List.set_cons_zero, List.set_cons_succ]
  refine wpAnyH_done (by kernel_rfl) ?_ _
  clear q0 q1
  have HW2 := Lib.hid (And.intro (H2.out.1.on (on_drew w2)) (H2.out.2.1.trans (Kept.of_below (on_drew w2) (fun _ => False)) (fun _ _ h => h.elim)))
  obtain ⟨w4, hw4⟩ : ∃ w4, w4 = w2.drew := ⟨_, rfl⟩
  rw [← hw4] at HW2 ⊢
  clear hw4 HC
  by_cases hn : z < 0
  · have hxz := HX.out.2 hn
    go_wp2_with fail
    refine (put_any w4 d cb (x : Int) (y : Int) HW2.out.1 HW.out.2.2.2.1).mono ?_
    rintro e w5 ⟨rfl, hw5, k5⟩
    have H5 := Lib.hid (And.intro hw5 k5)
    clear hw5 k5
    go_wp2
    go_ret
    have h5 := H5.out.1
    rw [putL, if_pos HW.out.2.2.2.2.2.1, Int.toNat_natCast, Int.toNat_natCast] at h5
    refine ⟨?_, h5, ((Kept.of_below HW.out.2.1 (fun i => i = d)).trans (HW2.out.2.trans H5.out.2 (fun _ _ e => e)) (fun _ _ e => e))⟩
    rw [putE, if_pos HW.out.2.2.2.2.2.1]
    rfl
  · have hxz := HX.out.1 (by omega)
    clear HX
    subst hxz
    go_wp2_with fail
    refine (put_any w4 d cb (x : Int) (y : Int) HW2.out.1 HW.out.2.2.2.1).mono ?_
    rintro e w5 ⟨rfl, hw5, k5⟩
    have H5 := Lib.hid (And.intro hw5 k5)
    clear hw5 k5
    go_wp2
    go_ret
    have h5 := H5.out.1
    rw [putL, if_pos HW.out.2.2.2.2.2.1, Int.toNat_natCast, Int.toNat_natCast] at h5
    refine ⟨?_, h5, ((Kept.of_below HW.out.2.1 (fun i => i = d)).trans (HW2.out.2.trans H5.out.2 (fun _ _ e => e)) (fun _ _ e => e))⟩
    rw [putE, if_pos HW.out.2.2.2.2.2.1]
    rfl
end Go.Proofs.YthfpdebpepbejaaDoor
