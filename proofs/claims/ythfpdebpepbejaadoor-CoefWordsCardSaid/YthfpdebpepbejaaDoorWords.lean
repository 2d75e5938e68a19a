/-
  CoefWords: the walk.
-/
import Derived.Test.YthfpdebpepbejaaDoorSizes
namespace Go.Proofs.YthfpdebpepbejaaDoor
open Go.RowKit

section
variable (w1 : World)
/-- the calls of a region, over one world and what lies behind it -/
theorem right_on {b : List Int} (hb : b.length = 64) (w : World) (h : Hid (Below w1.heap.size w1 w)) : Calls Tryd.prog 12 #[blkV b] w fun e w' => e = .returned (.bool (decide (RightB b))) ∧ Hid (Below w1.heap.size w1 w') :=
  (right64_any w b hb).mono fun _ _ ⟨he, k⟩ => ⟨he, Lib.hid (on_trans h.out (k.mono (Nat.le_refl _)))⟩
theorem refRight_on {b : List Int} (hb : b.length = 64) (w : World) (h : Hid (Below w1.heap.size w1 w)) : Calls Tryd.prog 13 #[blkV b] w fun e w' => e = .returned (.bool (decide (RightB b))) ∧ Hid (Below w1.heap.size w1 w') :=
  (refRight_any w b hb).mono fun _ _ ⟨he, k⟩ => ⟨he, Lib.hid (on_trans h.out (k.mono (Nat.le_refl _)))⟩
theorem size_on {n : Int} (hn : isInt n) (w : World) (h : Hid (Below w1.heap.size w1 w)) : Calls Tryd.prog 14 #[.int .i64 n] w fun e w' => e = .returned (.int .i64 (sz n : Int)) ∧ Hid (Below w1.heap.size w1 w') :=
  (size_any w n hn).mono fun _ _ ⟨he, k⟩ => ⟨he, by subst k; exact h⟩
theorem refSize_on {n : Int} (hn : isInt n) (w : World) (h : Hid (Below w1.heap.size w1 w)) : Calls Tryd.prog 15 #[.int .i64 n] w fun e w' => e = .returned (.int .i64 (sz n : Int)) ∧ Hid (Below w1.heap.size w1 w') :=
  (refSize_any w n hn).mono fun _ _ ⟨he, k⟩ => ⟨he, by subst k; exact h⟩
theorem awake_on (hT : Tab w1) (w : World) (h : Hid (Below w1.heap.size w1 w)) : Calls Tryd.prog 16 #[] w fun e w' => e = .returned (.bool true) ∧ Hid (Below w1.heap.size w1 w') :=
  (awake7_any w (hT.on h.out)).mono fun _ _ ⟨he, k⟩ => ⟨he, Lib.hid (on_trans h.out (k.mono (Nat.le_refl _)))⟩
end

set_option maxRecDepth 10000 in
set_option maxHeartbeats 3200000 in
theorem words_calls (w : World) (b : List Int) (n : Int) (hT : Tab w) (hb : b.length = 64) (hn : isInt n) :
    Calls Tryd.prog 3 #[blkV b, .int .i64 n] w (Law w) := by
  obtain ⟨w1, hw1⟩ : ∃ w1, w1 = w.alloc (.cells (cellsI b).toArray 23) := ⟨_, rfl⟩
  have bel : Below w.heap.size w w1 := by rw [hw1]; exact on_alloc _ _
  have hB : Blk w1 w.heap.size b := ⟨by rw [hw1]; exact Box.made _ _ _, hb⟩
  have HB := Lib.hid (And.intro hB (And.intro bel (And.intro hw1 (hT.on bel))))
  have HN := Lib.hid (And.intro hn hb)
  clear hB bel hw1 hT hn hb
  obtain ⟨cs, hcs⟩ : ∃ cs, cs = (cellsI b).toArray := ⟨_, rfl⟩
  have hvc : blkV b = .agg cs := by rw [hcs]; rfl
  rw [hvc]
  have HV := Lib.hid hcs
  clear hcs hvc
  go_enter Tryd.func3, Tryd.ntmps3
  go_wp2_with fail
  rw [HV.out, ← HB.out.2.2.1]
  refine (refOrder_any w1).mono ?_
  rintro e w2 ⟨A, c, rfl, hI, hlo, b2⟩
  have H2 := Lib.hid (And.intro hI (And.intro hlo (And.intro (on_trans HB.out.2.1 b2) (And.intro (HB.out.1.on b2) (HB.out.2.2.2.on b2)))))
  clear hI hlo b2
  have HO := Lib.hid (order_any w2 H2.out.2.2.2.2)
  go_wp2_with fail
  refine HO.out.mono ?_
  rintro e w3 ⟨rfl, b3⟩
  obtain ⟨Y, hY⟩ : ∃ Y, Y = blkV zz := ⟨_, rfl⟩
  rw [← hY]
  have HY := Lib.hid hY
  have H3 := Lib.hid (And.intro (H2.out.1.on b3) (And.intro (on_trans H2.out.2.2.1 b3) (And.intro (H2.out.2.2.2.1.on b3) (H2.out.2.2.2.2.on b3))))
  clear b3 hY HO
  go_wp2_with fail
  go_loopw [10] (fun i wr => ∃ k : Nat, k ≤ 64 ∧ i = .int .i64 (k : Int) ∧ w3 = wr) (fun i _ => 64 - (intOf i).toNat)
  case atStart => exact ⟨0, by omega, rfl, rfl⟩
  case round =>
    obtain ⟨k, hk, rfl, rfl⟩ := hrel
    by_cases hlt : k < 64
    · have hidx := fun w => index22 w zz_len hlt
      rw [← HY.out] at hidx
      obtain ⟨bb, off, hA, _, hc⟩ := H3.out.1.at_ (by omega)
      have hck := hc k hlt
      obtain ⟨z, hz⟩ : ∃ z, z = zz.getD k 0 := ⟨_, rfl⟩
      rw [← hz] at hck hidx
      subst hA
      clear hc hz
      go_wp2
      go_roundw
      case rel => exact ⟨k + 1, by omega, by go_num, trivial⟩
      case measure => simp [intOf]; omega
    · obtain rfl : k = 64 := by omega
      go_wp2_with fail
      have HR := Lib.hid (fun (w' : World) (h : Hid (Below w3.heap.size w3 w')) => (H3.out.2.2.1.on h.out).range)
      have H0 : Hid (Below w3.heap.size w3 w3.drew) := Lib.hid (on_drew w3)
      have hu := Tryd.underlying23
      have hsz : (Tryd.prog.info? 23).map (·.size) = some (cellsI b).length := by rw [arr23_size, cellsI_len, HN.out.2]
      have hbv : blkV b = .agg (cellsI b).toArray := rfl
      obtain ⟨rb, hrb⟩ : ∃ rb, rb = decide (RightB b) := ⟨_, rfl⟩
      obtain ⟨p, hp⟩ : ∃ p : Nat, p = sz n := ⟨_, rfl⟩
      have C12 := Lib.hid (right_on w3 HN.out.2)
      have C13 := Lib.hid (refRight_on w3 HN.out.2)
      have C14 := Lib.hid (size_on w3 HN.out.1)
      have C15 := Lib.hid (refSize_on w3 HN.out.1)
      have C16 := Lib.hid (awake_on w3 H3.out.2.2.2)
      rw [hbv, ← hrb] at C12 C13
      rw [← hp] at C14 C15
      clear hrb hp hbv
      refine wp_region_held_drew (S := fun w' => Hid (Below w3.heap.size w3 w')) (by kernel_rfl) H0 fun s0 => ?_
      refine take_to (i := 0) rfl (by kernel_rfl) (by kernel_rfl) (by kernel_rfl) (fun _ _ _ h => h) (yieldsIf_load_mid (by rfl) 23 _ rfl w.heap.size 0 rfl (cellsI b) _ (fun w' h => HR.out w' h) Tryd.underlying23 rfl (by rw [arr23_size, cellsI_len, HN.out.2])) s0 (some 21) rfl ?_
      try simp only [Act.put, List.setIfInBounds_toArray, List.set_cons_zero, List.set_cons_succ]
      refine take_to (i := 2) rfl (by kernel_rfl) (by kernel_rfl) (by kernel_rfl) (fun _ _ _ h => h) (yieldsIf_load_mid (by rfl) 23 _ rfl w.heap.size 0 rfl (cellsI b) _ (fun w' h => HR.out w' h) Tryd.underlying23 rfl (by rw [arr23_size, cellsI_len, HN.out.2])) s0 (some 23) rfl ?_
      try simp only [Act.put, List.setIfInBounds_toArray, List.set_cons_zero, List.set_cons_succ]
      refine wpAnyH_ready (rs := [1]) (by kernel_rfl) (by simp) ?_
      refine AllReadyH.cons rfl (fun K hK => ?_) AllReadyH.nil
      go_simp
      refine (C12.out _ s0).mono ?_
      rintro e s1w ⟨rfl, s1⟩
      refine hK.out _ _ s1 fun _ => ?_
      clear hK K
      try simp only [Act.put, List.setIfInBounds_toArray, List.set_cons_zero, List.set_cons_succ]
      refine wpAnyH_ready (rs := [3]) (by kernel_rfl) (by simp) ?_
      refine AllReadyH.cons rfl (fun K hK => ?_) AllReadyH.nil
      go_simp
      refine (C13.out _ s1).mono ?_
      rintro e s2w ⟨rfl, s2⟩
      refine hK.out _ _ s2 fun _ => ?_
      clear hK K
      try simp only [Act.put, List.setIfInBounds_toArray, List.set_cons_zero, List.set_cons_succ]
      refine take_to (i := 4) (v := .bool true) rfl (by kernel_rfl) (by kernel_rfl) (by kernel_rfl) (fun _ _ _ h => h) (Or.inl ⟨by rfl, fun w' hS => by go_simp⟩) s2 (some 25) rfl ?_
      try simp only [Act.put, List.setIfInBounds_toArray, List.set_cons_zero, List.set_cons_succ]
      refine take_to (i := 5) (v := .bool true) rfl (by kernel_rfl) (by kernel_rfl) (by kernel_rfl) (fun _ _ _ h => h) (Or.inl ⟨by rfl, fun w' hS => by go_simp⟩) s2 (some 26) rfl ?_
      try simp only [Act.put, List.setIfInBounds_toArray, List.set_cons_zero, List.set_cons_succ]
      refine take_to (i := 6) (v := .int .i64 n) rfl (by kernel_rfl) (by kernel_rfl) (by kernel_rfl) (fun _ _ _ h => h) (Or.inl ⟨by rfl, fun w' hS => by go_simp⟩) s2 (some 27) rfl ?_
      try simp only [Act.put, List.setIfInBounds_toArray, List.set_cons_zero, List.set_cons_succ]
      refine take_to (i := 8) (v := .int .i64 n) rfl (by kernel_rfl) (by kernel_rfl) (by kernel_rfl) (fun _ _ _ h => h) (Or.inl ⟨by rfl, fun w' hS => by go_simp⟩) s2 (some 29) rfl ?_
      try simp only [Act.put, List.setIfInBounds_toArray, List.set_cons_zero, List.set_cons_succ]
      refine wpAnyH_ready (rs := [7]) (by kernel_rfl) (by simp) ?_
      refine AllReadyH.cons rfl (fun K hK => ?_) AllReadyH.nil
      go_simp
      refine (C14.out _ s2).mono ?_
      rintro e s3w ⟨rfl, s3⟩
      refine hK.out _ _ s3 fun _ => ?_
      clear hK K
      try simp only [Act.put, List.setIfInBounds_toArray, List.set_cons_zero, List.set_cons_succ]
      refine wpAnyH_ready (rs := [9]) (by kernel_rfl) (by simp) ?_
      refine AllReadyH.cons rfl (fun K hK => ?_) AllReadyH.nil
      go_simp
      refine (C15.out _ s3).mono ?_
      rintro e s4w ⟨rfl, s4⟩
      refine hK.out _ _ s4 fun _ => ?_
      clear hK K
      try simp only [Act.put, List.setIfInBounds_toArray, List.set_cons_zero, List.set_cons_succ]
      refine take_to (i := 10) (v := .bool true) rfl (by kernel_rfl) (by kernel_rfl) (by kernel_rfl) (fun _ _ _ h => h) (Or.inl ⟨by rfl, fun w' hS => by go_simp⟩) s4 (some 31) rfl ?_
      try simp only [Act.put, List.setIfInBounds_toArray, List.set_cons_zero, List.set_cons_succ]
      refine take_to (i := 11) (v := .bool true) rfl (by kernel_rfl) (by kernel_rfl) (by kernel_rfl) (fun _ _ _ h => h) (Or.inl ⟨by rfl, fun w' hS => by go_simp⟩) s4 (some 32) rfl ?_
      try simp only [Act.put, List.setIfInBounds_toArray, List.set_cons_zero, List.set_cons_succ]
      refine take_to (i := 12) (v := .bool true) rfl (by kernel_rfl) (by kernel_rfl) (by kernel_rfl) (fun _ _ _ h => h) (Or.inl ⟨by rfl, fun w' hS => by go_simp⟩) s4 (some 33) rfl ?_
      try simp only [Act.put, List.setIfInBounds_toArray, List.set_cons_zero, List.set_cons_succ]
      refine wpAnyH_ready (rs := [13]) (by kernel_rfl) (by simp) ?_
      refine AllReadyH.cons rfl (fun K hK => ?_) AllReadyH.nil
      go_simp
      refine (C16.out _ s4).mono ?_
      rintro e s5w ⟨rfl, s5⟩
      refine hK.out _ _ s5 fun _ => ?_
      clear hK K
      try simp only [Act.put, List.setIfInBounds_toArray, List.set_cons_zero, List.set_cons_succ]
      refine take_to (i := 14) (v := .bool true) rfl (by kernel_rfl) (by kernel_rfl) (by kernel_rfl) (fun _ _ _ h => h) (Or.inl ⟨by rfl, fun w' hS => by go_simp⟩) s5 (some 35) rfl ?_
      try simp only [Act.put, List.setIfInBounds_toArray, List.set_cons_zero, List.set_cons_succ]
      refine take_to (i := 15) (v := .bool true) rfl (by kernel_rfl) (by kernel_rfl) (by kernel_rfl) (fun _ _ _ h => h) (Or.inl ⟨by rfl, fun w' hS => by go_simp⟩) s5 (some 4) rfl ?_
      try simp only [Act.put, List.setIfInBounds_toArray, List.set_cons_zero, List.set_cons_succ]
      refine wpAnyH_done (by kernel_rfl) ?_ _
      go_wp2
      go_ret
      exact ⟨rfl, on_trans H3.out.2.1 s5.out⟩
end Go.Proofs.YthfpdebpepbejaaDoor
