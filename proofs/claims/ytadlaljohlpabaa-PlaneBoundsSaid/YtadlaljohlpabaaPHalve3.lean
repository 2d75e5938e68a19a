/-
  The contract of the reference's Halve.
-/
import Derived.Test.YtadlaljohlpabaaPHalve2
import Derived.Deep.DeepCutAuto
namespace Go.Proofs.Ytadlaljohlpabaa
open Go.RowKit


set_option maxRecDepth 10000 in
set_option maxHeartbeats 6400000 in
theorem refHalve_tt (w0 : World) (W H : Nat) (A : Option Addr) (n c : Nat) (xs : List Int) (hI : Ia w0 A n c xs) (hr : RightP xs W H) :
    Calls Try.prog 20 #[.agg #[.int .i64 (W : Int), .int .i64 (H : Int), .slice A n c], .bool true, .bool true] w0 (PTells w0 (((halfN true W : Nat) : Int), ((halfN true H : Nat) : Int), halveL xs W H true true, 0)) := by
  have hn : n = W * H := by rw [← hI.len, hr.len]
  have hwh := hr.small
  have HR := Lib.hid (fun w1 (k : Below w0.heap.size w0 w1) => refRight_any w1 (W : Int) (H : Int) A n c xs (hI.on k) (by omega))
  unfold Righted at HR
  rw [decide_eq_true hr.int] at HR
  have HA := Lib.hid (fun w1 (k : Below w0.heap.size w0 w1) (x y : Int) => refAt_any w1 W H A n c xs x y (hI.on k) hr)
  have hat := fun (x y : Int) => hr.at x y
  obtain ⟨f, hf⟩ : ∃ f : Nat → Nat → Int, f = halfT xs W H true true := ⟨_, rfl⟩
  have hfa : ∀ i j : Nat, f i j = rnd (atL xs W H (2 * (i : Int)) (2 * (j : Int)) + atL xs W H (2 * (i : Int) + 1) (2 * (j : Int)) + atL xs W H (2 * (i : Int)) (2 * (j : Int) + 1) + atL xs W H (2 * (i : Int) + 1) (2 * (j : Int) + 1)) 4 := fun i j => by
    rw [hf]
    unfold halfT
    dsimp only
    try simp only [Int.natCast_add, Int.natCast_mul]
    first | done | rfl
  have hcr : halveL xs W H true true = gridK (halfN true W) f (halfN true W * halfN true H) := by rw [hf]; rfl
  have hmore := fun (i j : Nat) (hi : i < halfN true W) => gridK_more (f := f) hi j
  have hhw := half_of W
  have hhh := half_of H
  have wle := halfN_le true W
  have hle := halfN_le true H
  have hpl : ∀ i j : Nat, i < halfN true W → j < halfN true H → j * halfN true W + i < halfN true W * halfN true H := fun i j hi hj => row_lt hi hj
  have hsm : halfN true W * halfN true H ≤ 16384 := Nat.le_trans (Nat.mul_le_mul wle hle) hwh
  obtain ⟨w, hw⟩ : ∃ w, w = halfN true W := ⟨_, rfl⟩
  obtain ⟨h, hh⟩ : ∃ h, h = halfN true H := ⟨_, rfl⟩
  rw [← hw] at hcr hmore wle hpl hsm ⊢
  rw [← hh] at hcr hle hpl hsm ⊢
  rw [← hw] at hhw
  rw [← hh] at hhh
  have HF := Lib.hid (And.intro hfa (And.intro hcr (And.intro hmore hat)))
  have HP := Lib.hid (And.intro hsm hpl)
  have w1' : w ≤ 128 := Nat.le_trans wle hr.w1
  have h1' : h ≤ 128 := Nat.le_trans hle hr.h1
  have W1' := hr.w1
  have H1' := hr.h1
  obtain ⟨w2, hw2, hb1, hb2, k2⟩ := two_made w0 #[.int .i64 (W : Int), .int .i64 (H : Int), .slice A n c]
  have HW := Lib.hid (And.intro hw2 (And.intro k2 (And.intro hb1 hb2)))
  clear hf hfa hcr hmore hsm hpl hI hr hw2 k2 hb1 hb2 hwh hn hw hh hat wle hle
  go_enter Try.func20, Try.ntmps20
  go_wp2_with fail
  rw [HW.out.1]
  refine Calls.mono (HR.out w2 HW.out.2.1) ?_
  rintro e w4 ⟨rfl, b4⟩
  have hM := mk_made (HW.out.2.2.1.on b4) (HW.out.2.2.2.on b4) (on_trans HW.out.2.1 b4) (Nat.le_succ _) (w : Int) (h : Int)
  obtain ⟨w5, hw5⟩ : ∃ w5, w4.alloc (.cells #[.int .i64 (w : Int), .int .i64 (h : Int), .slice none 0 0] 24) = w5 := ⟨_, rfl⟩
  rw [hw5] at hM
  have p0 : ∀ o, (w4.alloc o).cell? ⟨w0.heap.size, 0, none⟩ = some (.int .i64 (W : Int)) := fun o => ((HW.out.2.2.1.on b4).on (on_alloc w4 o)).cell 0
  have p1 : ∀ o, (w4.alloc o).cell? ⟨w0.heap.size, 1, none⟩ = some (.int .i64 (H : Int)) := fun o => ((HW.out.2.2.1.on b4).on (on_alloc w4 o)).cell 1
  have p0' : w4.cell? ⟨w0.heap.size, 0, none⟩ = some (.int .i64 (W : Int)) := (HW.out.2.2.1.on b4).cell 0
  have p1' : w4.cell? ⟨w0.heap.size, 1, none⟩ = some (.int .i64 (H : Int)) := (HW.out.2.2.1.on b4).cell 1
  have HM := Lib.hid (And.intro hM hw5)
  clear hM hw5 b4
  go_wp2_with fail
  clear p0 p1 p0' p1'
  rw [HM.out.2]
  obtain ⟨gO, hgO⟩ : ∃ g, g = w4.heap.size := ⟨_, rfl⟩
  rw [← hgO] at HM ⊢
  clear hgO hhw hhh
  go_loopw [9] (fun i wr => ∃ j A' n' c', j ≤ h ∧ i = .int .i64 ((j : Nat) : Int) ∧ Mk w0 wr (gO + 1) w0.heap.size (w0.heap.size + 1) gO #[.int .i64 (W : Int), .int .i64 (H : Int), .slice A n c] (w : Int) (h : Int) (gridK w f (j * w + 0)) A' n' c') (fun i _ => h - (intOf i).toNat)
  case atStart => exact ⟨0, none, 0, 0, by omega, rfl, by rw [Nat.zero_mul]; exact HM.out.1⟩
  case round =>
    obtain ⟨j, A1, n1, c1, hj, rfl, hR⟩ := hrel
    have HR := Lib.hid hR
    have d1 : wr.cell? ⟨gO, 1, none⟩ = some (.int .i64 (h : Int)) := hR.out.cell 1
    clear hR
    by_cases hjh : j < h
    · go_wp2_with fail
      go_loopw [10] (fun i wr => ∃ k A' n' c', k ≤ w ∧ i = .int .i64 ((k : Nat) : Int) ∧ Mk w0 wr (gO + 1) w0.heap.size (w0.heap.size + 1) gO #[.int .i64 (W : Int), .int .i64 (H : Int), .slice A n c] (w : Int) (h : Int) (gridK w f (j * w + k)) A' n' c') (fun i _ => w - (intOf i).toNat)
      case atStart => exact ⟨0, A1, n1, c1, by omega, rfl, HR.out⟩
      case round =>
        obtain ⟨k, A2, n2, c2, hk, rfl, hR⟩ := hrel
        have HR := Lib.hid hR
        have d0 : wr.cell? ⟨gO, 0, none⟩ = some (.int .i64 (w : Int)) := hR.out.cell 0
        clear hR
        by_cases hkw : k < w
        · go_wp2_with (first
            | (with_reducible refine wpList_load_to (op := ⟨some 52, _, _, _, _, _⟩) rfl 24 (.tmp 3) rfl (.pointer (some ⟨w0.heap.size, 0, none⟩)) rfl (.agg #[.int .i64 (W : Int), .int .i64 (H : Int), .slice A n c]) (load_plane HR.out.arg rfl) ?_)
            | fail)
          refine Calls.mono (HA.out wr HR.out.bel k j) ?_
          rintro e w6 ⟨rfl, b6⟩
          have H6 := Lib.hid (HR.out.on b6)
          have hf0 := HF.out.1 k j
          clear b6 d0 d1
          have q0 := HF.out.2.2.2 (2 * (k : Int)) (2 * (j : Int))
          have q1 := HF.out.2.2.2 (2 * (k : Int) + 1) (2 * (j : Int))
          have q2 := HF.out.2.2.2 (2 * (k : Int)) (2 * (j : Int) + 1)
          have q3 := HF.out.2.2.2 (2 * (k : Int) + 1) (2 * (j : Int) + 1)
          unfold In8 at q0 q1 q2 q3
          obtain ⟨a0, ha0⟩ : ∃ a, a = atL xs W H (2 * (k : Int)) (2 * (j : Int)) := ⟨_, rfl⟩
          obtain ⟨a1, ha1⟩ : ∃ a, a = atL xs W H (2 * (k : Int) + 1) (2 * (j : Int)) := ⟨_, rfl⟩
          obtain ⟨a2, ha2⟩ : ∃ a, a = atL xs W H (2 * (k : Int)) (2 * (j : Int) + 1) := ⟨_, rfl⟩
          obtain ⟨a3, ha3⟩ : ∃ a, a = atL xs W H (2 * (k : Int) + 1) (2 * (j : Int) + 1) := ⟨_, rfl⟩
          rw [← ha0] at hf0 q0
          rw [← ha1] at hf0 q1
          rw [← ha2] at hf0 q2
          rw [← ha3] at hf0 q3
          have e0 := ha0.symm
          have e1 := ha1.symm
          have e2 := ha2.symm
          have e3 := ha3.symm
          obtain ⟨s, hs⟩ : ∃ s, s = a0 + a1 + a2 + a3 := ⟨_, rfl⟩
          rw [← hs] at hf0
          have hsum := hs.symm
          have E := Lib.hid (And.intro e0 (And.intro e1 (And.intro e2 e3)))
          clear hs ha0 e0 ha1 e1 ha2 e2 ha3 e3
          obtain ⟨s00, s01⟩ : 0 ≤ s ∧ s ≤ 1020 := by omega
          go_upto_region 23 with fail
          go_cut [11] (fun v wx => v = .int .i64 s ∧ Mk w0 wx (gO + 1) w0.heap.size (w0.heap.size + 1) gO #[.int .i64 (W : Int), .int .i64 (H : Int), .slice A n c] (w : Int) (h : Int) (gridK w f (j * w + k)) A2 n2 c2)
          case first =>
            refine wp_region_held_drew (S := fun w' => Hid (Mk w0 w' (gO + 1) w0.heap.size (w0.heap.size + 1) gO #[.int .i64 (W : Int), .int .i64 (H : Int), .slice A n c] (w : Int) (h : Int) (gridK w f (j * w + k)) A2 n2 c2)) (by kernel_rfl) (Lib.hid (H6.out.on (on_drew w6))) fun s0 => ?_
            refine take_to (i := 0) rfl (by kernel_rfl) (by kernel_rfl) (by kernel_rfl) (fun _ _ _ h => h) (yieldsIf_load (by rfl) 24 _ rfl (.pointer (some ⟨w0.heap.size, 0, none⟩)) rfl (.agg #[.int .i64 (W : Int), .int .i64 (H : Int), .slice A n c]) (fun w' h => load_plane h.out.arg rfl)) s0 (some 94) rfl ?_
            try simp only [Act.put, List.setIfInBounds_toArray, List.set_cons_zero, List.set_cons_succ]
            refine take_to (i := 1) (v := .int .i64 ((k : Int))) rfl (by kernel_rfl) (by kernel_rfl) (by kernel_rfl) (fun _ _ _ h => h) (Or.inl ⟨by rfl, fun w' hS => by go_simp; all_goals exact wrap64 (by omega) (by omega)⟩) s0 (some 95) rfl ?_
            try simp only [Act.put, List.setIfInBounds_toArray, List.set_cons_zero, List.set_cons_succ]
            refine take_to (i := 2) (v := .int .i64 (2 * (k : Int))) rfl (by kernel_rfl) (by kernel_rfl) (by kernel_rfl) (fun _ _ _ h => h) (Or.inl ⟨by rfl, fun w' hS => by go_simp; all_goals exact wrap64 (by omega) (by omega)⟩) s0 (some 96) rfl ?_
            try simp only [Act.put, List.setIfInBounds_toArray, List.set_cons_zero, List.set_cons_succ]
            refine take_to (i := 3) (v := .int .i64 ((j : Int))) rfl (by kernel_rfl) (by kernel_rfl) (by kernel_rfl) (fun _ _ _ h => h) (Or.inl ⟨by rfl, fun w' hS => by go_simp; all_goals exact wrap64 (by omega) (by omega)⟩) s0 (some 97) rfl ?_
            try simp only [Act.put, List.setIfInBounds_toArray, List.set_cons_zero, List.set_cons_succ]
            refine take_to (i := 4) (v := .int .i64 (2 * (j : Int))) rfl (by kernel_rfl) (by kernel_rfl) (by kernel_rfl) (fun _ _ _ h => h) (Or.inl ⟨by rfl, fun w' hS => by go_simp; all_goals exact wrap64 (by omega) (by omega)⟩) s0 (some 98) rfl ?_
            try simp only [Act.put, List.setIfInBounds_toArray, List.set_cons_zero, List.set_cons_succ]
            refine take_to (i := 6) rfl (by kernel_rfl) (by kernel_rfl) (by kernel_rfl) (fun _ _ _ h => h) (yieldsIf_load (by rfl) 24 _ rfl (.pointer (some ⟨w0.heap.size, 0, none⟩)) rfl (.agg #[.int .i64 (W : Int), .int .i64 (H : Int), .slice A n c]) (fun w' h => load_plane h.out.arg rfl)) s0 (some 100) rfl ?_
            try simp only [Act.put, List.setIfInBounds_toArray, List.set_cons_zero, List.set_cons_succ]
            refine take_to (i := 7) (v := .int .i64 ((k : Int))) rfl (by kernel_rfl) (by kernel_rfl) (by kernel_rfl) (fun _ _ _ h => h) (Or.inl ⟨by rfl, fun w' hS => by go_simp; all_goals exact wrap64 (by omega) (by omega)⟩) s0 (some 101) rfl ?_
            try simp only [Act.put, List.setIfInBounds_toArray, List.set_cons_zero, List.set_cons_succ]
            refine take_to (i := 8) (v := .int .i64 (2 * (k : Int))) rfl (by kernel_rfl) (by kernel_rfl) (by kernel_rfl) (fun _ _ _ h => h) (Or.inl ⟨by rfl, fun w' hS => by go_simp; all_goals exact wrap64 (by omega) (by omega)⟩) s0 (some 102) rfl ?_
            try simp only [Act.put, List.setIfInBounds_toArray, List.set_cons_zero, List.set_cons_succ]
            refine take_to (i := 9) (v := .int .i64 (2 * (k : Int) + 1)) rfl (by kernel_rfl) (by kernel_rfl) (by kernel_rfl) (fun _ _ _ h => h) (Or.inl ⟨by rfl, fun w' hS => by go_simp; all_goals exact wrap64 (by omega) (by omega)⟩) s0 (some 103) rfl ?_
            try simp only [Act.put, List.setIfInBounds_toArray, List.set_cons_zero, List.set_cons_succ]
            refine take_to (i := 10) (v := .int .i64 ((j : Int))) rfl (by kernel_rfl) (by kernel_rfl) (by kernel_rfl) (fun _ _ _ h => h) (Or.inl ⟨by rfl, fun w' hS => by go_simp; all_goals exact wrap64 (by omega) (by omega)⟩) s0 (some 104) rfl ?_
            try simp only [Act.put, List.setIfInBounds_toArray, List.set_cons_zero, List.set_cons_succ]
            refine take_to (i := 11) (v := .int .i64 (2 * (j : Int))) rfl (by kernel_rfl) (by kernel_rfl) (by kernel_rfl) (fun _ _ _ h => h) (Or.inl ⟨by rfl, fun w' hS => by go_simp; all_goals exact wrap64 (by omega) (by omega)⟩) s0 (some 105) rfl ?_
            try simp only [Act.put, List.setIfInBounds_toArray, List.set_cons_zero, List.set_cons_succ]
            refine take_to (i := 14) rfl (by kernel_rfl) (by kernel_rfl) (by kernel_rfl) (fun _ _ _ h => h) (yieldsIf_load (by rfl) 24 _ rfl (.pointer (some ⟨w0.heap.size, 0, none⟩)) rfl (.agg #[.int .i64 (W : Int), .int .i64 (H : Int), .slice A n c]) (fun w' h => load_plane h.out.arg rfl)) s0 (some 108) rfl ?_
            try simp only [Act.put, List.setIfInBounds_toArray, List.set_cons_zero, List.set_cons_succ]
            refine take_to (i := 15) (v := .int .i64 ((k : Int))) rfl (by kernel_rfl) (by kernel_rfl) (by kernel_rfl) (fun _ _ _ h => h) (Or.inl ⟨by rfl, fun w' hS => by go_simp; all_goals exact wrap64 (by omega) (by omega)⟩) s0 (some 109) rfl ?_
            try simp only [Act.put, List.setIfInBounds_toArray, List.set_cons_zero, List.set_cons_succ]
            refine take_to (i := 16) (v := .int .i64 (2 * (k : Int))) rfl (by kernel_rfl) (by kernel_rfl) (by kernel_rfl) (fun _ _ _ h => h) (Or.inl ⟨by rfl, fun w' hS => by go_simp; all_goals exact wrap64 (by omega) (by omega)⟩) s0 (some 110) rfl ?_
            try simp only [Act.put, List.setIfInBounds_toArray, List.set_cons_zero, List.set_cons_succ]
            refine take_to (i := 17) (v := .int .i64 ((j : Int))) rfl (by kernel_rfl) (by kernel_rfl) (by kernel_rfl) (fun _ _ _ h => h) (Or.inl ⟨by rfl, fun w' hS => by go_simp; all_goals exact wrap64 (by omega) (by omega)⟩) s0 (some 111) rfl ?_
            try simp only [Act.put, List.setIfInBounds_toArray, List.set_cons_zero, List.set_cons_succ]
            refine take_to (i := 18) (v := .int .i64 (2 * (j : Int))) rfl (by kernel_rfl) (by kernel_rfl) (by kernel_rfl) (fun _ _ _ h => h) (Or.inl ⟨by rfl, fun w' hS => by go_simp; all_goals exact wrap64 (by omega) (by omega)⟩) s0 (some 112) rfl ?_
            try simp only [Act.put, List.setIfInBounds_toArray, List.set_cons_zero, List.set_cons_succ]
            refine take_to (i := 19) (v := .int .i64 (2 * (j : Int) + 1)) rfl (by kernel_rfl) (by kernel_rfl) (by kernel_rfl) (fun _ _ _ h => h) (Or.inl ⟨by rfl, fun w' hS => by go_simp; all_goals exact wrap64 (by omega) (by omega)⟩) s0 (some 113) rfl ?_
            try simp only [Act.put, List.setIfInBounds_toArray, List.set_cons_zero, List.set_cons_succ]
            refine take_to (i := 22) rfl (by kernel_rfl) (by kernel_rfl) (by kernel_rfl) (fun _ _ _ h => h) (yieldsIf_load (by rfl) 24 _ rfl (.pointer (some ⟨w0.heap.size, 0, none⟩)) rfl (.agg #[.int .i64 (W : Int), .int .i64 (H : Int), .slice A n c]) (fun w' h => load_plane h.out.arg rfl)) s0 (some 116) rfl ?_
            try simp only [Act.put, List.setIfInBounds_toArray, List.set_cons_zero, List.set_cons_succ]
            refine take_to (i := 23) (v := .int .i64 ((k : Int))) rfl (by kernel_rfl) (by kernel_rfl) (by kernel_rfl) (fun _ _ _ h => h) (Or.inl ⟨by rfl, fun w' hS => by go_simp; all_goals exact wrap64 (by omega) (by omega)⟩) s0 (some 117) rfl ?_
            try simp only [Act.put, List.setIfInBounds_toArray, List.set_cons_zero, List.set_cons_succ]
            refine take_to (i := 24) (v := .int .i64 (2 * (k : Int))) rfl (by kernel_rfl) (by kernel_rfl) (by kernel_rfl) (fun _ _ _ h => h) (Or.inl ⟨by rfl, fun w' hS => by go_simp; all_goals exact wrap64 (by omega) (by omega)⟩) s0 (some 118) rfl ?_
            try simp only [Act.put, List.setIfInBounds_toArray, List.set_cons_zero, List.set_cons_succ]
            refine take_to (i := 25) (v := .int .i64 (2 * (k : Int) + 1)) rfl (by kernel_rfl) (by kernel_rfl) (by kernel_rfl) (fun _ _ _ h => h) (Or.inl ⟨by rfl, fun w' hS => by go_simp; all_goals exact wrap64 (by omega) (by omega)⟩) s0 (some 119) rfl ?_
            try simp only [Act.put, List.setIfInBounds_toArray, List.set_cons_zero, List.set_cons_succ]
            refine take_to (i := 26) (v := .int .i64 ((j : Int))) rfl (by kernel_rfl) (by kernel_rfl) (by kernel_rfl) (fun _ _ _ h => h) (Or.inl ⟨by rfl, fun w' hS => by go_simp; all_goals exact wrap64 (by omega) (by omega)⟩) s0 (some 120) rfl ?_
            try simp only [Act.put, List.setIfInBounds_toArray, List.set_cons_zero, List.set_cons_succ]
            refine take_to (i := 27) (v := .int .i64 (2 * (j : Int))) rfl (by kernel_rfl) (by kernel_rfl) (by kernel_rfl) (fun _ _ _ h => h) (Or.inl ⟨by rfl, fun w' hS => by go_simp; all_goals exact wrap64 (by omega) (by omega)⟩) s0 (some 121) rfl ?_
            try simp only [Act.put, List.setIfInBounds_toArray, List.set_cons_zero, List.set_cons_succ]
            refine take_to (i := 28) (v := .int .i64 (2 * (j : Int) + 1)) rfl (by kernel_rfl) (by kernel_rfl) (by kernel_rfl) (fun _ _ _ h => h) (Or.inl ⟨by rfl, fun w' hS => by go_simp; all_goals exact wrap64 (by omega) (by omega)⟩) s0 (some 122) rfl ?_
            try simp only [Act.put, List.setIfInBounds_toArray, List.set_cons_zero, List.set_cons_succ]
            generalize w6.drew = v0 at s0 ⊢
            refine wpAnyH_ready (rs := [5]) (by kernel_rfl) (by simp) ?_
            refine AllReadyH.cons rfl (fun K hK => ?_) AllReadyH.nil
            · go_simp
              refine Calls.mono (HA.out v0 s0.out.bel (2 * (k : Int)) (2 * (j : Int))) ?_
              rintro r v1 ⟨rfl, k1⟩
              have s1 := Lib.hid (s0.out.on k1)
              rw [E.out.1]
              refine hK.out _ _ s1 fun _ => ?_
              clear hK K
              try simp only [Act.put, List.setIfInBounds_toArray, List.set_cons_zero, List.set_cons_succ]
              refine wpAnyH_ready (rs := [12]) (by kernel_rfl) (by simp) ?_
              refine AllReadyH.cons rfl (fun K hK => ?_) AllReadyH.nil
              · go_simp
                refine Calls.mono (HA.out v1 s1.out.bel (2 * (k : Int) + 1) (2 * (j : Int))) ?_
                rintro r v2 ⟨rfl, k2⟩
                have s2 := Lib.hid (s1.out.on k2)
                rw [E.out.2.1]
                refine hK.out _ _ s2 fun _ => ?_
                clear hK K
                try simp only [Act.put, List.setIfInBounds_toArray, List.set_cons_zero, List.set_cons_succ]
                refine take_to (i := 13) (v := .int .i64 (a0 + a1)) rfl (by kernel_rfl) (by kernel_rfl) (by kernel_rfl) (fun _ _ _ h => h) (Or.inl ⟨by rfl, fun w' hS => by go_simp; all_goals exact wrap64 (by omega) (by omega)⟩) s2 (some 107) rfl ?_
                try simp only [Act.put, List.setIfInBounds_toArray, List.set_cons_zero, List.set_cons_succ]
                refine wpAnyH_ready (rs := [20]) (by kernel_rfl) (by simp) ?_
                refine AllReadyH.cons rfl (fun K hK => ?_) AllReadyH.nil
                · go_simp
                  refine Calls.mono (HA.out v2 s2.out.bel (2 * (k : Int)) (2 * (j : Int) + 1)) ?_
                  rintro r v3 ⟨rfl, k3⟩
                  have s3 := Lib.hid (s2.out.on k3)
                  rw [E.out.2.2.1]
                  refine hK.out _ _ s3 fun _ => ?_
                  clear hK K
                  try simp only [Act.put, List.setIfInBounds_toArray, List.set_cons_zero, List.set_cons_succ]
                  refine take_to (i := 21) (v := .int .i64 (a0 + a1 + a2)) rfl (by kernel_rfl) (by kernel_rfl) (by kernel_rfl) (fun _ _ _ h => h) (Or.inl ⟨by rfl, fun w' hS => by go_simp; all_goals exact wrap64 (by omega) (by omega)⟩) s3 (some 115) rfl ?_
                  try simp only [Act.put, List.setIfInBounds_toArray, List.set_cons_zero, List.set_cons_succ]
                  refine wpAnyH_ready (rs := [29]) (by kernel_rfl) (by simp) ?_
                  refine AllReadyH.cons rfl (fun K hK => ?_) AllReadyH.nil
                  · go_simp
                    refine Calls.mono (HA.out v3 s3.out.bel (2 * (k : Int) + 1) (2 * (j : Int) + 1)) ?_
                    rintro r v4 ⟨rfl, k4⟩
                    have s4 := Lib.hid (s3.out.on k4)
                    rw [E.out.2.2.2]
                    refine hK.out _ _ s4 fun _ => ?_
                    clear hK K
                    try simp only [Act.put, List.setIfInBounds_toArray, List.set_cons_zero, List.set_cons_succ]
                    refine take_to (i := 30) (v := .int .i64 (s)) rfl (by kernel_rfl) (by kernel_rfl) (by kernel_rfl) (fun _ _ _ h => h) (Or.inl ⟨by rfl, fun w' hS => by go_simp; all_goals exact wrap64 (by omega) (by omega)⟩) s4 (some 124) rfl ?_
                    try simp only [Act.put, List.setIfInBounds_toArray, List.set_cons_zero, List.set_cons_succ]
                    refine take_to (i := 31) (v := .int .i64 (s)) rfl (by kernel_rfl) (by kernel_rfl) (by kernel_rfl) (fun _ _ _ h => h) (Or.inl ⟨by rfl, fun w' hS => by go_simp; all_goals exact wrap64 (by omega) (by omega)⟩) s4 (some 11) rfl ?_
                    try simp only [Act.put, List.setIfInBounds_toArray, List.set_cons_zero, List.set_cons_succ]
                    refine wpAnyH_done (by kernel_rfl) ?_ _
                    go_wp2_with fail
                    go_meet
                    exact ⟨rfl, s4.out⟩
          case rest =>
            obtain ⟨rfl, hcut⟩ := hcut
            have HS := Lib.hid hcut
            clear hcut
            have hz8 : 0 ≤ s ∧ s ≤ 1020 := by omega
            obtain ⟨z, hz⟩ : ∃ z, z = f k j := ⟨_, rfl⟩
            have HD := Lib.hid (fun wS => refRound_any wS s 4 (by unfold isInt; omega) (by unfold isInt; omega))
            unfold Rounded at HD
            rw [← hf0, ← hz] at HD
            have c0 : wc.cell? ⟨gO, 2, none⟩ = some (.slice A2 n2 c2) := HS.out.out.cell 2
            have c0a : ∀ o, (wc.alloc o).cell? ⟨gO, 2, none⟩ = some (.slice A2 n2 c2) := fun o => (HS.out.on (on_alloc wc o)).out.cell 2
            have hm := HF.out.2.2.1 k j hkw
            have hsz : n2 = j * w + k := by rw [HS.out.len, gridK_len]
            have hlt := HP.out.2 k j hkw hjh
            rw [← hz] at hm
            have HX := Lib.hid (And.intro hm (And.intro hsz hlt))
            have hMa := (HS.out.on (on_alloc wc (.cells #[.int .i64 z] 3))).on (on_drew _)
            have HO := Lib.hid (And.intro hMa.own hMa.lo)
            have HMa := Lib.hid hMa
            clear hm hsz hlt hz hf0 hMa
            go_wp2_with fail
            go_region_law
              (first
                | (go_simp
                   go_at_call 36
                   with_reducible refine Calls.mono (HD.out _) ?_
                   rintro e w7 ⟨rfl, rfl⟩)
                | ((refine step_append_il rfl (.tmp 126) (.tmp 130) rfl (gO + 1) (.slice A2 n2 c2) n2 _ rfl HO.out.1 (some ⟨wc.heap.size, 0, none⟩) 1 1 [z] rfl (il_of_box (Box.made wc 3 (cellsI [z]).toArray) rfl (show 1 ≤ maxLen by decide)).ia.drew ?hs HO.out.2 (some 131) rfl ?_)
                   case hs => have := HX.out.2.1; have := HX.out.2.2; have := HP.out.1; omega
                   intro v7 w7 hown7 bq
                   obtain ⟨A7, c7, hv7⟩ := own_slice hown7
                   subst hv7
                   have B7 := HMa.out.out.bel bq (Nat.lt_succ_self gO)
                   have c7 : w7.cell? ⟨gO, 2, none⟩ = some (.slice A2 n2 c2) := B7.cell 2
                   have f7 : w7.frozen? ⟨gO, 2, none⟩ = false := B7.free 2
                   have H7 := Lib.hid (And.intro hown7 bq)
                   clear hown7 bq B7))
            all_goals
              have HE := Lib.hid (HMa.out.more H7.out.1 H7.out.2)
              rw [HX.out.1] at HE
              go_wp2_with fail
              go_roundw
              case rel => exact ⟨k + 1, _, _, _, by omega, by go_num, HE.out⟩
              case measure => simp [intOf]; omega
        · obtain rfl : k = w := by omega
          clear hk hkw
          go_wp2_with fail
          go_roundw
          case rel => exact ⟨j + 1, _, _, _, by omega, by go_num, by rw [show (j + 1) * k + 0 = j * k + k by rw [Nat.add_mul, Nat.one_mul]; rfl]; exact HR.out⟩
          case measure => simp [intOf]; omega
    · obtain rfl : j = h := by omega
      have hR := HR.out
      rw [show j * w + 0 = w * j by rw [Nat.mul_comm]; rfl, ← HF.out.2.1] at hR
      have HR := Lib.hid hR
      clear hR
      go_wp2_with (first
        | (with_reducible refine wpList_load_to (op := ⟨some 133, _, _, _, _, _⟩) rfl 24 (.tmp 8) rfl (.pointer (some ⟨gO, 0, none⟩)) rfl (.agg #[.int .i64 (w : Int), .int .i64 (j : Int), .slice A1 n1 c1]) (load_plane HR.out.out rfl) ?_)
        | ((with_reducible refine wpList_store_plane (o := ⟨none, _, _, _, _, _⟩) rfl (.tmp 6) (.tmp 133) rfl rfl (w0.heap.size + 1) #[.int .i64 (w : Int), .int .i64 (j : Int), .slice A1 n1 c1] rfl ?ho rfl rfl _ HR.out.res rfl ?_)
           case ho => simp [Value.oneCell']
           intro w9 b9 k9
           have H9 := Lib.hid (And.intro b9 (HR.out.done k9))
           clear b9 k9)
        | fail)
      refine bodyPost_ret (v := .tuple #[.agg #[.int .i64 (w : Int), .int .i64 (j : Int), .slice A1 n1 c1], .int .i64 0]) (results_ct (fn := Try.f20) Try.results20 _ _ (w0.heap.size + 1) _ _ rfl rfl (loadVar_plane H9.out.1 rfl)) rfl ?_
      exact ⟨A1, n1, c1, rfl, H9.out.2.2, H9.out.2.1⟩

set_option maxRecDepth 10000 in
set_option maxHeartbeats 3200000 in
theorem refHalve_any (w0 : World) (W H : Int) (a d : Bool) (A : Option Addr) (n c : Nat) (xs : List Int) (hI : Ia w0 A n c xs) (hn : n ≤ 1000000) :
    Calls Try.prog 20 #[.agg #[.int .i64 W, .int .i64 H, .slice A n c], .bool a, .bool d] w0 (PTells w0 (halveF W H xs a d)) := by
  by_cases hr : RightI W H xs
  · have e : halveF W H xs a d = (((halfN a W.toNat : Nat) : Int), ((halfN d H.toNat : Nat) : Int), halveL xs W.toNat H.toNat a d, 0) := by unfold halveF; rw [if_pos hr]
    rw [e]
    obtain ⟨W', H', rfl, rfl, hp⟩ := hr.plane
    cases a <;> cases d
    · exact refHalve_ff w0 W' H' A n c xs hI hp
    · exact refHalve_ft w0 W' H' A n c xs hI hp
    · exact refHalve_tf w0 W' H' A n c xs hI hp
    · exact refHalve_tt w0 W' H' A n c xs hI hp
  · have e : halveF W H xs a d = (0, 0, [], 1) := by unfold halveF; rw [if_neg hr]
    rw [e]
    have HR := Lib.hid (fun w1 (k : Below w0.heap.size w0 w1) => refRight_any w1 W H A n c xs (hI.on k) hn)
    unfold Righted at HR
    rw [decide_eq_false hr] at HR
    obtain ⟨w2, hw2, _, hb2, k2⟩ := two_made w0 #[.int .i64 W, .int .i64 H, .slice A n c]
    have HW := Lib.hid (And.intro hw2 (And.intro k2 hb2))
    clear hr e hI hw2 k2 hb2
    go_enter Try.func20, Try.ntmps20
    go_wp2_with fail
    rw [HW.out.1]
    refine Calls.mono (HR.out w2 HW.out.2.1) ?_
    rintro e w4 ⟨rfl, b4⟩
    have H4 := Lib.hid (And.intro (HW.out.2.2.on b4) (on_trans HW.out.2.1 b4))
    clear b4
    go_wp2_with (first
      | ((with_reducible refine wpList_store_plane (o := ⟨none, _, _, _, _, _⟩) rfl (.tmp 6) (.tmp 16) rfl rfl (w0.heap.size + 1) #[.int .i64 0, .int .i64 0, .slice none 0 0] rfl ?ho rfl rfl _ H4.out.1 rfl ?_)
         case ho => simp [Value.oneCell']
         intro w9 b9 k9
         have H9 := Lib.hid (And.intro b9 (H4.out.2.trans (k9.below H4.out.2.size (fun i hi e => by omega))))
         clear b9 k9)
      | fail)
    refine bodyPost_ret (v := .tuple #[.agg #[.int .i64 0, .int .i64 0, .slice none 0 0], .int .i64 1]) (results_ct (fn := Try.f20) Try.results20 _ _ (w0.heap.size + 1) _ _ rfl rfl (loadVar_plane H9.out.1 rfl)) rfl ?_
    exact ⟨none, 0, 0, rfl, Os.none _ _, H9.out.2⟩
end Go.Proofs.Ytadlaljohlpabaa
