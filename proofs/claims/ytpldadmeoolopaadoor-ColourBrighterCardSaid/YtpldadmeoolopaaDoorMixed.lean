/-
  The contract of mixed: sums of weighed numbers, rounded, added to bases, limited.
-/
import Derived.Test.YtpldadmeoolopaaDoorWithin
import Derived.BigRegion
namespace Go.Proofs.YtpldadmeoolopaaDoor
open Go.RowKit

/-- the first k terms of sum i -/
def sumT (W p : List Int) (i : Nat) : Nat → Int
  | 0 => 0
  | k + 1 => sumT W p i k + W.getD (3 * i + k) 0 * p.getD k 0
/-- what number i becomes -/
def mxT (W p o : List Int) (i : Nat) : Int := cut8 (o.getD i 0 + rnd (sumT W p i 3) 65536)
/-- what the bases are when i of them have been changed -/
def mxP (W p o : List Int) (i : Nat) : List Int := (List.range 3).map fun n => if n < i then mxT W p o n else o.getD n 0
/-- what mixed tells -/
def mxL (W p o : List Int) : List Int := [mxT W p o 0, mxT W p o 1, mxT W p o 2]
section
variable {W p o : List Int} {i : Nat}
theorem mxP_len : (mxP W p o i).length = 3 := by simp [mxP]
theorem mxP_at {n : Nat} (hn : n < 3) : (mxP W p o i).getD n 0 = if n < i then mxT W p o n else o.getD n 0 := by
  unfold mxP
  rw [List.getD_eq_getElem?_getD, List.getElem?_map, List.getElem?_range hn]
  rfl
theorem list3_eq {x y : List Int} (hx : x.length = 3) (hy : y.length = 3) (h : ∀ k, k < 3 → x.getD k 0 = y.getD k 0) : x = y := by
  apply List.ext_getElem (by omega)
  intro i h1 h2
  have := h i (by omega)
  rw [List.getD_eq_getElem?_getD, List.getD_eq_getElem?_getD, List.getElem?_eq_getElem h1, List.getElem?_eq_getElem h2] at this
  exact this
theorem mxP_zero (ho : o.length = 3) : mxP W p o 0 = o := list3_eq mxP_len ho fun k hk => by rw [mxP_at hk, if_neg (by omega)]
theorem mxP_all : mxP W p o 3 = mxL W p o := rfl
theorem mxP_more : (mxP W p o i).set i (mxT W p o i) = mxP W p o (i + 1) := by
  refine list3_eq (by rw [List.length_set, mxP_len]) mxP_len fun j hj => ?_
  rw [mxP_at hj, List.getD_eq_getElem?_getD, List.getElem?_set]
  by_cases e : i = j
  · subst e
    rw [if_pos rfl, if_pos (by rw [mxP_len]; omega), if_pos (by omega)]
    rfl
  · rw [if_neg e, ← List.getD_eq_getElem?_getD, mxP_at hj]
    by_cases h : j < i
    · rw [if_pos h, if_pos (by omega)]
    · rw [if_neg h, if_neg (by omega)]
end
theorem prod3 {c z : Int} (c0 : -131072 ≤ c) (c1 : c ≤ 131072) (z0 : -255 ≤ z) (z1 : z ≤ 255) : -33423360 ≤ c * z ∧ c * z ≤ 33423360 := by
  have key : ∀ x y : Int, 0 ≤ x → x ≤ 131072 → 0 ≤ y → y ≤ 255 → 0 ≤ x * y ∧ x * y ≤ 33423360 := fun x y a b c d => by
    refine ⟨Int.mul_nonneg a c, ?_⟩
    have : x * y ≤ 131072 * 255 := Int.mul_le_mul b d c (by omega)
    omega
  by_cases hc : 0 ≤ c <;> by_cases hz : 0 ≤ z
  · have := key c z hc c1 hz z1; omega
  · have := key c (-z) hc c1 (by omega) (by omega); rw [Int.mul_neg] at this; omega
  · have := key (-c) z (by omega) (by omega) hz z1; rw [Int.neg_mul] at this; omega
  · have := key (-c) (-z) (by omega) (by omega) (by omega) (by omega); rw [Int.neg_mul_neg] at this; omega
theorem min_max (z : Int) : (if 255 < (if z < 0 then 0 else z) then 255 else (if z < 0 then 0 else z)) = cut8 z := by
  unfold cut8 held
  by_cases a : z < 0
  · rw [if_pos a, if_pos a, if_neg (by omega)]
  · rw [if_neg a, if_neg a]
/-- weights and numbers that are not too great -/
structure Fit (W p o : List Int) : Prop where
  w : ∀ j, j < 9 → -131072 ≤ W.getD j 0 ∧ W.getD j 0 ≤ 131072
  p : ∀ j, j < 3 → -255 ≤ p.getD j 0 ∧ p.getD j 0 ≤ 255
  o : ∀ j, j < 3 → In8 (o.getD j 0)
theorem Fit.sum {W p o : List Int} (h : Fit W p o) {i : Nat} (hi : i < 3) : ∀ {k : Nat}, k ≤ 3 → -(33423360 * (k : Int)) ≤ sumT W p i k ∧ sumT W p i k ≤ 33423360 * (k : Int)
  | 0, _ => by unfold sumT; omega
  | k + 1, hk => by
    have ih := h.sum hi (k := k) (by omega)
    have a := h.w (3 * i + k) (by omega)
    have b := h.p k (by omega)
    have t := prod3 a.1 a.2 b.1 b.2
    unfold sumT
    omega

/-- what lies in memory: bases that are changed, numbers, what is told -/
structure Mx (w wr : World) (o p : List Int) : Prop where
  out : Row wr w.heap.size o
  p : Row wr (w.heap.size + 1 + 1) p
  res : Row wr (w.heap.size + 1 + 1 + 1) [0, 0, 0]
  bel : Below w.heap.size w wr
section
variable {w wr w' : World} {o p : List Int}
theorem Mx.on (h : Mx w wr o p) (k : Below wr.heap.size wr w') : Mx w w' o p := ⟨h.out.on k, h.p.on k, h.res.on k, on_trans h.bel k⟩
theorem Mx.put (h : Mx w wr o p) (k : Nat) (z : Int) : Mx w (wr.setCell ⟨w.heap.size, k, none⟩ (.int .i64 z)) (o.set k z) p :=
  ⟨h.out.put k z, ⟨h.p.box.beside (by show w.heap.size + 1 + 1 ≠ w.heap.size; omega) _, h.p.len⟩, ⟨h.res.box.beside (by show w.heap.size + 1 + 1 + 1 ≠ w.heap.size; omega) _, h.res.len⟩,
    ((Kept.of_below h.bel (fun i => i = w.heap.size)).setCell (p := ⟨w.heap.size, k, none⟩) (fun _ => rfl) _).below (Nat.le_refl _) (fun i hi e => by omega)⟩
theorem Mx.done (h : Mx w wr o p) {c : List Int} (hc : Row w' (w.heap.size + 1 + 1 + 1) c) (k : Kept (fun i => i = w.heap.size + 1 + 1 + 1) wr w') : Below w.heap.size w w' ∧ Row w' (w.heap.size + 1 + 1 + 1) c :=
  ⟨h.bel.trans (k.below h.bel.size (fun i hi e => by omega)), hc⟩
/-- a block that is laid in new memory -/
theorem Mx.laid (h : Mx w wr o p) {b : List Int} {Z : Array Value} (hb : Row w' wr.heap.size b) (k : Kept (fun i => i = wr.heap.size) (wr.alloc (.cells Z 39)) w') : Mx w w' o p ∧ Row w' wr.heap.size b ∧ w.heap.size + 1 + 1 + 1 < wr.heap.size :=
  ⟨h.on ((on_alloc wr (.cells Z 39)).trans (k.below (B := wr.heap.size) (by simp) (fun i hi e => by omega))), hb, h.res.box.lt⟩
end
theorem mx_boxed (w : World) (o W p : List Int) (ho : o.length = 3) (hp : p.length = 3) : ∃ cs cu cv Z w4, rowV o = .agg cs ∧ rowV W = .agg cu ∧ rowV p = .agg cv ∧ (∀ w, (zeroValue 39).run Tryd.prog w = .ok (.agg Z) w) ∧ Z.size = 3 ∧
    (((w.alloc (.cells cs 39)).alloc (.cells cu 41)).alloc (.cells cv 39)).alloc (.cells Z 39) = w4 ∧ Mx w w4 o p ∧ Box w4 (w.heap.size + 1) 41 (cellsI W).toArray := by
  refine ⟨_, _, _, (cellsI [0, 0, 0]).toArray, _, rfl, rfl, rfl, fun w => zero39 w, rfl, rfl, ?_⟩
  have a1 : Row (w.alloc (.cells (cellsI o).toArray 39)) w.heap.size o := Row.made _ _ ho
  have k1 := on_alloc w (.cells (cellsI o).toArray 39)
  obtain ⟨w1, h1⟩ : ∃ w1, w1 = w.alloc (.cells (cellsI o).toArray 39) := ⟨_, rfl⟩
  have s1 : w1.heap.size = w.heap.size + 1 := by rw [h1]; simp
  rw [← h1] at a1 k1 ⊢
  have a2 : Box (w1.alloc (.cells (cellsI W).toArray 41)) w1.heap.size 41 (cellsI W).toArray := Box.made _ _ _
  have k2 := on_alloc w1 (.cells (cellsI W).toArray 41)
  obtain ⟨w2, h2⟩ : ∃ w2, w2 = w1.alloc (.cells (cellsI W).toArray 41) := ⟨_, rfl⟩
  have s2 : w2.heap.size = w.heap.size + 1 + 1 := by rw [h2]; simp [s1]
  rw [← h2] at a2 k2 ⊢
  have a3 : Row (w2.alloc (.cells (cellsI p).toArray 39)) w2.heap.size p := Row.made _ _ hp
  have k3 := on_alloc w2 (.cells (cellsI p).toArray 39)
  obtain ⟨w3, h3⟩ : ∃ w3, w3 = w2.alloc (.cells (cellsI p).toArray 39) := ⟨_, rfl⟩
  have s3 : w3.heap.size = w.heap.size + 1 + 1 + 1 := by rw [h3]; simp [s2]
  rw [← h3] at a3 k3 ⊢
  have a4 : Row (w3.alloc (.cells (cellsI [0, 0, 0]).toArray 39)) w3.heap.size [0, 0, 0] := Row.made _ _ rfl
  have k4 := on_alloc w3 (.cells (cellsI [0, 0, 0]).toArray 39)
  rw [s1] at a2
  rw [s2] at a3
  rw [s3] at a4
  exact ⟨⟨((a1.on k2).on k3).on k4, a3.on k4, a4, on_trans (on_trans (on_trans k1 k2) k3) k4⟩, (a2.on k3).on k4⟩
/-- what mixed answers -/
def Mixed (w : World) (R : List Int) (e : Ending) (w' : World) : Prop := e = .returned (rowV R) ∧ Below w.heap.size w w'

set_option maxHeartbeats 3200000 in
theorem mixed_any (w : World) (o W p : List Int) (ho : o.length = 3) (hW : W.length = 9) (hp : p.length = 3) (hf : Fit W p o) : Calls Tryd.prog 13 #[rowV o, rowV W, rowV p] w (Mixed w (mxL W p o)) := by
  obtain ⟨cs, cu, cv, Z, w4, hov, hWv, hpv, hz', hZs, hw4, hM, hbx⟩ := mx_boxed w o W p ho hp
  have H := Lib.hid (And.intro hM (And.intro hf (And.intro hZs (And.intro ho (And.intro hW (And.intro hp (load_nine hbx hW)))))))
  rw [hov, hWv, hpv]
  have HW := Lib.hid hw4
  have HL := Lib.hid (load_nine hbx hW)
  rw [← hw4] at HL
  obtain ⟨v, hv⟩ : ∃ v, v = rowV W := ⟨_, rfl⟩
  rw [← hv] at HL
  have HV := Lib.hid hv
  clear ho hW hp hf hov hWv hpv hw4 hM hbx hZs hv
  go_enter Tryd.func13, Tryd.ntmps13
  go_wp2_with (first
    | (with_reducible refine wpList_load_to (op := ⟨some 12, _, _, _, _, _⟩) rfl 41 (.tmp 4) rfl (.pointer (some ⟨w.heap.size + 1, 0, none⟩)) rfl v HL.out ?_)
    | fail)
  rw [HW.out]
  go_loopw [13] (fun i wr => ∃ k : Nat, k ≤ 3 ∧ i = .int .i64 k ∧ Mx w wr (mxP W p o k) p) (fun i _ => 3 - (intOf i).toNat)
  case atStart => exact ⟨0, by omega, rfl, by rw [mxP_zero H.out.2.2.2.1]; exact H.out.1⟩
  case round =>
    obtain ⟨i, hi, rfl, hR⟩ := hrel
    have HR := Lib.hid hR
    clear hR
    by_cases hlt : i < 3
    · have hidx := fun w => index41 w (f := W) hlt
      rw [← HV.out] at hidx
      go_wp2_with (first
        | ((with_reducible refine wpList_store_row3 (o := ⟨none, _, _, _, _, _⟩) rfl (.tmp 8) (.tmp 16) rfl rfl wr.heap.size (sub W i) rfl rfl Z (Box.made _ _ _) H.out.2.2.1 (sub_len H.out.2.2.2.2.1 hlt) ?_)
           intro w5 b5 k5
           have H5 := Lib.hid (HR.out.laid b5 k5)
           clear b5 k5)
        | (with_reducible refine wpList_load_to (op := ⟨some 17, _, _, _, _, _⟩) rfl 39 (.tmp 8) rfl (.pointer (some ⟨wr.heap.size, 0, none⟩)) rfl (rowV (sub W i)) H5.out.2.1.load ?_)
        | fail)
      have hrow := fun w (k : Nat) (hk : k < 3) => index39 w (l := sub W i) (sub_len H.out.2.2.2.2.1 hlt) hk
      have hsub := fun k hk => sub_at (f := W) (i := i) (k := k) hk
      obtain ⟨v2, hv2⟩ : ∃ v2, v2 = rowV (sub W i) := ⟨_, rfl⟩
      rw [← hv2] at hrow ⊢
      have HX := Lib.hid (And.intro hrow hsub)
      clear hidx hv2 hrow hsub
      have H6 := Lib.hid H5.out.1
      clear H5
      go_loopw [9, 18] (fun s k wr => ∃ k' : Nat, k' ≤ 3 ∧ s = .int .i64 (sumT W p i k') ∧ k = .int .i64 k' ∧ Mx w wr (mxP W p o i) p) (fun _ k _ => 3 - (intOf k).toNat)
      case atStart => exact ⟨0, by omega, rfl, rfl, H6.out⟩
      case round =>
        obtain ⟨k, hk, rfl, rfl, hR⟩ := hrel
        have HR := Lib.hid hR
        clear hR
        have a0 := H.out.2.1.sum hlt hk
        by_cases hk3 : k < 3
        · have hi1 := fun w => HX.out.1 w k hk3
          rw [HX.out.2 k hk3] at hi1
          have c1 := HR.out.p.cell hk3
          have b1 := H.out.2.1.w (3 * i + k) (by omega)
          have b2 := H.out.2.1.p k hk3
          have t1 := prod3 b1.1 b1.2 b2.1 b2.2
          have hm : sumT W p i k + W.getD (3 * i + k) 0 * p.getD k 0 = sumT W p i (k + 1) := rfl
          obtain ⟨s, hs⟩ : ∃ s, s = sumT W p i k := ⟨_, rfl⟩
          obtain ⟨x, hx⟩ : ∃ x, x = W.getD (3 * i + k) 0 := ⟨_, rfl⟩
          obtain ⟨y, hy⟩ : ∃ y, y = p.getD k 0 := ⟨_, rfl⟩
          rw [← hs] at hm a0 ⊢
          rw [← hx] at hi1 t1 hm
          rw [← hy] at c1 t1 hm
          obtain ⟨z, hz⟩ : ∃ z, z = x * y := ⟨_, rfl⟩
          rw [← hz] at t1 hm
          have hxy := hz.symm
          obtain ⟨s0, s1⟩ := a0
          obtain ⟨z0, z1⟩ := t1
          have HM := Lib.hid hm
          clear hs hx hy hz b1 b2 hm
          go_wp2_with fail
          go_roundw
          case rel => exact ⟨k + 1, by omega, by rw [← HM.out], by go_num, HR.out⟩
          case measure => simp [intOf]; omega
        · obtain rfl : k = 3 := by omega
          have c1 := HR.out.out.cell hlt
          rw [mxP_at hlt, if_neg (by omega)] at c1
          have hfr := HR.out.out.free i
          have ho := H.out.2.1.o i hlt
          have hm : (mxP W p o i).set i (cut8 (o.getD i 0 + rnd (sumT W p i 3) 65536)) = mxP W p o (i + 1) := mxP_more
          obtain ⟨s, hs⟩ : ∃ s, s = sumT W p i 3 := ⟨_, rfl⟩
          rw [← hs] at hm a0 ⊢
          obtain ⟨x, hx⟩ : ∃ x, x = o.getD i 0 := ⟨_, rfl⟩
          rw [← hx] at hm c1 ho
          have HC := Lib.hid (fun w => round_any w s 65536 (by unfold isInt; omega) (by unfold isInt; omega))
          have hr := rnd_bound s 65536
          obtain ⟨r, hr'⟩ : ∃ r, r = rnd s 65536 := ⟨_, rfl⟩
          unfold Rounded at HC
          rw [← hr'] at hm hr HC
          have HM := Lib.hid hm
          obtain ⟨o0, o1⟩ := ho
          obtain ⟨r0, r1⟩ := hr
          clear hs hx hr' hm a0 hk hk3
          go_wp2_with fail
          go_region_with
            (first
              | (go_at_call 16
                 with_reducible refine (HC.out _).mono ?_
                 rintro e w6 ⟨rfl, rfl⟩))
          all_goals
            go_wp2_with fail
            go_roundw
            case rel =>
              refine ⟨i + 1, by omega, by go_num, ?_⟩
              rw [← HM.out]
              rw [min_max]
              exact (HR.out.put i _).on (on_drew _)
            case measure => simp [intOf]; omega
    · obtain rfl : i = 3 := by omega
      have hR := HR.out
      rw [mxP_all] at hR
      have HR := Lib.hid hR
      clear hR
      go_wp2_with (first
        | (with_reducible refine wpList_load_to (op := ⟨some 41, _, _, _, _, _⟩) rfl 39 (.tmp 3) rfl (.pointer (some ⟨w.heap.size, 0, none⟩)) rfl (rowV (mxL W p o)) HR.out.out.load ?_)
        | ((with_reducible refine wpList_store_row3 (o := ⟨none, _, _, _, _, _⟩) rfl (.tmp 6) (.tmp 41) rfl rfl (w.heap.size + 1 + 1 + 1) (mxL W p o) rfl rfl _ HR.out.res.box rfl rfl ?_)
           intro w9 b9 k9
           have H9 := Lib.hid (HR.out.done b9 k9)
           clear b9 k9)
        | fail)
      refine bodyPost_ret (v := rowV (mxL W p o)) (results_c (fn := Tryd.f13) Tryd.results13 _ _ (w.heap.size + 1 + 1 + 1) _ rfl (loadVar_row H9.out.2)) rfl ?_
      exact ⟨rfl, H9.out.1⟩
end Go.Proofs.YtpldadmeoolopaaDoor
