/-
  PlaneFlat: the walk.
-/
import Derived.Test.YtadlaljohlpabaaPTurn
import Derived.Deep.DeepCutAuto
namespace Go.Proofs.Ytadlaljohlpabaa
open Go.RowKit

/-- a plane in a box whose samples are appended one by one -/
structure Mp (w wr : World) (g : Nat) (W H : Int) (xs : List Int) (A : Option Addr) (n c : Nat) : Prop where
  out : Box wr g 24 #[.int .i64 W, .int .i64 H, .slice A n c]
  own : wr.ownsRow (g + 1) 3 1 (.slice A n c) n (cellsI xs)
  bel : Below w.heap.size w wr
  lo : g + 1 ≤ wr.heap.size
  new : w.heap.size ≤ g
section
variable {w wr w' : World} {g n c : Nat} {W H : Int} {xs : List Int} {A : Option Addr}
theorem Mp.on (h : Mp w wr g W H xs A n c) (k : Below wr.heap.size wr w') : Mp w w' g W H xs A n c :=
  ⟨h.out.on k, ownsRow_block h.own (fun i _ _ hh => k.block i (Array.getElem?_eq_some_iff.1 hh).1), on_trans h.bel k, Nat.le_trans h.lo k.size, h.new⟩
theorem Mp.len (h : Mp w wr g W H xs A n c) : n = xs.length := by have := h.own.1; simpa [cellsI] using this.symm
theorem Mp.more (h : Mp w wr g W H xs A n c) {A' : Option Addr} {n' c' : Nat} {ys : List Int} (hown : w'.ownsRow (g + 1) 3 1 (.slice A' n' c') n' (cellsI ys)) (k : Below (g + 1) wr w') :
    Mp w (w'.setCell ⟨g, 2, none⟩ (.slice A' n' c')) g W H ys A' n' c' := by
  have b2 : Box w' g 24 #[.int .i64 W, .int .i64 H, .slice A n c] := h.out.bel k (Nat.lt_succ_self g)
  refine ⟨b2.put 2 (.slice A' n' c'), ownsRow_block hown fun i _ e hh => ?_, ?_, ?_, h.new⟩
  · have hg : g + 1 ≤ i := by
      rcases hown.2 with ⟨e0, _⟩ | ⟨g', cap, cur, e0, hg', _⟩
      · rw [e0] at e; cases e
      · rw [e0] at e; cases e; exact hg'
    exact Below.heap_setCell w' ⟨g, 2, none⟩ _ i (fun e => by have e' : i = g := e; omega)
  · have k1 : Below w.heap.size w w' := h.bel.trans (k.mono (by have := h.new; omega))
    exact ((Kept.of_below k1 (fun i => i = g)).setCell (p := ⟨g, 2, none⟩) (fun _ => rfl) _).below (Nat.le_refl _) (fun i hi e => by have := h.new; omega)
  · have := k.size
    have := h.lo
    simp [World.setCell]
    omega
end
/-- a plane told by a call is stored into a box that was laid meanwhile -/
theorem Kn.laidZ {w v0 vz w2 w3 : World} {L : List PlK} {B n c : Nat} {W H : Int} {A : Option Addr} {xs : List Int} {Z : Array Value} (h : Kn w v0 L) (b : Below v0.heap.size v0 vz) (k : Below (vz.alloc (.cells Z 24)).heap.size (vz.alloc (.cells Z 24)) w2) (ho : Os w2 B A n c xs)
    (hb : Box w3 vz.heap.size 24 #[.int .i64 W, .int .i64 H, .slice A n c]) (kk : Kept (fun i => i = vz.heap.size) w2 w3) : Kn w w3 (⟨vz.heap.size, W, H, A, n, c, xs⟩ :: L) ∧ Below v0.heap.size v0 w3 := by
  have k2 : Below v0.heap.size v0 w2 := on_trans (on_trans b (on_alloc _ _)) k
  have bz : Box w2 vz.heap.size 24 Z := (Box.made vz 24 Z).on k
  have k3 : Below v0.heap.size v0 w3 := k2.trans (kk.below k2.size (fun i hi e => by have := b.size; omega))
  refine ⟨⟨fun p hp => ?_, on_trans h.bel k3⟩, k3⟩
  rcases List.mem_cons.1 hp with rfl | hp
  · refine ⟨hb, (ho.kept kk (fun b' off e hbg => ?_)).ia⟩
    obtain ⟨cs, fr, hh⟩ := ho.il.typ b' off e
    rw [hbg] at hh
    unfold Box at bz
    rw [bz] at hh
    simp at hh
  · exact Pb.on (h.all p hp) k3
theorem flat_rep (z : Int) (W H : Nat) : List.replicate (W * H) z = flatP z W H :=
  (grid_eq (by simp) (fun y hy x hx => by rw [List.getD_eq_getElem?_getD, List.getElem?_replicate_of_lt (row_lt hx hy)]; rfl)).symm

theorem crop_flat3 {z : Int} {W H : Nat} (hp : RightP (flatP z W H) W H) (hw : 1 ≤ W ∧ W ≤ 128) (hh : 1 ≤ H ∧ H ≤ 128) (x y : Int) :
    (∀ j, j < (cropF (W : Int) (H : Int) (flatP z W H) x y (H : Int) (W : Int)).2.2.1.length → (cropF (W : Int) (H : Int) (flatP z W H) x y (H : Int) (W : Int)).2.2.1.getD j 0 = z) ∧
    ((0 ≤ x ∧ x ≤ 128 ∧ 0 ≤ y ∧ y ≤ 128 ∧ (cropF (W : Int) (H : Int) (flatP z W H) x y (H : Int) (W : Int)).2.2.2 = 0) ∨ (¬ (0 ≤ x ∧ x ≤ 128 ∧ 0 ≤ y ∧ y ≤ 128) ∧ (cropF (W : Int) (H : Int) (flatP z W H) x y (H : Int) (W : Int)).2.2.2 = 2)) := by
  unfold cropF
  rw [if_pos hp.int]
  by_cases hc : 0 ≤ x ∧ x ≤ 128 ∧ 0 ≤ y ∧ y ≤ 128
  · rw [if_pos (by omega)]
    refine ⟨fun j hj => ?_, .inl ⟨hc.1, hc.2.1, hc.2.2.1, hc.2.2.2, rfl⟩⟩
    dsimp only at hj ⊢
    have hl : (cropL (flatP z W H) (W : Int).toNat (H : Int).toNat x.toNat y.toNat (H : Int).toNat (W : Int).toNat).length = H * W := by
      unfold cropL
      rw [gridL_len, Int.toNat_natCast, Int.toNat_natCast]
    rw [hl] at hj
    rw [Int.toNat_natCast, Int.toNat_natCast]
    exact crop_flat z hw.1 hh.1 _ _ _ _ hj
  · rw [if_neg (by omega)]
    exact ⟨fun j hj => absurd hj (by simp), .inr ⟨hc, rfl⟩⟩

set_option maxRecDepth 10000 in
set_option maxHeartbeats 6400000 in
theorem flat_calls (HP : Prog12) (w : World) (z u v : Int) (a d : Bool) (x y : Int) (hz : 0 ≤ z ∧ z ≤ 255) (hu : 0 ≤ u ∧ u ≤ 255) (hv : 0 ≤ v ∧ v ≤ 255) : Calls Try.prog 7 #[.int .u8 z, .int .u8 u, .int .u8 v, .bool a, .bool d, .int .i64 x, .int .i64 y] w (Law w) := by
  have HP := Lib.hid HP
  obtain ⟨u', rfl⟩ := Int.eq_ofNat_of_zero_le hu.1
  obtain ⟨v', rfl⟩ := Int.eq_ofNat_of_zero_le hv.1
  obtain ⟨W', hW⟩ : ∃ W', W' = u' % 128 + 1 := ⟨_, rfl⟩
  obtain ⟨H', hH⟩ : ∃ H', H' = v' % 128 + 1 := ⟨_, rfl⟩
  have ew : (u' : Int) % 128 + 1 = (W' : Int) := by omega
  have eh : (v' : Int) % 128 + 1 = (H' : Int) := by omega
  have w0 : 1 ≤ W' ∧ W' ≤ 128 := by omega
  have h0 : 1 ≤ H' ∧ H' ≤ 128 := by omega
  have hN : W' * H' ≤ 128 * 128 := Nat.mul_le_mul w0.2 h0.2
  have hp := flat_right (n := z) hz w0.1 w0.2 h0.1 h0.2
  obtain ⟨N, hNN⟩ : ∃ N, N = W' * H' := ⟨_, rfl⟩
  have eN : (W' : Int) * (H' : Int) = (N : Int) := by rw [hNN, Int.natCast_mul]
  rw [← hNN] at hN
  have HH := Lib.hid (And.intro hp (And.intro hNN (And.intro w0 h0)))
  obtain ⟨z0, z1⟩ := hz
  obtain ⟨-, u1⟩ := hu
  obtain ⟨-, v1⟩ := hv
  clear hp hNN w0 h0 hW hH
  obtain ⟨w1, hw1⟩ : ∃ w1, w.alloc (.cells #[.int .i64 (W' : Int), .int .i64 (H' : Int), .slice none 0 0] 24) = w1 := ⟨_, rfl⟩
  have HM := Lib.hid (show Mp w w1 w.heap.size (W' : Int) (H' : Int) (List.replicate 0 z) none 0 0 from by
    rw [← hw1]
    exact ⟨Box.made _ _ _, World.ownsRow_nil _ _ _ _, on_alloc _ _, by simp, Nat.le_refl _⟩)
  have HW1 := Lib.hid hw1
  clear hw1
  go_enter Try.func7, Try.ntmps7
  go_wp2_with fail
  rw [HW1.out]
  go_loopw [40] (fun i wr => ∃ k A' n' c', k ≤ N ∧ i = .int .i64 ((k : Nat) : Int) ∧ Mp w wr w.heap.size (W' : Int) (H' : Int) (List.replicate k z) A' n' c') (fun i _ => N - (intOf i).toNat)
  case atStart => exact ⟨0, none, 0, 0, by omega, rfl, HM.out⟩
  case round =>
    obtain ⟨k, A1, n1, c1, hk, rfl, hR⟩ := hrel
    have HR := Lib.hid hR
    have hn1 := hR.len
    rw [List.length_replicate] at hn1
    have HN1 := Lib.hid hn1
    clear hR hn1
    by_cases hkn : k < N
    case pos =>
      have c0 : wr.cell? ⟨w.heap.size, 2, none⟩ = some (.slice A1 n1 c1) := HR.out.out.cell 2
      have c0a : ∀ o, (wr.alloc o).cell? ⟨w.heap.size, 2, none⟩ = some (.slice A1 n1 c1) := fun o => (HR.out.on (on_alloc wr o)).out.cell 2
      have HA := Lib.hid (HR.out.on (on_alloc wr (.cells #[.int .i64 z] 3)))
      go_wp2_with (first
        | ((with_reducible refine wpList_append_il (o := ⟨some 47, _, _, _, _, _⟩) rfl (.tmp 43) (.tmp 46) rfl (w.heap.size + 1) (.slice A1 n1 c1) n1 (List.replicate k z) rfl HA.out.own (some ⟨wr.heap.size, 0, none⟩) 1 1 [z] rfl ?hr ?hs HA.out.lo ?_)
           case hr => exact il_of_box (Box.made wr 3 (cellsI [z]).toArray) rfl (show 1 ≤ maxLen by decide)
           case hs => have := HN1.out; omega
           intro v7 w7 hown7 bq
           obtain ⟨A7, c7, hv7⟩ := own_slice hown7
           subst hv7
           have B7 := HA.out.out.bel bq (Nat.lt_succ_self _)
           have c7 : w7.cell? ⟨w.heap.size, 2, none⟩ = some (.slice A1 n1 c1) := B7.cell 2
           have f7 : w7.frozen? ⟨w.heap.size, 2, none⟩ = false := B7.free 2
           have H7 := Lib.hid (And.intro hown7 bq)
           clear hown7 bq B7)
        | fail)
      have HE := Lib.hid (HA.out.more H7.out.1 H7.out.2)
      rw [← List.replicate_succ'] at HE
      go_roundw
      case rel => exact ⟨k + 1, _, _, _, by omega, by go_num, HE.out⟩
      case measure => simp [intOf]; omega
    case neg =>
      obtain rfl : k = N := by omega
      have hR := HR.out
      rw [HH.out.2.1, flat_rep] at hR
      have KP := Lib.hid (show Kn w wr [⟨w.heap.size, (W' : Int), (H' : Int), A1, n1, c1, flatP z W' H'⟩] from ⟨fun p hp => by
        rw [List.mem_singleton] at hp
        subst hp
        obtain ⟨A9, c9, e9, ho⟩ := os_of_own hR.own
        cases e9
        exact ⟨hR.out, ho.ia⟩, hR.bel⟩)
      have hnn : n1 ≤ 1000000 := by have := HN1.out; omega
      clear hR
      have T1 := Lib.hid (fun w A n c hI hn => HP.out.halve w W' H' a d A n c (flatP z W' H') hI hn)
      rw [halveF_right HH.out.1] at T1
      have T2 := Lib.hid (fun w A n c hI hn => HP.out.grow w W' H' H' W' a d A n c (flatP z W' H') hI hn)
      rw [growF_right HH.out.1 a d HH.out.2.2.2 HH.out.2.2.1] at T2
      have T3 := Lib.hid (fun w A n c hI hn => HP.out.crop w W' H' x y H' W' A n c (flatP z W' H') hI hn)
      obtain ⟨⟨W3, H3, x3, e3⟩, hR3⟩ : ∃ R, R = cropF (W' : Int) (H' : Int) (flatP z W' H') x y (H' : Int) (W' : Int) := ⟨_, rfl⟩
      rw [← hR3] at T3
      have hF3 := crop_flat3 (z := z) HH.out.1 HH.out.2.2.1 HH.out.2.2.2 x y
      rw [← hR3] at hF3
      have F3 := Lib.hid hF3
      have hL3 := cropF_len (W' : Int) (H' : Int) (flatP z W' H') x y (H' : Int) (W' : Int)
      rw [← hR3] at hL3
      have F3L := Lib.hid hL3
      clear hR3 hF3 hL3
      go_wp2_with (first
        | (with_reducible refine wpList_load_to (op := ⟨some 51, _, _, _, _, _⟩) rfl 24 (.tmp 15) rfl (.pointer (some ⟨w.heap.size, 0, none⟩)) rfl (.agg #[.int .i64 (W' : Int), .int .i64 (H' : Int), .slice A1 n1 c1]) KP.out.n0.load ?_)
        | fail)
      refine Calls.mono (own_any _ (W' : Int) (H' : Int) A1 n1 c1 _ KP.out.n0.sl hnn) ?_
      rintro r v9 ⟨A9, c9, rfl, O9, b9⟩
      have K9 := Lib.hid (KP.out.on b9)
      have O9 := Lib.hid O9
      clear b9
      go_wp2_with fail
      refine Calls.mono (T1.out _ A9 n1 c9 O9.out.ia hnn) ?_
      rintro r v10 ⟨A10, n10, c10, rfl, O10, b10⟩
      dsimp only
      have K10 := Lib.hid ((K9.out.on b10).made (W := ((halfN a W' : Nat) : Int)) (H := ((halfN d H' : Nat) : Int)) O10.ia)
      have O10 := Lib.hid O10
      clear b10
      go_upto_region 7 with fail
      obtain ⟨w10, hw10⟩ : ∃ w10, v10.alloc (.cells #[.int .i64 ((halfN a W' : Nat) : Int), .int .i64 ((halfN d H' : Nat) : Int), .slice A10 n10 c10] 24) = w10 := ⟨_, rfl⟩
      rw [hw10] at K10 ⊢
      obtain ⟨g10, hg10⟩ : ∃ g, g = v10.heap.size := ⟨_, rfl⟩
      rw [← hg10] at K10 ⊢
      clear hg10 hw10
      have KL : Hid (Kn w w10 [⟨g10, ((halfN a W' : Nat) : Int), ((halfN d H' : Nat) : Int), A10, n10, c10, halveL (flatP z W' H') W' H' a d⟩, ⟨w.heap.size, (W' : Int), (H' : Int), A1, n1, c1, flatP z W' H'⟩]) := K10
      go_cut [18, 19] (fun bq eq wx => ∃ g A n c, bq = .pointer (some ⟨g, 0, none⟩) ∧ eq = .int .i64 0 ∧ Kn w wx (⟨g, (H' : Int), (W' : Int), A, n, c, growL (flatP z W' H') W' H' a d H' W'⟩ :: [⟨g10, ((halfN a W' : Nat) : Int), ((halfN d H' : Nat) : Int), A10, n10, c10, halveL (flatP z W' H') W' H' a d⟩, ⟨w.heap.size, (W' : Int), (H' : Int), A1, n1, c1, flatP z W' H'⟩]))
      case first =>
        have HK := Lib.hid (fun w' (h : Hid (Below w10.heap.size w10 w')) => KL.out.on h.out)
        refine wp_region_held_drew (S := fun w' => Hid (Below w10.heap.size w10 w')) (by kernel_rfl) (Lib.hid (on_drew w10)) fun s0 => ?_
        refine take_to (i := 0) rfl (by kernel_rfl) (by kernel_rfl) (by kernel_rfl) (fun _ _ _ h => h) (yieldsIf_load (by rfl) 24 _ rfl (.pointer (some ⟨w.heap.size, 0, none⟩)) rfl (.agg #[.int .i64 (W' : Int), .int .i64 (H' : Int), .slice A1 n1 c1]) (fun w' h => (HK.out w' h).n1.load)) s0 (some 59) rfl ?_
        try simp only [Act.put, List.setIfInBounds_toArray, List.set_cons_zero, List.set_cons_succ]
        refine take_to (i := 2) (v := .bool a) rfl (by kernel_rfl) (by kernel_rfl) (by kernel_rfl) (fun _ _ _ h => h) (Or.inl ⟨by rfl, fun w' hS => by go_simp⟩) s0 (some 61) rfl ?_
        try simp only [Act.put, List.setIfInBounds_toArray, List.set_cons_zero, List.set_cons_succ]
        refine take_to (i := 3) (v := .bool d) rfl (by kernel_rfl) (by kernel_rfl) (by kernel_rfl) (fun _ _ _ h => h) (Or.inl ⟨by rfl, fun w' hS => by go_simp⟩) s0 (some 62) rfl ?_
        try simp only [Act.put, List.setIfInBounds_toArray, List.set_cons_zero, List.set_cons_succ]
        refine take_to (i := 4) (v := .pointer (some ⟨w.heap.size, 1, none⟩)) rfl (by kernel_rfl) (by kernel_rfl) (by kernel_rfl) (fun _ _ _ h => h) (Or.inl ⟨by rfl, fun w' hS => by go_simp⟩) s0 (some 63) rfl ?_
        try simp only [Act.put, List.setIfInBounds_toArray, List.set_cons_zero, List.set_cons_succ]
        refine take_to (i := 5) (v := (.int .i64 (H' : Int))) rfl (by kernel_rfl) (by kernel_rfl) (by kernel_rfl) (fun _ _ _ h => h) (Or.inl ⟨by rfl, fun w' hS => by have hc := (HK.out w' hS).n1.box.cell 1; simp at hc; go_simp⟩) s0 (some 64) rfl ?_
        try simp only [Act.put, List.setIfInBounds_toArray, List.set_cons_zero, List.set_cons_succ]
        refine take_to (i := 6) (v := .pointer (some ⟨w.heap.size, 0, none⟩)) rfl (by kernel_rfl) (by kernel_rfl) (by kernel_rfl) (fun _ _ _ h => h) (Or.inl ⟨by rfl, fun w' hS => by go_simp⟩) s0 (some 65) rfl ?_
        try simp only [Act.put, List.setIfInBounds_toArray, List.set_cons_zero, List.set_cons_succ]
        refine take_to (i := 7) (v := (.int .i64 (W' : Int))) rfl (by kernel_rfl) (by kernel_rfl) (by kernel_rfl) (fun _ _ _ h => h) (Or.inl ⟨by rfl, fun w' hS => by have hc := (HK.out w' hS).n1.box.cell 0; simp at hc; go_simp⟩) s0 (some 66) rfl ?_
        try simp only [Act.put, List.setIfInBounds_toArray, List.set_cons_zero, List.set_cons_succ]
        generalize w10.drew = v0 at s0 ⊢
        refine wpAnyH_ready (rs := [1, 12]) (by kernel_rfl) (by simp) ?_
        refine AllReadyH.cons rfl (fun K hK => ?_) (AllReadyH.cons rfl (fun K hK => ?_) AllReadyH.nil)
        · go_simp
          refine Calls.mono (own_any v0 (W' : Int) (H' : Int) A1 n1 c1 _ (HK.out _ s0).n1.sl hnn) ?_
          rintro r v1 ⟨A5, c5, rfl, O5, k1⟩
          have s1 := Lib.hid (on_trans s0.out k1)
          refine hK.out _ _ s1 fun _ => ?_
          clear hK K
          try simp only [Act.put, List.setIfInBounds_toArray, List.set_cons_zero, List.set_cons_succ]
          have HO5 := Below.refl v1.heap.size v1
          refine wpAnyH_ready (rs := [8, 12]) (by kernel_rfl) (by simp) ?_
          refine AllReadyH.cons rfl (fun K hK => ?_) (AllReadyH.cons rfl (fun K hK => ?_) AllReadyH.nil)
          · go_simp
            refine Calls.mono (T2.out _ A5 n1 c5 (O5.ia.on HO5) hnn) ?_
            rintro r v2 ⟨A6, n6, c6, rfl, O6, k2⟩
            have s2 := Lib.hid (on_trans s1.out k2)
            refine hK.out _ _ s2 fun _ => ?_
            clear hK K
            refine take_to (i := 9) (v := .tuple #[.agg #[.int .i64 (H' : Int), .int .i64 (W' : Int), .slice A6 n6 c6], .int .i64 0]) rfl (by kernel_rfl) (by kernel_rfl) (by kernel_rfl) (fun _ _ _ h => h) (Or.inl ⟨by rfl, fun w' hS => by go_simp⟩) s2 (some 58) rfl ?_
            try simp only [Act.put, List.setIfInBounds_toArray, List.set_cons_zero, List.set_cons_succ]
            refine take_to (i := 10) (v := .agg #[.int .i64 (H' : Int), .int .i64 (W' : Int), .slice A6 n6 c6]) rfl (by kernel_rfl) (by kernel_rfl) (by kernel_rfl) (fun _ _ _ h => h) (Or.inl ⟨by rfl, fun w' hS => by go_simp⟩) s2 (some 68) rfl ?_
            try simp only [Act.put, List.setIfInBounds_toArray, List.set_cons_zero, List.set_cons_succ]
            refine take_to (i := 11) (v := .int .i64 0) rfl (by kernel_rfl) (by kernel_rfl) (by kernel_rfl) (fun _ _ _ h => h) (Or.inl ⟨by rfl, fun w' hS => by go_simp⟩) s2 (some 69) rfl ?_
            try simp only [Act.put, List.setIfInBounds_toArray, List.set_cons_zero, List.set_cons_succ]
            refine wpAnyH_ready (rs := [12]) (by kernel_rfl) (by simp) ?_
            refine AllReadyH.cons rfl (fun K hK => ?_) AllReadyH.nil
            · go_simp
              have s3 := Lib.hid (on_trans s2.out (on_alloc v2 (.cells #[.int .i64 0, .int .i64 0, .slice none 0 0] 24)))
              have ka := Below.refl (v2.alloc (.cells #[.int .i64 0, .int .i64 0, .slice none 0 0] 24)).heap.size (v2.alloc (.cells #[.int .i64 0, .int .i64 0, .slice none 0 0] 24))
              refine hK.out _ _ s3 fun _ => ?_
              clear hK K
              try simp only [Act.put, List.setIfInBounds_toArray, List.set_cons_zero, List.set_cons_succ]
              refine wpAnyH_ready (rs := [13]) (by kernel_rfl) (by simp) ?_
              refine AllReadyH.cons rfl (fun K hK => ?_) AllReadyH.nil
              refine if_then (by rfl) ?_
              refine wp_store_plane (.tmp 18) (.tmp 68) rfl rfl v2.heap.size #[.int .i64 (H' : Int), .int .i64 (W' : Int), .slice A6 n6 c6] rfl (by simp [Value.oneCell']) rfl rfl #[.int .i64 0, .int .i64 0, .slice none 0 0] ((Box.made v2 24 _).on ka) rfl fun w9 b9 k9 => ?_
              have hf := Kn.laidZ KL.out s2.out ka (O6.on (on_alloc v2 (.cells #[.int .i64 0, .int .i64 0, .slice none 0 0] 24))) b9 k9
              have KF := Lib.hid hf.1
              have sf := Lib.hid hf.2
              clear hf b9 k9
              refine hK.out _ _ sf fun _ => ?_
              clear hK K
              refine take_to (i := 14) (v := .int .i64 0) rfl (by kernel_rfl) (by kernel_rfl) (by kernel_rfl) (fun _ _ _ h => h) (Or.inl ⟨by rfl, fun w' hS => by go_simp⟩) sf (some 19) rfl ?_
              try simp only [Act.put, List.setIfInBounds_toArray, List.set_cons_zero, List.set_cons_succ]
              refine wpAnyH_done (by kernel_rfl) ?_ _
              go_wp2_with fail
              go_meet
              exact ⟨_, _, _, _, rfl, rfl, KF.out⟩
          · go_simp
            have s2 := Lib.hid (on_trans s1.out (on_alloc v1 (.cells #[.int .i64 0, .int .i64 0, .slice none 0 0] 24)))
            have ka := Below.refl (v1.alloc (.cells #[.int .i64 0, .int .i64 0, .slice none 0 0] 24)).heap.size (v1.alloc (.cells #[.int .i64 0, .int .i64 0, .slice none 0 0] 24))
            have HO5 := on_trans HO5 (on_alloc v1 (.cells #[.int .i64 0, .int .i64 0, .slice none 0 0] 24))
            refine hK.out _ _ s2 fun _ => ?_
            clear hK K
            try simp only [Act.put, List.setIfInBounds_toArray, List.set_cons_zero, List.set_cons_succ]
            refine wpAnyH_ready (rs := [8]) (by kernel_rfl) (by simp) ?_
            refine AllReadyH.cons rfl (fun K hK => ?_) AllReadyH.nil
            · go_simp
              refine Calls.mono (T2.out _ A5 n1 c5 (O5.ia.on HO5) hnn) ?_
              rintro r v3 ⟨A6, n6, c6, rfl, O6, k3⟩
              have s3 := Lib.hid (on_trans s2.out k3)
              have ka := on_trans ka k3
              refine hK.out _ _ s3 fun _ => ?_
              clear hK K
              refine take_to (i := 9) (v := .tuple #[.agg #[.int .i64 (H' : Int), .int .i64 (W' : Int), .slice A6 n6 c6], .int .i64 0]) rfl (by kernel_rfl) (by kernel_rfl) (by kernel_rfl) (fun _ _ _ h => h) (Or.inl ⟨by rfl, fun w' hS => by go_simp⟩) s3 (some 58) rfl ?_
              try simp only [Act.put, List.setIfInBounds_toArray, List.set_cons_zero, List.set_cons_succ]
              refine take_to (i := 10) (v := .agg #[.int .i64 (H' : Int), .int .i64 (W' : Int), .slice A6 n6 c6]) rfl (by kernel_rfl) (by kernel_rfl) (by kernel_rfl) (fun _ _ _ h => h) (Or.inl ⟨by rfl, fun w' hS => by go_simp⟩) s3 (some 68) rfl ?_
              try simp only [Act.put, List.setIfInBounds_toArray, List.set_cons_zero, List.set_cons_succ]
              refine take_to (i := 11) (v := .int .i64 0) rfl (by kernel_rfl) (by kernel_rfl) (by kernel_rfl) (fun _ _ _ h => h) (Or.inl ⟨by rfl, fun w' hS => by go_simp⟩) s3 (some 69) rfl ?_
              try simp only [Act.put, List.setIfInBounds_toArray, List.set_cons_zero, List.set_cons_succ]
              refine wpAnyH_ready (rs := [13]) (by kernel_rfl) (by simp) ?_
              refine AllReadyH.cons rfl (fun K hK => ?_) AllReadyH.nil
              refine if_then (by rfl) ?_
              refine wp_store_plane (.tmp 18) (.tmp 68) rfl rfl v1.heap.size #[.int .i64 (H' : Int), .int .i64 (W' : Int), .slice A6 n6 c6] rfl (by simp [Value.oneCell']) rfl rfl #[.int .i64 0, .int .i64 0, .slice none 0 0] ((Box.made v1 24 _).on ka) rfl fun w9 b9 k9 => ?_
              have hf := Kn.laidZ KL.out s1.out ka O6 b9 k9
              have KF := Lib.hid hf.1
              have sf := Lib.hid hf.2
              clear hf b9 k9
              refine hK.out _ _ sf fun _ => ?_
              clear hK K
              refine take_to (i := 14) (v := .int .i64 0) rfl (by kernel_rfl) (by kernel_rfl) (by kernel_rfl) (fun _ _ _ h => h) (Or.inl ⟨by rfl, fun w' hS => by go_simp⟩) sf (some 19) rfl ?_
              try simp only [Act.put, List.setIfInBounds_toArray, List.set_cons_zero, List.set_cons_succ]
              refine wpAnyH_done (by kernel_rfl) ?_ _
              go_wp2_with fail
              go_meet
              exact ⟨_, _, _, _, rfl, rfl, KF.out⟩
        · go_simp
          have s1 := Lib.hid (on_trans s0.out (on_alloc v0 (.cells #[.int .i64 0, .int .i64 0, .slice none 0 0] 24)))
          have ka := Below.refl (v0.alloc (.cells #[.int .i64 0, .int .i64 0, .slice none 0 0] 24)).heap.size (v0.alloc (.cells #[.int .i64 0, .int .i64 0, .slice none 0 0] 24))
          refine hK.out _ _ s1 fun _ => ?_
          clear hK K
          try simp only [Act.put, List.setIfInBounds_toArray, List.set_cons_zero, List.set_cons_succ]
          refine wpAnyH_ready (rs := [1]) (by kernel_rfl) (by simp) ?_
          refine AllReadyH.cons rfl (fun K hK => ?_) AllReadyH.nil
          · go_simp
            refine Calls.mono (own_any (v0.alloc (.cells #[.int .i64 0, .int .i64 0, .slice none 0 0] 24)) (W' : Int) (H' : Int) A1 n1 c1 _ (HK.out _ s1).n1.sl hnn) ?_
            rintro r v2 ⟨A5, c5, rfl, O5, k2⟩
            have s2 := Lib.hid (on_trans s1.out k2)
            have ka := on_trans ka k2
            refine hK.out _ _ s2 fun _ => ?_
            clear hK K
            try simp only [Act.put, List.setIfInBounds_toArray, List.set_cons_zero, List.set_cons_succ]
            have HO5 := Below.refl v2.heap.size v2
            refine wpAnyH_ready (rs := [8]) (by kernel_rfl) (by simp) ?_
            refine AllReadyH.cons rfl (fun K hK => ?_) AllReadyH.nil
            · go_simp
              refine Calls.mono (T2.out _ A5 n1 c5 (O5.ia.on HO5) hnn) ?_
              rintro r v3 ⟨A6, n6, c6, rfl, O6, k3⟩
              have s3 := Lib.hid (on_trans s2.out k3)
              have ka := on_trans ka k3
              refine hK.out _ _ s3 fun _ => ?_
              clear hK K
              refine take_to (i := 9) (v := .tuple #[.agg #[.int .i64 (H' : Int), .int .i64 (W' : Int), .slice A6 n6 c6], .int .i64 0]) rfl (by kernel_rfl) (by kernel_rfl) (by kernel_rfl) (fun _ _ _ h => h) (Or.inl ⟨by rfl, fun w' hS => by go_simp⟩) s3 (some 58) rfl ?_
              try simp only [Act.put, List.setIfInBounds_toArray, List.set_cons_zero, List.set_cons_succ]
              refine take_to (i := 10) (v := .agg #[.int .i64 (H' : Int), .int .i64 (W' : Int), .slice A6 n6 c6]) rfl (by kernel_rfl) (by kernel_rfl) (by kernel_rfl) (fun _ _ _ h => h) (Or.inl ⟨by rfl, fun w' hS => by go_simp⟩) s3 (some 68) rfl ?_
              try simp only [Act.put, List.setIfInBounds_toArray, List.set_cons_zero, List.set_cons_succ]
              refine take_to (i := 11) (v := .int .i64 0) rfl (by kernel_rfl) (by kernel_rfl) (by kernel_rfl) (fun _ _ _ h => h) (Or.inl ⟨by rfl, fun w' hS => by go_simp⟩) s3 (some 69) rfl ?_
              try simp only [Act.put, List.setIfInBounds_toArray, List.set_cons_zero, List.set_cons_succ]
              refine wpAnyH_ready (rs := [13]) (by kernel_rfl) (by simp) ?_
              refine AllReadyH.cons rfl (fun K hK => ?_) AllReadyH.nil
              refine if_then (by rfl) ?_
              refine wp_store_plane (.tmp 18) (.tmp 68) rfl rfl v0.heap.size #[.int .i64 (H' : Int), .int .i64 (W' : Int), .slice A6 n6 c6] rfl (by simp [Value.oneCell']) rfl rfl #[.int .i64 0, .int .i64 0, .slice none 0 0] ((Box.made v0 24 _).on ka) rfl fun w9 b9 k9 => ?_
              have hf := Kn.laidZ KL.out s0.out ka O6 b9 k9
              have KF := Lib.hid hf.1
              have sf := Lib.hid hf.2
              clear hf b9 k9
              refine hK.out _ _ sf fun _ => ?_
              clear hK K
              refine take_to (i := 14) (v := .int .i64 0) rfl (by kernel_rfl) (by kernel_rfl) (by kernel_rfl) (fun _ _ _ h => h) (Or.inl ⟨by rfl, fun w' hS => by go_simp⟩) sf (some 19) rfl ?_
              try simp only [Act.put, List.setIfInBounds_toArray, List.set_cons_zero, List.set_cons_succ]
              refine wpAnyH_done (by kernel_rfl) ?_ _
              go_wp2_with fail
              go_meet
              exact ⟨_, _, _, _, rfl, rfl, KF.out⟩
      case rest =>
        obtain ⟨g11, A11, n11, c11, rfl, rfl, hk11⟩ := hcut
        have K11 := Lib.hid hk11
        clear hk11
        go_upto_region 8 with fail
        have KL : Hid (Kn w wc [⟨g11, (H' : Int), (W' : Int), A11, n11, c11, growL (flatP z W' H') W' H' a d H' W'⟩, ⟨g10, ((halfN a W' : Nat) : Int), ((halfN d H' : Nat) : Int), A10, n10, c10, halveL (flatP z W' H') W' H' a d⟩, ⟨w.heap.size, (W' : Int), (H' : Int), A1, n1, c1, flatP z W' H'⟩]) := K11
        go_cut [20, 21] (fun bq eq wx => ∃ g A n c, bq = .pointer (some ⟨g, 0, none⟩) ∧ eq = .int .i64 e3 ∧ Kn w wx (⟨g, W3, H3, A, n, c, x3⟩ :: [⟨g11, (H' : Int), (W' : Int), A11, n11, c11, growL (flatP z W' H') W' H' a d H' W'⟩, ⟨g10, ((halfN a W' : Nat) : Int), ((halfN d H' : Nat) : Int), A10, n10, c10, halveL (flatP z W' H') W' H' a d⟩, ⟨w.heap.size, (W' : Int), (H' : Int), A1, n1, c1, flatP z W' H'⟩]))
        case first =>
          have HK := Lib.hid (fun w' (h : Hid (Below wc.heap.size wc w')) => KL.out.on h.out)
          refine wp_region_held_drew (S := fun w' => Hid (Below wc.heap.size wc w')) (by kernel_rfl) (Lib.hid (on_drew wc)) fun s0 => ?_
          refine take_to (i := 0) rfl (by kernel_rfl) (by kernel_rfl) (by kernel_rfl) (fun _ _ _ h => h) (yieldsIf_load (by rfl) 24 _ rfl (.pointer (some ⟨w.heap.size, 0, none⟩)) rfl (.agg #[.int .i64 (W' : Int), .int .i64 (H' : Int), .slice A1 n1 c1]) (fun w' h => (HK.out w' h).n2.load)) s0 (some 71) rfl ?_
          try simp only [Act.put, List.setIfInBounds_toArray, List.set_cons_zero, List.set_cons_succ]
          refine take_to (i := 2) (v := .int .i64 x) rfl (by kernel_rfl) (by kernel_rfl) (by kernel_rfl) (fun _ _ _ h => h) (Or.inl ⟨by rfl, fun w' hS => by go_simp⟩) s0 (some 73) rfl ?_
          try simp only [Act.put, List.setIfInBounds_toArray, List.set_cons_zero, List.set_cons_succ]
          refine take_to (i := 3) (v := .int .i64 y) rfl (by kernel_rfl) (by kernel_rfl) (by kernel_rfl) (fun _ _ _ h => h) (Or.inl ⟨by rfl, fun w' hS => by go_simp⟩) s0 (some 74) rfl ?_
          try simp only [Act.put, List.setIfInBounds_toArray, List.set_cons_zero, List.set_cons_succ]
          refine take_to (i := 4) (v := .pointer (some ⟨w.heap.size, 1, none⟩)) rfl (by kernel_rfl) (by kernel_rfl) (by kernel_rfl) (fun _ _ _ h => h) (Or.inl ⟨by rfl, fun w' hS => by go_simp⟩) s0 (some 75) rfl ?_
          try simp only [Act.put, List.setIfInBounds_toArray, List.set_cons_zero, List.set_cons_succ]
          refine take_to (i := 5) (v := (.int .i64 (H' : Int))) rfl (by kernel_rfl) (by kernel_rfl) (by kernel_rfl) (fun _ _ _ h => h) (Or.inl ⟨by rfl, fun w' hS => by have hc := (HK.out w' hS).n2.box.cell 1; simp at hc; go_simp⟩) s0 (some 76) rfl ?_
          try simp only [Act.put, List.setIfInBounds_toArray, List.set_cons_zero, List.set_cons_succ]
          refine take_to (i := 6) (v := .pointer (some ⟨w.heap.size, 0, none⟩)) rfl (by kernel_rfl) (by kernel_rfl) (by kernel_rfl) (fun _ _ _ h => h) (Or.inl ⟨by rfl, fun w' hS => by go_simp⟩) s0 (some 77) rfl ?_
          try simp only [Act.put, List.setIfInBounds_toArray, List.set_cons_zero, List.set_cons_succ]
          refine take_to (i := 7) (v := (.int .i64 (W' : Int))) rfl (by kernel_rfl) (by kernel_rfl) (by kernel_rfl) (fun _ _ _ h => h) (Or.inl ⟨by rfl, fun w' hS => by have hc := (HK.out w' hS).n2.box.cell 0; simp at hc; go_simp⟩) s0 (some 78) rfl ?_
          try simp only [Act.put, List.setIfInBounds_toArray, List.set_cons_zero, List.set_cons_succ]
          generalize wc.drew = v0 at s0 ⊢
          refine wpAnyH_ready (rs := [1, 12]) (by kernel_rfl) (by simp) ?_
          refine AllReadyH.cons rfl (fun K hK => ?_) (AllReadyH.cons rfl (fun K hK => ?_) AllReadyH.nil)
          · go_simp
            refine Calls.mono (own_any v0 (W' : Int) (H' : Int) A1 n1 c1 _ (HK.out _ s0).n2.sl hnn) ?_
            rintro r v1 ⟨A5, c5, rfl, O5, k1⟩
            have s1 := Lib.hid (on_trans s0.out k1)
            refine hK.out _ _ s1 fun _ => ?_
            clear hK K
            try simp only [Act.put, List.setIfInBounds_toArray, List.set_cons_zero, List.set_cons_succ]
            have HO5 := Below.refl v1.heap.size v1
            refine wpAnyH_ready (rs := [8, 12]) (by kernel_rfl) (by simp) ?_
            refine AllReadyH.cons rfl (fun K hK => ?_) (AllReadyH.cons rfl (fun K hK => ?_) AllReadyH.nil)
            · go_simp
              refine Calls.mono (T3.out _ A5 n1 c5 (O5.ia.on HO5) hnn) ?_
              rintro r v2 ⟨A6, n6, c6, rfl, O6, k2⟩
              have s2 := Lib.hid (on_trans s1.out k2)
              refine hK.out _ _ s2 fun _ => ?_
              clear hK K
              refine take_to (i := 9) (v := .tuple #[.agg #[.int .i64 W3, .int .i64 H3, .slice A6 n6 c6], .int .i64 e3]) rfl (by kernel_rfl) (by kernel_rfl) (by kernel_rfl) (fun _ _ _ h => h) (Or.inl ⟨by rfl, fun w' hS => by go_simp⟩) s2 (some 70) rfl ?_
              try simp only [Act.put, List.setIfInBounds_toArray, List.set_cons_zero, List.set_cons_succ]
              refine take_to (i := 10) (v := .agg #[.int .i64 W3, .int .i64 H3, .slice A6 n6 c6]) rfl (by kernel_rfl) (by kernel_rfl) (by kernel_rfl) (fun _ _ _ h => h) (Or.inl ⟨by rfl, fun w' hS => by go_simp⟩) s2 (some 80) rfl ?_
              try simp only [Act.put, List.setIfInBounds_toArray, List.set_cons_zero, List.set_cons_succ]
              refine take_to (i := 11) (v := .int .i64 e3) rfl (by kernel_rfl) (by kernel_rfl) (by kernel_rfl) (fun _ _ _ h => h) (Or.inl ⟨by rfl, fun w' hS => by go_simp⟩) s2 (some 81) rfl ?_
              try simp only [Act.put, List.setIfInBounds_toArray, List.set_cons_zero, List.set_cons_succ]
              refine wpAnyH_ready (rs := [12]) (by kernel_rfl) (by simp) ?_
              refine AllReadyH.cons rfl (fun K hK => ?_) AllReadyH.nil
              · go_simp
                have s3 := Lib.hid (on_trans s2.out (on_alloc v2 (.cells #[.int .i64 0, .int .i64 0, .slice none 0 0] 24)))
                have ka := Below.refl (v2.alloc (.cells #[.int .i64 0, .int .i64 0, .slice none 0 0] 24)).heap.size (v2.alloc (.cells #[.int .i64 0, .int .i64 0, .slice none 0 0] 24))
                refine hK.out _ _ s3 fun _ => ?_
                clear hK K
                try simp only [Act.put, List.setIfInBounds_toArray, List.set_cons_zero, List.set_cons_succ]
                refine wpAnyH_ready (rs := [13]) (by kernel_rfl) (by simp) ?_
                refine AllReadyH.cons rfl (fun K hK => ?_) AllReadyH.nil
                refine if_then (by rfl) ?_
                refine wp_store_plane (.tmp 20) (.tmp 80) rfl rfl v2.heap.size #[.int .i64 W3, .int .i64 H3, .slice A6 n6 c6] rfl (by simp [Value.oneCell']) rfl rfl #[.int .i64 0, .int .i64 0, .slice none 0 0] ((Box.made v2 24 _).on ka) rfl fun w9 b9 k9 => ?_
                have hf := Kn.laidZ KL.out s2.out ka (O6.on (on_alloc v2 (.cells #[.int .i64 0, .int .i64 0, .slice none 0 0] 24))) b9 k9
                have KF := Lib.hid hf.1
                have sf := Lib.hid hf.2
                clear hf b9 k9
                refine hK.out _ _ sf fun _ => ?_
                clear hK K
                refine take_to (i := 14) (v := .int .i64 e3) rfl (by kernel_rfl) (by kernel_rfl) (by kernel_rfl) (fun _ _ _ h => h) (Or.inl ⟨by rfl, fun w' hS => by go_simp⟩) sf (some 21) rfl ?_
                try simp only [Act.put, List.setIfInBounds_toArray, List.set_cons_zero, List.set_cons_succ]
                refine wpAnyH_done (by kernel_rfl) ?_ _
                go_wp2_with fail
                go_meet
                exact ⟨_, _, _, _, rfl, rfl, KF.out⟩
            · go_simp
              have s2 := Lib.hid (on_trans s1.out (on_alloc v1 (.cells #[.int .i64 0, .int .i64 0, .slice none 0 0] 24)))
              have ka := Below.refl (v1.alloc (.cells #[.int .i64 0, .int .i64 0, .slice none 0 0] 24)).heap.size (v1.alloc (.cells #[.int .i64 0, .int .i64 0, .slice none 0 0] 24))
              have HO5 := on_trans HO5 (on_alloc v1 (.cells #[.int .i64 0, .int .i64 0, .slice none 0 0] 24))
              refine hK.out _ _ s2 fun _ => ?_
              clear hK K
              try simp only [Act.put, List.setIfInBounds_toArray, List.set_cons_zero, List.set_cons_succ]
              refine wpAnyH_ready (rs := [8]) (by kernel_rfl) (by simp) ?_
              refine AllReadyH.cons rfl (fun K hK => ?_) AllReadyH.nil
              · go_simp
                refine Calls.mono (T3.out _ A5 n1 c5 (O5.ia.on HO5) hnn) ?_
                rintro r v3 ⟨A6, n6, c6, rfl, O6, k3⟩
                have s3 := Lib.hid (on_trans s2.out k3)
                have ka := on_trans ka k3
                refine hK.out _ _ s3 fun _ => ?_
                clear hK K
                refine take_to (i := 9) (v := .tuple #[.agg #[.int .i64 W3, .int .i64 H3, .slice A6 n6 c6], .int .i64 e3]) rfl (by kernel_rfl) (by kernel_rfl) (by kernel_rfl) (fun _ _ _ h => h) (Or.inl ⟨by rfl, fun w' hS => by go_simp⟩) s3 (some 70) rfl ?_
                try simp only [Act.put, List.setIfInBounds_toArray, List.set_cons_zero, List.set_cons_succ]
                refine take_to (i := 10) (v := .agg #[.int .i64 W3, .int .i64 H3, .slice A6 n6 c6]) rfl (by kernel_rfl) (by kernel_rfl) (by kernel_rfl) (fun _ _ _ h => h) (Or.inl ⟨by rfl, fun w' hS => by go_simp⟩) s3 (some 80) rfl ?_
                try simp only [Act.put, List.setIfInBounds_toArray, List.set_cons_zero, List.set_cons_succ]
                refine take_to (i := 11) (v := .int .i64 e3) rfl (by kernel_rfl) (by kernel_rfl) (by kernel_rfl) (fun _ _ _ h => h) (Or.inl ⟨by rfl, fun w' hS => by go_simp⟩) s3 (some 81) rfl ?_
                try simp only [Act.put, List.setIfInBounds_toArray, List.set_cons_zero, List.set_cons_succ]
                refine wpAnyH_ready (rs := [13]) (by kernel_rfl) (by simp) ?_
                refine AllReadyH.cons rfl (fun K hK => ?_) AllReadyH.nil
                refine if_then (by rfl) ?_
                refine wp_store_plane (.tmp 20) (.tmp 80) rfl rfl v1.heap.size #[.int .i64 W3, .int .i64 H3, .slice A6 n6 c6] rfl (by simp [Value.oneCell']) rfl rfl #[.int .i64 0, .int .i64 0, .slice none 0 0] ((Box.made v1 24 _).on ka) rfl fun w9 b9 k9 => ?_
                have hf := Kn.laidZ KL.out s1.out ka O6 b9 k9
                have KF := Lib.hid hf.1
                have sf := Lib.hid hf.2
                clear hf b9 k9
                refine hK.out _ _ sf fun _ => ?_
                clear hK K
                refine take_to (i := 14) (v := .int .i64 e3) rfl (by kernel_rfl) (by kernel_rfl) (by kernel_rfl) (fun _ _ _ h => h) (Or.inl ⟨by rfl, fun w' hS => by go_simp⟩) sf (some 21) rfl ?_
                try simp only [Act.put, List.setIfInBounds_toArray, List.set_cons_zero, List.set_cons_succ]
                refine wpAnyH_done (by kernel_rfl) ?_ _
                go_wp2_with fail
                go_meet
                exact ⟨_, _, _, _, rfl, rfl, KF.out⟩
          · go_simp
            have s1 := Lib.hid (on_trans s0.out (on_alloc v0 (.cells #[.int .i64 0, .int .i64 0, .slice none 0 0] 24)))
            have ka := Below.refl (v0.alloc (.cells #[.int .i64 0, .int .i64 0, .slice none 0 0] 24)).heap.size (v0.alloc (.cells #[.int .i64 0, .int .i64 0, .slice none 0 0] 24))
            refine hK.out _ _ s1 fun _ => ?_
            clear hK K
            try simp only [Act.put, List.setIfInBounds_toArray, List.set_cons_zero, List.set_cons_succ]
            refine wpAnyH_ready (rs := [1]) (by kernel_rfl) (by simp) ?_
            refine AllReadyH.cons rfl (fun K hK => ?_) AllReadyH.nil
            · go_simp
              refine Calls.mono (own_any (v0.alloc (.cells #[.int .i64 0, .int .i64 0, .slice none 0 0] 24)) (W' : Int) (H' : Int) A1 n1 c1 _ (HK.out _ s1).n2.sl hnn) ?_
              rintro r v2 ⟨A5, c5, rfl, O5, k2⟩
              have s2 := Lib.hid (on_trans s1.out k2)
              have ka := on_trans ka k2
              refine hK.out _ _ s2 fun _ => ?_
              clear hK K
              try simp only [Act.put, List.setIfInBounds_toArray, List.set_cons_zero, List.set_cons_succ]
              have HO5 := Below.refl v2.heap.size v2
              refine wpAnyH_ready (rs := [8]) (by kernel_rfl) (by simp) ?_
              refine AllReadyH.cons rfl (fun K hK => ?_) AllReadyH.nil
              · go_simp
                refine Calls.mono (T3.out _ A5 n1 c5 (O5.ia.on HO5) hnn) ?_
                rintro r v3 ⟨A6, n6, c6, rfl, O6, k3⟩
                have s3 := Lib.hid (on_trans s2.out k3)
                have ka := on_trans ka k3
                refine hK.out _ _ s3 fun _ => ?_
                clear hK K
                refine take_to (i := 9) (v := .tuple #[.agg #[.int .i64 W3, .int .i64 H3, .slice A6 n6 c6], .int .i64 e3]) rfl (by kernel_rfl) (by kernel_rfl) (by kernel_rfl) (fun _ _ _ h => h) (Or.inl ⟨by rfl, fun w' hS => by go_simp⟩) s3 (some 70) rfl ?_
                try simp only [Act.put, List.setIfInBounds_toArray, List.set_cons_zero, List.set_cons_succ]
                refine take_to (i := 10) (v := .agg #[.int .i64 W3, .int .i64 H3, .slice A6 n6 c6]) rfl (by kernel_rfl) (by kernel_rfl) (by kernel_rfl) (fun _ _ _ h => h) (Or.inl ⟨by rfl, fun w' hS => by go_simp⟩) s3 (some 80) rfl ?_
                try simp only [Act.put, List.setIfInBounds_toArray, List.set_cons_zero, List.set_cons_succ]
                refine take_to (i := 11) (v := .int .i64 e3) rfl (by kernel_rfl) (by kernel_rfl) (by kernel_rfl) (fun _ _ _ h => h) (Or.inl ⟨by rfl, fun w' hS => by go_simp⟩) s3 (some 81) rfl ?_
                try simp only [Act.put, List.setIfInBounds_toArray, List.set_cons_zero, List.set_cons_succ]
                refine wpAnyH_ready (rs := [13]) (by kernel_rfl) (by simp) ?_
                refine AllReadyH.cons rfl (fun K hK => ?_) AllReadyH.nil
                refine if_then (by rfl) ?_
                refine wp_store_plane (.tmp 20) (.tmp 80) rfl rfl v0.heap.size #[.int .i64 W3, .int .i64 H3, .slice A6 n6 c6] rfl (by simp [Value.oneCell']) rfl rfl #[.int .i64 0, .int .i64 0, .slice none 0 0] ((Box.made v0 24 _).on ka) rfl fun w9 b9 k9 => ?_
                have hf := Kn.laidZ KL.out s0.out ka O6 b9 k9
                have KF := Lib.hid hf.1
                have sf := Lib.hid hf.2
                clear hf b9 k9
                refine hK.out _ _ sf fun _ => ?_
                clear hK K
                refine take_to (i := 14) (v := .int .i64 e3) rfl (by kernel_rfl) (by kernel_rfl) (by kernel_rfl) (fun _ _ _ h => h) (Or.inl ⟨by rfl, fun w' hS => by go_simp⟩) sf (some 21) rfl ?_
                try simp only [Act.put, List.setIfInBounds_toArray, List.set_cons_zero, List.set_cons_succ]
                refine wpAnyH_done (by kernel_rfl) ?_ _
                go_wp2_with fail
                go_meet
                exact ⟨_, _, _, _, rfl, rfl, KF.out⟩
        case rest =>
          obtain ⟨g12, A12, n12, c12, rfl, rfl, hk12⟩ := hcut
          have K12 := Lib.hid hk12
          clear hk12
          go_wp2_with (first
            | (with_reducible refine wpList_load_to (op := ⟨some 82, _, _, _, _, _⟩) rfl 24 (.tmp 16) rfl (.pointer (some ⟨g10, 0, none⟩)) rfl (.agg #[.int .i64 ((halfN a W' : Nat) : Int), .int .i64 ((halfN d H' : Nat) : Int), .slice A10 n10 c10]) K12.out.n2.load ?_)
            | (with_reducible refine wpList_load_to (op := ⟨some 83, _, _, _, _, _⟩) rfl 24 (.tmp 18) rfl (.pointer (some ⟨g11, 0, none⟩)) rfl (.agg #[.int .i64 (H' : Int), .int .i64 (W' : Int), .slice A11 n11 c11]) K12.out.n1.load ?_)
            | (with_reducible refine wpList_load_to (op := ⟨some 84, _, _, _, _, _⟩) rfl 24 (.tmp 20) rfl (.pointer (some ⟨g12, 0, none⟩)) rfl (.agg #[.int .i64 W3, .int .i64 H3, .slice A12 n12 c12]) K12.out.n0.load ?_)
            | fail)
          have KL : Hid (Kn w wc [⟨g12, W3, H3, A12, n12, c12, x3⟩, ⟨g11, (H' : Int), (W' : Int), A11, n11, c11, growL (flatP z W' H') W' H' a d H' W'⟩, ⟨g10, ((halfN a W' : Nat) : Int), ((halfN d H' : Nat) : Int), A10, n10, c10, halveL (flatP z W' H') W' H' a d⟩, ⟨w.heap.size, (W' : Int), (H' : Int), A1, n1, c1, flatP z W' H'⟩]) := K12
          obtain ⟨wd, hwd⟩ : ∃ wd, wc.alloc (.cells #[.int .i64 ((halfN a W' : Nat) : Int), .int .i64 ((halfN d H' : Nat) : Int), .slice A10 n10 c10, .int .i64 (H' : Int), .int .i64 (W' : Int), .slice A11 n11 c11, .int .i64 W3, .int .i64 H3, .slice A12 n12 c12] 24) = wd := ⟨_, rfl⟩
          have HD := Lib.hid (show Kn w wd [⟨g12, W3, H3, A12, n12, c12, x3⟩, ⟨g11, (H' : Int), (W' : Int), A11, n11, c11, growL (flatP z W' H') W' H' a d H' W'⟩, ⟨g10, ((halfN a W' : Nat) : Int), ((halfN d H' : Nat) : Int), A10, n10, c10, halveL (flatP z W' H') W' H' a d⟩, ⟨w.heap.size, (W' : Int), (H' : Int), A1, n1, c1, flatP z W' H'⟩] ∧ Box wd wc.heap.size 24 #[.int .i64 ((halfN a W' : Nat) : Int), .int .i64 ((halfN d H' : Nat) : Int), .slice A10 n10 c10, .int .i64 (H' : Int), .int .i64 (W' : Int), .slice A11 n11 c11, .int .i64 W3, .int .i64 H3, .slice A12 n12 c12] from by rw [← hwd]; exact ⟨KL.out.on (on_alloc _ _), Box.made _ _ _⟩)
          rw [hwd]
          obtain ⟨gS, hgS⟩ : ∃ g, g = wc.heap.size := ⟨_, rfl⟩
          rw [← hgS] at HD ⊢
          clear hwd hgS KL
          have hFa : ∀ j, j < n10 → (halveL (flatP z W' H') W' H' a d).getD j 0 = z := fun j hj => halve_flat ⟨z0, z1⟩ HH.out.2.2.1.1 HH.out.2.2.2.1 a d (by
            have e1 : (halveL (flatP z W' H') W' H' a d).length = n10 := HD.out.1.n2.sl.len
            have e2 : (halveL (flatP z W' H') W' H' a d).length = halfN a W' * halfN d H' := gridL_len _ _ _
            omega)
          have hFb : ∀ j, j < n11 → (growL (flatP z W' H') W' H' a d H' W').getD j 0 = z := fun j hj => grow_flat z HH.out.2.2.1.1 HH.out.2.2.2.1 a d _ _ (by
            have e1 : (growL (flatP z W' H') W' H' a d H' W').length = n11 := HD.out.1.n1.sl.len
            have e2 : (growL (flatP z W' H') W' H' a d H' W').length = H' * W' := gridL_len _ _ _
            omega)
          have hFc : ∀ j, j < n12 → (x3).getD j 0 = z := fun j hj => F3.out.1 j (by
            have e1 : (x3).length = n12 := HD.out.1.n0.sl.len
            omega)
          have hNa : 0 < n10 := by
            have e1 : (halveL (flatP z W' H') W' H' a d).length = n10 := HD.out.1.n2.sl.len
            have e2 : (halveL (flatP z W' H') W' H' a d).length = halfN a W' * halfN d H' := gridL_len _ _ _
            have := Nat.mul_pos (halfN_pos (a := a) HH.out.2.2.1.1) (halfN_pos (a := d) HH.out.2.2.2.1)
            omega
          have hNb : n11 = k := by
            have e1 : (growL (flatP z W' H') W' H' a d H' W').length = n11 := HD.out.1.n1.sl.len
            have e2 : (growL (flatP z W' H') W' H' a d H' W').length = H' * W' := gridL_len _ _ _
            rw [HH.out.2.1, Nat.mul_comm]
            omega
          have hsa : n10 ≤ 1000000 := by
            have e1 : (halveL (flatP z W' H') W' H' a d).length = n10 := HD.out.1.n2.sl.len
            have := halveF_len (W' : Int) (H' : Int) (flatP z W' H') a d
            rw [halveF_right HH.out.1] at this
            have e3 : (halveL (flatP z W' H') W' H' a d).length ≤ 1000000 := this
            omega
          have hsc : n12 ≤ 1000000 := by
            have e1 : (x3).length = n12 := HD.out.1.n0.sl.len
            have := F3L.out
            omega
          have HN := Lib.hid (And.intro hFa (And.intro hFb (And.intro hFc (And.intro hNa (And.intro hNb (And.intro hsa hsc))))))
          clear hFa hFb hFc hNa hNb hsa hsc
          go_loopw [87] (fun i wr => ∃ t : Nat, t ≤ 3 ∧ i = .int .i64 (t : Int) ∧ Kn w wr [⟨g12, W3, H3, A12, n12, c12, x3⟩, ⟨g11, (H' : Int), (W' : Int), A11, n11, c11, growL (flatP z W' H') W' H' a d H' W'⟩, ⟨g10, ((halfN a W' : Nat) : Int), ((halfN d H' : Nat) : Int), A10, n10, c10, halveL (flatP z W' H') W' H' a d⟩, ⟨w.heap.size, (W' : Int), (H' : Int), A1, n1, c1, flatP z W' H'⟩] ∧ Box wr gS 24 #[.int .i64 ((halfN a W' : Nat) : Int), .int .i64 ((halfN d H' : Nat) : Int), .slice A10 n10 c10, .int .i64 (H' : Int), .int .i64 (W' : Int), .slice A11 n11 c11, .int .i64 W3, .int .i64 H3, .slice A12 n12 c12]) (fun i _ => 3 - (intOf i).toNat)
          case atStart => exact ⟨0, by omega, rfl, HD.out⟩
          case round =>
            obtain ⟨t, ht, rfl, hR⟩ := hrel
            have HQ := Lib.hid hR
            clear hR
            by_cases ht3 : t < 3
            case pos =>
              have ht4 : t = 0 ∨ t = 1 ∨ t = 2 := by omega
              clear ht ht3
              rcases ht4 with rfl | rfl | rfl
              · have q0 : wr.cell? ⟨gS, 0, none⟩ = some (.int .i64 ((halfN a W' : Nat) : Int)) := HQ.out.2.cell 0
                have q1 : wr.cell? ⟨gS, 1, none⟩ = some (.int .i64 ((halfN d H' : Nat) : Int)) := HQ.out.2.cell 1
                have q2 : wr.cell? ⟨gS, 2, none⟩ = some (.slice A10 n10 c10) := HQ.out.2.cell 2
                have hsn : n10 ≤ 1000000 := HN.out.2.2.2.2.2.1
                go_wp2_with fail
                clear q0 q1 q2
                obtain ⟨we, hwe⟩ : ∃ we, wr.alloc (.cells #[.int .i64 ((halfN a W' : Nat) : Int), .int .i64 ((halfN d H' : Nat) : Int), .slice A10 n10 c10] 24) = we := ⟨_, rfl⟩
                have HE := Lib.hid (show Kn w we [⟨g12, W3, H3, A12, n12, c12, x3⟩, ⟨g11, (H' : Int), (W' : Int), A11, n11, c11, growL (flatP z W' H') W' H' a d H' W'⟩, ⟨g10, ((halfN a W' : Nat) : Int), ((halfN d H' : Nat) : Int), A10, n10, c10, halveL (flatP z W' H') W' H' a d⟩, ⟨w.heap.size, (W' : Int), (H' : Int), A1, n1, c1, flatP z W' H'⟩] ∧ Box we gS 24 #[.int .i64 ((halfN a W' : Nat) : Int), .int .i64 ((halfN d H' : Nat) : Int), .slice A10 n10 c10, .int .i64 (H' : Int), .int .i64 (W' : Int), .slice A11 n11 c11, .int .i64 W3, .int .i64 H3, .slice A12 n12 c12] from by rw [← hwe]; exact ⟨HQ.out.1.on (on_alloc _ _), HQ.out.2.on (on_alloc _ _)⟩)
                rw [hwe]
                clear hwe
                go_loopw [94] (fun i wr => ∃ q : Nat, q ≤ n10 ∧ i = .int .i64 (q : Int) ∧ wr = we) (fun i _ => n10 - (intOf i).toNat)
                case atStart => exact ⟨0, by omega, rfl, rfl⟩
                case round =>
                  obtain ⟨q, hq, rfl, rfl⟩ := hrel
                  by_cases hqn : q < n10
                  case pos =>
                    obtain ⟨bb, off, hA, -, hc⟩ := HE.out.1.n2.sl.at_ (by show 0 < n10; omega)
                    have c3 : wr.cell? ⟨bb, off + q, none⟩ = some (.int .i64 z) := by rw [← HN.out.1 q hqn]; exact hc q hqn
                    have hA' : A10 = some ⟨bb, off, none⟩ := hA
                    have HEA := Lib.hid hA'
                    rw [hA']
                    clear hc hA hA'
                    go_wp2_with fail
                    go_roundw
                    case rel => exact ⟨q + 1, by omega, by go_num, trivial⟩
                    case measure => simp [intOf]; omega
                  case neg =>
                    obtain rfl : q = n10 := by omega
                    go_wp2_with fail
                    go_roundw
                    case rel => exact ⟨1, by omega, by go_num, HE.out⟩
                    case measure => simp [intOf]
              · have q0 : wr.cell? ⟨gS, 3, none⟩ = some (.int .i64 (H' : Int)) := HQ.out.2.cell 3
                have q1 : wr.cell? ⟨gS, 4, none⟩ = some (.int .i64 (W' : Int)) := HQ.out.2.cell 4
                have q2 : wr.cell? ⟨gS, 5, none⟩ = some (.slice A11 n11 c11) := HQ.out.2.cell 5
                have hsn : n11 ≤ 1000000 := (by have := HN.out.2.2.2.2.1; omega)
                go_wp2_with fail
                clear q0 q1 q2
                obtain ⟨we, hwe⟩ : ∃ we, wr.alloc (.cells #[.int .i64 (H' : Int), .int .i64 (W' : Int), .slice A11 n11 c11] 24) = we := ⟨_, rfl⟩
                have HE := Lib.hid (show Kn w we [⟨g12, W3, H3, A12, n12, c12, x3⟩, ⟨g11, (H' : Int), (W' : Int), A11, n11, c11, growL (flatP z W' H') W' H' a d H' W'⟩, ⟨g10, ((halfN a W' : Nat) : Int), ((halfN d H' : Nat) : Int), A10, n10, c10, halveL (flatP z W' H') W' H' a d⟩, ⟨w.heap.size, (W' : Int), (H' : Int), A1, n1, c1, flatP z W' H'⟩] ∧ Box we gS 24 #[.int .i64 ((halfN a W' : Nat) : Int), .int .i64 ((halfN d H' : Nat) : Int), .slice A10 n10 c10, .int .i64 (H' : Int), .int .i64 (W' : Int), .slice A11 n11 c11, .int .i64 W3, .int .i64 H3, .slice A12 n12 c12] from by rw [← hwe]; exact ⟨HQ.out.1.on (on_alloc _ _), HQ.out.2.on (on_alloc _ _)⟩)
                rw [hwe]
                clear hwe
                go_loopw [94] (fun i wr => ∃ q : Nat, q ≤ n11 ∧ i = .int .i64 (q : Int) ∧ wr = we) (fun i _ => n11 - (intOf i).toNat)
                case atStart => exact ⟨0, by omega, rfl, rfl⟩
                case round =>
                  obtain ⟨q, hq, rfl, rfl⟩ := hrel
                  by_cases hqn : q < n11
                  case pos =>
                    obtain ⟨bb, off, hA, -, hc⟩ := HE.out.1.n1.sl.at_ (by show 0 < n11; omega)
                    have c3 : wr.cell? ⟨bb, off + q, none⟩ = some (.int .i64 z) := by rw [← HN.out.2.1 q hqn]; exact hc q hqn
                    have hA' : A11 = some ⟨bb, off, none⟩ := hA
                    have HEA := Lib.hid hA'
                    rw [hA']
                    clear hc hA hA'
                    go_wp2_with fail
                    go_roundw
                    case rel => exact ⟨q + 1, by omega, by go_num, trivial⟩
                    case measure => simp [intOf]; omega
                  case neg =>
                    obtain rfl : q = n11 := by omega
                    go_wp2_with fail
                    go_roundw
                    case rel => exact ⟨2, by omega, by go_num, HE.out⟩
                    case measure => simp [intOf]
              · have q0 : wr.cell? ⟨gS, 6, none⟩ = some (.int .i64 W3) := HQ.out.2.cell 6
                have q1 : wr.cell? ⟨gS, 7, none⟩ = some (.int .i64 H3) := HQ.out.2.cell 7
                have q2 : wr.cell? ⟨gS, 8, none⟩ = some (.slice A12 n12 c12) := HQ.out.2.cell 8
                have hsn : n12 ≤ 1000000 := HN.out.2.2.2.2.2.2
                go_wp2_with fail
                clear q0 q1 q2
                obtain ⟨we, hwe⟩ : ∃ we, wr.alloc (.cells #[.int .i64 W3, .int .i64 H3, .slice A12 n12 c12] 24) = we := ⟨_, rfl⟩
                have HE := Lib.hid (show Kn w we [⟨g12, W3, H3, A12, n12, c12, x3⟩, ⟨g11, (H' : Int), (W' : Int), A11, n11, c11, growL (flatP z W' H') W' H' a d H' W'⟩, ⟨g10, ((halfN a W' : Nat) : Int), ((halfN d H' : Nat) : Int), A10, n10, c10, halveL (flatP z W' H') W' H' a d⟩, ⟨w.heap.size, (W' : Int), (H' : Int), A1, n1, c1, flatP z W' H'⟩] ∧ Box we gS 24 #[.int .i64 ((halfN a W' : Nat) : Int), .int .i64 ((halfN d H' : Nat) : Int), .slice A10 n10 c10, .int .i64 (H' : Int), .int .i64 (W' : Int), .slice A11 n11 c11, .int .i64 W3, .int .i64 H3, .slice A12 n12 c12] from by rw [← hwe]; exact ⟨HQ.out.1.on (on_alloc _ _), HQ.out.2.on (on_alloc _ _)⟩)
                rw [hwe]
                clear hwe
                go_loopw [94] (fun i wr => ∃ q : Nat, q ≤ n12 ∧ i = .int .i64 (q : Int) ∧ wr = we) (fun i _ => n12 - (intOf i).toNat)
                case atStart => exact ⟨0, by omega, rfl, rfl⟩
                case round =>
                  obtain ⟨q, hq, rfl, rfl⟩ := hrel
                  by_cases hqn : q < n12
                  case pos =>
                    obtain ⟨bb, off, hA, -, hc⟩ := HE.out.1.n0.sl.at_ (by show 0 < n12; omega)
                    have c3 : wr.cell? ⟨bb, off + q, none⟩ = some (.int .i64 z) := by rw [← HN.out.2.2.1 q hqn]; exact hc q hqn
                    have hA' : A12 = some ⟨bb, off, none⟩ := hA
                    have HEA := Lib.hid hA'
                    rw [hA']
                    clear hc hA hA'
                    go_wp2_with fail
                    go_roundw
                    case rel => exact ⟨q + 1, by omega, by go_num, trivial⟩
                    case measure => simp [intOf]; omega
                  case neg =>
                    obtain rfl : q = n12 := by omega
                    go_wp2_with fail
                    go_roundw
                    case rel => exact ⟨3, by omega, by go_num, HE.out⟩
                    case measure => simp [intOf]
            case neg =>
              obtain rfl : t = 3 := by omega
              clear ht ht3
              have q0 : wr.cell? ⟨g10, 2, none⟩ = some (.slice A10 n10 c10) := HQ.out.1.n2.box.cell 2
              have q1 : wr.cell? ⟨g11, 2, none⟩ = some (.slice A11 n11 c11) := HQ.out.1.n1.box.cell 2
              have q2 : wr.cell? ⟨w.heap.size, 0, none⟩ = some (.int .i64 (W' : Int)) := HQ.out.1.n3.box.cell 0
              have q3 : wr.cell? ⟨w.heap.size, 1, none⟩ = some (.int .i64 (H' : Int)) := HQ.out.1.n3.box.cell 1
              have hna := HN.out.2.2.2.1
              have hnb := HN.out.2.2.2.2.1
              have hcase : (0 ≤ x ∧ x ≤ 128 ∧ 0 ≤ y ∧ y ≤ 128 ∧ e3 = 0) ∨ (e3 = 2 ∧ x < 0) ∨ (e3 = 2 ∧ 0 ≤ x ∧ 128 < x) ∨ (e3 = 2 ∧ 0 ≤ x ∧ x ≤ 128 ∧ y < 0) ∨ (e3 = 2 ∧ 0 ≤ x ∧ x ≤ 128 ∧ 0 ≤ y ∧ 128 < y) := by
                rcases F3.out.2 with h | ⟨h, h2⟩
                · exact .inl h
                · have h2 : e3 = 2 := h2
                  omega
              subst hnb
              rcases hcase with ⟨x0, x1, y0, y1, rfl⟩ | ⟨rfl, x0⟩ | ⟨rfl, x0, x1⟩ | ⟨rfl, x0, x1, y0⟩ | ⟨rfl, x0, x1, y0, y1⟩
              all_goals
                go_wp2_with fail
                refine Calls.mono (awake_any HP.out _) ?_
                rintro r v0 ⟨rfl, b0⟩
                have H0 := Lib.hid (on_trans HQ.out.1.bel b0)
                clear b0
                go_wp2
                go_ret
                first
                  | exact ⟨rfl, H0.out⟩
                  | exact ⟨by rw [← show (!decide (y ≤ 128)) = true by simp; omega]; rfl, H0.out⟩
end Go.Proofs.Ytadlaljohlpabaa
