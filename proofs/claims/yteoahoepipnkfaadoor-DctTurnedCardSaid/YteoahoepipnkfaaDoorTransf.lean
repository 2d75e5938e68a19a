/-
  The contracts of transposed and transform.
-/
import Derived.Test.YteoahoepipnkfaaDoorPass
import Derived.Deep.DeepCutAuto
namespace Go.Proofs.YteoahoepipnkfaaDoor
open Go.RowKit

/-- a block that is boxed, and one that is worked on -/
structure Duo (w wr : World) (b o : List Int) : Prop where
  b1 : Blk wr w.heap.size b
  out : Blk wr (w.heap.size + 1) o
  bel : Below w.heap.size w wr
section
variable {w wr w' : World} {b o : List Int}
theorem Duo.on (h : Duo w wr b o) (k : Below wr.heap.size wr w') : Duo w w' b o := ⟨h.b1.on k, h.out.on k, on_trans h.bel k⟩
theorem Duo.put (h : Duo w wr b o) (k : Nat) (z : Int) : Duo w (wr.setCell ⟨w.heap.size + 1, k, none⟩ (.int .i64 z)) b (o.set k z) :=
  ⟨⟨h.b1.box.beside (by show w.heap.size ≠ w.heap.size + 1; omega) _, h.b1.len⟩, h.out.put k z,
    ((Kept.of_below h.bel (fun i => i = w.heap.size + 1)).setCell (p := ⟨w.heap.size + 1, k, none⟩) (fun _ => rfl) _).below (Nat.le_refl _) (fun i hi e => by omega)⟩
theorem Duo.done (h : Duo w wr b o) {c : List Int} (hc : Blk w' (w.heap.size + 1) c) (k : Kept (fun i => i = w.heap.size + 1) wr w') : Below w.heap.size w w' ∧ Blk w' (w.heap.size + 1) c :=
  ⟨h.bel.trans (k.below h.bel.size (fun i hi e => by omega)), hc⟩
end
theorem duo_boxed (w : World) (b : List Int) (hb : b.length = 64) : ∃ cs Z w2, blkV b = .agg cs ∧ blkV zeros64 = .agg Z ∧ Z.size = 64 ∧ (∀ w, (zeroValue 23).run Tryd.prog w = .ok (.agg Z) w) ∧ (w.alloc (.cells cs 23)).alloc (.cells Z 23) = w2 ∧ Duo w w2 b zeros64 ∧ w2.heap.size = w.heap.size + 1 + 1 := by
  have hB : Blk (w.alloc (.cells (cellsI b).toArray 23)) w.heap.size b := Blk.made _ _ hb
  have hz : (w.alloc (.cells (cellsI b).toArray 23)).heap.size = w.heap.size + 1 := by simp
  have hA : Blk ((w.alloc (.cells (cellsI b).toArray 23)).alloc (.cells (cellsI zeros64).toArray 23)) (w.heap.size + 1) zeros64 := by rw [← hz]; exact Blk.made _ _ zeros_len
  exact ⟨_, _, _, rfl, rfl, rfl, fun w => zero23 w, rfl, ⟨hB.on (on_alloc _ _), hA, on_trans (on_alloc _ _) (on_alloc _ _)⟩, by simp⟩

theorem turnL_put {b : List Int} {i k : Nat} (hi : i < 8) (hk : k < 8) : (mix (8 * i + k) (turnL b) zeros64).set (8 * i + k) (b.getD (8 * k + i) 0) = mix (8 * i + (k + 1)) (turnL b) zeros64 := by
  rw [← turnL_at b hi hk, mix_more (turnL_len b) zeros_len (by omega)]
  rfl

set_option maxRecDepth 10000 in
set_option maxHeartbeats 3200000 in
theorem transposed_any (w : World) (b : List Int) (hb : b.length = 64) : Calls Tryd.prog 20 #[blkV b] w (Gives w (turnL b)) := by
  obtain ⟨cs, Z, w2, hbv, _, _, hz, hw2, hD, _⟩ := duo_boxed w b hb
  have H := Lib.hid hD
  rw [hbv]
  have HW := Lib.hid hw2
  clear hbv hw2 hD hb
  go_enter Tryd.func20, Tryd.ntmps20
  go_wp2_with fail
  rw [HW.out]
  go_loopw [5] (fun i wr => ∃ i' : Nat, i' ≤ 8 ∧ i = .int .i64 i' ∧ Duo w wr b (mix (8 * i') (turnL b) zeros64)) (fun i _ => 8 - (intOf i).toNat)
  case atStart => exact ⟨0, by omega, rfl, by rw [Nat.mul_zero, mix_zero]; exact H.out⟩
  case round =>
    obtain ⟨i, hi, rfl, hR⟩ := hrel
    have HR := Lib.hid hR
    clear hR
    by_cases hi8 : i < 8
    · go_wp2_with fail
      go_loopw [8] (fun k wr => ∃ k' : Nat, k' ≤ 8 ∧ k = .int .i64 k' ∧ Duo w wr b (mix (8 * i + k') (turnL b) zeros64)) (fun k _ => 8 - (intOf k).toNat)
      case atStart => exact ⟨0, by omega, rfl, HR.out⟩
      case round =>
        obtain ⟨k, hk, rfl, hR⟩ := hrel
        have HR := Lib.hid hR
        clear hR
        by_cases hk8 : k < 8
        · have c1 := HR.out.out.cell (k := 8 * i + k) (by omega)
          have c2 := HR.out.b1.cell (k := 8 * k + i) (by omega)
          have hfr := HR.out.out.free (8 * i + k)
          have hm := turnL_put (b := b) hi8 hk8
          obtain ⟨x, hx⟩ : ∃ x, x = (mix (8 * i + k) (turnL b) zeros64).getD (8 * i + k) 0 := ⟨_, rfl⟩
          obtain ⟨y, hy⟩ : ∃ y, y = b.getD (8 * k + i) 0 := ⟨_, rfl⟩
          rw [← hx] at c1
          rw [← hy] at c2 hm
          have HM := Lib.hid hm
          clear hm hx hy
          go_wp2_with fail
          go_roundw
          case rel =>
            refine ⟨k + 1, by omega, by go_num, ?_⟩
            rw [← HM.out]
            exact HR.out.put _ _
          case measure => simp [intOf]; omega
        · obtain rfl : k = 8 := by omega
          have hR := HR.out
          rw [show 8 * i + 8 = 8 * (i + 1) by omega] at hR
          have HR := Lib.hid hR
          clear hR
          go_wp2_with fail
          go_roundw
          case rel => exact ⟨i + 1, by omega, by go_num, HR.out⟩
          case measure => simp [intOf]; omega
    · obtain rfl : i = 8 := by omega
      have hR := HR.out
      rw [show 8 * 8 = 64 from rfl, mix_all (turnL_len b) zeros_len] at hR
      have HR := Lib.hid hR
      clear hR
      go_wp2_with (first
        | (with_reducible refine wpList_load_to (op := ⟨some 24, _, _, _, _, _⟩) rfl 23 (.tmp 2) rfl (.pointer (some ⟨w.heap.size + 1, 0, none⟩)) rfl (blkV (turnL b)) HR.out.out.load ?_)
        | ((with_reducible refine wpList_store_blk (o := ⟨none, _, _, _, _, _⟩) rfl (.tmp 2) (.tmp 24) rfl rfl (w.heap.size + 1) (turnL b) rfl rfl _ HR.out.out.box rfl (turnL_len b) ?_)
           intro w9 b9 k9
           have H9 := Lib.hid (HR.out.done b9 k9)
           clear b9 k9)
        | fail)
      refine bodyPost_ret (v := blkV (turnL b)) (results_c (fn := Tryd.f20) Tryd.results20 _ _ (w.heap.size + 1) _ rfl (loadVar_blk H9.out.2)) rfl ?_
      exact ⟨rfl, H9.out.1⟩

/-- what transform tells -/
def trL (f b : List Int) : List Int := tab fun n => rnd ((passL f (passL f b)).getD n 0) 67108864
theorem trL_len (f b : List Int) : (trL f b).length = 64 := tab_len _
/-- the answer's block, and one that is worked on -/
structure Trf (w wr : World) (g : Nat) (o : List Int) : Prop where
  ans : Blk wr (w.heap.size + 1 + 1) zeros64
  out : Blk wr g o
  hg : w.heap.size + 1 + 1 < g
  bel : Below w.heap.size w wr
section
variable {w wr w' : World} {g : Nat} {o : List Int}
theorem Trf.put (h : Trf w wr g o) (k : Nat) (z : Int) : Trf w (wr.setCell ⟨g, k, none⟩ (.int .i64 z)) g (o.set k z) :=
  ⟨⟨h.ans.box.beside (by have := h.hg; show w.heap.size + 1 + 1 ≠ g; omega) _, h.ans.len⟩, h.out.put k z, h.hg,
    ((Kept.of_below h.bel (fun i => i = g)).setCell (p := ⟨g, k, none⟩) (fun _ => rfl) _).below (Nat.le_refl _) (fun i hi e => by have := h.hg; omega)⟩
theorem Trf.done (h : Trf w wr g o) {c : List Int} (hc : Blk w' (w.heap.size + 1 + 1) c) (k : Kept (fun i => i = w.heap.size + 1 + 1) wr w') : Below w.heap.size w w' ∧ Blk w' (w.heap.size + 1 + 1) c :=
  ⟨h.bel.trans (k.below h.bel.size (fun i hi e => by omega)), hc⟩
end

theorem trf_made {w w3 v3 v4 : World} {b f S : List Int} {g : Nat} (h : Tre w w3 b f zeros64) (hs : w3.heap.size = w.heap.size + 1 + 1 + 1) (k : Below w3.heap.size w3 v3) (hg : w3.heap.size ≤ g) (hb : Blk v4 g S) (kk : Kept (fun i => i = g) v3 v4) : Trf w v4 g S ∧ Below w3.heap.size w3 v4 := by
  have k4 : Below w3.heap.size w3 v4 := k.trans (kk.below k.size (fun i hi e => by omega))
  exact ⟨⟨h.out.on k4, hb, by omega, on_trans h.bel k4⟩, k4⟩
theorem if_then {c A B : Prop} [Decidable c] (hc : c) (h : A) : if c then A else B := by rw [if_pos hc]; exact h
/-- a block is stored whole, as an operation of a drawn region -/
theorem wp_store_blk {P : Oper} {a : Act} {w : World} {K : Act → World → Prop} {Q : Exit → Act → World → Prop} (x y : Operand) (ho : P.op = .store 23 x y) (hd : P.dst = none)
    (g : Nat) (b : List Int) (hx : a.eval x = .pointer (some ⟨g, 0, none⟩)) (hy : a.eval y = blkV b) (old : Array Value) (hg : Box w g 23 old) (hold : old.size = 64) (hb : b.length = 64)
    (h : ∀ w', Blk w' g b → Kept (fun i => i = g) w w' → K a w') : Oper.wp Tryd.prog P a w K Q := by
  refine wp_store_row 23 x y ho g (cellsI b).toArray hx hy 23 old hg (by rw [arr26_size]; simp [cellsI_len, hb]) (by rw [hold]; simp [cellsI_len, hb]) (all_oneCell_toArray (cellsI_one b)) ?_
  rw [hd]
  exact h _ ⟨setRow_heap w g old _ 23 _ hg, hb⟩ ⟨rfl, rfl, rfl, by simp, fun k _ hk => setRow_other w g k _ hk⟩

set_option maxRecDepth 10000 in
set_option maxHeartbeats 3200000 in
theorem transform_any (w : World) (b f : List Int) (hb : b.length = 64) (hf : f.length = 64) (wb : Wi b (-1048576) 1048576) (wf : Wi f (-4017) 4017) : Calls Tryd.prog 18 #[blkV b, blkV f] w (Gives w (trL f b)) := by
  obtain ⟨cs, cu, Z, w3, hbv, hsv, hz, hw3, hZs, hT⟩ := tre_boxed w b f hb hf
  have hp1 : Wi (passL f b) (-33697038336) 33697038336 := passL_small wf wb
  have hp2 : Wi (passL f (passL f b)) (-1082888023965696) 1082888023965696 := passL_small wf hp1
  have C1 := Lib.hid (fun w => pass_any w b f 1048576 hb hf wb wf (by omega) (by omega))
  have C2 := Lib.hid (fun w => pass_any w (passL f b) f 33697038336 (passL_len f b) hf hp1 wf (by omega) (by omega))
  have hst : ∀ k, k < 64 → (trL f b).getD k 0 = rnd ((passL f (passL f b)).getD k 0) 67108864 := fun k hk => tab_at _ hk
  have htl := trL_len f b
  obtain ⟨B, hB⟩ : ∃ B, B = passL f b := ⟨_, rfl⟩
  rw [← hB] at C1 C2 hp2 hst
  obtain ⟨S, hS⟩ : ∃ S, S = passL f B := ⟨_, rfl⟩
  have hSl : S.length = 64 := by rw [hS]; exact passL_len _ _
  rw [← hS] at C2 hp2 hst
  obtain ⟨T, hT'⟩ : ∃ T, T = trL f b := ⟨_, rfl⟩
  rw [← hT'] at hst htl ⊢
  have H := Lib.hid (And.intro hT (And.intro hp2 (And.intro hst (And.intro htl hSl))))
  rw [hbv, hsv]
  have HW := Lib.hid hw3
  have HZ : ∀ w : World, Box (w.alloc (.cells Z 23)) w.heap.size 23 Z := fun w => Box.made w 23 Z
  have HS := Lib.hid (And.intro (show w3.heap.size = w.heap.size + 1 + 1 + 1 by rw [← hw3]; simp) hZs)
  clear hb hf wb wf hbv hsv hw3 hT hZs hp1 hp2 hB hS hT' hst htl hSl
  go_enter Tryd.func18, Tryd.ntmps18
  go_upto_region 1 with fail
  rw [HW.out]
  go_cut [5] (fun v wx => ∃ g, v = .pointer (some ⟨g, 0, none⟩) ∧ Trf w wx g S)
  case first =>
    have HR := Lib.hid (fun (w' : World) (h : Hid (Below w3.heap.size w3 w')) => H.out.1.on h.out)
    have H0 : Hid (Below w3.heap.size w3 w3.drew) := Lib.hid (on_drew w3)
    refine wp_region_held_drew (S := fun w' => Hid (Below w3.heap.size w3 w')) (by kernel_rfl) H0 fun s0 => ?_
    refine take_to (i := 0) rfl (by kernel_rfl) (by kernel_rfl) (by kernel_rfl) (fun _ _ _ h => h) (yieldsIf_load (by rfl) 23 _ rfl (.pointer (some ⟨w.heap.size, 0, none⟩)) rfl (blkV b) (fun w' h => (HR.out w' h).b1.load)) s0 (some 8) rfl ?_
    try simp only [Act.put, List.setIfInBounds_toArray, List.set_cons_zero, List.set_cons_succ]
    refine take_to (i := 1) rfl (by kernel_rfl) (by kernel_rfl) (by kernel_rfl) (fun _ _ _ h => h) (yieldsIf_load (by rfl) 23 _ rfl (.pointer (some ⟨w.heap.size + 1, 0, none⟩)) rfl (blkV f) (fun w' h => (HR.out w' h).b2.load)) s0 (some 9) rfl ?_
    try simp only [Act.put, List.setIfInBounds_toArray, List.set_cons_zero, List.set_cons_succ]
    refine take_to (i := 3) rfl (by kernel_rfl) (by kernel_rfl) (by kernel_rfl) (fun _ _ _ h => h) (yieldsIf_load (by rfl) 23 _ rfl (.pointer (some ⟨w.heap.size + 1, 0, none⟩)) rfl (blkV f) (fun w' h => (HR.out w' h).b2.load)) s0 (some 11) rfl ?_
    try simp only [Act.put, List.setIfInBounds_toArray, List.set_cons_zero, List.set_cons_succ]
    generalize w3.drew = v0 at s0 ⊢
    refine wpAnyH_ready (rs := [2, 5]) (by kernel_rfl) (by simp) ?_
    refine AllReadyH.cons rfl (fun K hK => ?_) (AllReadyH.cons rfl (fun K hK => ?_) AllReadyH.nil)
    · skip
      go_simp
      refine (C1.out v0).mono ?_
      rintro r v1 ⟨rfl, k1⟩
      have s1 := Lib.hid (on_trans s0.out k1)
      refine hK.out _ _ s1 fun _ => ?_
      clear hK K
      try simp only [Act.put, List.setIfInBounds_toArray, List.set_cons_zero, List.set_cons_succ]
      refine wpAnyH_ready (rs := [4, 5]) (by kernel_rfl) (by simp) ?_
      refine AllReadyH.cons rfl (fun K hK => ?_) (AllReadyH.cons rfl (fun K hK => ?_) AllReadyH.nil)
      · skip
        go_simp
        refine (C2.out v1).mono ?_
        rintro r v2 ⟨rfl, k2⟩
        have s2 := Lib.hid (on_trans s1.out k2)
        refine hK.out _ _ s2 fun _ => ?_
        clear hK K
        try simp only [Act.put, List.setIfInBounds_toArray, List.set_cons_zero, List.set_cons_succ]
        refine wpAnyH_ready (rs := [5]) (by kernel_rfl) (by simp) ?_
        refine AllReadyH.cons rfl (fun K hK => ?_) AllReadyH.nil
        go_simp
        have s3 := Lib.hid (on_trans s2.out (on_alloc v2 (.cells Z 23)))
        refine hK.out _ _ s3 fun _ => ?_
        clear hK K
        try simp only [Act.put, List.setIfInBounds_toArray, List.set_cons_zero, List.set_cons_succ]
        refine wpAnyH_ready (rs := [6]) (by kernel_rfl) (by simp) ?_
        refine AllReadyH.cons rfl (fun K hK => ?_) AllReadyH.nil
        refine if_then (by rfl) ?_
        refine wp_store_blk (.tmp 5) (.tmp 12) rfl rfl (v2.heap.size) S rfl rfl Z (HZ v2) HS.out.2 H.out.2.2.2.2 fun v9 b9 k9 => ?_
        have TM := trf_made H.out.1 HS.out.1 s3.out s2.out.size b9 k9
        refine hK.out _ _ (Lib.hid TM.2) fun _ => ?_
        refine wpAnyH_done (by kernel_rfl) ?_ _
        have TM := Lib.hid TM.1
        go_wp2_with fail
        go_meet
        exact ⟨_, rfl, TM.out⟩
      · skip
        go_simp
        have s2 := Lib.hid (on_trans s1.out (on_alloc v1 (.cells Z 23)))
        refine hK.out _ _ s2 fun _ => ?_
        clear hK K
        try simp only [Act.put, List.setIfInBounds_toArray, List.set_cons_zero, List.set_cons_succ]
        refine wpAnyH_ready (rs := [4]) (by kernel_rfl) (by simp) ?_
        refine AllReadyH.cons rfl (fun K hK => ?_) AllReadyH.nil
        go_simp
        refine (C2.out _).mono ?_
        rintro r v3 ⟨rfl, k3⟩
        have s3 := Lib.hid (on_trans s2.out k3)
        refine hK.out _ _ s3 fun _ => ?_
        clear hK K
        try simp only [Act.put, List.setIfInBounds_toArray, List.set_cons_zero, List.set_cons_succ]
        refine wpAnyH_ready (rs := [6]) (by kernel_rfl) (by simp) ?_
        refine AllReadyH.cons rfl (fun K hK => ?_) AllReadyH.nil
        refine if_then (by rfl) ?_
        refine wp_store_blk (.tmp 5) (.tmp 12) rfl rfl (v1.heap.size) S rfl rfl Z ((HZ v1).on k3) HS.out.2 H.out.2.2.2.2 fun v9 b9 k9 => ?_
        have TM := trf_made H.out.1 HS.out.1 s3.out s1.out.size b9 k9
        refine hK.out _ _ (Lib.hid TM.2) fun _ => ?_
        refine wpAnyH_done (by kernel_rfl) ?_ _
        have TM := Lib.hid TM.1
        go_wp2_with fail
        go_meet
        exact ⟨_, rfl, TM.out⟩
    · skip
      go_simp
      have s1 := Lib.hid (on_trans s0.out (on_alloc v0 (.cells Z 23)))
      refine hK.out _ _ s1 fun _ => ?_
      clear hK K
      try simp only [Act.put, List.setIfInBounds_toArray, List.set_cons_zero, List.set_cons_succ]
      refine wpAnyH_ready (rs := [2]) (by kernel_rfl) (by simp) ?_
      refine AllReadyH.cons rfl (fun K hK => ?_) AllReadyH.nil
      go_simp
      refine (C1.out _).mono ?_
      rintro r v2 ⟨rfl, k2⟩
      have s2 := Lib.hid (on_trans s1.out k2)
      refine hK.out _ _ s2 fun _ => ?_
      clear hK K
      try simp only [Act.put, List.setIfInBounds_toArray, List.set_cons_zero, List.set_cons_succ]
      refine wpAnyH_ready (rs := [4]) (by kernel_rfl) (by simp) ?_
      refine AllReadyH.cons rfl (fun K hK => ?_) AllReadyH.nil
      go_simp
      refine (C2.out v2).mono ?_
      rintro r v3 ⟨rfl, k3⟩
      have s3 := Lib.hid (on_trans s2.out k3)
      refine hK.out _ _ s3 fun _ => ?_
      clear hK K
      try simp only [Act.put, List.setIfInBounds_toArray, List.set_cons_zero, List.set_cons_succ]
      refine wpAnyH_ready (rs := [6]) (by kernel_rfl) (by simp) ?_
      refine AllReadyH.cons rfl (fun K hK => ?_) AllReadyH.nil
      refine if_then (by rfl) ?_
      refine wp_store_blk (.tmp 5) (.tmp 12) rfl rfl (v0.heap.size) S rfl rfl Z (((HZ v0).on k2).on k3) HS.out.2 H.out.2.2.2.2 fun v9 b9 k9 => ?_
      have TM := trf_made H.out.1 HS.out.1 s3.out s0.out.size b9 k9
      refine hK.out _ _ (Lib.hid TM.2) fun _ => ?_
      refine wpAnyH_done (by kernel_rfl) ?_ _
      have TM := Lib.hid TM.1
      go_wp2_with fail
      go_meet
      exact ⟨_, rfl, TM.out⟩
  case rest =>
    obtain ⟨g, rfl, hg⟩ := hcut
    have HG := Lib.hid hg
    clear hg
    go_wp2_with (first
      | (with_reducible refine wpList_load_to (op := ⟨some 13, _, _, _, _, _⟩) rfl 23 (.tmp 5) rfl (.pointer (some ⟨g, 0, none⟩)) rfl (blkV S) HG.out.out.load ?_)
      | fail)
    go_loopw [14] (fun i wr => ∃ k : Nat, k ≤ 64 ∧ i = .int .i64 k ∧ Trf w wr g (mix k T S)) (fun i _ => 64 - (intOf i).toNat)
    case atStart => exact ⟨0, by omega, rfl, by rw [mix_zero]; exact HG.out⟩
    case round =>
      obtain ⟨k, hk, rfl, hR⟩ := hrel
      have HR := Lib.hid hR
      clear hR
      by_cases hlt : k < 64
      · have hb0 := H.out.2.1 k hlt
        have hfr := HR.out.out.free k
        have c1 := HR.out.out.cell hlt
        have hidx := fun w => index23 w (l := S) H.out.2.2.2.2 hlt
        have hst := H.out.2.2.1 k hlt
        have hm := mix_more (y := S) H.out.2.2.2.1 H.out.2.2.2.2 hlt
        obtain ⟨n, hn⟩ : ∃ n, n = S.getD k 0 := ⟨_, rfl⟩
        rw [← hn] at hidx hb0 hst
        obtain ⟨x, hx⟩ : ∃ x, x = (mix k T S).getD k 0 := ⟨_, rfl⟩
        rw [← hx] at c1
        clear hn hx
        obtain ⟨n0, n1⟩ := hb0
        obtain ⟨r, hr⟩ : ∃ r, r = rnd n 67108864 := ⟨_, rfl⟩
        rw [← hr] at hst
        rw [hst] at hm
        have HM := Lib.hid (And.intro hm hr)
        clear hst hm hr
        go_wp2_with fail
        refine (round_any wr n 67108864 (by unfold isInt; omega) (by unfold isInt; omega)).mono ?_
        rintro e w7 ⟨rfl, rfl⟩
        rw [← HM.out.2]
        go_wp2_with fail
        go_roundw
        case rel =>
          refine ⟨k + 1, by omega, by go_num, ?_⟩
          rw [← HM.out.1]
          exact HR.out.put _ _
        case measure => simp [intOf]; omega
      · obtain rfl : k = 64 := by omega
        have hR := HR.out
        rw [mix_all H.out.2.2.2.1 H.out.2.2.2.2] at hR
        have HR := Lib.hid hR
        clear hR
        go_wp2_with (first
          | (with_reducible refine wpList_load_to (op := ⟨some 23, _, _, _, _, _⟩) rfl 23 (.tmp 5) rfl (.pointer (some ⟨g, 0, none⟩)) rfl (blkV T) HR.out.out.load ?_)
          | ((with_reducible refine wpList_store_blk (o := ⟨none, _, _, _, _, _⟩) rfl (.tmp 4) (.tmp 23) rfl rfl (w.heap.size + 1 + 1) T rfl rfl _ HR.out.ans.box rfl H.out.2.2.2.1 ?_)
             intro w9 b9 k9
             have H9 := Lib.hid (HR.out.done b9 k9)
             clear b9 k9)
          | fail)
        refine bodyPost_ret (v := blkV T) (results_c (fn := Tryd.f18) Tryd.results18 _ _ (w.heap.size + 1 + 1) _ rfl (loadVar_blk H9.out.2)) rfl ?_
        exact ⟨rfl, H9.out.1⟩
end Go.Proofs.YteoahoepipnkfaaDoor
