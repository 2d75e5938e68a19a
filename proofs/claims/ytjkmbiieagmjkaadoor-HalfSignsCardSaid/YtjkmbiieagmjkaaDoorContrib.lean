/-
  The contract of the closure that adds what a row of two blocks gives to all rows of the sums.
-/
import Derived.Test.YtjkmbiieagmjkaaDoorJoined
import Derived.Deep.DeepCutAuto
namespace Go.Proofs.YtjkmbiieagmjkaaDoor
open Go.RowKit

theorem tab_set (g : Nat → Int) {k : Nat} (hk : k < 64) (z : Int) : (tab g).set k z = tab fun n => if n = k then z else g n := by
  refine list_eq (by rw [List.length_set, tab_len]) (tab_len _) fun j hj => ?_
  rw [tab_at _ hj, List.getD_eq_getElem?_getD, List.getElem?_set]
  by_cases e : k = j
  · subst e; simp [tab_len, hk]
  · rw [if_neg e, if_neg (fun h => e h.symm), ← List.getD_eq_getElem?_getD, tab_at _ hj]
theorem tab_congr {g h : Nat → Int} (e : ∀ n, n < 64 → g n = h n) : tab g = tab h := list_eq (tab_len _) (tab_len _) fun k hk => by rw [tab_at _ hk, tab_at _ hk, e k hk]
/-- what row 'row' of half 'lo' gives at index n -/
def coT (f : List Int) (lo row n : Nat) : Int := hv lo (n / 8) row * (joL (sub f (2 * lo)) (sub f (2 * lo + 1)) row).getD (n % 8) 0
/-- the sums when it has been added -/
def coL (f S : List Int) (lo row : Nat) : List Int := tab fun n => S.getD n 0 + coT f lo row n
theorem coL_len (f S : List Int) (lo row : Nat) : (coL f S lo row).length = 64 := tab_len _
theorem prodC {c z : Int} (c0 : -2896 ≤ c) (c1 : c ≤ 2896) (z0 : -24293408768 ≤ z) (z1 : z ≤ 24293408768) : -70353711792128 ≤ c * z ∧ c * z ≤ 70353711792128 := by
  have a := mul_abs (c := c) z0 z1
  have h : (c.natAbs : Int) * 24293408768 ≤ 2896 * 24293408768 := Int.mul_le_mul_of_nonneg_right (by omega) (by omega)
  omega
section
variable {f S : List Int} {lo row u v : Nat}
theorem joL_small (wf : W4 f (-1048576) 1048576) (hl : lo < 2) (hr : row < 4) (hv' : v < 8) : -24293408768 ≤ (joL (sub f (2 * lo)) (sub f (2 * lo + 1)) row).getD v 0 ∧ (joL (sub f (2 * lo)) (sub f (2 * lo + 1)) row).getD v 0 ≤ 24293408768 := by
  have h := w4_sub.1 wf
  have := joT_small (h (2 * lo) (by omega)) (h (2 * lo + 1) (by omega)) hr hv' (k := 4) (by omega)
  unfold joL
  rw [tab8_at _ hv']
  omega
theorem coT_small (wf : W4 f (-1048576) 1048576) (hl : lo < 2) (hr : row < 4) {n : Nat} (hn : n < 64) : -70353711792128 ≤ coT f lo row n ∧ coT f lo row n ≤ 70353711792128 := by
  have a := hv_small lo hl (n / 8) (by omega) row hr
  have b := joL_small wf hl hr (v := n % 8) (by omega)
  exact prodC a.1 a.2 b.1 b.2
theorem co_more (hS : S.length = 64) (hu : u < 8) (hv' : v < 8) : (mix (8 * u + v) (coL f S lo row) S).set (8 * u + v) (S.getD (8 * u + v) 0 + hv lo u row * (joL (sub f (2 * lo)) (sub f (2 * lo + 1)) row).getD v 0) = mix (8 * u + (v + 1)) (coL f S lo row) S := by
  have e : (coL f S lo row).getD (8 * u + v) 0 = S.getD (8 * u + v) 0 + hv lo u row * (joL (sub f (2 * lo)) (sub f (2 * lo + 1)) row).getD v 0 := by
    unfold coL coT
    rw [tab_at _ (by omega), show (8 * u + v) / 8 = u by omega, show (8 * u + v) % 8 = v by omega]
  rw [← e, mix_more (coL_len _ _ _ _) hS (by omega)]
  rfl
end
/-- four blocks, the sums, and a row that is known -/
structure Con (w wr : World) (gf gs ga : Nat) (f S o : List Int) : Prop where
  four : Frs wr gf f
  sums : Blk wr gs S
  row : Row wr ga o
  tab : Tab wr
  kept : Kept (fun i => i = gs) w wr
  new : w.heap.size ≤ ga
theorem Con.put {w wr : World} {gf gs ga : Nat} {f S o : List Int} (h : Con w wr gf gs ga f S o) (k : Nat) (z : Int) (hs : gs < w.heap.size) (h0 : 0 < gs) : Con w (wr.setCell ⟨gs, k, none⟩ (.int .i64 z)) gf gs ga f (S.set k z) o := by
  have hne := h.four.box.apart h.sums.box (by decide)
  have k1 := (Kept.refl (fun i => i = gs) wr).setCell (p := ⟨gs, k, none⟩) (fun _ => rfl) (.int .i64 z)
  refine ⟨h.four.kept k1 hne, h.sums.put k z, h.row.kept k1 (by have := h.new; omega), ⟨?_⟩, h.kept.setCell (p := ⟨gs, k, none⟩) (fun _ => rfl) _, h.new⟩
  intro j u hu
  have hc := h.tab.halves j u hu
  exact (k1.cell (p := ⟨0, 0 + j, none⟩) h.tab.lt (by show ¬ 0 = gs; omega)).trans hc
theorem Con.on {w wr w' : World} {gf gs ga : Nat} {f S o : List Int} (h : Con w wr gf gs ga f S o) (k : Below wr.heap.size wr w') : Con w w' gf gs ga f S o :=
  ⟨h.four.on k, h.sums.on k, h.row.on k, h.tab.on k, h.kept.trans (Kept.of_below k (fun i => i = gs)) (fun _ _ h => h), h.new⟩
/-- what the closure answers -/
def Contrib (w : World) (gs : Nat) (R : List Int) (e : Ending) (w' : World) : Prop := e = .returned (.tuple #[]) ∧ Blk w' gs R ∧ Kept (fun i => i = gs) w w'
theorem con_made {w v3 v9 : World} {gf gs g : Nat} {f S J : List Int} (hT : Tab w) (hf : Frs w gf f) (hS : Blk w gs S) (k : Below w.heap.size w v3) (hg : w.heap.size ≤ g) (hb : Row v9 g J) (kk : Kept (fun i => i = g) v3 v9) : Con w v9 gf gs g f S J ∧ Below w.heap.size w v9 := by
  have k4 : Below w.heap.size w v9 := k.trans (kk.below k.size (fun i hi e => by omega))
  exact ⟨⟨hf.on k4, hS.on k4, hb, hT.on k4, Kept.of_below k4 _, hg⟩, k4⟩
theorem if_then {c A B : Prop} [Decidable c] (hc : c) (h : A) : if c then A else B := by rw [if_pos hc]; exact h
theorem index46 (w : World) {l : List Int} (hl : l.length = 8) {k : Nat} (hk : k < 8) : (Instr.index 46 (rowV l) (.int .i64 (k : Int))).run Tryd.prog w = .ok (.int .i64 (l.getD k 0)) w := by
  have hp : (part 3 (cellsI l).toArray k).run Tryd.prog w = .ok (.int .i64 (l.getD k 0)) w := run_part_plain w (by kernel_rfl) (by simpa using cellsI_get l k (by omega))
  simp [rowV, Instr.index, run_underlying Tryd.underlying46, asIntOf, hp, Result.andThen]
  intro h
  omega

set_option maxRecDepth 10000 in
set_option maxHeartbeats 3200000 in
theorem contrib_any (w : World) (gf gs : Nat) (f S : List Int) (lo row : Nat) (hT : Tab w) (hf : Frs w gf f) (hS : Blk w gs S) (h0 : 0 < gs) (wf : W4 f (-1048576) 1048576) (wS : Wi S (-1000000000000000) 1000000000000000) (hl : lo < 2) (hr : row < 4) :
    Calls Tryd.prog 25 #[.int .i64 lo, .int .i64 row, .pointer (some ⟨gf, 0, none⟩), .pointer (some ⟨gs, 0, none⟩)] w (Contrib w gs (coL f S lo row)) := by
  have C1 := Lib.hid (fun w hT => joined_any w (sub f (2 * lo)) (sub f (2 * lo + 1)) row hT (sub_len hf.len (by omega)) (sub_len hf.len (by omega)) (w4_sub.1 wf _ (by omega)) (w4_sub.1 wf _ (by omega)) hr)
  have hjs := fun v (h : v < 8) => joL_small (v := v) wf hl hr h
  have hcm := fun u v (h : u < 8) (h' : v < 8) => co_more (f := f) (lo := lo) (row := row) hS.len h h'
  have hRl := coL_len f S lo row
  have hJl : (joL (sub f (2 * lo)) (sub f (2 * lo + 1)) row).length = 8 := joL_len
  obtain ⟨J, hJ⟩ : ∃ J, J = joL (sub f (2 * lo)) (sub f (2 * lo + 1)) row := ⟨_, rfl⟩
  rw [← hJ] at C1 hjs hcm hJl
  obtain ⟨R, hR⟩ : ∃ R, R = coL f S lo row := ⟨_, rfl⟩
  rw [← hR] at hcm hRl ⊢
  have H := Lib.hid (And.intro hT (And.intro hf (And.intro hS (And.intro hjs (And.intro hcm (And.intro hRl (And.intro hJl (And.intro wS h0))))))))
  obtain ⟨Z, hZ⟩ : ∃ Z, Z = (cellsI zeros8).toArray := ⟨_, rfl⟩
  have hz' : ∀ w, (zeroValue 46).run Tryd.prog w = .ok (.agg Z) w := fun w => by rw [hZ]; exact zero46 w
  have HZ : ∀ w : World, Box (w.alloc (.cells Z 46)) w.heap.size 46 Z := fun w => Box.made w 46 Z
  have HS := Lib.hid (show Z.size = 8 by rw [hZ]; rfl)
  clear hT hf hS wf wS hjs hcm hRl hJl hJ hR hZ h0
  go_enter Tryd.func25, Tryd.ntmps25
  go_upto_region 0 with fail
  go_cut [6] (fun v wx => ∃ g, v = .pointer (some ⟨g, 0, none⟩) ∧ Con w wx gf gs g f S J)
  case first =>
    have HR := Lib.hid (fun (w' : World) (h : Hid (Below w.heap.size w w')) => H.out.2.1.on h.out)
    have HTR := Lib.hid (fun (w' : World) (h : Hid (Below w.heap.size w w')) => H.out.1.on h.out)
    have H0 : Hid (Below w.heap.size w w.drew) := Lib.hid (on_drew w)
    refine wp_region_held_drew (S := fun w' => Hid (Below w.heap.size w w')) (by kernel_rfl) H0 fun s0 => ?_
    refine take_to (i := 0) (v := .int .i64 lo) rfl (by kernel_rfl) (by kernel_rfl) (by kernel_rfl) (fun _ _ _ h => h) (Or.inl ⟨by rfl, fun w' hS => by go_simp⟩) s0 (some 10) rfl ?_
    try simp only [Act.put, List.setIfInBounds_toArray, List.set_cons_zero, List.set_cons_succ]
    refine take_to (i := 1) (v := .int .i64 (2 * (lo : Int))) rfl (by kernel_rfl) (by kernel_rfl) (by kernel_rfl) (fun _ _ _ h => h) (Or.inl ⟨by rfl, fun w' hS => by go_simp; rw [IntKind.wrap_i64]; omega⟩) s0 (some 11) rfl ?_
    try simp only [Act.put, List.setIfInBounds_toArray, List.set_cons_zero, List.set_cons_succ]
    refine take_to (i := 2) (v := .pointer (some ⟨gf, (2 * lo) * 64, none⟩)) rfl (by kernel_rfl) (by kernel_rfl) (by kernel_rfl) (fun _ _ _ h => h) (Or.inl ⟨by rfl, fun w' hS => by go_simp; rw [if_pos (by omega), show (2 * (lo : Int)).toNat = 2 * lo by omega]⟩) s0 (some 12) rfl ?_
    try simp only [Act.put, List.setIfInBounds_toArray, List.set_cons_zero, List.set_cons_succ]
    refine take_to (i := 3) rfl (by kernel_rfl) (by kernel_rfl) (by kernel_rfl) (fun _ _ _ h => h) (yieldsIf_load (by rfl) 23 _ rfl (.pointer (some ⟨gf, (2 * lo) * 64, none⟩)) rfl (blkV (sub f (2 * lo))) (fun w' h => (HR.out w' h).loadb (by omega))) s0 (some 13) rfl ?_
    try simp only [Act.put, List.setIfInBounds_toArray, List.set_cons_zero, List.set_cons_succ]
    refine take_to (i := 4) (v := .int .i64 lo) rfl (by kernel_rfl) (by kernel_rfl) (by kernel_rfl) (fun _ _ _ h => h) (Or.inl ⟨by rfl, fun w' hS => by go_simp⟩) s0 (some 14) rfl ?_
    try simp only [Act.put, List.setIfInBounds_toArray, List.set_cons_zero, List.set_cons_succ]
    refine take_to (i := 5) (v := .int .i64 (2 * (lo : Int))) rfl (by kernel_rfl) (by kernel_rfl) (by kernel_rfl) (fun _ _ _ h => h) (Or.inl ⟨by rfl, fun w' hS => by go_simp; rw [IntKind.wrap_i64]; omega⟩) s0 (some 15) rfl ?_
    try simp only [Act.put, List.setIfInBounds_toArray, List.set_cons_zero, List.set_cons_succ]
    refine take_to (i := 6) (v := .int .i64 (2 * (lo : Int) + 1)) rfl (by kernel_rfl) (by kernel_rfl) (by kernel_rfl) (fun _ _ _ h => h) (Or.inl ⟨by rfl, fun w' hS => by go_simp; rw [IntKind.wrap_i64]; omega⟩) s0 (some 16) rfl ?_
    try simp only [Act.put, List.setIfInBounds_toArray, List.set_cons_zero, List.set_cons_succ]
    refine take_to (i := 7) (v := .pointer (some ⟨gf, (2 * lo + 1) * 64, none⟩)) rfl (by kernel_rfl) (by kernel_rfl) (by kernel_rfl) (fun _ _ _ h => h) (Or.inl ⟨by rfl, fun w' hS => by go_simp; rw [if_pos (by omega), show (2 * (lo : Int) + 1).toNat = 2 * lo + 1 by omega]⟩) s0 (some 17) rfl ?_
    try simp only [Act.put, List.setIfInBounds_toArray, List.set_cons_zero, List.set_cons_succ]
    refine take_to (i := 8) rfl (by kernel_rfl) (by kernel_rfl) (by kernel_rfl) (fun _ _ _ h => h) (yieldsIf_load (by rfl) 23 _ rfl (.pointer (some ⟨gf, (2 * lo + 1) * 64, none⟩)) rfl (blkV (sub f (2 * lo + 1))) (fun w' h => (HR.out w' h).loadb (by omega))) s0 (some 18) rfl ?_
    try simp only [Act.put, List.setIfInBounds_toArray, List.set_cons_zero, List.set_cons_succ]
    refine take_to (i := 9) (v := .int .i64 row) rfl (by kernel_rfl) (by kernel_rfl) (by kernel_rfl) (fun _ _ _ h => h) (Or.inl ⟨by rfl, fun w' hS => by go_simp⟩) s0 (some 19) rfl ?_
    try simp only [Act.put, List.setIfInBounds_toArray, List.set_cons_zero, List.set_cons_succ]
    generalize w.drew = v0 at s0 ⊢
    refine wpAnyH_ready (rs := [10, 11]) (by kernel_rfl) (by simp) ?_
    refine AllReadyH.cons rfl (fun K hK => ?_) (AllReadyH.cons rfl (fun K hK => ?_) AllReadyH.nil)
    · skip
      go_simp
      refine (C1.out v0 (HTR.out _ s0)).mono ?_
      rintro r v1 ⟨rfl, k1⟩
      have s1 := Lib.hid (on_trans s0.out k1)
      refine hK.out _ _ s1 fun _ => ?_
      clear hK K
      try simp only [Act.put, List.setIfInBounds_toArray, List.set_cons_zero, List.set_cons_succ]
      refine wpAnyH_ready (rs := [11]) (by kernel_rfl) (by simp) ?_
      refine AllReadyH.cons rfl (fun K hK => ?_) AllReadyH.nil
      go_simp
      have s3 := Lib.hid (on_trans s1.out (on_alloc v1 (.cells Z 46)))
      refine hK.out _ _ s3 fun _ => ?_
      clear hK K
      try simp only [Act.put, List.setIfInBounds_toArray, List.set_cons_zero, List.set_cons_succ]
      refine wpAnyH_ready (rs := [12]) (by kernel_rfl) (by simp) ?_
      refine AllReadyH.cons rfl (fun K hK => ?_) AllReadyH.nil
      refine if_then (by rfl) ?_
      refine wp_store_row8 (.tmp 6) (.tmp 20) rfl rfl (v1.heap.size) J rfl rfl Z (HZ v1) HS.out H.out.2.2.2.2.2.2.1 fun v9 b9 k9 => ?_
      have TM := con_made H.out.1 H.out.2.1 H.out.2.2.1 s3.out s1.out.size b9 k9
      refine hK.out _ _ (Lib.hid TM.2) fun _ => ?_
      refine wpAnyH_done (by kernel_rfl) ?_ _
      have TM := Lib.hid TM.1
      go_wp2_with fail
      go_meet
      exact ⟨_, rfl, TM.out⟩
    · skip
      go_simp
      have s1 := Lib.hid (on_trans s0.out (on_alloc v0 (.cells Z 46)))
      refine hK.out _ _ s1 fun _ => ?_
      clear hK K
      try simp only [Act.put, List.setIfInBounds_toArray, List.set_cons_zero, List.set_cons_succ]
      refine wpAnyH_ready (rs := [10]) (by kernel_rfl) (by simp) ?_
      refine AllReadyH.cons rfl (fun K hK => ?_) AllReadyH.nil
      go_simp
      refine (C1.out _ (HTR.out _ s1)).mono ?_
      rintro r v2 ⟨rfl, k2⟩
      have s2 := Lib.hid (on_trans s1.out k2)
      refine hK.out _ _ s2 fun _ => ?_
      clear hK K
      try simp only [Act.put, List.setIfInBounds_toArray, List.set_cons_zero, List.set_cons_succ]
      refine wpAnyH_ready (rs := [12]) (by kernel_rfl) (by simp) ?_
      refine AllReadyH.cons rfl (fun K hK => ?_) AllReadyH.nil
      refine if_then (by rfl) ?_
      refine wp_store_row8 (.tmp 6) (.tmp 20) rfl rfl (v0.heap.size) J rfl rfl Z ((HZ v0).on k2) HS.out H.out.2.2.2.2.2.2.1 fun v9 b9 k9 => ?_
      have TM := con_made H.out.1 H.out.2.1 H.out.2.2.1 s2.out s0.out.size b9 k9
      refine hK.out _ _ (Lib.hid TM.2) fun _ => ?_
      refine wpAnyH_done (by kernel_rfl) ?_ _
      have TM := Lib.hid TM.1
      go_wp2_with fail
      go_meet
      exact ⟨_, rfl, TM.out⟩
  case rest =>
    obtain ⟨ga, rfl, hg⟩ := hcut
    have HG := Lib.hid hg
    clear hg
    go_wp2_with fail
    go_loopw [21] (fun i wr => ∃ u : Nat, u ≤ 8 ∧ i = .int .i64 u ∧ Con w wr gf gs ga f (mix (8 * u) R S) J) (fun i _ => 8 - (intOf i).toNat)
    case atStart => exact ⟨0, by omega, rfl, by rw [Nat.mul_zero, mix_zero]; exact HG.out⟩
    case round =>
      obtain ⟨u, hu, rfl, hR⟩ := hrel
      have HR := Lib.hid hR
      clear hR
      by_cases hu8 : u < 8
      · go_wp2_with (first
          | (with_reducible refine wpList_load_to (op := ⟨some 24, _, _, _, _, _⟩) rfl 46 (.tmp 6) rfl (.pointer (some ⟨ga, 0, none⟩)) rfl (rowV J) HR.out.row.load ?_)
          | fail)
        go_loopw [25] (fun i wr => ∃ v : Nat, v ≤ 8 ∧ i = .int .i64 v ∧ Con w wr gf gs ga f (mix (8 * u + v) R S) J) (fun i _ => 8 - (intOf i).toNat)
        case atStart => exact ⟨0, by omega, rfl, HR.out⟩
        case round =>
          obtain ⟨v, hv', rfl, hR⟩ := hrel
          have HR := Lib.hid hR
          clear hR
          by_cases hv8 : v < 8
          · have hidx := fun w => index46 w H.out.2.2.2.2.2.2.1 hv8
            have c1 := HR.out.sums.cell (k := 8 * u + v) (by omega)
            rw [mix_at H.out.2.2.2.2.2.1 (by omega) (Nat.le_refl _)] at c1
            have c2 := HR.out.tab.cell hl hu8 hr
            have hfr := HR.out.sums.free (8 * u + v)
            have a1 := hv_small lo hl u hu8 row hr
            have a2 := H.out.2.2.2.1 v hv8
            have t1 := prodC a1.1 a1.2 a2.1 a2.2
            have a3 := H.out.2.2.2.2.2.2.2.1 (8 * u + v) (by omega)
            have hm := H.out.2.2.2.2.1 u v hu8 hv8
            obtain ⟨s, hs⟩ : ∃ s, s = S.getD (8 * u + v) 0 := ⟨_, rfl⟩
            obtain ⟨x, hx⟩ : ∃ x, x = hv lo u row := ⟨_, rfl⟩
            obtain ⟨n, hn⟩ : ∃ n, n = J.getD v 0 := ⟨_, rfl⟩
            rw [← hs] at c1 a3 hm
            rw [← hx] at c2 t1 hm
            rw [← hn] at hidx t1 hm
            obtain ⟨p, hp⟩ : ∃ p, p = x * n := ⟨_, rfl⟩
            rw [← hp] at t1 hm
            have hxn := hp.symm
            obtain ⟨p0, p1⟩ := t1
            obtain ⟨s0, s1⟩ := a3
            have HM := Lib.hid hm
            clear hs hx hn hp hm a1 a2
            go_wp2_with fail
            go_region
            go_wp2_with fail
            go_roundw
            case rel =>
              refine ⟨v + 1, by omega, by go_num, ?_⟩
              rw [← HM.out]
              exact (HR.out.on (below_drewN_refl _ _)).put _ _ H.out.2.2.1.box.lt H.out.2.2.2.2.2.2.2.2
            case measure => simp [intOf]; omega
          · obtain rfl : v = 8 := by omega
            have hR := HR.out
            rw [show 8 * u + 8 = 8 * (u + 1) by omega] at hR
            have HR := Lib.hid hR
            clear hR
            go_wp2_with fail
            go_roundw
            case rel => exact ⟨u + 1, by omega, by go_num, HR.out⟩
            case measure => simp [intOf]; omega
      · obtain rfl : u = 8 := by omega
        have hR := HR.out
        rw [show 8 * 8 = 64 from rfl, mix_all H.out.2.2.2.2.2.1 H.out.2.2.1.len] at hR
        have HR := Lib.hid hR
        clear hR
        go_wp2_with fail
        go_end0
        exact ⟨rfl, HR.out.sums, HR.out.kept⟩
end Go.Proofs.YtjkmbiieagmjkaaDoor
