/-
  The pixels of a tile: the contract of the reference's Pixels, the walk.
-/
import Derived.Test.YtmadkpnkmkajoaaDoorTO
namespace Go.Proofs.YtmadkpnkmkajoaaDoor
open Go.RowKit
set_option maxRecDepth 20000

/-- a block is written whole, as an operation of a region -/
theorem wp_store_blkQ {o : Oper} {a : Act} {w : World} {K : Act → World → Prop} {Q : Exit → Act → World → Prop} (x y : Operand) (ho : o.op = .store 29 x y) (hd : o.dst = none)
    (g : Nat) (b : List Int) (hx : a.eval x = .pointer (some ⟨g, 0, none⟩)) (hy : a.eval y = blkV b) (old : Array Value) (hg : Box w g 29 old) (hold : old.size = 64) (hb : b.length = 64)
    (h : ∀ w', Blk w' g b → Kept (fun i => i = g) w w' → K a w') : Oper.wp Tryd.prog o a w K Q := by
  refine wp_store_row 29 x y ho g (cellsI b).toArray hx hy 29 old hg (by rw [arr26_size]; simp [cellsI_len, hb]) (by rw [hold]; simp [cellsI_len, hb]) (all_oneCell_toArray (cellsI_one b)) ?_
  rw [hd]
  exact h _ ⟨setRow_heap w g old _ 29 _ hg, hb⟩ ⟨rfl, rfl, rfl, by simp, fun k _ hk => setRow_other w g k _ hk⟩
/-- the cells of the first j pixels -/
def pxCells (K : Int) (T : Nat) (Q : Int) (tl : List (List (List Int))) (j : Nat) : List Value := (List.range j).flatMap fun i => [.int .i64 (pxc K T Q tl i 0), .int .i64 (pxc K T Q tl i 1), .int .i64 (pxc K T Q tl i 2)]
theorem pxCells_more (K : Int) (T : Nat) (Q : Int) (tl : List (List (List Int))) (j : Nat) : pxCells K T Q tl (j + 1) = pxCells K T Q tl j ++ [.int .i64 (pxc K T Q tl j 0), .int .i64 (pxc K T Q tl j 1), .int .i64 (pxc K T Q tl j 2)] := by
  unfold pxCells
  rw [List.range_succ, List.flatMap_append]
  simp
theorem pxCells_len (K : Int) (T : Nat) (Q : Int) (tl : List (List (List Int))) : ∀ j, (pxCells K T Q tl j).length = j * 3
  | 0 => rfl
  | j + 1 => by rw [pxCells_more, List.length_append, pxCells_len K T Q tl j]; simp; omega
theorem pxCells_at (K : Int) (T : Nat) (Q : Int) (tl : List (List (List Int))) : ∀ {n j k : Nat}, j < n → k < 3 → (pxCells K T Q tl n)[j * 3 + k]? = some (.int .i64 (pxc K T Q tl j k))
  | n + 1, j, k, hj, hk => by
    rw [pxCells_more]
    by_cases h : j < n
    · rw [List.getElem?_append_left (by rw [pxCells_len]; omega)]
      exact pxCells_at K T Q tl h hk
    · obtain rfl : j = n := by omega
      rw [List.getElem?_append_right (by rw [pxCells_len]; omega), pxCells_len, show j * 3 + k - j * 3 = k by omega]
      rcases (show k = 0 ∨ k = 1 ∨ k = 2 by omega) with rfl | rfl | rfl <;> rfl
theorem px_of_own {w : World} {base : Nat} {A : Option Addr} {n c : Nat} {K : Int} {T : Nat} {Q : Int} {tl : List (List (List Int))} (h : w.ownsRow base 52 3 (.slice A n c) n (pxCells K T Q tl n)) : Px3 w A n (pxc K T Q tl) := fun h0 => by
  have hown := h
  rcases h.2 with ⟨e, _⟩ | ⟨g, cap, cur, e, hg, hh, _⟩
  · injection e with e1 e2 e3
    omega
  · injection e with e1 e2 e3
    subst e1 e3
    refine ⟨g, 0, rfl, (Array.getElem?_eq_some_iff.1 hh).1, fun j k hj hk => ?_⟩
    rw [Nat.zero_add, hown.cellAt (j * 3 + k) (by omega), pxCells_at K T Q tl hj hk]
/-- an append of one pixel to a row of one's own -/
theorem wpList_append_px {w : World} {ops : Array Oper} {rest : List Oper} {o : Oper} {a : Act} {Q : Exit → Act → World → Prop} (hgd : o.guard = none) (s x : Operand)
    (ho : o.op = .call { callee := .builtin .append, args := #[s, x], argTypes := #[40, 40] })
    (base : Nat) (v : Value) (n : Nat) (xs : List Value) (z0 z1 z2 : Int) (hs : a.eval s = v) (hown : w.ownsRow base 52 3 v n xs) (g : Nat)
    (hx : a.eval x = .slice (some ⟨g, 0, none⟩) 1 1) (hb : Box w g 52 #[.int .i64 z0, .int .i64 z1, .int .i64 z2]) (hn : n ≤ 2000) (hbase : base ≤ w.heap.size)
    (h : ∀ v' w', w'.ownsRow base 52 3 v' (n + 1) (xs ++ [.int .i64 z0, .int .i64 z1, .int .i64 z2]) → Kept (fun i => v.ownBlock = some i) w w' → wpList Tryd.prog ops Q rest (a.put o.dst v') w') : wpList Tryd.prog ops Q (o :: rest) a w := by
  obtain ⟨i0, hi0, h2⟩ := Option.map_eq_some_iff.1 pix_info
  simp only [Prod.mk.injEq] at h2
  obtain ⟨hz0, hz1, hz2⟩ := h2
  refine wpList_append_own _ hgd s x 40 ho base 52 i0 _ 3 24 Tryd.underlying40 hi0 hz0 hz1 hz2 rfl (by omega) v n xs hs hown ⟨g, 0, none⟩ 1 1 [.int .i64 z0, .int .i64 z1, .int .i64 z2] hx rfl (box_read hb) (by intro u hu; simp at hu; rcases hu with rfl | rfl | rfl <;> rfl) (by unfold maxLen; omega) (by omega) hbase ?_
  intro v' w' h1 h2 _
  exact h v' w' h1 ⟨h2.os, h2.tape, h2.output, h2.size, fun k hk hn => h2.block k hk (fun e => hn e.symm)⟩
def RefPixY (w : World) (K : Int) (T : Nat) (Q : Int) (tl : List (List (List Int))) (e : Ending) (w' : World) : Prop := ∃ A c, e = .returned (.tuple #[.slice A (T * T) c, .int .i64 0]) ∧ Px3 w' A (T * T) (pxc K T Q tl) ∧ Below w.heap.size w w'
set_option maxHeartbeats 12800000 in
theorem refPixels_good (w : World) (W H : Int) (T : Nat) (K Q : Int) (B : Bool) (A : Option Addr) (n c : Nat) (L : List (Option Addr × Nat × Nat)) (tl : List (List (List Int))) (hG : RightG W H T K Q) (hTi : Ti w A n L tl) (hR : RightT T T K 0 tl) :
    Calls Tryd.prog 21 #[geoV W H T K Q B, tileV A n c] w (RefPixY w K T Q tl) := by
  obtain ⟨hT, hK⟩ : (T = 16 ∨ T = 32) ∧ (0 ≤ K ∧ K ≤ 3) := by
    obtain ⟨_, _, h3, h4, _⟩ := hG
    omega
  have hnP : n = nP K := by rw [← hTi.len]; exact hR.2.1
  have hm3 := nP_le K
  unfold RefPixY
  obtain ⟨N, hN⟩ : ∃ N, N = T * T := ⟨_, rfl⟩
  have hN2 : N ≤ 1024 := by
    rw [hN]
    rcases hT with rfl | rfl <;> omega
  have hwp : IntKind.i64.wrap ((T : Int) * (T : Int)) = (N : Int) := by rw [← Int.natCast_mul, ← hN, IntKind.wrap_i64]; omega
  have hq1 : (T : Int).tdiv 2 = (T : Int) / 2 := by
    rcases hT with rfl | rfl <;> rfl
  have HQ2 := Lib.hid (show (T : Int) / 2 = ((T / 2 : Nat) : Int) by omega)
  have hq3 : IntKind.i64.wrap ((T : Int) / 2) = (T : Int) / 2 := by
    rcases hT with rfl | rfl <;> rfl
  have HOK := Lib.hid (show ∀ j, j < N → pixF (smp K T Q tl j 0) (smp K T Q tl j 1) (smp K T Q tl j 2) = (pixQ K T Q tl j, 0) from fun j hj => pix_ok hT K Q tl (by rw [← hN]; exact hj))
  have HPL := Lib.hid (show ∀ p bl, (planeQ K T Q p bl).length = N from fun p bl => by rw [hN]; exact plane_len hT K Q p bl)
  rw [← hN]
  obtain ⟨g1, hg1⟩ : ∃ g1, w.heap.size = g1 := ⟨_, rfl⟩
  obtain ⟨w0, hw0⟩ : ∃ w1, (w.alloc (.cells #[.int .i64 W, .int .i64 H, .int .i64 (T : Int), .int .i64 K, .int .i64 Q, .bool B] 23)).alloc (.cells #[.slice A n c] 35) = w1 := ⟨_, rfl⟩
  have b1 : Box w0 g1 23 #[.int .i64 W, .int .i64 H, .int .i64 (T : Int), .int .i64 K, .int .i64 Q, .bool B] := by rw [← hw0, ← hg1]; exact (Box.made _ _ _).alloc _
  have b2 : Box w0 (g1 + 1) 35 #[.slice A n c] := by rw [← hw0, ← hg1]; have := Box.made (w.alloc (.cells #[.int .i64 W, .int .i64 H, .int .i64 (T : Int), .int .i64 K, .int .i64 Q, .bool B] 23)) 35 #[.slice A n c]; simpa using this
  have k1 : Below w.heap.size w w0 := by rw [← hw0]; exact on_trans (on_alloc _ _) (on_alloc _ _)
  have HL := Lib.hid (And.intro (load_geo b1) (load_tile b2))
  have HB := Lib.hid (And.intro b1 (And.intro b2 (And.intro k1 hg1)))
  have HV := Lib.hid (may_any w0 W H T K Q B A n c L tl (hTi.on k1))
  have e0 : ∀ i, stG W H T K Q i = stQ Q i := fun i => if_pos hG
  have HS := Lib.hid (fun (w1 : World) => refGsteps_any w1 W H T K Q B)
  unfold StepsY at HS
  simp only [e0] at HS
  obtain ⟨ss, hss⟩ : ∃ ss, ss = stQ Q 0 ++ stQ Q 1 := ⟨_, rfl⟩
  rw [← hss] at HS
  have HSS := Lib.hid (And.intro hss (show ss.length = 128 by rw [hss, List.length_append, stQ_len, stQ_len]))
  have HAc := Lib.hid (fun (w1 : World) (p : Nat) (hp : p < 3) => racross_any w1 K p hK.1 hK.2 hp)
  have HDn := Lib.hid (fun (w1 : World) (p : Nat) (hp : p < 3) => rdown_any w1 K p hK.1 hK.2 hp)
  have HJ := Lib.hid (fun (p : Nat) (t : List (List Int)) (hp : p < nP K) (ht : tl[p]? = some t) => by
    have hpo := hR.2.2 p hp
    unfold PartOk at hpo
    rw [show tl.getD p [] = t by rw [List.getD_eq_getElem?_getD, ht]; rfl] at hpo
    exact And.intro (join_ok hT hK.1 hK.2 hp hpo.1 Q) (And.intro hpo.2 (show t.length ≤ 256 by
      have h1 := part_wide hT hK.1 hK.2 hp
      have a := side_small hT (aH K p)
      have b := side_small hT (dH K p)
      rw [hpo.1, h1.1, h1.2]
      have : nb (sideN T (aH K p)) * nb (sideN T (dH K p)) ≤ 16 * 16 := Nat.mul_le_mul (by unfold nb; omega) (by unfold nb; omega)
      omega)))
  have HGr := Lib.hid (fun (p : Nat) (t : List (List Int)) => And.intro (grow_ok hT K Q p t) (And.intro (joined_right hT K Q p t).len (joined_right hT K Q p t).small))
  have HC := Lib.hid (And.intro hTi (And.intro (show OkT W H T K Q tl from ⟨hG, hR⟩) hnP))
  have HN := Lib.hid hN
  obtain ⟨Z2, hz30, hZ2⟩ : ∃ Z : Array Value, (∀ w, (zeroValue 30).run Tryd.prog w = .ok (.agg Z) w) ∧ Z.size = 128 := ⟨(cellsI zeros128).toArray, zero30, by simp [cellsI_len, zeros128]⟩
  obtain ⟨Zb, hZb, hZbs, hzb⟩ := blk_zero
  have HZ := Lib.hid (And.intro hZ2 hZbs)
  have hz76 : ∀ w, (zeroValue 76).run Tryd.prog w = .ok (.agg #[.slice none 0 0, .slice none 0 0, .slice none 0 0]) w := fun w => by kernel_rfl
  unfold ValidY at HV
  unfold geoV at HV HS ⊢
  unfold tileV at HV ⊢
  clear b1 b2 k1 hTi hR hG hN hnP hT hK e0 hss hZ2 hZb hZbs
  go_enter Tryd.func21, Tryd.ntmps21
  go_wp2_with (first
    | (with_reducible refine wpList_load_to (op := ⟨some 27, _, _, _, _, _⟩) rfl 23 (.tmp 2) rfl (.pointer (some ⟨g1, 0, none⟩)) ?hx (.agg #[.int .i64 W, .int .i64 H, .int .i64 (T : Int), .int .i64 K, .int .i64 Q, .bool B]) HL.out.1 ?_)
    | (with_reducible refine wpList_load_to (op := ⟨some 28, _, _, _, _, _⟩) rfl 35 (.tmp 3) rfl (.pointer (some ⟨g1 + 1, 0, none⟩)) ?hx2 (.agg #[.slice A n c]) HL.out.2 ?_)
    | fail)
  all_goals try (first | (case hx => simp [Act.eval]) | (case hx2 => simp [Act.eval]))
  clear hw0
  refine HV.out.mono ?_
  rintro e w1 ⟨r, rfl, hr, k1⟩
  obtain rfl := hr.2 HC.out.2.1
  have H1 := Lib.hid (And.intro (HB.out.1.on k1) (And.intro (HB.out.2.1.on k1) (on_trans HB.out.2.2.1 k1)))
  clear k1 hr HV
  have HLg := Lib.hid (load_geo H1.out.1)
  go_wp2_with (first
    | (with_reducible refine wpList_load_to (op := ⟨some 31, _, _, _, _, _⟩) rfl 23 (.tmp 2) rfl (.pointer (some ⟨g1, 0, none⟩)) ?hx (.agg #[.int .i64 W, .int .i64 H, .int .i64 (T : Int), .int .i64 K, .int .i64 Q, .bool B]) HLg.out ?_)
    | fail)
  all_goals try (case hx => simp [Act.eval])
  refine (HS.out w1).mono ?_
  rintro e w2 ⟨rfl, k2⟩
  have H2 := Lib.hid (And.intro (H1.out.1.on k2) (And.intro (H1.out.2.1.on k2) (on_trans H1.out.2.2 k2)))
  clear k2
  go_wp2_with (first
    | ((with_reducible refine wpList_store_two (o := ⟨none, _, _, _, _, _⟩) rfl (.tmp 6) (.tmp 32) rfl rfl w2.heap.size ss rfl _ rfl rfl Z2 (Box.made _ _ _) HZ.out.1 HSS.out.2 ?_)
       intro w3 b3 k3
       have K3 := laid_below k3
       have H3 := Lib.hid (And.intro (H2.out.1.on K3) (And.intro (H2.out.2.1.on K3) (And.intro b3 (on_trans H2.out.2.2 K3))))
       clear b3 k3 K3)
    | fail)
  have R0 : RfE w (w3.alloc (.cells #[.slice none 0 0, .slice none 0 0, .slice none 0 0] 76)) g1 w2.heap.size w3.heap.size #[.int .i64 W, .int .i64 H, .int .i64 (T : Int), .int .i64 K, .int .i64 Q, .bool B] (.slice A n c) ss := by
    have k := on_alloc w3 (.cells #[.slice none 0 0, .slice none 0 0, .slice none 0 0] 76)
    exact ⟨H3.out.1.on k, H3.out.2.1.on k, H3.out.2.2.1.on k, on_trans H3.out.2.2.2 k, by have := HB.out.2.2.2; omega, H2.out.2.1.lt, H3.out.2.2.1.lt⟩
  have T0 : Tns (w3.alloc (.cells #[.slice none 0 0, .slice none 0 0, .slice none 0 0] 76)) w3.heap.size N (fun _ => .slice none 0 0) (fun q => planeQ K T Q q (tl.getD q [])) 0 := ⟨Box.made _ _ _, fun q hq => absurd hq (by omega)⟩
  obtain ⟨gS, hgS⟩ : ∃ g, g = w2.heap.size := ⟨_, rfl⟩
  obtain ⟨gN, hgN⟩ : ∃ g, g = w3.heap.size := ⟨_, rfl⟩
  rw [← hgS, ← hgN] at R0
  rw [← hgN] at T0
  simp only [← hgS, ← hgN]
  have HR0 := Lib.hid (And.intro R0 T0)
  clear R0 T0 hgS hgN H1 H2 H3 HL HLg hz30 hz76
  obtain ⟨m, hm⟩ : ∃ m, m = nP K := ⟨_, rfl⟩
  rw [← hm] at hm3
  have HMm := Lib.hid hm
  clear hm
  go_loopw [8] (fun i wr => ∃ (p : Nat) (vs : Nat → Value), p ≤ m ∧ i = .int .i64 (p : Int) ∧ RfE w wr g1 gS gN #[.int .i64 W, .int .i64 H, .int .i64 (T : Int), .int .i64 K, .int .i64 Q, .bool B] (.slice A n c) ss ∧ Tns wr gN N vs (fun q => planeQ K T Q q (tl.getD q [])) p) (fun i _ => m - (intOf i).toNat)
  case atStart => exact ⟨0, _, Nat.zero_le _, rfl, HR0.out.1, HR0.out.2⟩
  case round =>
    obtain ⟨p, vs, hp, rfl, hR, hTn⟩ := hrel
    have HR := Lib.hid (And.intro hR hTn)
    clear hR hTn
    have r0 : wr.cell? ⟨g1 + 1, 0, none⟩ = some (.slice A n c) := HR.out.1.tile.cell 0
    have hnm : n = m := by rw [HC.out.2.2, HMm.out]
    by_cases hpm : p < m
    · have hTw := HC.out.1
      obtain ⟨x, hx⟩ : ∃ x, L[p]? = some x := ⟨_, List.getElem?_eq_getElem (by rw [hTw.pt.len, hnm]; exact hpm)⟩
      obtain ⟨t, ht⟩ : ∃ t, tl[p]? = some t := ⟨_, List.getElem?_eq_getElem (by rw [hTw.len, hnm]; exact hpm)⟩
      have hpn : p < n := by omega
      have hp3 : p < 3 := by omega
      obtain ⟨ba, oa, rfl, hba, hpc⟩ := hTw.pt.at_ (by omega)
      obtain ⟨x1, x2, x3⟩ := x
      have HCl := Lib.hid (fun (w' : World) (k : Below w.heap.size w w') => (k.cell (p := ⟨ba, oa + p, none⟩) hba).trans (hpc p _ hx))
      have hrow := (hTw.row p _ t hx ht).1
      dsimp only at HCl hrow
      have HRw := Lib.hid (And.intro hrow (HJ.out p t (by rw [← HMm.out]; exact hpm) ht))
      have HtD := Lib.hid (And.intro ht (show tl.getD p [] = t by rw [List.getD_eq_getElem?_getD, ht]; rfl))
      have hx2 : x2 ≤ 256 := by
        rw [← hrow.len]
        exact HRw.out.2.2.2
      clear hTw hpc hba hx ht hrow hnm
      obtain ⟨wo, rfl⟩ : ∃ wo, wo = wr := ⟨_, rfl⟩
      obtain ⟨N0, hN0⟩ : ∃ N0, N0 = wo.heap.size := ⟨_, rfl⟩
      have HN0 := Lib.hid hN0
      go_wp2_with fail
      clear hN0 r0
      go_loopw [9, 10] (fun v i wx => ∃ k : Nat, k ≤ x2 ∧ i = .int .i64 (k : Int) ∧ wx.ownsRow N0 29 64 v k (blocksC ((shownL Q p t).take k)) ∧ Below wo.heap.size wo wx) (fun _ i _ => x2 - (intOf i).toNat)
      case atStart => exact ⟨0, Nat.zero_le _, rfl, World.ownsRow_nil _ _ _ _, Below.refl _ _⟩
      case round =>
        obtain ⟨k, hk, rfl, hown, hbx⟩ := hrel
        obtain ⟨A9, c9, rfl⟩ := own_slice hown
        have HX := Lib.hid (And.intro hown (And.intro hbx (HR.out.1.on hbx)))
        have r1 : wr.cell? ⟨g1 + 1, 0, none⟩ = some (.slice (some ⟨ba, oa, none⟩) n c) := HX.out.2.2.tile.cell 0
        have s2 := HCl.out wr HX.out.2.2.bel
        clear hown hbx
        by_cases hkx : k < x2
        · have hbs := HRw.out.1.on HX.out.2.2.bel
          obtain ⟨b, hb⟩ : ∃ b, t[k]? = some b := ⟨_, List.getElem?_eq_getElem (by rw [hbs.len]; exact hkx)⟩
          obtain ⟨bb, ob, rfl, hbb, _⟩ := hbs.at_ (by omega)
          have hbl : b.length = 64 := hbs.wide b (List.mem_of_getElem? hb)
          have hbr := HRw.out.2.2.1 b (List.mem_of_getElem? hb)
          have HLb := Lib.hid (fun (w' : World) (k' : Below wr.heap.size wr w') => (hbs.on k').load hb)
          have CU := Lib.hid (fun w1 => refUp_any w1 b (stQ Q p) hbl (stQ_len Q p))
          have CI := Lib.hid (fun w1 => refInverse_any w1 (upL b (stQ Q p)) (upL_len _ _))
          rw [up_ok hbr] at CU
          rw [inv_ok hbr] at CI
          unfold Tells8_ at CU
          unfold Tells9_ at CI
          dsimp only at CU CI
          have hsh : (shownL Q p t).take (k + 1) = (shownL Q p t).take k ++ [invL (upL b (stQ Q p))] := by
            rw [List.take_add_one]
            congr 1
            unfold shownL
            rw [List.getElem?_map, hb]
            rfl
          have HY := Lib.hid (And.intro hbl (And.intro (upL_len b (stQ Q p)) (And.intro (invL_len (upL b (stQ Q p))) hsh)))
          have HST := Lib.hid (show Box wr gS 30 (cellsI (stQ Q 0 ++ stQ Q 1)).toArray by rw [← HSS.out.1]; exact HX.out.2.2.stp)
          obtain ⟨s, hs⟩ : ∃ s, s = stQ Q p := ⟨_, rfl⟩
          obtain ⟨u, hu⟩ : ∃ u, u = upL b (stQ Q p) := ⟨_, rfl⟩
          obtain ⟨y, hy⟩ : ∃ y, y = invL (upL b (stQ Q p)) := ⟨_, rfl⟩
          rw [← hu, ← hs] at CU
          rw [← hy, ← hu] at CI
          rw [← hy, ← hu] at HY
          obtain ⟨m2, hm2⟩ : ∃ m2, m2 = if p = 0 then 0 else 1 := ⟨_, rfl⟩
          have hm22 : m2 < 2 := by rw [hm2]; split <;> omega
          have HM2 := Lib.hid (And.intro hm2 hs)
          clear hbs hb hbb hbl hbr hsh hs hu hy hm2
          go_upto_region 12 with fail
          go_cut [11, 12] (fun q e wy => ∃ g, q = .pointer (some ⟨g, 0, none⟩) ∧ e = .int .i64 0 ∧ Blk wy g u ∧ Below wr.heap.size wr wy)
          case first =>
            refine wp_region_held_drew (S := fun w' => Hid (Below wr.heap.size wr w')) (by kernel_rfl) (Lib.hid (on_drew wr)) fun s0 => ?_
            refine take_to (i := 0) (v := .pointer (some ⟨g1 + 1, 0, none⟩)) rfl (by kernel_rfl) (by kernel_rfl) (by kernel_rfl) (fun _ _ _ h => h) (Or.inl ⟨by rfl, fun w' hS => by go_simp⟩) s0 (some 51) rfl ?_
            try simp only [Act.put, List.setIfInBounds_toArray, List.set_cons_zero, List.set_cons_succ]
            refine take_to (i := 1) (v := .slice (some ⟨ba, oa, none⟩) n c) rfl (by kernel_rfl) (by kernel_rfl) (by kernel_rfl) (fun _ _ _ h => h) (Or.inl ⟨by rfl, fun w' hS => by have hc := (HX.out.2.2.on hS.out).tile.cell 0; simp at hc; go_simp⟩) s0 (some 52) rfl ?_
            try simp only [Act.put, List.setIfInBounds_toArray, List.set_cons_zero, List.set_cons_succ]
            refine take_to (i := 2) (v := .int .i64 (p : Int)) rfl (by kernel_rfl) (by kernel_rfl) (by kernel_rfl) (fun _ _ _ h => h) (Or.inl ⟨by rfl, fun w' hS => by go_simp⟩) s0 (some 53) rfl ?_
            try simp only [Act.put, List.setIfInBounds_toArray, List.set_cons_zero, List.set_cons_succ]
            refine take_to (i := 3) (v := .pointer (some ⟨ba, oa + p, none⟩)) rfl (by kernel_rfl) (by kernel_rfl) (by kernel_rfl) (fun _ _ _ h => h) (Or.inl ⟨by rfl, fun w' hS => by go_simp⟩) s0 (some 54) rfl ?_
            try simp only [Act.put, List.setIfInBounds_toArray, List.set_cons_zero, List.set_cons_succ]
            refine take_to (i := 4) (v := .slice (some ⟨bb, ob, none⟩) x2 x3) rfl (by kernel_rfl) (by kernel_rfl) (by kernel_rfl) (fun _ _ _ h => h) (Or.inl ⟨by rfl, fun w' hS => by have hc := HCl.out w' (HX.out.2.2.on hS.out).bel; go_simp⟩) s0 (some 55) rfl ?_
            try simp only [Act.put, List.setIfInBounds_toArray, List.set_cons_zero, List.set_cons_succ]
            refine take_to (i := 5) (v := .int .i64 (k : Int)) rfl (by kernel_rfl) (by kernel_rfl) (by kernel_rfl) (fun _ _ _ h => h) (Or.inl ⟨by rfl, fun w' hS => by go_simp⟩) s0 (some 56) rfl ?_
            try simp only [Act.put, List.setIfInBounds_toArray, List.set_cons_zero, List.set_cons_succ]
            refine take_to (i := 6) (v := .pointer (some ⟨bb, ob + k * 64, none⟩)) rfl (by kernel_rfl) (by kernel_rfl) (by kernel_rfl) (fun _ _ _ h => h) (Or.inl ⟨by rfl, fun w' hS => by go_simp⟩) s0 (some 57) rfl ?_
            try simp only [Act.put, List.setIfInBounds_toArray, List.set_cons_zero, List.set_cons_succ]
            refine take_to (i := 7) rfl (by kernel_rfl) (by kernel_rfl) (by kernel_rfl) (fun _ _ _ h => h) (yieldsIf_load (by rfl) 29 _ rfl (.pointer (some ⟨bb, ob + k * 64, none⟩)) (by simp [Act.eval]) (blkV b) (fun w' h => HLb.out w' h.out)) s0 (some 58) rfl ?_
            try simp only [Act.put, List.setIfInBounds_toArray, List.set_cons_zero, List.set_cons_succ]
            refine take_to (i := 8) (v := .int .i64 (p : Int)) rfl (by kernel_rfl) (by kernel_rfl) (by kernel_rfl) (fun _ _ _ h => h) (Or.inl ⟨by rfl, fun w' hS => by go_simp⟩) s0 (some 59) rfl ?_
            try simp only [Act.put, List.setIfInBounds_toArray, List.set_cons_zero, List.set_cons_succ]
            refine take_to (i := 9) (v := .int .i64 (m2 : Int)) rfl (by kernel_rfl) (by kernel_rfl) (by kernel_rfl) (fun _ _ _ h => h) (Or.inl ⟨by rfl, fun w' hS => by have h := HM2.out.1; rcases (show p = 0 ∨ p = 1 ∨ p = 2 by omega) with h1 | h1 | h1 <;> subst h1 <;> simp at h <;> subst h <;> go_simp⟩) s0 (some 60) rfl ?_
            try simp only [Act.put, List.setIfInBounds_toArray, List.set_cons_zero, List.set_cons_succ]
            refine take_to (i := 10) (v := .pointer (some ⟨gS, m2 * 64, none⟩)) rfl (by kernel_rfl) (by kernel_rfl) (by kernel_rfl) (fun _ _ _ h => h) (Or.inl ⟨by rfl, fun w' hS => by go_simp; intro h; omega⟩) s0 (some 61) rfl ?_
            try simp only [Act.put, List.setIfInBounds_toArray, List.set_cons_zero, List.set_cons_succ]
            refine take_to (i := 11) rfl (by kernel_rfl) (by kernel_rfl) (by kernel_rfl) (fun _ _ _ h => h) (yieldsIf_load (by rfl) 29 _ rfl (.pointer (some ⟨gS, m2 * 64, none⟩)) (by simp [Act.eval]) (blkV s) (fun w' h => by rw [HM2.out.2]; exact load_step (HST.out.on h.out) HM2.out.1)) s0 (some 62) rfl ?_
            try simp only [Act.put, List.setIfInBounds_toArray, List.set_cons_zero, List.set_cons_succ]
            generalize wr.drew = v0 at s0 ⊢
            refine wpAnyH_ready (rs := [12, 16]) (by kernel_rfl) (by simp) ?_
            refine AllReadyH.cons rfl (fun Kq hKq => ?_) (AllReadyH.cons rfl (fun Kq hKq => ?_) AllReadyH.nil)
            · skip
              go_simp
              refine Calls.mono (CU.out v0) ?_
              rintro e u1 ⟨rfl, k1⟩
              have s1 := Lib.hid (on_trans s0.out k1)
              clear k1
              refine hKq.out _ _ s1 fun _ => ?_
              clear hKq Kq
              try simp only [Act.put, List.setIfInBounds_toArray, List.set_cons_zero, List.set_cons_succ]
              refine take_to (i := 13) (v := .tuple #[blkV u, .int .i64 0]) rfl (by kernel_rfl) (by kernel_rfl) (by kernel_rfl) (fun _ _ _ h => h) (Or.inl ⟨by rfl, fun w' hS => by go_simp⟩) s1 (some 50) rfl ?_
              try simp only [Act.put, List.setIfInBounds_toArray, List.set_cons_zero, List.set_cons_succ]
              refine take_to (i := 14) (v := blkV u) rfl (by kernel_rfl) (by kernel_rfl) (by kernel_rfl) (fun _ _ _ h => h) (Or.inl ⟨by rfl, fun w' hS => by go_simp⟩) s1 (some 64) rfl ?_
              try simp only [Act.put, List.setIfInBounds_toArray, List.set_cons_zero, List.set_cons_succ]
              refine take_to (i := 15) (v := .int .i64 0) rfl (by kernel_rfl) (by kernel_rfl) (by kernel_rfl) (fun _ _ _ h => h) (Or.inl ⟨by rfl, fun w' hS => by go_simp⟩) s1 (some 65) rfl ?_
              try simp only [Act.put, List.setIfInBounds_toArray, List.set_cons_zero, List.set_cons_succ]
              refine wpAnyH_ready (rs := [16]) (by kernel_rfl) (by simp) ?_
              refine AllReadyH.cons rfl (fun Kq hKq => ?_) AllReadyH.nil
              · skip
                go_simp
                have kb2 : Below u1.heap.size u1 (u1.alloc (.cells Zb 29)) := on_alloc _ _
                have bb2 : Box (u1.alloc (.cells Zb 29)) u1.heap.size 29 Zb := Box.made _ _ _
                obtain ⟨gb, hgb⟩ : ∃ gb, gb = u1.heap.size := ⟨_, rfl⟩
                obtain ⟨u2, hu2⟩ : ∃ x, x = (u1.alloc (.cells Zb 29)) := ⟨_, rfl⟩
                simp only [← hgb, ← hu2] at bb2 ⊢
                rw [← hu2] at kb2
                have x2 := Lib.hid (And.intro bb2 (show wr.heap.size ≤ gb by rw [hgb]; exact s1.out.size))
                have s2 := Lib.hid (on_trans s1.out kb2)
                clear kb2 bb2 hu2 hgb
                refine hKq.out _ _ s2 fun _ => ?_
                clear hKq Kq
                try simp only [Act.put, List.setIfInBounds_toArray, List.set_cons_zero, List.set_cons_succ]
                refine wpAnyH_ready (rs := [17]) (by kernel_rfl) (by simp) ?_
                refine AllReadyH.cons rfl (fun Kq hKq => ?_) AllReadyH.nil
                refine if_then (by rfl) ?_
                refine wp_store_blkQ (.tmp 11) (.tmp 64) rfl rfl gb u rfl rfl Zb x2.out.1 HZ.out.2 HY.out.2.1 fun w9 b9 k9 => ?_
                have s3 := Lib.hid (s2.out.trans (k9.below s2.out.size (fun i hi e => by have := x2.out.2; omega)))
                have HO := Lib.hid b9
                refine hKq.out _ _ s3 fun _ => ?_
                clear hKq Kq b9 k9
                try simp only [Act.put, List.setIfInBounds_toArray, List.set_cons_zero, List.set_cons_succ]
                refine take_to (i := 18) (v := .int .i64 0) rfl (by kernel_rfl) (by kernel_rfl) (by kernel_rfl) (fun _ _ _ h => h) (Or.inl ⟨by rfl, fun w' hS => by go_simp⟩) s3 (some 12) rfl ?_
                try simp only [Act.put, List.setIfInBounds_toArray, List.set_cons_zero, List.set_cons_succ]
                refine wpAnyH_done (by kernel_rfl) ?_ _
                go_wp2_with fail
                go_meet
                exact ⟨gb, rfl, rfl, HO.out, s3.out⟩
            · skip
              go_simp
              have kb4 : Below v0.heap.size v0 (v0.alloc (.cells Zb 29)) := on_alloc _ _
              have bb4 : Box (v0.alloc (.cells Zb 29)) v0.heap.size 29 Zb := Box.made _ _ _
              obtain ⟨gb, hgb⟩ : ∃ gb, gb = v0.heap.size := ⟨_, rfl⟩
              obtain ⟨u4, hu4⟩ : ∃ x, x = (v0.alloc (.cells Zb 29)) := ⟨_, rfl⟩
              simp only [← hgb, ← hu4] at bb4 ⊢
              rw [← hu4] at kb4
              have x4 := Lib.hid (And.intro bb4 (show wr.heap.size ≤ gb by rw [hgb]; exact s0.out.size))
              have s4 := Lib.hid (on_trans s0.out kb4)
              clear kb4 bb4 hu4 hgb
              refine hKq.out _ _ s4 fun _ => ?_
              clear hKq Kq
              try simp only [Act.put, List.setIfInBounds_toArray, List.set_cons_zero, List.set_cons_succ]
              refine wpAnyH_ready (rs := [12]) (by kernel_rfl) (by simp) ?_
              refine AllReadyH.cons rfl (fun Kq hKq => ?_) AllReadyH.nil
              · skip
                go_simp
                refine Calls.mono (CU.out u4) ?_
                rintro e u5 ⟨rfl, k5⟩
                have s5 := Lib.hid (on_trans s4.out k5)
                have x5 := Lib.hid (And.intro (x4.out.1.on k5) x4.out.2)
                clear k5
                refine hKq.out _ _ s5 fun _ => ?_
                clear hKq Kq
                try simp only [Act.put, List.setIfInBounds_toArray, List.set_cons_zero, List.set_cons_succ]
                refine take_to (i := 13) (v := .tuple #[blkV u, .int .i64 0]) rfl (by kernel_rfl) (by kernel_rfl) (by kernel_rfl) (fun _ _ _ h => h) (Or.inl ⟨by rfl, fun w' hS => by go_simp⟩) s5 (some 50) rfl ?_
                try simp only [Act.put, List.setIfInBounds_toArray, List.set_cons_zero, List.set_cons_succ]
                refine take_to (i := 14) (v := blkV u) rfl (by kernel_rfl) (by kernel_rfl) (by kernel_rfl) (fun _ _ _ h => h) (Or.inl ⟨by rfl, fun w' hS => by go_simp⟩) s5 (some 64) rfl ?_
                try simp only [Act.put, List.setIfInBounds_toArray, List.set_cons_zero, List.set_cons_succ]
                refine take_to (i := 15) (v := .int .i64 0) rfl (by kernel_rfl) (by kernel_rfl) (by kernel_rfl) (fun _ _ _ h => h) (Or.inl ⟨by rfl, fun w' hS => by go_simp⟩) s5 (some 65) rfl ?_
                try simp only [Act.put, List.setIfInBounds_toArray, List.set_cons_zero, List.set_cons_succ]
                refine wpAnyH_ready (rs := [17]) (by kernel_rfl) (by simp) ?_
                refine AllReadyH.cons rfl (fun Kq hKq => ?_) AllReadyH.nil
                refine if_then (by rfl) ?_
                refine wp_store_blkQ (.tmp 11) (.tmp 64) rfl rfl gb u rfl rfl Zb x5.out.1 HZ.out.2 HY.out.2.1 fun w9 b9 k9 => ?_
                have s6 := Lib.hid (s5.out.trans (k9.below s5.out.size (fun i hi e => by have := x5.out.2; omega)))
                have HO := Lib.hid b9
                refine hKq.out _ _ s6 fun _ => ?_
                clear hKq Kq b9 k9
                try simp only [Act.put, List.setIfInBounds_toArray, List.set_cons_zero, List.set_cons_succ]
                refine take_to (i := 18) (v := .int .i64 0) rfl (by kernel_rfl) (by kernel_rfl) (by kernel_rfl) (fun _ _ _ h => h) (Or.inl ⟨by rfl, fun w' hS => by go_simp⟩) s6 (some 12) rfl ?_
                try simp only [Act.put, List.setIfInBounds_toArray, List.set_cons_zero, List.set_cons_succ]
                refine wpAnyH_done (by kernel_rfl) ?_ _
                go_wp2_with fail
                go_meet
                exact ⟨gb, rfl, rfl, HO.out, s6.out⟩
          case rest =>
            obtain ⟨g11, rfl, rfl, hblk, hbw⟩ := hcut
            have HB1 := Lib.hid (And.intro hblk hbw)
            clear hblk hbw r1 s2
            go_wp2_with (first
              | (with_reducible refine wpList_load_to (op := ⟨some 67, _, _, _, _, _⟩) rfl 29 (.tmp 11) rfl (.pointer (some ⟨g11, 0, none⟩)) rfl (blkV u) HB1.out.1.load ?_)
              | fail)
            refine (CI.out wc).mono ?_
            rintro e w6 ⟨rfl, k6⟩
            have H6 := Lib.hid (on_trans HB1.out.2 k6)
            clear k6
            dsimp only
            go_wp2_with (first
              | ((with_reducible refine wpList_store_blk12_ (o := ⟨none, _, _, _, _, _⟩) rfl (.tmp 13) (.tmp 69) rfl rfl w6.heap.size y rfl rfl Zb (Box.made _ _ _) HZ.out.2 HY.out.2.2.1 ?_)
                 intro w7 b7 k7
                 have H7 := Lib.hid (And.intro b7 (on_trans H6.out (laid_below k7)))
                 have own7 := Lib.hid (ownsRow_on HX.out.1 (on_trans (on_trans H6.out (laid_below k7)) (on_alloc w7 (.cells (cellsI y).toArray 29))))
                 have ba7 : N0 ≤ (w7.alloc (.cells (cellsI y).toArray 29)).heap.size := by rw [HN0.out]; exact (on_trans (on_trans HX.out.2.1 H7.out.2) (on_alloc w7 (.cells (cellsI y).toArray 29))).size
                 have h1000 : k ≤ 1000 := by omega
                 clear b7 k7)
              | (with_reducible refine wpList_load_to (op := ⟨some 72, _, _, _, _, _⟩) rfl 29 (.tmp 13) rfl (.pointer (some ⟨w6.heap.size, 0, none⟩)) rfl (blkV y) H7.out.1.load ?_)
              | (with_reducible refine wpList_one_blk (o := ⟨some 73, _, _, _, _, _⟩) rfl (.tmp 72) rfl y HY.out.2.2.1 rfl ?_)
              | (at_builtin; refine wpList_append_bk (o := ⟨some 74, _, _, _, _, _⟩) rfl (.tmp 71) (.tmp 73) rfl N0 (.slice A9 k c9) k _ y rfl own7.out w7.heap.size rfl ⟨Box.made _ _ _, HY.out.2.2.1⟩ h1000 ba7 ?_
                 intro v9 w9 hr9 k9
                 obtain ⟨A8, c8, hv9⟩ := own_slice hr9
                 subst hv9
                 rw [← HY.out.2.2.2] at hr9
                 have H9 := Lib.hid (And.intro hr9 k9)
                 clear hr9 k9)
              | fail)
            go_roundw
            case rel =>
              have hK1 := on_trans (on_trans HX.out.2.1 H7.out.2) (on_alloc w7 (.cells (cellsI y).toArray 29))
              exact ⟨k + 1, by omega, by go_num, H9.out.1, hK1.trans (H9.out.2.below hK1.size (fun i hi e => by have h2 := (own_block3 own7.out e).1; rw [HN0.out] at h2; omega))⟩
            case measure => simp [intOf]; omega
        · obtain rfl : k = x2 := by omega
          have hall : (shownL Q p t).take k = shownL Q p t := List.take_of_length_le (by rw [shown_len, HRw.out.1.len]; exact Nat.le_refl _)
          have hown := HX.out.1
          rw [hall] at hown
          obtain ⟨A8, c8, e8, hBs, _⟩ := bs_of_own hown (fun z hz => by
            obtain ⟨b, _, rfl⟩ := List.mem_map.1 hz
            exact invL_len _)
          cases e8
          have HBs := Lib.hid hBs
          have q2 : wr.cell? ⟨g1, 2, none⟩ = some (.int .i64 (T : Int)) := HX.out.2.2.geo.cell 2
          have q3 : wr.cell? ⟨g1, 3, none⟩ = some (.int .i64 K) := HX.out.2.2.geo.cell 3
          obtain ⟨a, ha⟩ : ∃ a, a = aH K p := ⟨_, rfl⟩
          obtain ⟨d, hd⟩ : ∃ d, d = dH K p := ⟨_, rfl⟩
          have HAD := Lib.hid (And.intro ha hd)
          clear hall hown hBs ha hd
          have HAc1 := Lib.hid (HAc.out wr p hp3)
          have HDn1 := Lib.hid (HDn.out wr p hp3)
          rw [← HAD.out.1] at HAc1
          rw [← HAD.out.2] at HDn1
          go_wp2_with fail
          refine HAc1.out.mono ?_
          rintro e wx ⟨rfl, rfl⟩
          cases a
          · go_wp2_with fail
            refine HDn1.out.mono ?_
            rintro e wx ⟨rfl, rfl⟩
            cases d
            · go_wp2_with fail
              have hJ := refJoin_any wr (T : Int) (T : Int) A9 k c9 (shownL Q p t) HBs.out
              have hj := HRw.out.2.1
              rw [← HAD.out.1, ← HAD.out.2] at hj
              rw [show joinF (shownL Q p t) (T : Int) (T : Int) = (((sideN T false : Nat) : Int), ((sideN T false : Nat) : Int), joinL (shownL Q p t) (sideN T false) (sideN T false), 0) by exact hj] at hJ
              unfold PTells at hJ
              dsimp only at hJ
              have HJ1 := Lib.hid hJ
              clear hJ hj
              refine HJ1.out.mono ?_
              rintro e w6 ⟨A6, n6, c6, rfl, hO, k6⟩
              have H6 := Lib.hid (And.intro hO (And.intro (HX.out.2.2.on k6) (on_trans HX.out.2.1 k6)))
              clear hO k6 q2 q3
              dsimp only
              go_wp2_with (first
                | ((with_reducible refine wpList_store_plane (o := ⟨none, _, _, _, _, _⟩) rfl (.tmp 17) (.tmp 96) rfl rfl w6.heap.size #[.int .i64 ((sideN T false : Nat) : Int), .int .i64 ((sideN T false : Nat) : Int), .slice A6 n6 c6] rfl ?ho rfl rfl _ (Box.made _ _ _) rfl ?_)
                   case ho => simp [Value.oneCell']
                   intro w7 b7 k7
                   have K7 := laid_below k7
                   have H7 := Lib.hid (And.intro b7 (And.intro (H6.out.1.on K7) (And.intro (H6.out.2.1.on K7) (on_trans H6.out.2.2 K7))))
                   clear b7 k7 K7)
                | fail)
              go_upto_region 22 with fail
              go_cut [19, 20] (fun q e wy => ∃ g A8 n8 c8, q = .pointer (some ⟨g, 0, none⟩) ∧ e = .int .i64 0 ∧ Box wy g 69 #[.int .i64 (T : Int), .int .i64 (T : Int), .slice A8 n8 c8] ∧ Os wy (gN + 1) A8 n8 c8 (planeQ K T Q p t) ∧ Below w7.heap.size w7 wy)
              case first =>
                have HAc2 := Lib.hid (fun w1 => HAc.out w1 p hp3)
                have HDn2 := Lib.hid (fun w1 => HDn.out w1 p hp3)
                rw [← HAD.out.1] at HAc2
                rw [← HAD.out.2] at HDn2
                refine wp_region_held_drew (S := fun w' => Hid (Below w7.heap.size w7 w')) (by kernel_rfl) (Lib.hid (on_drew w7)) fun s0 => ?_
                refine take_to (i := 0) rfl (by kernel_rfl) (by kernel_rfl) (by kernel_rfl) (fun _ _ _ h => h) (yieldsIf_load (by rfl) 69 _ rfl (.pointer (some ⟨w6.heap.size, 0, none⟩)) (by simp [Act.eval]) (.agg #[.int .i64 ((sideN T false : Nat) : Int), .int .i64 ((sideN T false : Nat) : Int), .slice A6 n6 c6]) (fun w' h => load_plane (H7.out.1.on h.out) rfl)) s0 (some 99) rfl ?_
                try simp only [Act.put, List.setIfInBounds_toArray, List.set_cons_zero, List.set_cons_succ]
                refine take_to (i := 1) (v := .pointer (some ⟨g1, 3, none⟩)) rfl (by kernel_rfl) (by kernel_rfl) (by kernel_rfl) (fun _ _ _ h => h) (Or.inl ⟨by rfl, fun w' hS => by go_simp⟩) s0 (some 100) rfl ?_
                try simp only [Act.put, List.setIfInBounds_toArray, List.set_cons_zero, List.set_cons_succ]
                refine take_to (i := 2) (v := .int .i64 K) rfl (by kernel_rfl) (by kernel_rfl) (by kernel_rfl) (fun _ _ _ h => h) (Or.inl ⟨by rfl, fun w' hS => by have hc := (H7.out.2.2.1.on hS.out).geo.cell 3; simp at hc; go_simp⟩) s0 (some 101) rfl ?_
                try simp only [Act.put, List.setIfInBounds_toArray, List.set_cons_zero, List.set_cons_succ]
                refine take_to (i := 3) (v := .int .i64 (p : Int)) rfl (by kernel_rfl) (by kernel_rfl) (by kernel_rfl) (fun _ _ _ h => h) (Or.inl ⟨by rfl, fun w' hS => by go_simp⟩) s0 (some 102) rfl ?_
                try simp only [Act.put, List.setIfInBounds_toArray, List.set_cons_zero, List.set_cons_succ]
                refine take_to (i := 5) (v := .pointer (some ⟨g1, 3, none⟩)) rfl (by kernel_rfl) (by kernel_rfl) (by kernel_rfl) (fun _ _ _ h => h) (Or.inl ⟨by rfl, fun w' hS => by go_simp⟩) s0 (some 104) rfl ?_
                try simp only [Act.put, List.setIfInBounds_toArray, List.set_cons_zero, List.set_cons_succ]
                refine take_to (i := 6) (v := .int .i64 K) rfl (by kernel_rfl) (by kernel_rfl) (by kernel_rfl) (fun _ _ _ h => h) (Or.inl ⟨by rfl, fun w' hS => by have hc := (H7.out.2.2.1.on hS.out).geo.cell 3; simp at hc; go_simp⟩) s0 (some 105) rfl ?_
                try simp only [Act.put, List.setIfInBounds_toArray, List.set_cons_zero, List.set_cons_succ]
                refine take_to (i := 7) (v := .int .i64 (p : Int)) rfl (by kernel_rfl) (by kernel_rfl) (by kernel_rfl) (fun _ _ _ h => h) (Or.inl ⟨by rfl, fun w' hS => by go_simp⟩) s0 (some 106) rfl ?_
                try simp only [Act.put, List.setIfInBounds_toArray, List.set_cons_zero, List.set_cons_succ]
                refine take_to (i := 9) (v := .pointer (some ⟨g1, 2, none⟩)) rfl (by kernel_rfl) (by kernel_rfl) (by kernel_rfl) (fun _ _ _ h => h) (Or.inl ⟨by rfl, fun w' hS => by go_simp⟩) s0 (some 108) rfl ?_
                try simp only [Act.put, List.setIfInBounds_toArray, List.set_cons_zero, List.set_cons_succ]
                refine take_to (i := 10) (v := .int .i64 (T : Int)) rfl (by kernel_rfl) (by kernel_rfl) (by kernel_rfl) (fun _ _ _ h => h) (Or.inl ⟨by rfl, fun w' hS => by have hc := (H7.out.2.2.1.on hS.out).geo.cell 2; simp at hc; go_simp⟩) s0 (some 109) rfl ?_
                try simp only [Act.put, List.setIfInBounds_toArray, List.set_cons_zero, List.set_cons_succ]
                refine take_to (i := 11) (v := .pointer (some ⟨g1, 2, none⟩)) rfl (by kernel_rfl) (by kernel_rfl) (by kernel_rfl) (fun _ _ _ h => h) (Or.inl ⟨by rfl, fun w' hS => by go_simp⟩) s0 (some 110) rfl ?_
                try simp only [Act.put, List.setIfInBounds_toArray, List.set_cons_zero, List.set_cons_succ]
                refine take_to (i := 12) (v := .int .i64 (T : Int)) rfl (by kernel_rfl) (by kernel_rfl) (by kernel_rfl) (fun _ _ _ h => h) (Or.inl ⟨by rfl, fun w' hS => by have hc := (H7.out.2.2.1.on hS.out).geo.cell 2; simp at hc; go_simp⟩) s0 (some 111) rfl ?_
                try simp only [Act.put, List.setIfInBounds_toArray, List.set_cons_zero, List.set_cons_succ]
                generalize w7.drew = v0 at s0 ⊢
                have HGN := Lib.hid (show gN + 1 ≤ w7.heap.size from Nat.le_trans HR.out.2.box.lt H7.out.2.2.2.size)
                refine wpAnyH_ready (rs := [4, 17]) (by kernel_rfl) (by simp) ?_
                refine AllReadyH.cons rfl (fun Kq hKq => ?_) (AllReadyH.cons rfl (fun Kq hKq => ?_) AllReadyH.nil)
                · skip
                  go_simp
                  refine Calls.mono (HAc2.out v0) ?_
                  rintro e u7 ⟨rfl, rfl⟩
                  refine hKq.out _ _ s0 fun _ => ?_
                  clear hKq Kq
                  try simp only [Act.put, List.setIfInBounds_toArray, List.set_cons_zero, List.set_cons_succ]
                  refine wpAnyH_ready (rs := [8, 17]) (by kernel_rfl) (by simp) ?_
                  refine AllReadyH.cons rfl (fun Kq hKq => ?_) (AllReadyH.cons rfl (fun Kq hKq => ?_) AllReadyH.nil)
                  · skip
                    go_simp
                    refine Calls.mono (HDn2.out v0) ?_
                    rintro e u8 ⟨rfl, rfl⟩
                    refine hKq.out _ _ s0 fun _ => ?_
                    clear hKq Kq
                    try simp only [Act.put, List.setIfInBounds_toArray, List.set_cons_zero, List.set_cons_succ]
                    refine wpAnyH_ready (rs := [13, 17]) (by kernel_rfl) (by simp) ?_
                    refine AllReadyH.cons rfl (fun Kq hKq => ?_) (AllReadyH.cons rfl (fun Kq hKq => ?_) AllReadyH.nil)
                    · skip
                      go_simp
                      have hg := HGr.out p t
                      rw [← HAD.out.1, ← HAD.out.2] at hg
                      have hOu := H7.out.2.1.on s0.out
                      have hn6 : n6 ≤ 1000000 := by
                        have h1 := hOu.il.len
                        have h2 := hg.2.1
                        have h3 := hg.2.2
                        omega
                      have hC := refGrow_any v0 ((sideN T false : Nat) : Int) ((sideN T false : Nat) : Int) (T : Int) (T : Int) false false A6 n6 c6 _ hOu.ia hn6
                      rw [hg.1] at hC
                      unfold PTells at hC
                      dsimp only at hC
                      refine Calls.mono hC ?_
                      clear hC hg hn6 hOu
                      rintro e u9 ⟨A8, n8, c8, rfl, hO, k9⟩
                      have s9 := Lib.hid (on_trans s0.out k9)
                      have o9 := Lib.hid (hO.down (show gN + 1 ≤ v0.heap.size from Nat.le_trans HGN.out s0.out.size))
                      clear k9 hO
                      refine hKq.out _ _ s9 fun _ => ?_
                      clear hKq Kq
                      try simp only [Act.put, List.setIfInBounds_toArray, List.set_cons_zero, List.set_cons_succ]
                      refine take_to (i := 14) (v := .tuple #[.agg #[.int .i64 (T : Int), .int .i64 (T : Int), .slice A8 n8 c8], .int .i64 0]) rfl (by kernel_rfl) (by kernel_rfl) (by kernel_rfl) (fun _ _ _ h => h) (Or.inl ⟨by rfl, fun w' hS => by go_simp⟩) s9 (some 98) rfl ?_
                      try simp only [Act.put, List.setIfInBounds_toArray, List.set_cons_zero, List.set_cons_succ]
                      refine take_to (i := 15) (v := .agg #[.int .i64 (T : Int), .int .i64 (T : Int), .slice A8 n8 c8]) rfl (by kernel_rfl) (by kernel_rfl) (by kernel_rfl) (fun _ _ _ h => h) (Or.inl ⟨by rfl, fun w' hS => by go_simp⟩) s9 (some 113) rfl ?_
                      try simp only [Act.put, List.setIfInBounds_toArray, List.set_cons_zero, List.set_cons_succ]
                      refine take_to (i := 16) (v := .int .i64 0) rfl (by kernel_rfl) (by kernel_rfl) (by kernel_rfl) (fun _ _ _ h => h) (Or.inl ⟨by rfl, fun w' hS => by go_simp⟩) s9 (some 114) rfl ?_
                      try simp only [Act.put, List.setIfInBounds_toArray, List.set_cons_zero, List.set_cons_succ]
                      refine wpAnyH_ready (rs := [17]) (by kernel_rfl) (by simp) ?_
                      refine AllReadyH.cons rfl (fun Kq hKq => ?_) AllReadyH.nil
                      · skip
                        go_simp
                        have kb10 : Below u9.heap.size u9 (u9.alloc (.cells #[.int .i64 0, .int .i64 0, .slice none 0 0] 69)) := on_alloc _ _
                        have bb10 : Box (u9.alloc (.cells #[.int .i64 0, .int .i64 0, .slice none 0 0] 69)) u9.heap.size 69 #[.int .i64 0, .int .i64 0, .slice none 0 0] := Box.made _ _ _
                        obtain ⟨gb, hgb⟩ : ∃ gb, gb = u9.heap.size := ⟨_, rfl⟩
                        obtain ⟨u10, hu10⟩ : ∃ x, x = (u9.alloc (.cells #[.int .i64 0, .int .i64 0, .slice none 0 0] 69)) := ⟨_, rfl⟩
                        simp only [← hgb, ← hu10] at bb10 ⊢
                        rw [← hu10] at kb10
                        have x10 := Lib.hid (And.intro bb10 (show w7.heap.size ≤ gb by rw [hgb]; exact s9.out.size))
                        have s10 := Lib.hid (on_trans s9.out kb10)
                        have ne10 := Lib.hid (show ∀ b off, A8 = some ⟨b, off, none⟩ → ¬ b = gb from fun b off e => by have := (o9.out.new b off e).2.1; omega)
                        have o10 := Lib.hid (o9.out.on kb10)
                        clear kb10 bb10 hu10 hgb
                        refine hKq.out _ _ s10 fun _ => ?_
                        clear hKq Kq
                        try simp only [Act.put, List.setIfInBounds_toArray, List.set_cons_zero, List.set_cons_succ]
                        refine wpAnyH_ready (rs := [18]) (by kernel_rfl) (by simp) ?_
                        refine AllReadyH.cons rfl (fun Kq hKq => ?_) AllReadyH.nil
                        refine if_then (by rfl) ?_
                        refine wp_store_plane (.tmp 19) (.tmp 113) rfl rfl gb #[.int .i64 (T : Int), .int .i64 (T : Int), .slice A8 n8 c8] rfl (by simp [Value.oneCell']) rfl rfl #[.int .i64 0, .int .i64 0, .slice none 0 0] x10.out.1 rfl fun w9 b9 k9 => ?_
                        have s11 := Lib.hid (s10.out.trans (k9.below s10.out.size (fun i hi e => by have := x10.out.2; omega)))
                        have HO := Lib.hid (And.intro b9 (o10.out.kept k9 ne10.out))
                        refine hKq.out _ _ s11 fun _ => ?_
                        clear hKq Kq b9 k9
                        try simp only [Act.put, List.setIfInBounds_toArray, List.set_cons_zero, List.set_cons_succ]
                        refine take_to (i := 19) (v := .int .i64 0) rfl (by kernel_rfl) (by kernel_rfl) (by kernel_rfl) (fun _ _ _ h => h) (Or.inl ⟨by rfl, fun w' hS => by go_simp⟩) s11 (some 20) rfl ?_
                        try simp only [Act.put, List.setIfInBounds_toArray, List.set_cons_zero, List.set_cons_succ]
                        refine wpAnyH_done (by kernel_rfl) ?_ _
                        go_wp2_with fail
                        go_meet
                        exact ⟨gb, A8, n8, c8, rfl, rfl, HO.out.1, HO.out.2, s11.out⟩
                    · skip
                      go_simp
                      have kb12 : Below v0.heap.size v0 (v0.alloc (.cells #[.int .i64 0, .int .i64 0, .slice none 0 0] 69)) := on_alloc _ _
                      have bb12 : Box (v0.alloc (.cells #[.int .i64 0, .int .i64 0, .slice none 0 0] 69)) v0.heap.size 69 #[.int .i64 0, .int .i64 0, .slice none 0 0] := Box.made _ _ _
                      obtain ⟨gb, hgb⟩ : ∃ gb, gb = v0.heap.size := ⟨_, rfl⟩
                      obtain ⟨u12, hu12⟩ : ∃ x, x = (v0.alloc (.cells #[.int .i64 0, .int .i64 0, .slice none 0 0] 69)) := ⟨_, rfl⟩
                      simp only [← hgb, ← hu12] at bb12 ⊢
                      rw [← hu12] at kb12
                      have x12 := Lib.hid (And.intro bb12 (show w7.heap.size ≤ gb by rw [hgb]; exact s0.out.size))
                      have s12 := Lib.hid (on_trans s0.out kb12)
                      clear kb12 bb12 hu12 hgb
                      refine hKq.out _ _ s12 fun _ => ?_
                      clear hKq Kq
                      try simp only [Act.put, List.setIfInBounds_toArray, List.set_cons_zero, List.set_cons_succ]
                      refine wpAnyH_ready (rs := [13]) (by kernel_rfl) (by simp) ?_
                      refine AllReadyH.cons rfl (fun Kq hKq => ?_) AllReadyH.nil
                      · skip
                        go_simp
                        have hg := HGr.out p t
                        rw [← HAD.out.1, ← HAD.out.2] at hg
                        have hOu := H7.out.2.1.on s12.out
                        have hn6 : n6 ≤ 1000000 := by
                          have h1 := hOu.il.len
                          have h2 := hg.2.1
                          have h3 := hg.2.2
                          omega
                        have hC := refGrow_any u12 ((sideN T false : Nat) : Int) ((sideN T false : Nat) : Int) (T : Int) (T : Int) false false A6 n6 c6 _ hOu.ia hn6
                        rw [hg.1] at hC
                        unfold PTells at hC
                        dsimp only at hC
                        refine Calls.mono hC ?_
                        clear hC hg hn6 hOu
                        rintro e u13 ⟨A8, n8, c8, rfl, hO, k13⟩
                        have s13 := Lib.hid (on_trans s12.out k13)
                        have o13 := Lib.hid (hO.down (show gN + 1 ≤ u12.heap.size from Nat.le_trans HGN.out s12.out.size))
                        have ne13 := Lib.hid (show ∀ b off, A8 = some ⟨b, off, none⟩ → ¬ b = gb from fun b off e => by have := (hO.new b off e).1; have := x12.out.1.lt; omega)
                        have x13 := Lib.hid (And.intro (x12.out.1.on k13) x12.out.2)
                        clear k13 hO
                        refine hKq.out _ _ s13 fun _ => ?_
                        clear hKq Kq
                        try simp only [Act.put, List.setIfInBounds_toArray, List.set_cons_zero, List.set_cons_succ]
                        refine take_to (i := 14) (v := .tuple #[.agg #[.int .i64 (T : Int), .int .i64 (T : Int), .slice A8 n8 c8], .int .i64 0]) rfl (by kernel_rfl) (by kernel_rfl) (by kernel_rfl) (fun _ _ _ h => h) (Or.inl ⟨by rfl, fun w' hS => by go_simp⟩) s13 (some 98) rfl ?_
                        try simp only [Act.put, List.setIfInBounds_toArray, List.set_cons_zero, List.set_cons_succ]
                        refine take_to (i := 15) (v := .agg #[.int .i64 (T : Int), .int .i64 (T : Int), .slice A8 n8 c8]) rfl (by kernel_rfl) (by kernel_rfl) (by kernel_rfl) (fun _ _ _ h => h) (Or.inl ⟨by rfl, fun w' hS => by go_simp⟩) s13 (some 113) rfl ?_
                        try simp only [Act.put, List.setIfInBounds_toArray, List.set_cons_zero, List.set_cons_succ]
                        refine take_to (i := 16) (v := .int .i64 0) rfl (by kernel_rfl) (by kernel_rfl) (by kernel_rfl) (fun _ _ _ h => h) (Or.inl ⟨by rfl, fun w' hS => by go_simp⟩) s13 (some 114) rfl ?_
                        try simp only [Act.put, List.setIfInBounds_toArray, List.set_cons_zero, List.set_cons_succ]
                        refine wpAnyH_ready (rs := [18]) (by kernel_rfl) (by simp) ?_
                        refine AllReadyH.cons rfl (fun Kq hKq => ?_) AllReadyH.nil
                        refine if_then (by rfl) ?_
                        refine wp_store_plane (.tmp 19) (.tmp 113) rfl rfl gb #[.int .i64 (T : Int), .int .i64 (T : Int), .slice A8 n8 c8] rfl (by simp [Value.oneCell']) rfl rfl #[.int .i64 0, .int .i64 0, .slice none 0 0] x13.out.1 rfl fun w9 b9 k9 => ?_
                        have s14 := Lib.hid (s13.out.trans (k9.below s13.out.size (fun i hi e => by have := x13.out.2; omega)))
                        have HO := Lib.hid (And.intro b9 (o13.out.kept k9 ne13.out))
                        refine hKq.out _ _ s14 fun _ => ?_
                        clear hKq Kq b9 k9
                        try simp only [Act.put, List.setIfInBounds_toArray, List.set_cons_zero, List.set_cons_succ]
                        refine take_to (i := 19) (v := .int .i64 0) rfl (by kernel_rfl) (by kernel_rfl) (by kernel_rfl) (fun _ _ _ h => h) (Or.inl ⟨by rfl, fun w' hS => by go_simp⟩) s14 (some 20) rfl ?_
                        try simp only [Act.put, List.setIfInBounds_toArray, List.set_cons_zero, List.set_cons_succ]
                        refine wpAnyH_done (by kernel_rfl) ?_ _
                        go_wp2_with fail
                        go_meet
                        exact ⟨gb, A8, n8, c8, rfl, rfl, HO.out.1, HO.out.2, s14.out⟩
                  · skip
                    go_simp
                    have kb15 : Below v0.heap.size v0 (v0.alloc (.cells #[.int .i64 0, .int .i64 0, .slice none 0 0] 69)) := on_alloc _ _
                    have bb15 : Box (v0.alloc (.cells #[.int .i64 0, .int .i64 0, .slice none 0 0] 69)) v0.heap.size 69 #[.int .i64 0, .int .i64 0, .slice none 0 0] := Box.made _ _ _
                    obtain ⟨gb, hgb⟩ : ∃ gb, gb = v0.heap.size := ⟨_, rfl⟩
                    obtain ⟨u15, hu15⟩ : ∃ x, x = (v0.alloc (.cells #[.int .i64 0, .int .i64 0, .slice none 0 0] 69)) := ⟨_, rfl⟩
                    simp only [← hgb, ← hu15] at bb15 ⊢
                    rw [← hu15] at kb15
                    have x15 := Lib.hid (And.intro bb15 (show w7.heap.size ≤ gb by rw [hgb]; exact s0.out.size))
                    have s15 := Lib.hid (on_trans s0.out kb15)
                    clear kb15 bb15 hu15 hgb
                    refine hKq.out _ _ s15 fun _ => ?_
                    clear hKq Kq
                    try simp only [Act.put, List.setIfInBounds_toArray, List.set_cons_zero, List.set_cons_succ]
                    refine wpAnyH_ready (rs := [8]) (by kernel_rfl) (by simp) ?_
                    refine AllReadyH.cons rfl (fun Kq hKq => ?_) AllReadyH.nil
                    · skip
                      go_simp
                      refine Calls.mono (HDn2.out u15) ?_
                      rintro e u16 ⟨rfl, rfl⟩
                      refine hKq.out _ _ s15 fun _ => ?_
                      clear hKq Kq
                      try simp only [Act.put, List.setIfInBounds_toArray, List.set_cons_zero, List.set_cons_succ]
                      refine wpAnyH_ready (rs := [13]) (by kernel_rfl) (by simp) ?_
                      refine AllReadyH.cons rfl (fun Kq hKq => ?_) AllReadyH.nil
                      · skip
                        go_simp
                        have hg := HGr.out p t
                        rw [← HAD.out.1, ← HAD.out.2] at hg
                        have hOu := H7.out.2.1.on s15.out
                        have hn6 : n6 ≤ 1000000 := by
                          have h1 := hOu.il.len
                          have h2 := hg.2.1
                          have h3 := hg.2.2
                          omega
                        have hC := refGrow_any u15 ((sideN T false : Nat) : Int) ((sideN T false : Nat) : Int) (T : Int) (T : Int) false false A6 n6 c6 _ hOu.ia hn6
                        rw [hg.1] at hC
                        unfold PTells at hC
                        dsimp only at hC
                        refine Calls.mono hC ?_
                        clear hC hg hn6 hOu
                        rintro e u17 ⟨A8, n8, c8, rfl, hO, k17⟩
                        have s17 := Lib.hid (on_trans s15.out k17)
                        have o17 := Lib.hid (hO.down (show gN + 1 ≤ u15.heap.size from Nat.le_trans HGN.out s15.out.size))
                        have ne17 := Lib.hid (show ∀ b off, A8 = some ⟨b, off, none⟩ → ¬ b = gb from fun b off e => by have := (hO.new b off e).1; have := x15.out.1.lt; omega)
                        have x17 := Lib.hid (And.intro (x15.out.1.on k17) x15.out.2)
                        clear k17 hO
                        refine hKq.out _ _ s17 fun _ => ?_
                        clear hKq Kq
                        try simp only [Act.put, List.setIfInBounds_toArray, List.set_cons_zero, List.set_cons_succ]
                        refine take_to (i := 14) (v := .tuple #[.agg #[.int .i64 (T : Int), .int .i64 (T : Int), .slice A8 n8 c8], .int .i64 0]) rfl (by kernel_rfl) (by kernel_rfl) (by kernel_rfl) (fun _ _ _ h => h) (Or.inl ⟨by rfl, fun w' hS => by go_simp⟩) s17 (some 98) rfl ?_
                        try simp only [Act.put, List.setIfInBounds_toArray, List.set_cons_zero, List.set_cons_succ]
                        refine take_to (i := 15) (v := .agg #[.int .i64 (T : Int), .int .i64 (T : Int), .slice A8 n8 c8]) rfl (by kernel_rfl) (by kernel_rfl) (by kernel_rfl) (fun _ _ _ h => h) (Or.inl ⟨by rfl, fun w' hS => by go_simp⟩) s17 (some 113) rfl ?_
                        try simp only [Act.put, List.setIfInBounds_toArray, List.set_cons_zero, List.set_cons_succ]
                        refine take_to (i := 16) (v := .int .i64 0) rfl (by kernel_rfl) (by kernel_rfl) (by kernel_rfl) (fun _ _ _ h => h) (Or.inl ⟨by rfl, fun w' hS => by go_simp⟩) s17 (some 114) rfl ?_
                        try simp only [Act.put, List.setIfInBounds_toArray, List.set_cons_zero, List.set_cons_succ]
                        refine wpAnyH_ready (rs := [18]) (by kernel_rfl) (by simp) ?_
                        refine AllReadyH.cons rfl (fun Kq hKq => ?_) AllReadyH.nil
                        refine if_then (by rfl) ?_
                        refine wp_store_plane (.tmp 19) (.tmp 113) rfl rfl gb #[.int .i64 (T : Int), .int .i64 (T : Int), .slice A8 n8 c8] rfl (by simp [Value.oneCell']) rfl rfl #[.int .i64 0, .int .i64 0, .slice none 0 0] x17.out.1 rfl fun w9 b9 k9 => ?_
                        have s18 := Lib.hid (s17.out.trans (k9.below s17.out.size (fun i hi e => by have := x17.out.2; omega)))
                        have HO := Lib.hid (And.intro b9 (o17.out.kept k9 ne17.out))
                        refine hKq.out _ _ s18 fun _ => ?_
                        clear hKq Kq b9 k9
                        try simp only [Act.put, List.setIfInBounds_toArray, List.set_cons_zero, List.set_cons_succ]
                        refine take_to (i := 19) (v := .int .i64 0) rfl (by kernel_rfl) (by kernel_rfl) (by kernel_rfl) (fun _ _ _ h => h) (Or.inl ⟨by rfl, fun w' hS => by go_simp⟩) s18 (some 20) rfl ?_
                        try simp only [Act.put, List.setIfInBounds_toArray, List.set_cons_zero, List.set_cons_succ]
                        refine wpAnyH_done (by kernel_rfl) ?_ _
                        go_wp2_with fail
                        go_meet
                        exact ⟨gb, A8, n8, c8, rfl, rfl, HO.out.1, HO.out.2, s18.out⟩
                · skip
                  go_simp
                  have kb19 : Below v0.heap.size v0 (v0.alloc (.cells #[.int .i64 0, .int .i64 0, .slice none 0 0] 69)) := on_alloc _ _
                  have bb19 : Box (v0.alloc (.cells #[.int .i64 0, .int .i64 0, .slice none 0 0] 69)) v0.heap.size 69 #[.int .i64 0, .int .i64 0, .slice none 0 0] := Box.made _ _ _
                  obtain ⟨gb, hgb⟩ : ∃ gb, gb = v0.heap.size := ⟨_, rfl⟩
                  obtain ⟨u19, hu19⟩ : ∃ x, x = (v0.alloc (.cells #[.int .i64 0, .int .i64 0, .slice none 0 0] 69)) := ⟨_, rfl⟩
                  simp only [← hgb, ← hu19] at bb19 ⊢
                  rw [← hu19] at kb19
                  have x19 := Lib.hid (And.intro bb19 (show w7.heap.size ≤ gb by rw [hgb]; exact s0.out.size))
                  have s19 := Lib.hid (on_trans s0.out kb19)
                  clear kb19 bb19 hu19 hgb
                  refine hKq.out _ _ s19 fun _ => ?_
                  clear hKq Kq
                  try simp only [Act.put, List.setIfInBounds_toArray, List.set_cons_zero, List.set_cons_succ]
                  refine wpAnyH_ready (rs := [4]) (by kernel_rfl) (by simp) ?_
                  refine AllReadyH.cons rfl (fun Kq hKq => ?_) AllReadyH.nil
                  · skip
                    go_simp
                    refine Calls.mono (HAc2.out u19) ?_
                    rintro e u20 ⟨rfl, rfl⟩
                    refine hKq.out _ _ s19 fun _ => ?_
                    clear hKq Kq
                    try simp only [Act.put, List.setIfInBounds_toArray, List.set_cons_zero, List.set_cons_succ]
                    refine wpAnyH_ready (rs := [8]) (by kernel_rfl) (by simp) ?_
                    refine AllReadyH.cons rfl (fun Kq hKq => ?_) AllReadyH.nil
                    · skip
                      go_simp
                      refine Calls.mono (HDn2.out u19) ?_
                      rintro e u21 ⟨rfl, rfl⟩
                      refine hKq.out _ _ s19 fun _ => ?_
                      clear hKq Kq
                      try simp only [Act.put, List.setIfInBounds_toArray, List.set_cons_zero, List.set_cons_succ]
                      refine wpAnyH_ready (rs := [13]) (by kernel_rfl) (by simp) ?_
                      refine AllReadyH.cons rfl (fun Kq hKq => ?_) AllReadyH.nil
                      · skip
                        go_simp
                        have hg := HGr.out p t
                        rw [← HAD.out.1, ← HAD.out.2] at hg
                        have hOu := H7.out.2.1.on s19.out
                        have hn6 : n6 ≤ 1000000 := by
                          have h1 := hOu.il.len
                          have h2 := hg.2.1
                          have h3 := hg.2.2
                          omega
                        have hC := refGrow_any u19 ((sideN T false : Nat) : Int) ((sideN T false : Nat) : Int) (T : Int) (T : Int) false false A6 n6 c6 _ hOu.ia hn6
                        rw [hg.1] at hC
                        unfold PTells at hC
                        dsimp only at hC
                        refine Calls.mono hC ?_
                        clear hC hg hn6 hOu
                        rintro e u22 ⟨A8, n8, c8, rfl, hO, k22⟩
                        have s22 := Lib.hid (on_trans s19.out k22)
                        have o22 := Lib.hid (hO.down (show gN + 1 ≤ u19.heap.size from Nat.le_trans HGN.out s19.out.size))
                        have ne22 := Lib.hid (show ∀ b off, A8 = some ⟨b, off, none⟩ → ¬ b = gb from fun b off e => by have := (hO.new b off e).1; have := x19.out.1.lt; omega)
                        have x22 := Lib.hid (And.intro (x19.out.1.on k22) x19.out.2)
                        clear k22 hO
                        refine hKq.out _ _ s22 fun _ => ?_
                        clear hKq Kq
                        try simp only [Act.put, List.setIfInBounds_toArray, List.set_cons_zero, List.set_cons_succ]
                        refine take_to (i := 14) (v := .tuple #[.agg #[.int .i64 (T : Int), .int .i64 (T : Int), .slice A8 n8 c8], .int .i64 0]) rfl (by kernel_rfl) (by kernel_rfl) (by kernel_rfl) (fun _ _ _ h => h) (Or.inl ⟨by rfl, fun w' hS => by go_simp⟩) s22 (some 98) rfl ?_
                        try simp only [Act.put, List.setIfInBounds_toArray, List.set_cons_zero, List.set_cons_succ]
                        refine take_to (i := 15) (v := .agg #[.int .i64 (T : Int), .int .i64 (T : Int), .slice A8 n8 c8]) rfl (by kernel_rfl) (by kernel_rfl) (by kernel_rfl) (fun _ _ _ h => h) (Or.inl ⟨by rfl, fun w' hS => by go_simp⟩) s22 (some 113) rfl ?_
                        try simp only [Act.put, List.setIfInBounds_toArray, List.set_cons_zero, List.set_cons_succ]
                        refine take_to (i := 16) (v := .int .i64 0) rfl (by kernel_rfl) (by kernel_rfl) (by kernel_rfl) (fun _ _ _ h => h) (Or.inl ⟨by rfl, fun w' hS => by go_simp⟩) s22 (some 114) rfl ?_
                        try simp only [Act.put, List.setIfInBounds_toArray, List.set_cons_zero, List.set_cons_succ]
                        refine wpAnyH_ready (rs := [18]) (by kernel_rfl) (by simp) ?_
                        refine AllReadyH.cons rfl (fun Kq hKq => ?_) AllReadyH.nil
                        refine if_then (by rfl) ?_
                        refine wp_store_plane (.tmp 19) (.tmp 113) rfl rfl gb #[.int .i64 (T : Int), .int .i64 (T : Int), .slice A8 n8 c8] rfl (by simp [Value.oneCell']) rfl rfl #[.int .i64 0, .int .i64 0, .slice none 0 0] x22.out.1 rfl fun w9 b9 k9 => ?_
                        have s23 := Lib.hid (s22.out.trans (k9.below s22.out.size (fun i hi e => by have := x22.out.2; omega)))
                        have HO := Lib.hid (And.intro b9 (o22.out.kept k9 ne22.out))
                        refine hKq.out _ _ s23 fun _ => ?_
                        clear hKq Kq b9 k9
                        try simp only [Act.put, List.setIfInBounds_toArray, List.set_cons_zero, List.set_cons_succ]
                        refine take_to (i := 19) (v := .int .i64 0) rfl (by kernel_rfl) (by kernel_rfl) (by kernel_rfl) (fun _ _ _ h => h) (Or.inl ⟨by rfl, fun w' hS => by go_simp⟩) s23 (some 20) rfl ?_
                        try simp only [Act.put, List.setIfInBounds_toArray, List.set_cons_zero, List.set_cons_succ]
                        refine wpAnyH_done (by kernel_rfl) ?_ _
                        go_wp2_with fail
                        go_meet
                        exact ⟨gb, A8, n8, c8, rfl, rfl, HO.out.1, HO.out.2, s23.out⟩
              case rest =>
              obtain ⟨g19, A8, n8, c8, rfl, rfl, hbx, hO, hbw⟩ := hcut
              obtain rfl : n8 = N := by rw [← hO.il.len]; exact HPL.out p t
              have q5 := hbx.cell 2
              simp at q5
              have hTw := HR.out.2.on (on_trans H7.out.2.2.2 hbw)
              have hRw := H7.out.2.2.1.on hbw
              have cN : ∃ z, wc.cell? ⟨gN, p, none⟩ = some z := by
                rw [hTw.box.cell p]
                rcases (show p = 0 ∨ p = 1 ∨ p = 2 by omega) with h | h | h <;> subst h <;> exact ⟨_, rfl⟩
              obtain ⟨z, cN⟩ := cN
              have fN := hTw.box.free p
              have hK : Kept (fun i => i = gN) wc (wc.setCell ⟨gN, p, none⟩ (.slice A8 n8 c8)) := (Kept.refl (fun i => i = gN) wc).setCell (p := ⟨gN, p, none⟩) (fun _ => rfl) _
              rw [← HtD.out.2] at hO
              have HN9 := Lib.hid (And.intro (hRw.kept hK) (hTw.put (pl := (fun q => planeQ K T Q q (tl.getD q []))) hp3 hO))
              clear hbx hO hbw hTw hRw hK
              go_wp2_with fail
              go_roundw
              case rel => exact ⟨p + 1, _, by omega, by go_num, HN9.out.1, HN9.out.2⟩
              case measure => simp [intOf]; omega
            · exfalso
              have h1 := HAD.out.1
              have h2 := HAD.out.2
              unfold aH at h1
              unfold dH at h2
              have h3 := of_decide_eq_true h2.symm
              have h4 := of_decide_eq_false h1.symm
              omega
          · go_wp2_with fail
            refine HDn1.out.mono ?_
            rintro e wx ⟨rfl, rfl⟩
            cases d
            · go_wp2_with fail
              have hJ := refJoin_any wr ((T : Int) / 2) (T : Int) A9 k c9 (shownL Q p t) HBs.out
              have hj := HRw.out.2.1
              rw [← HAD.out.1, ← HAD.out.2] at hj
              rw [show joinF (shownL Q p t) ((T : Int) / 2) (T : Int) = (((sideN T true : Nat) : Int), ((sideN T false : Nat) : Int), joinL (shownL Q p t) (sideN T true) (sideN T false), 0) by rw [HQ2.out]; exact hj] at hJ
              unfold PTells at hJ
              dsimp only at hJ
              have HJ1 := Lib.hid hJ
              clear hJ hj
              refine HJ1.out.mono ?_
              rintro e w6 ⟨A6, n6, c6, rfl, hO, k6⟩
              have H6 := Lib.hid (And.intro hO (And.intro (HX.out.2.2.on k6) (on_trans HX.out.2.1 k6)))
              clear hO k6 q2 q3
              dsimp only
              go_wp2_with (first
                | ((with_reducible refine wpList_store_plane (o := ⟨none, _, _, _, _, _⟩) rfl (.tmp 17) (.tmp 96) rfl rfl w6.heap.size #[.int .i64 ((sideN T true : Nat) : Int), .int .i64 ((sideN T false : Nat) : Int), .slice A6 n6 c6] rfl ?ho rfl rfl _ (Box.made _ _ _) rfl ?_)
                   case ho => simp [Value.oneCell']
                   intro w7 b7 k7
                   have K7 := laid_below k7
                   have H7 := Lib.hid (And.intro b7 (And.intro (H6.out.1.on K7) (And.intro (H6.out.2.1.on K7) (on_trans H6.out.2.2 K7))))
                   clear b7 k7 K7)
                | fail)
              go_upto_region 22 with fail
              go_cut [19, 20] (fun q e wy => ∃ g A8 n8 c8, q = .pointer (some ⟨g, 0, none⟩) ∧ e = .int .i64 0 ∧ Box wy g 69 #[.int .i64 (T : Int), .int .i64 (T : Int), .slice A8 n8 c8] ∧ Os wy (gN + 1) A8 n8 c8 (planeQ K T Q p t) ∧ Below w7.heap.size w7 wy)
              case first =>
                have HAc2 := Lib.hid (fun w1 => HAc.out w1 p hp3)
                have HDn2 := Lib.hid (fun w1 => HDn.out w1 p hp3)
                rw [← HAD.out.1] at HAc2
                rw [← HAD.out.2] at HDn2
                refine wp_region_held_drew (S := fun w' => Hid (Below w7.heap.size w7 w')) (by kernel_rfl) (Lib.hid (on_drew w7)) fun s0 => ?_
                refine take_to (i := 0) rfl (by kernel_rfl) (by kernel_rfl) (by kernel_rfl) (fun _ _ _ h => h) (yieldsIf_load (by rfl) 69 _ rfl (.pointer (some ⟨w6.heap.size, 0, none⟩)) (by simp [Act.eval]) (.agg #[.int .i64 ((sideN T true : Nat) : Int), .int .i64 ((sideN T false : Nat) : Int), .slice A6 n6 c6]) (fun w' h => load_plane (H7.out.1.on h.out) rfl)) s0 (some 99) rfl ?_
                try simp only [Act.put, List.setIfInBounds_toArray, List.set_cons_zero, List.set_cons_succ]
                refine take_to (i := 1) (v := .pointer (some ⟨g1, 3, none⟩)) rfl (by kernel_rfl) (by kernel_rfl) (by kernel_rfl) (fun _ _ _ h => h) (Or.inl ⟨by rfl, fun w' hS => by go_simp⟩) s0 (some 100) rfl ?_
                try simp only [Act.put, List.setIfInBounds_toArray, List.set_cons_zero, List.set_cons_succ]
                refine take_to (i := 2) (v := .int .i64 K) rfl (by kernel_rfl) (by kernel_rfl) (by kernel_rfl) (fun _ _ _ h => h) (Or.inl ⟨by rfl, fun w' hS => by have hc := (H7.out.2.2.1.on hS.out).geo.cell 3; simp at hc; go_simp⟩) s0 (some 101) rfl ?_
                try simp only [Act.put, List.setIfInBounds_toArray, List.set_cons_zero, List.set_cons_succ]
                refine take_to (i := 3) (v := .int .i64 (p : Int)) rfl (by kernel_rfl) (by kernel_rfl) (by kernel_rfl) (fun _ _ _ h => h) (Or.inl ⟨by rfl, fun w' hS => by go_simp⟩) s0 (some 102) rfl ?_
                try simp only [Act.put, List.setIfInBounds_toArray, List.set_cons_zero, List.set_cons_succ]
                refine take_to (i := 5) (v := .pointer (some ⟨g1, 3, none⟩)) rfl (by kernel_rfl) (by kernel_rfl) (by kernel_rfl) (fun _ _ _ h => h) (Or.inl ⟨by rfl, fun w' hS => by go_simp⟩) s0 (some 104) rfl ?_
                try simp only [Act.put, List.setIfInBounds_toArray, List.set_cons_zero, List.set_cons_succ]
                refine take_to (i := 6) (v := .int .i64 K) rfl (by kernel_rfl) (by kernel_rfl) (by kernel_rfl) (fun _ _ _ h => h) (Or.inl ⟨by rfl, fun w' hS => by have hc := (H7.out.2.2.1.on hS.out).geo.cell 3; simp at hc; go_simp⟩) s0 (some 105) rfl ?_
                try simp only [Act.put, List.setIfInBounds_toArray, List.set_cons_zero, List.set_cons_succ]
                refine take_to (i := 7) (v := .int .i64 (p : Int)) rfl (by kernel_rfl) (by kernel_rfl) (by kernel_rfl) (fun _ _ _ h => h) (Or.inl ⟨by rfl, fun w' hS => by go_simp⟩) s0 (some 106) rfl ?_
                try simp only [Act.put, List.setIfInBounds_toArray, List.set_cons_zero, List.set_cons_succ]
                refine take_to (i := 9) (v := .pointer (some ⟨g1, 2, none⟩)) rfl (by kernel_rfl) (by kernel_rfl) (by kernel_rfl) (fun _ _ _ h => h) (Or.inl ⟨by rfl, fun w' hS => by go_simp⟩) s0 (some 108) rfl ?_
                try simp only [Act.put, List.setIfInBounds_toArray, List.set_cons_zero, List.set_cons_succ]
                refine take_to (i := 10) (v := .int .i64 (T : Int)) rfl (by kernel_rfl) (by kernel_rfl) (by kernel_rfl) (fun _ _ _ h => h) (Or.inl ⟨by rfl, fun w' hS => by have hc := (H7.out.2.2.1.on hS.out).geo.cell 2; simp at hc; go_simp⟩) s0 (some 109) rfl ?_
                try simp only [Act.put, List.setIfInBounds_toArray, List.set_cons_zero, List.set_cons_succ]
                refine take_to (i := 11) (v := .pointer (some ⟨g1, 2, none⟩)) rfl (by kernel_rfl) (by kernel_rfl) (by kernel_rfl) (fun _ _ _ h => h) (Or.inl ⟨by rfl, fun w' hS => by go_simp⟩) s0 (some 110) rfl ?_
                try simp only [Act.put, List.setIfInBounds_toArray, List.set_cons_zero, List.set_cons_succ]
                refine take_to (i := 12) (v := .int .i64 (T : Int)) rfl (by kernel_rfl) (by kernel_rfl) (by kernel_rfl) (fun _ _ _ h => h) (Or.inl ⟨by rfl, fun w' hS => by have hc := (H7.out.2.2.1.on hS.out).geo.cell 2; simp at hc; go_simp⟩) s0 (some 111) rfl ?_
                try simp only [Act.put, List.setIfInBounds_toArray, List.set_cons_zero, List.set_cons_succ]
                generalize w7.drew = v0 at s0 ⊢
                have HGN := Lib.hid (show gN + 1 ≤ w7.heap.size from Nat.le_trans HR.out.2.box.lt H7.out.2.2.2.size)
                refine wpAnyH_ready (rs := [4, 17]) (by kernel_rfl) (by simp) ?_
                refine AllReadyH.cons rfl (fun Kq hKq => ?_) (AllReadyH.cons rfl (fun Kq hKq => ?_) AllReadyH.nil)
                · skip
                  go_simp
                  refine Calls.mono (HAc2.out v0) ?_
                  rintro e u24 ⟨rfl, rfl⟩
                  refine hKq.out _ _ s0 fun _ => ?_
                  clear hKq Kq
                  try simp only [Act.put, List.setIfInBounds_toArray, List.set_cons_zero, List.set_cons_succ]
                  refine wpAnyH_ready (rs := [8, 17]) (by kernel_rfl) (by simp) ?_
                  refine AllReadyH.cons rfl (fun Kq hKq => ?_) (AllReadyH.cons rfl (fun Kq hKq => ?_) AllReadyH.nil)
                  · skip
                    go_simp
                    refine Calls.mono (HDn2.out v0) ?_
                    rintro e u25 ⟨rfl, rfl⟩
                    refine hKq.out _ _ s0 fun _ => ?_
                    clear hKq Kq
                    try simp only [Act.put, List.setIfInBounds_toArray, List.set_cons_zero, List.set_cons_succ]
                    refine wpAnyH_ready (rs := [13, 17]) (by kernel_rfl) (by simp) ?_
                    refine AllReadyH.cons rfl (fun Kq hKq => ?_) (AllReadyH.cons rfl (fun Kq hKq => ?_) AllReadyH.nil)
                    · skip
                      go_simp
                      have hg := HGr.out p t
                      rw [← HAD.out.1, ← HAD.out.2] at hg
                      have hOu := H7.out.2.1.on s0.out
                      have hn6 : n6 ≤ 1000000 := by
                        have h1 := hOu.il.len
                        have h2 := hg.2.1
                        have h3 := hg.2.2
                        omega
                      have hC := refGrow_any v0 ((sideN T true : Nat) : Int) ((sideN T false : Nat) : Int) (T : Int) (T : Int) true false A6 n6 c6 _ hOu.ia hn6
                      rw [hg.1] at hC
                      unfold PTells at hC
                      dsimp only at hC
                      refine Calls.mono hC ?_
                      clear hC hg hn6 hOu
                      rintro e u26 ⟨A8, n8, c8, rfl, hO, k26⟩
                      have s26 := Lib.hid (on_trans s0.out k26)
                      have o26 := Lib.hid (hO.down (show gN + 1 ≤ v0.heap.size from Nat.le_trans HGN.out s0.out.size))
                      clear k26 hO
                      refine hKq.out _ _ s26 fun _ => ?_
                      clear hKq Kq
                      try simp only [Act.put, List.setIfInBounds_toArray, List.set_cons_zero, List.set_cons_succ]
                      refine take_to (i := 14) (v := .tuple #[.agg #[.int .i64 (T : Int), .int .i64 (T : Int), .slice A8 n8 c8], .int .i64 0]) rfl (by kernel_rfl) (by kernel_rfl) (by kernel_rfl) (fun _ _ _ h => h) (Or.inl ⟨by rfl, fun w' hS => by go_simp⟩) s26 (some 98) rfl ?_
                      try simp only [Act.put, List.setIfInBounds_toArray, List.set_cons_zero, List.set_cons_succ]
                      refine take_to (i := 15) (v := .agg #[.int .i64 (T : Int), .int .i64 (T : Int), .slice A8 n8 c8]) rfl (by kernel_rfl) (by kernel_rfl) (by kernel_rfl) (fun _ _ _ h => h) (Or.inl ⟨by rfl, fun w' hS => by go_simp⟩) s26 (some 113) rfl ?_
                      try simp only [Act.put, List.setIfInBounds_toArray, List.set_cons_zero, List.set_cons_succ]
                      refine take_to (i := 16) (v := .int .i64 0) rfl (by kernel_rfl) (by kernel_rfl) (by kernel_rfl) (fun _ _ _ h => h) (Or.inl ⟨by rfl, fun w' hS => by go_simp⟩) s26 (some 114) rfl ?_
                      try simp only [Act.put, List.setIfInBounds_toArray, List.set_cons_zero, List.set_cons_succ]
                      refine wpAnyH_ready (rs := [17]) (by kernel_rfl) (by simp) ?_
                      refine AllReadyH.cons rfl (fun Kq hKq => ?_) AllReadyH.nil
                      · skip
                        go_simp
                        have kb27 : Below u26.heap.size u26 (u26.alloc (.cells #[.int .i64 0, .int .i64 0, .slice none 0 0] 69)) := on_alloc _ _
                        have bb27 : Box (u26.alloc (.cells #[.int .i64 0, .int .i64 0, .slice none 0 0] 69)) u26.heap.size 69 #[.int .i64 0, .int .i64 0, .slice none 0 0] := Box.made _ _ _
                        obtain ⟨gb, hgb⟩ : ∃ gb, gb = u26.heap.size := ⟨_, rfl⟩
                        obtain ⟨u27, hu27⟩ : ∃ x, x = (u26.alloc (.cells #[.int .i64 0, .int .i64 0, .slice none 0 0] 69)) := ⟨_, rfl⟩
                        simp only [← hgb, ← hu27] at bb27 ⊢
                        rw [← hu27] at kb27
                        have x27 := Lib.hid (And.intro bb27 (show w7.heap.size ≤ gb by rw [hgb]; exact s26.out.size))
                        have s27 := Lib.hid (on_trans s26.out kb27)
                        have ne27 := Lib.hid (show ∀ b off, A8 = some ⟨b, off, none⟩ → ¬ b = gb from fun b off e => by have := (o26.out.new b off e).2.1; omega)
                        have o27 := Lib.hid (o26.out.on kb27)
                        clear kb27 bb27 hu27 hgb
                        refine hKq.out _ _ s27 fun _ => ?_
                        clear hKq Kq
                        try simp only [Act.put, List.setIfInBounds_toArray, List.set_cons_zero, List.set_cons_succ]
                        refine wpAnyH_ready (rs := [18]) (by kernel_rfl) (by simp) ?_
                        refine AllReadyH.cons rfl (fun Kq hKq => ?_) AllReadyH.nil
                        refine if_then (by rfl) ?_
                        refine wp_store_plane (.tmp 19) (.tmp 113) rfl rfl gb #[.int .i64 (T : Int), .int .i64 (T : Int), .slice A8 n8 c8] rfl (by simp [Value.oneCell']) rfl rfl #[.int .i64 0, .int .i64 0, .slice none 0 0] x27.out.1 rfl fun w9 b9 k9 => ?_
                        have s28 := Lib.hid (s27.out.trans (k9.below s27.out.size (fun i hi e => by have := x27.out.2; omega)))
                        have HO := Lib.hid (And.intro b9 (o27.out.kept k9 ne27.out))
                        refine hKq.out _ _ s28 fun _ => ?_
                        clear hKq Kq b9 k9
                        try simp only [Act.put, List.setIfInBounds_toArray, List.set_cons_zero, List.set_cons_succ]
                        refine take_to (i := 19) (v := .int .i64 0) rfl (by kernel_rfl) (by kernel_rfl) (by kernel_rfl) (fun _ _ _ h => h) (Or.inl ⟨by rfl, fun w' hS => by go_simp⟩) s28 (some 20) rfl ?_
                        try simp only [Act.put, List.setIfInBounds_toArray, List.set_cons_zero, List.set_cons_succ]
                        refine wpAnyH_done (by kernel_rfl) ?_ _
                        go_wp2_with fail
                        go_meet
                        exact ⟨gb, A8, n8, c8, rfl, rfl, HO.out.1, HO.out.2, s28.out⟩
                    · skip
                      go_simp
                      have kb29 : Below v0.heap.size v0 (v0.alloc (.cells #[.int .i64 0, .int .i64 0, .slice none 0 0] 69)) := on_alloc _ _
                      have bb29 : Box (v0.alloc (.cells #[.int .i64 0, .int .i64 0, .slice none 0 0] 69)) v0.heap.size 69 #[.int .i64 0, .int .i64 0, .slice none 0 0] := Box.made _ _ _
                      obtain ⟨gb, hgb⟩ : ∃ gb, gb = v0.heap.size := ⟨_, rfl⟩
                      obtain ⟨u29, hu29⟩ : ∃ x, x = (v0.alloc (.cells #[.int .i64 0, .int .i64 0, .slice none 0 0] 69)) := ⟨_, rfl⟩
                      simp only [← hgb, ← hu29] at bb29 ⊢
                      rw [← hu29] at kb29
                      have x29 := Lib.hid (And.intro bb29 (show w7.heap.size ≤ gb by rw [hgb]; exact s0.out.size))
                      have s29 := Lib.hid (on_trans s0.out kb29)
                      clear kb29 bb29 hu29 hgb
                      refine hKq.out _ _ s29 fun _ => ?_
                      clear hKq Kq
                      try simp only [Act.put, List.setIfInBounds_toArray, List.set_cons_zero, List.set_cons_succ]
                      refine wpAnyH_ready (rs := [13]) (by kernel_rfl) (by simp) ?_
                      refine AllReadyH.cons rfl (fun Kq hKq => ?_) AllReadyH.nil
                      · skip
                        go_simp
                        have hg := HGr.out p t
                        rw [← HAD.out.1, ← HAD.out.2] at hg
                        have hOu := H7.out.2.1.on s29.out
                        have hn6 : n6 ≤ 1000000 := by
                          have h1 := hOu.il.len
                          have h2 := hg.2.1
                          have h3 := hg.2.2
                          omega
                        have hC := refGrow_any u29 ((sideN T true : Nat) : Int) ((sideN T false : Nat) : Int) (T : Int) (T : Int) true false A6 n6 c6 _ hOu.ia hn6
                        rw [hg.1] at hC
                        unfold PTells at hC
                        dsimp only at hC
                        refine Calls.mono hC ?_
                        clear hC hg hn6 hOu
                        rintro e u30 ⟨A8, n8, c8, rfl, hO, k30⟩
                        have s30 := Lib.hid (on_trans s29.out k30)
                        have o30 := Lib.hid (hO.down (show gN + 1 ≤ u29.heap.size from Nat.le_trans HGN.out s29.out.size))
                        have ne30 := Lib.hid (show ∀ b off, A8 = some ⟨b, off, none⟩ → ¬ b = gb from fun b off e => by have := (hO.new b off e).1; have := x29.out.1.lt; omega)
                        have x30 := Lib.hid (And.intro (x29.out.1.on k30) x29.out.2)
                        clear k30 hO
                        refine hKq.out _ _ s30 fun _ => ?_
                        clear hKq Kq
                        try simp only [Act.put, List.setIfInBounds_toArray, List.set_cons_zero, List.set_cons_succ]
                        refine take_to (i := 14) (v := .tuple #[.agg #[.int .i64 (T : Int), .int .i64 (T : Int), .slice A8 n8 c8], .int .i64 0]) rfl (by kernel_rfl) (by kernel_rfl) (by kernel_rfl) (fun _ _ _ h => h) (Or.inl ⟨by rfl, fun w' hS => by go_simp⟩) s30 (some 98) rfl ?_
                        try simp only [Act.put, List.setIfInBounds_toArray, List.set_cons_zero, List.set_cons_succ]
                        refine take_to (i := 15) (v := .agg #[.int .i64 (T : Int), .int .i64 (T : Int), .slice A8 n8 c8]) rfl (by kernel_rfl) (by kernel_rfl) (by kernel_rfl) (fun _ _ _ h => h) (Or.inl ⟨by rfl, fun w' hS => by go_simp⟩) s30 (some 113) rfl ?_
                        try simp only [Act.put, List.setIfInBounds_toArray, List.set_cons_zero, List.set_cons_succ]
                        refine take_to (i := 16) (v := .int .i64 0) rfl (by kernel_rfl) (by kernel_rfl) (by kernel_rfl) (fun _ _ _ h => h) (Or.inl ⟨by rfl, fun w' hS => by go_simp⟩) s30 (some 114) rfl ?_
                        try simp only [Act.put, List.setIfInBounds_toArray, List.set_cons_zero, List.set_cons_succ]
                        refine wpAnyH_ready (rs := [18]) (by kernel_rfl) (by simp) ?_
                        refine AllReadyH.cons rfl (fun Kq hKq => ?_) AllReadyH.nil
                        refine if_then (by rfl) ?_
                        refine wp_store_plane (.tmp 19) (.tmp 113) rfl rfl gb #[.int .i64 (T : Int), .int .i64 (T : Int), .slice A8 n8 c8] rfl (by simp [Value.oneCell']) rfl rfl #[.int .i64 0, .int .i64 0, .slice none 0 0] x30.out.1 rfl fun w9 b9 k9 => ?_
                        have s31 := Lib.hid (s30.out.trans (k9.below s30.out.size (fun i hi e => by have := x30.out.2; omega)))
                        have HO := Lib.hid (And.intro b9 (o30.out.kept k9 ne30.out))
                        refine hKq.out _ _ s31 fun _ => ?_
                        clear hKq Kq b9 k9
                        try simp only [Act.put, List.setIfInBounds_toArray, List.set_cons_zero, List.set_cons_succ]
                        refine take_to (i := 19) (v := .int .i64 0) rfl (by kernel_rfl) (by kernel_rfl) (by kernel_rfl) (fun _ _ _ h => h) (Or.inl ⟨by rfl, fun w' hS => by go_simp⟩) s31 (some 20) rfl ?_
                        try simp only [Act.put, List.setIfInBounds_toArray, List.set_cons_zero, List.set_cons_succ]
                        refine wpAnyH_done (by kernel_rfl) ?_ _
                        go_wp2_with fail
                        go_meet
                        exact ⟨gb, A8, n8, c8, rfl, rfl, HO.out.1, HO.out.2, s31.out⟩
                  · skip
                    go_simp
                    have kb32 : Below v0.heap.size v0 (v0.alloc (.cells #[.int .i64 0, .int .i64 0, .slice none 0 0] 69)) := on_alloc _ _
                    have bb32 : Box (v0.alloc (.cells #[.int .i64 0, .int .i64 0, .slice none 0 0] 69)) v0.heap.size 69 #[.int .i64 0, .int .i64 0, .slice none 0 0] := Box.made _ _ _
                    obtain ⟨gb, hgb⟩ : ∃ gb, gb = v0.heap.size := ⟨_, rfl⟩
                    obtain ⟨u32, hu32⟩ : ∃ x, x = (v0.alloc (.cells #[.int .i64 0, .int .i64 0, .slice none 0 0] 69)) := ⟨_, rfl⟩
                    simp only [← hgb, ← hu32] at bb32 ⊢
                    rw [← hu32] at kb32
                    have x32 := Lib.hid (And.intro bb32 (show w7.heap.size ≤ gb by rw [hgb]; exact s0.out.size))
                    have s32 := Lib.hid (on_trans s0.out kb32)
                    clear kb32 bb32 hu32 hgb
                    refine hKq.out _ _ s32 fun _ => ?_
                    clear hKq Kq
                    try simp only [Act.put, List.setIfInBounds_toArray, List.set_cons_zero, List.set_cons_succ]
                    refine wpAnyH_ready (rs := [8]) (by kernel_rfl) (by simp) ?_
                    refine AllReadyH.cons rfl (fun Kq hKq => ?_) AllReadyH.nil
                    · skip
                      go_simp
                      refine Calls.mono (HDn2.out u32) ?_
                      rintro e u33 ⟨rfl, rfl⟩
                      refine hKq.out _ _ s32 fun _ => ?_
                      clear hKq Kq
                      try simp only [Act.put, List.setIfInBounds_toArray, List.set_cons_zero, List.set_cons_succ]
                      refine wpAnyH_ready (rs := [13]) (by kernel_rfl) (by simp) ?_
                      refine AllReadyH.cons rfl (fun Kq hKq => ?_) AllReadyH.nil
                      · skip
                        go_simp
                        have hg := HGr.out p t
                        rw [← HAD.out.1, ← HAD.out.2] at hg
                        have hOu := H7.out.2.1.on s32.out
                        have hn6 : n6 ≤ 1000000 := by
                          have h1 := hOu.il.len
                          have h2 := hg.2.1
                          have h3 := hg.2.2
                          omega
                        have hC := refGrow_any u32 ((sideN T true : Nat) : Int) ((sideN T false : Nat) : Int) (T : Int) (T : Int) true false A6 n6 c6 _ hOu.ia hn6
                        rw [hg.1] at hC
                        unfold PTells at hC
                        dsimp only at hC
                        refine Calls.mono hC ?_
                        clear hC hg hn6 hOu
                        rintro e u34 ⟨A8, n8, c8, rfl, hO, k34⟩
                        have s34 := Lib.hid (on_trans s32.out k34)
                        have o34 := Lib.hid (hO.down (show gN + 1 ≤ u32.heap.size from Nat.le_trans HGN.out s32.out.size))
                        have ne34 := Lib.hid (show ∀ b off, A8 = some ⟨b, off, none⟩ → ¬ b = gb from fun b off e => by have := (hO.new b off e).1; have := x32.out.1.lt; omega)
                        have x34 := Lib.hid (And.intro (x32.out.1.on k34) x32.out.2)
                        clear k34 hO
                        refine hKq.out _ _ s34 fun _ => ?_
                        clear hKq Kq
                        try simp only [Act.put, List.setIfInBounds_toArray, List.set_cons_zero, List.set_cons_succ]
                        refine take_to (i := 14) (v := .tuple #[.agg #[.int .i64 (T : Int), .int .i64 (T : Int), .slice A8 n8 c8], .int .i64 0]) rfl (by kernel_rfl) (by kernel_rfl) (by kernel_rfl) (fun _ _ _ h => h) (Or.inl ⟨by rfl, fun w' hS => by go_simp⟩) s34 (some 98) rfl ?_
                        try simp only [Act.put, List.setIfInBounds_toArray, List.set_cons_zero, List.set_cons_succ]
                        refine take_to (i := 15) (v := .agg #[.int .i64 (T : Int), .int .i64 (T : Int), .slice A8 n8 c8]) rfl (by kernel_rfl) (by kernel_rfl) (by kernel_rfl) (fun _ _ _ h => h) (Or.inl ⟨by rfl, fun w' hS => by go_simp⟩) s34 (some 113) rfl ?_
                        try simp only [Act.put, List.setIfInBounds_toArray, List.set_cons_zero, List.set_cons_succ]
                        refine take_to (i := 16) (v := .int .i64 0) rfl (by kernel_rfl) (by kernel_rfl) (by kernel_rfl) (fun _ _ _ h => h) (Or.inl ⟨by rfl, fun w' hS => by go_simp⟩) s34 (some 114) rfl ?_
                        try simp only [Act.put, List.setIfInBounds_toArray, List.set_cons_zero, List.set_cons_succ]
                        refine wpAnyH_ready (rs := [18]) (by kernel_rfl) (by simp) ?_
                        refine AllReadyH.cons rfl (fun Kq hKq => ?_) AllReadyH.nil
                        refine if_then (by rfl) ?_
                        refine wp_store_plane (.tmp 19) (.tmp 113) rfl rfl gb #[.int .i64 (T : Int), .int .i64 (T : Int), .slice A8 n8 c8] rfl (by simp [Value.oneCell']) rfl rfl #[.int .i64 0, .int .i64 0, .slice none 0 0] x34.out.1 rfl fun w9 b9 k9 => ?_
                        have s35 := Lib.hid (s34.out.trans (k9.below s34.out.size (fun i hi e => by have := x34.out.2; omega)))
                        have HO := Lib.hid (And.intro b9 (o34.out.kept k9 ne34.out))
                        refine hKq.out _ _ s35 fun _ => ?_
                        clear hKq Kq b9 k9
                        try simp only [Act.put, List.setIfInBounds_toArray, List.set_cons_zero, List.set_cons_succ]
                        refine take_to (i := 19) (v := .int .i64 0) rfl (by kernel_rfl) (by kernel_rfl) (by kernel_rfl) (fun _ _ _ h => h) (Or.inl ⟨by rfl, fun w' hS => by go_simp⟩) s35 (some 20) rfl ?_
                        try simp only [Act.put, List.setIfInBounds_toArray, List.set_cons_zero, List.set_cons_succ]
                        refine wpAnyH_done (by kernel_rfl) ?_ _
                        go_wp2_with fail
                        go_meet
                        exact ⟨gb, A8, n8, c8, rfl, rfl, HO.out.1, HO.out.2, s35.out⟩
                · skip
                  go_simp
                  have kb36 : Below v0.heap.size v0 (v0.alloc (.cells #[.int .i64 0, .int .i64 0, .slice none 0 0] 69)) := on_alloc _ _
                  have bb36 : Box (v0.alloc (.cells #[.int .i64 0, .int .i64 0, .slice none 0 0] 69)) v0.heap.size 69 #[.int .i64 0, .int .i64 0, .slice none 0 0] := Box.made _ _ _
                  obtain ⟨gb, hgb⟩ : ∃ gb, gb = v0.heap.size := ⟨_, rfl⟩
                  obtain ⟨u36, hu36⟩ : ∃ x, x = (v0.alloc (.cells #[.int .i64 0, .int .i64 0, .slice none 0 0] 69)) := ⟨_, rfl⟩
                  simp only [← hgb, ← hu36] at bb36 ⊢
                  rw [← hu36] at kb36
                  have x36 := Lib.hid (And.intro bb36 (show w7.heap.size ≤ gb by rw [hgb]; exact s0.out.size))
                  have s36 := Lib.hid (on_trans s0.out kb36)
                  clear kb36 bb36 hu36 hgb
                  refine hKq.out _ _ s36 fun _ => ?_
                  clear hKq Kq
                  try simp only [Act.put, List.setIfInBounds_toArray, List.set_cons_zero, List.set_cons_succ]
                  refine wpAnyH_ready (rs := [4]) (by kernel_rfl) (by simp) ?_
                  refine AllReadyH.cons rfl (fun Kq hKq => ?_) AllReadyH.nil
                  · skip
                    go_simp
                    refine Calls.mono (HAc2.out u36) ?_
                    rintro e u37 ⟨rfl, rfl⟩
                    refine hKq.out _ _ s36 fun _ => ?_
                    clear hKq Kq
                    try simp only [Act.put, List.setIfInBounds_toArray, List.set_cons_zero, List.set_cons_succ]
                    refine wpAnyH_ready (rs := [8]) (by kernel_rfl) (by simp) ?_
                    refine AllReadyH.cons rfl (fun Kq hKq => ?_) AllReadyH.nil
                    · skip
                      go_simp
                      refine Calls.mono (HDn2.out u36) ?_
                      rintro e u38 ⟨rfl, rfl⟩
                      refine hKq.out _ _ s36 fun _ => ?_
                      clear hKq Kq
                      try simp only [Act.put, List.setIfInBounds_toArray, List.set_cons_zero, List.set_cons_succ]
                      refine wpAnyH_ready (rs := [13]) (by kernel_rfl) (by simp) ?_
                      refine AllReadyH.cons rfl (fun Kq hKq => ?_) AllReadyH.nil
                      · skip
                        go_simp
                        have hg := HGr.out p t
                        rw [← HAD.out.1, ← HAD.out.2] at hg
                        have hOu := H7.out.2.1.on s36.out
                        have hn6 : n6 ≤ 1000000 := by
                          have h1 := hOu.il.len
                          have h2 := hg.2.1
                          have h3 := hg.2.2
                          omega
                        have hC := refGrow_any u36 ((sideN T true : Nat) : Int) ((sideN T false : Nat) : Int) (T : Int) (T : Int) true false A6 n6 c6 _ hOu.ia hn6
                        rw [hg.1] at hC
                        unfold PTells at hC
                        dsimp only at hC
                        refine Calls.mono hC ?_
                        clear hC hg hn6 hOu
                        rintro e u39 ⟨A8, n8, c8, rfl, hO, k39⟩
                        have s39 := Lib.hid (on_trans s36.out k39)
                        have o39 := Lib.hid (hO.down (show gN + 1 ≤ u36.heap.size from Nat.le_trans HGN.out s36.out.size))
                        have ne39 := Lib.hid (show ∀ b off, A8 = some ⟨b, off, none⟩ → ¬ b = gb from fun b off e => by have := (hO.new b off e).1; have := x36.out.1.lt; omega)
                        have x39 := Lib.hid (And.intro (x36.out.1.on k39) x36.out.2)
                        clear k39 hO
                        refine hKq.out _ _ s39 fun _ => ?_
                        clear hKq Kq
                        try simp only [Act.put, List.setIfInBounds_toArray, List.set_cons_zero, List.set_cons_succ]
                        refine take_to (i := 14) (v := .tuple #[.agg #[.int .i64 (T : Int), .int .i64 (T : Int), .slice A8 n8 c8], .int .i64 0]) rfl (by kernel_rfl) (by kernel_rfl) (by kernel_rfl) (fun _ _ _ h => h) (Or.inl ⟨by rfl, fun w' hS => by go_simp⟩) s39 (some 98) rfl ?_
                        try simp only [Act.put, List.setIfInBounds_toArray, List.set_cons_zero, List.set_cons_succ]
                        refine take_to (i := 15) (v := .agg #[.int .i64 (T : Int), .int .i64 (T : Int), .slice A8 n8 c8]) rfl (by kernel_rfl) (by kernel_rfl) (by kernel_rfl) (fun _ _ _ h => h) (Or.inl ⟨by rfl, fun w' hS => by go_simp⟩) s39 (some 113) rfl ?_
                        try simp only [Act.put, List.setIfInBounds_toArray, List.set_cons_zero, List.set_cons_succ]
                        refine take_to (i := 16) (v := .int .i64 0) rfl (by kernel_rfl) (by kernel_rfl) (by kernel_rfl) (fun _ _ _ h => h) (Or.inl ⟨by rfl, fun w' hS => by go_simp⟩) s39 (some 114) rfl ?_
                        try simp only [Act.put, List.setIfInBounds_toArray, List.set_cons_zero, List.set_cons_succ]
                        refine wpAnyH_ready (rs := [18]) (by kernel_rfl) (by simp) ?_
                        refine AllReadyH.cons rfl (fun Kq hKq => ?_) AllReadyH.nil
                        refine if_then (by rfl) ?_
                        refine wp_store_plane (.tmp 19) (.tmp 113) rfl rfl gb #[.int .i64 (T : Int), .int .i64 (T : Int), .slice A8 n8 c8] rfl (by simp [Value.oneCell']) rfl rfl #[.int .i64 0, .int .i64 0, .slice none 0 0] x39.out.1 rfl fun w9 b9 k9 => ?_
                        have s40 := Lib.hid (s39.out.trans (k9.below s39.out.size (fun i hi e => by have := x39.out.2; omega)))
                        have HO := Lib.hid (And.intro b9 (o39.out.kept k9 ne39.out))
                        refine hKq.out _ _ s40 fun _ => ?_
                        clear hKq Kq b9 k9
                        try simp only [Act.put, List.setIfInBounds_toArray, List.set_cons_zero, List.set_cons_succ]
                        refine take_to (i := 19) (v := .int .i64 0) rfl (by kernel_rfl) (by kernel_rfl) (by kernel_rfl) (fun _ _ _ h => h) (Or.inl ⟨by rfl, fun w' hS => by go_simp⟩) s40 (some 20) rfl ?_
                        try simp only [Act.put, List.setIfInBounds_toArray, List.set_cons_zero, List.set_cons_succ]
                        refine wpAnyH_done (by kernel_rfl) ?_ _
                        go_wp2_with fail
                        go_meet
                        exact ⟨gb, A8, n8, c8, rfl, rfl, HO.out.1, HO.out.2, s40.out⟩
              case rest =>
              obtain ⟨g19, A8, n8, c8, rfl, rfl, hbx, hO, hbw⟩ := hcut
              obtain rfl : n8 = N := by rw [← hO.il.len]; exact HPL.out p t
              have q5 := hbx.cell 2
              simp at q5
              have hTw := HR.out.2.on (on_trans H7.out.2.2.2 hbw)
              have hRw := H7.out.2.2.1.on hbw
              have cN : ∃ z, wc.cell? ⟨gN, p, none⟩ = some z := by
                rw [hTw.box.cell p]
                rcases (show p = 0 ∨ p = 1 ∨ p = 2 by omega) with h | h | h <;> subst h <;> exact ⟨_, rfl⟩
              obtain ⟨z, cN⟩ := cN
              have fN := hTw.box.free p
              have hK : Kept (fun i => i = gN) wc (wc.setCell ⟨gN, p, none⟩ (.slice A8 n8 c8)) := (Kept.refl (fun i => i = gN) wc).setCell (p := ⟨gN, p, none⟩) (fun _ => rfl) _
              rw [← HtD.out.2] at hO
              have HN9 := Lib.hid (And.intro (hRw.kept hK) (hTw.put (pl := (fun q => planeQ K T Q q (tl.getD q []))) hp3 hO))
              clear hbx hO hbw hTw hRw hK
              go_wp2_with fail
              go_roundw
              case rel => exact ⟨p + 1, _, by omega, by go_num, HN9.out.1, HN9.out.2⟩
              case measure => simp [intOf]; omega
            · go_wp2_with fail
              have hJ := refJoin_any wr ((T : Int) / 2) ((T : Int) / 2) A9 k c9 (shownL Q p t) HBs.out
              have hj := HRw.out.2.1
              rw [← HAD.out.1, ← HAD.out.2] at hj
              rw [show joinF (shownL Q p t) ((T : Int) / 2) ((T : Int) / 2) = (((sideN T true : Nat) : Int), ((sideN T true : Nat) : Int), joinL (shownL Q p t) (sideN T true) (sideN T true), 0) by rw [HQ2.out]; exact hj] at hJ
              unfold PTells at hJ
              dsimp only at hJ
              have HJ1 := Lib.hid hJ
              clear hJ hj
              refine HJ1.out.mono ?_
              rintro e w6 ⟨A6, n6, c6, rfl, hO, k6⟩
              have H6 := Lib.hid (And.intro hO (And.intro (HX.out.2.2.on k6) (on_trans HX.out.2.1 k6)))
              clear hO k6 q2 q3
              dsimp only
              go_wp2_with (first
                | ((with_reducible refine wpList_store_plane (o := ⟨none, _, _, _, _, _⟩) rfl (.tmp 17) (.tmp 96) rfl rfl w6.heap.size #[.int .i64 ((sideN T true : Nat) : Int), .int .i64 ((sideN T true : Nat) : Int), .slice A6 n6 c6] rfl ?ho rfl rfl _ (Box.made _ _ _) rfl ?_)
                   case ho => simp [Value.oneCell']
                   intro w7 b7 k7
                   have K7 := laid_below k7
                   have H7 := Lib.hid (And.intro b7 (And.intro (H6.out.1.on K7) (And.intro (H6.out.2.1.on K7) (on_trans H6.out.2.2 K7))))
                   clear b7 k7 K7)
                | fail)
              go_upto_region 22 with fail
              go_cut [19, 20] (fun q e wy => ∃ g A8 n8 c8, q = .pointer (some ⟨g, 0, none⟩) ∧ e = .int .i64 0 ∧ Box wy g 69 #[.int .i64 (T : Int), .int .i64 (T : Int), .slice A8 n8 c8] ∧ Os wy (gN + 1) A8 n8 c8 (planeQ K T Q p t) ∧ Below w7.heap.size w7 wy)
              case first =>
                have HAc2 := Lib.hid (fun w1 => HAc.out w1 p hp3)
                have HDn2 := Lib.hid (fun w1 => HDn.out w1 p hp3)
                rw [← HAD.out.1] at HAc2
                rw [← HAD.out.2] at HDn2
                refine wp_region_held_drew (S := fun w' => Hid (Below w7.heap.size w7 w')) (by kernel_rfl) (Lib.hid (on_drew w7)) fun s0 => ?_
                refine take_to (i := 0) rfl (by kernel_rfl) (by kernel_rfl) (by kernel_rfl) (fun _ _ _ h => h) (yieldsIf_load (by rfl) 69 _ rfl (.pointer (some ⟨w6.heap.size, 0, none⟩)) (by simp [Act.eval]) (.agg #[.int .i64 ((sideN T true : Nat) : Int), .int .i64 ((sideN T true : Nat) : Int), .slice A6 n6 c6]) (fun w' h => load_plane (H7.out.1.on h.out) rfl)) s0 (some 99) rfl ?_
                try simp only [Act.put, List.setIfInBounds_toArray, List.set_cons_zero, List.set_cons_succ]
                refine take_to (i := 1) (v := .pointer (some ⟨g1, 3, none⟩)) rfl (by kernel_rfl) (by kernel_rfl) (by kernel_rfl) (fun _ _ _ h => h) (Or.inl ⟨by rfl, fun w' hS => by go_simp⟩) s0 (some 100) rfl ?_
                try simp only [Act.put, List.setIfInBounds_toArray, List.set_cons_zero, List.set_cons_succ]
                refine take_to (i := 2) (v := .int .i64 K) rfl (by kernel_rfl) (by kernel_rfl) (by kernel_rfl) (fun _ _ _ h => h) (Or.inl ⟨by rfl, fun w' hS => by have hc := (H7.out.2.2.1.on hS.out).geo.cell 3; simp at hc; go_simp⟩) s0 (some 101) rfl ?_
                try simp only [Act.put, List.setIfInBounds_toArray, List.set_cons_zero, List.set_cons_succ]
                refine take_to (i := 3) (v := .int .i64 (p : Int)) rfl (by kernel_rfl) (by kernel_rfl) (by kernel_rfl) (fun _ _ _ h => h) (Or.inl ⟨by rfl, fun w' hS => by go_simp⟩) s0 (some 102) rfl ?_
                try simp only [Act.put, List.setIfInBounds_toArray, List.set_cons_zero, List.set_cons_succ]
                refine take_to (i := 5) (v := .pointer (some ⟨g1, 3, none⟩)) rfl (by kernel_rfl) (by kernel_rfl) (by kernel_rfl) (fun _ _ _ h => h) (Or.inl ⟨by rfl, fun w' hS => by go_simp⟩) s0 (some 104) rfl ?_
                try simp only [Act.put, List.setIfInBounds_toArray, List.set_cons_zero, List.set_cons_succ]
                refine take_to (i := 6) (v := .int .i64 K) rfl (by kernel_rfl) (by kernel_rfl) (by kernel_rfl) (fun _ _ _ h => h) (Or.inl ⟨by rfl, fun w' hS => by have hc := (H7.out.2.2.1.on hS.out).geo.cell 3; simp at hc; go_simp⟩) s0 (some 105) rfl ?_
                try simp only [Act.put, List.setIfInBounds_toArray, List.set_cons_zero, List.set_cons_succ]
                refine take_to (i := 7) (v := .int .i64 (p : Int)) rfl (by kernel_rfl) (by kernel_rfl) (by kernel_rfl) (fun _ _ _ h => h) (Or.inl ⟨by rfl, fun w' hS => by go_simp⟩) s0 (some 106) rfl ?_
                try simp only [Act.put, List.setIfInBounds_toArray, List.set_cons_zero, List.set_cons_succ]
                refine take_to (i := 9) (v := .pointer (some ⟨g1, 2, none⟩)) rfl (by kernel_rfl) (by kernel_rfl) (by kernel_rfl) (fun _ _ _ h => h) (Or.inl ⟨by rfl, fun w' hS => by go_simp⟩) s0 (some 108) rfl ?_
                try simp only [Act.put, List.setIfInBounds_toArray, List.set_cons_zero, List.set_cons_succ]
                refine take_to (i := 10) (v := .int .i64 (T : Int)) rfl (by kernel_rfl) (by kernel_rfl) (by kernel_rfl) (fun _ _ _ h => h) (Or.inl ⟨by rfl, fun w' hS => by have hc := (H7.out.2.2.1.on hS.out).geo.cell 2; simp at hc; go_simp⟩) s0 (some 109) rfl ?_
                try simp only [Act.put, List.setIfInBounds_toArray, List.set_cons_zero, List.set_cons_succ]
                refine take_to (i := 11) (v := .pointer (some ⟨g1, 2, none⟩)) rfl (by kernel_rfl) (by kernel_rfl) (by kernel_rfl) (fun _ _ _ h => h) (Or.inl ⟨by rfl, fun w' hS => by go_simp⟩) s0 (some 110) rfl ?_
                try simp only [Act.put, List.setIfInBounds_toArray, List.set_cons_zero, List.set_cons_succ]
                refine take_to (i := 12) (v := .int .i64 (T : Int)) rfl (by kernel_rfl) (by kernel_rfl) (by kernel_rfl) (fun _ _ _ h => h) (Or.inl ⟨by rfl, fun w' hS => by have hc := (H7.out.2.2.1.on hS.out).geo.cell 2; simp at hc; go_simp⟩) s0 (some 111) rfl ?_
                try simp only [Act.put, List.setIfInBounds_toArray, List.set_cons_zero, List.set_cons_succ]
                generalize w7.drew = v0 at s0 ⊢
                have HGN := Lib.hid (show gN + 1 ≤ w7.heap.size from Nat.le_trans HR.out.2.box.lt H7.out.2.2.2.size)
                refine wpAnyH_ready (rs := [4, 17]) (by kernel_rfl) (by simp) ?_
                refine AllReadyH.cons rfl (fun Kq hKq => ?_) (AllReadyH.cons rfl (fun Kq hKq => ?_) AllReadyH.nil)
                · skip
                  go_simp
                  refine Calls.mono (HAc2.out v0) ?_
                  rintro e u41 ⟨rfl, rfl⟩
                  refine hKq.out _ _ s0 fun _ => ?_
                  clear hKq Kq
                  try simp only [Act.put, List.setIfInBounds_toArray, List.set_cons_zero, List.set_cons_succ]
                  refine wpAnyH_ready (rs := [8, 17]) (by kernel_rfl) (by simp) ?_
                  refine AllReadyH.cons rfl (fun Kq hKq => ?_) (AllReadyH.cons rfl (fun Kq hKq => ?_) AllReadyH.nil)
                  · skip
                    go_simp
                    refine Calls.mono (HDn2.out v0) ?_
                    rintro e u42 ⟨rfl, rfl⟩
                    refine hKq.out _ _ s0 fun _ => ?_
                    clear hKq Kq
                    try simp only [Act.put, List.setIfInBounds_toArray, List.set_cons_zero, List.set_cons_succ]
                    refine wpAnyH_ready (rs := [13, 17]) (by kernel_rfl) (by simp) ?_
                    refine AllReadyH.cons rfl (fun Kq hKq => ?_) (AllReadyH.cons rfl (fun Kq hKq => ?_) AllReadyH.nil)
                    · skip
                      go_simp
                      have hg := HGr.out p t
                      rw [← HAD.out.1, ← HAD.out.2] at hg
                      have hOu := H7.out.2.1.on s0.out
                      have hn6 : n6 ≤ 1000000 := by
                        have h1 := hOu.il.len
                        have h2 := hg.2.1
                        have h3 := hg.2.2
                        omega
                      have hC := refGrow_any v0 ((sideN T true : Nat) : Int) ((sideN T true : Nat) : Int) (T : Int) (T : Int) true true A6 n6 c6 _ hOu.ia hn6
                      rw [hg.1] at hC
                      unfold PTells at hC
                      dsimp only at hC
                      refine Calls.mono hC ?_
                      clear hC hg hn6 hOu
                      rintro e u43 ⟨A8, n8, c8, rfl, hO, k43⟩
                      have s43 := Lib.hid (on_trans s0.out k43)
                      have o43 := Lib.hid (hO.down (show gN + 1 ≤ v0.heap.size from Nat.le_trans HGN.out s0.out.size))
                      clear k43 hO
                      refine hKq.out _ _ s43 fun _ => ?_
                      clear hKq Kq
                      try simp only [Act.put, List.setIfInBounds_toArray, List.set_cons_zero, List.set_cons_succ]
                      refine take_to (i := 14) (v := .tuple #[.agg #[.int .i64 (T : Int), .int .i64 (T : Int), .slice A8 n8 c8], .int .i64 0]) rfl (by kernel_rfl) (by kernel_rfl) (by kernel_rfl) (fun _ _ _ h => h) (Or.inl ⟨by rfl, fun w' hS => by go_simp⟩) s43 (some 98) rfl ?_
                      try simp only [Act.put, List.setIfInBounds_toArray, List.set_cons_zero, List.set_cons_succ]
                      refine take_to (i := 15) (v := .agg #[.int .i64 (T : Int), .int .i64 (T : Int), .slice A8 n8 c8]) rfl (by kernel_rfl) (by kernel_rfl) (by kernel_rfl) (fun _ _ _ h => h) (Or.inl ⟨by rfl, fun w' hS => by go_simp⟩) s43 (some 113) rfl ?_
                      try simp only [Act.put, List.setIfInBounds_toArray, List.set_cons_zero, List.set_cons_succ]
                      refine take_to (i := 16) (v := .int .i64 0) rfl (by kernel_rfl) (by kernel_rfl) (by kernel_rfl) (fun _ _ _ h => h) (Or.inl ⟨by rfl, fun w' hS => by go_simp⟩) s43 (some 114) rfl ?_
                      try simp only [Act.put, List.setIfInBounds_toArray, List.set_cons_zero, List.set_cons_succ]
                      refine wpAnyH_ready (rs := [17]) (by kernel_rfl) (by simp) ?_
                      refine AllReadyH.cons rfl (fun Kq hKq => ?_) AllReadyH.nil
                      · skip
                        go_simp
                        have kb44 : Below u43.heap.size u43 (u43.alloc (.cells #[.int .i64 0, .int .i64 0, .slice none 0 0] 69)) := on_alloc _ _
                        have bb44 : Box (u43.alloc (.cells #[.int .i64 0, .int .i64 0, .slice none 0 0] 69)) u43.heap.size 69 #[.int .i64 0, .int .i64 0, .slice none 0 0] := Box.made _ _ _
                        obtain ⟨gb, hgb⟩ : ∃ gb, gb = u43.heap.size := ⟨_, rfl⟩
                        obtain ⟨u44, hu44⟩ : ∃ x, x = (u43.alloc (.cells #[.int .i64 0, .int .i64 0, .slice none 0 0] 69)) := ⟨_, rfl⟩
                        simp only [← hgb, ← hu44] at bb44 ⊢
                        rw [← hu44] at kb44
                        have x44 := Lib.hid (And.intro bb44 (show w7.heap.size ≤ gb by rw [hgb]; exact s43.out.size))
                        have s44 := Lib.hid (on_trans s43.out kb44)
                        have ne44 := Lib.hid (show ∀ b off, A8 = some ⟨b, off, none⟩ → ¬ b = gb from fun b off e => by have := (o43.out.new b off e).2.1; omega)
                        have o44 := Lib.hid (o43.out.on kb44)
                        clear kb44 bb44 hu44 hgb
                        refine hKq.out _ _ s44 fun _ => ?_
                        clear hKq Kq
                        try simp only [Act.put, List.setIfInBounds_toArray, List.set_cons_zero, List.set_cons_succ]
                        refine wpAnyH_ready (rs := [18]) (by kernel_rfl) (by simp) ?_
                        refine AllReadyH.cons rfl (fun Kq hKq => ?_) AllReadyH.nil
                        refine if_then (by rfl) ?_
                        refine wp_store_plane (.tmp 19) (.tmp 113) rfl rfl gb #[.int .i64 (T : Int), .int .i64 (T : Int), .slice A8 n8 c8] rfl (by simp [Value.oneCell']) rfl rfl #[.int .i64 0, .int .i64 0, .slice none 0 0] x44.out.1 rfl fun w9 b9 k9 => ?_
                        have s45 := Lib.hid (s44.out.trans (k9.below s44.out.size (fun i hi e => by have := x44.out.2; omega)))
                        have HO := Lib.hid (And.intro b9 (o44.out.kept k9 ne44.out))
                        refine hKq.out _ _ s45 fun _ => ?_
                        clear hKq Kq b9 k9
                        try simp only [Act.put, List.setIfInBounds_toArray, List.set_cons_zero, List.set_cons_succ]
                        refine take_to (i := 19) (v := .int .i64 0) rfl (by kernel_rfl) (by kernel_rfl) (by kernel_rfl) (fun _ _ _ h => h) (Or.inl ⟨by rfl, fun w' hS => by go_simp⟩) s45 (some 20) rfl ?_
                        try simp only [Act.put, List.setIfInBounds_toArray, List.set_cons_zero, List.set_cons_succ]
                        refine wpAnyH_done (by kernel_rfl) ?_ _
                        go_wp2_with fail
                        go_meet
                        exact ⟨gb, A8, n8, c8, rfl, rfl, HO.out.1, HO.out.2, s45.out⟩
                    · skip
                      go_simp
                      have kb46 : Below v0.heap.size v0 (v0.alloc (.cells #[.int .i64 0, .int .i64 0, .slice none 0 0] 69)) := on_alloc _ _
                      have bb46 : Box (v0.alloc (.cells #[.int .i64 0, .int .i64 0, .slice none 0 0] 69)) v0.heap.size 69 #[.int .i64 0, .int .i64 0, .slice none 0 0] := Box.made _ _ _
                      obtain ⟨gb, hgb⟩ : ∃ gb, gb = v0.heap.size := ⟨_, rfl⟩
                      obtain ⟨u46, hu46⟩ : ∃ x, x = (v0.alloc (.cells #[.int .i64 0, .int .i64 0, .slice none 0 0] 69)) := ⟨_, rfl⟩
                      simp only [← hgb, ← hu46] at bb46 ⊢
                      rw [← hu46] at kb46
                      have x46 := Lib.hid (And.intro bb46 (show w7.heap.size ≤ gb by rw [hgb]; exact s0.out.size))
                      have s46 := Lib.hid (on_trans s0.out kb46)
                      clear kb46 bb46 hu46 hgb
                      refine hKq.out _ _ s46 fun _ => ?_
                      clear hKq Kq
                      try simp only [Act.put, List.setIfInBounds_toArray, List.set_cons_zero, List.set_cons_succ]
                      refine wpAnyH_ready (rs := [13]) (by kernel_rfl) (by simp) ?_
                      refine AllReadyH.cons rfl (fun Kq hKq => ?_) AllReadyH.nil
                      · skip
                        go_simp
                        have hg := HGr.out p t
                        rw [← HAD.out.1, ← HAD.out.2] at hg
                        have hOu := H7.out.2.1.on s46.out
                        have hn6 : n6 ≤ 1000000 := by
                          have h1 := hOu.il.len
                          have h2 := hg.2.1
                          have h3 := hg.2.2
                          omega
                        have hC := refGrow_any u46 ((sideN T true : Nat) : Int) ((sideN T true : Nat) : Int) (T : Int) (T : Int) true true A6 n6 c6 _ hOu.ia hn6
                        rw [hg.1] at hC
                        unfold PTells at hC
                        dsimp only at hC
                        refine Calls.mono hC ?_
                        clear hC hg hn6 hOu
                        rintro e u47 ⟨A8, n8, c8, rfl, hO, k47⟩
                        have s47 := Lib.hid (on_trans s46.out k47)
                        have o47 := Lib.hid (hO.down (show gN + 1 ≤ u46.heap.size from Nat.le_trans HGN.out s46.out.size))
                        have ne47 := Lib.hid (show ∀ b off, A8 = some ⟨b, off, none⟩ → ¬ b = gb from fun b off e => by have := (hO.new b off e).1; have := x46.out.1.lt; omega)
                        have x47 := Lib.hid (And.intro (x46.out.1.on k47) x46.out.2)
                        clear k47 hO
                        refine hKq.out _ _ s47 fun _ => ?_
                        clear hKq Kq
                        try simp only [Act.put, List.setIfInBounds_toArray, List.set_cons_zero, List.set_cons_succ]
                        refine take_to (i := 14) (v := .tuple #[.agg #[.int .i64 (T : Int), .int .i64 (T : Int), .slice A8 n8 c8], .int .i64 0]) rfl (by kernel_rfl) (by kernel_rfl) (by kernel_rfl) (fun _ _ _ h => h) (Or.inl ⟨by rfl, fun w' hS => by go_simp⟩) s47 (some 98) rfl ?_
                        try simp only [Act.put, List.setIfInBounds_toArray, List.set_cons_zero, List.set_cons_succ]
                        refine take_to (i := 15) (v := .agg #[.int .i64 (T : Int), .int .i64 (T : Int), .slice A8 n8 c8]) rfl (by kernel_rfl) (by kernel_rfl) (by kernel_rfl) (fun _ _ _ h => h) (Or.inl ⟨by rfl, fun w' hS => by go_simp⟩) s47 (some 113) rfl ?_
                        try simp only [Act.put, List.setIfInBounds_toArray, List.set_cons_zero, List.set_cons_succ]
                        refine take_to (i := 16) (v := .int .i64 0) rfl (by kernel_rfl) (by kernel_rfl) (by kernel_rfl) (fun _ _ _ h => h) (Or.inl ⟨by rfl, fun w' hS => by go_simp⟩) s47 (some 114) rfl ?_
                        try simp only [Act.put, List.setIfInBounds_toArray, List.set_cons_zero, List.set_cons_succ]
                        refine wpAnyH_ready (rs := [18]) (by kernel_rfl) (by simp) ?_
                        refine AllReadyH.cons rfl (fun Kq hKq => ?_) AllReadyH.nil
                        refine if_then (by rfl) ?_
                        refine wp_store_plane (.tmp 19) (.tmp 113) rfl rfl gb #[.int .i64 (T : Int), .int .i64 (T : Int), .slice A8 n8 c8] rfl (by simp [Value.oneCell']) rfl rfl #[.int .i64 0, .int .i64 0, .slice none 0 0] x47.out.1 rfl fun w9 b9 k9 => ?_
                        have s48 := Lib.hid (s47.out.trans (k9.below s47.out.size (fun i hi e => by have := x47.out.2; omega)))
                        have HO := Lib.hid (And.intro b9 (o47.out.kept k9 ne47.out))
                        refine hKq.out _ _ s48 fun _ => ?_
                        clear hKq Kq b9 k9
                        try simp only [Act.put, List.setIfInBounds_toArray, List.set_cons_zero, List.set_cons_succ]
                        refine take_to (i := 19) (v := .int .i64 0) rfl (by kernel_rfl) (by kernel_rfl) (by kernel_rfl) (fun _ _ _ h => h) (Or.inl ⟨by rfl, fun w' hS => by go_simp⟩) s48 (some 20) rfl ?_
                        try simp only [Act.put, List.setIfInBounds_toArray, List.set_cons_zero, List.set_cons_succ]
                        refine wpAnyH_done (by kernel_rfl) ?_ _
                        go_wp2_with fail
                        go_meet
                        exact ⟨gb, A8, n8, c8, rfl, rfl, HO.out.1, HO.out.2, s48.out⟩
                  · skip
                    go_simp
                    have kb49 : Below v0.heap.size v0 (v0.alloc (.cells #[.int .i64 0, .int .i64 0, .slice none 0 0] 69)) := on_alloc _ _
                    have bb49 : Box (v0.alloc (.cells #[.int .i64 0, .int .i64 0, .slice none 0 0] 69)) v0.heap.size 69 #[.int .i64 0, .int .i64 0, .slice none 0 0] := Box.made _ _ _
                    obtain ⟨gb, hgb⟩ : ∃ gb, gb = v0.heap.size := ⟨_, rfl⟩
                    obtain ⟨u49, hu49⟩ : ∃ x, x = (v0.alloc (.cells #[.int .i64 0, .int .i64 0, .slice none 0 0] 69)) := ⟨_, rfl⟩
                    simp only [← hgb, ← hu49] at bb49 ⊢
                    rw [← hu49] at kb49
                    have x49 := Lib.hid (And.intro bb49 (show w7.heap.size ≤ gb by rw [hgb]; exact s0.out.size))
                    have s49 := Lib.hid (on_trans s0.out kb49)
                    clear kb49 bb49 hu49 hgb
                    refine hKq.out _ _ s49 fun _ => ?_
                    clear hKq Kq
                    try simp only [Act.put, List.setIfInBounds_toArray, List.set_cons_zero, List.set_cons_succ]
                    refine wpAnyH_ready (rs := [8]) (by kernel_rfl) (by simp) ?_
                    refine AllReadyH.cons rfl (fun Kq hKq => ?_) AllReadyH.nil
                    · skip
                      go_simp
                      refine Calls.mono (HDn2.out u49) ?_
                      rintro e u50 ⟨rfl, rfl⟩
                      refine hKq.out _ _ s49 fun _ => ?_
                      clear hKq Kq
                      try simp only [Act.put, List.setIfInBounds_toArray, List.set_cons_zero, List.set_cons_succ]
                      refine wpAnyH_ready (rs := [13]) (by kernel_rfl) (by simp) ?_
                      refine AllReadyH.cons rfl (fun Kq hKq => ?_) AllReadyH.nil
                      · skip
                        go_simp
                        have hg := HGr.out p t
                        rw [← HAD.out.1, ← HAD.out.2] at hg
                        have hOu := H7.out.2.1.on s49.out
                        have hn6 : n6 ≤ 1000000 := by
                          have h1 := hOu.il.len
                          have h2 := hg.2.1
                          have h3 := hg.2.2
                          omega
                        have hC := refGrow_any u49 ((sideN T true : Nat) : Int) ((sideN T true : Nat) : Int) (T : Int) (T : Int) true true A6 n6 c6 _ hOu.ia hn6
                        rw [hg.1] at hC
                        unfold PTells at hC
                        dsimp only at hC
                        refine Calls.mono hC ?_
                        clear hC hg hn6 hOu
                        rintro e u51 ⟨A8, n8, c8, rfl, hO, k51⟩
                        have s51 := Lib.hid (on_trans s49.out k51)
                        have o51 := Lib.hid (hO.down (show gN + 1 ≤ u49.heap.size from Nat.le_trans HGN.out s49.out.size))
                        have ne51 := Lib.hid (show ∀ b off, A8 = some ⟨b, off, none⟩ → ¬ b = gb from fun b off e => by have := (hO.new b off e).1; have := x49.out.1.lt; omega)
                        have x51 := Lib.hid (And.intro (x49.out.1.on k51) x49.out.2)
                        clear k51 hO
                        refine hKq.out _ _ s51 fun _ => ?_
                        clear hKq Kq
                        try simp only [Act.put, List.setIfInBounds_toArray, List.set_cons_zero, List.set_cons_succ]
                        refine take_to (i := 14) (v := .tuple #[.agg #[.int .i64 (T : Int), .int .i64 (T : Int), .slice A8 n8 c8], .int .i64 0]) rfl (by kernel_rfl) (by kernel_rfl) (by kernel_rfl) (fun _ _ _ h => h) (Or.inl ⟨by rfl, fun w' hS => by go_simp⟩) s51 (some 98) rfl ?_
                        try simp only [Act.put, List.setIfInBounds_toArray, List.set_cons_zero, List.set_cons_succ]
                        refine take_to (i := 15) (v := .agg #[.int .i64 (T : Int), .int .i64 (T : Int), .slice A8 n8 c8]) rfl (by kernel_rfl) (by kernel_rfl) (by kernel_rfl) (fun _ _ _ h => h) (Or.inl ⟨by rfl, fun w' hS => by go_simp⟩) s51 (some 113) rfl ?_
                        try simp only [Act.put, List.setIfInBounds_toArray, List.set_cons_zero, List.set_cons_succ]
                        refine take_to (i := 16) (v := .int .i64 0) rfl (by kernel_rfl) (by kernel_rfl) (by kernel_rfl) (fun _ _ _ h => h) (Or.inl ⟨by rfl, fun w' hS => by go_simp⟩) s51 (some 114) rfl ?_
                        try simp only [Act.put, List.setIfInBounds_toArray, List.set_cons_zero, List.set_cons_succ]
                        refine wpAnyH_ready (rs := [18]) (by kernel_rfl) (by simp) ?_
                        refine AllReadyH.cons rfl (fun Kq hKq => ?_) AllReadyH.nil
                        refine if_then (by rfl) ?_
                        refine wp_store_plane (.tmp 19) (.tmp 113) rfl rfl gb #[.int .i64 (T : Int), .int .i64 (T : Int), .slice A8 n8 c8] rfl (by simp [Value.oneCell']) rfl rfl #[.int .i64 0, .int .i64 0, .slice none 0 0] x51.out.1 rfl fun w9 b9 k9 => ?_
                        have s52 := Lib.hid (s51.out.trans (k9.below s51.out.size (fun i hi e => by have := x51.out.2; omega)))
                        have HO := Lib.hid (And.intro b9 (o51.out.kept k9 ne51.out))
                        refine hKq.out _ _ s52 fun _ => ?_
                        clear hKq Kq b9 k9
                        try simp only [Act.put, List.setIfInBounds_toArray, List.set_cons_zero, List.set_cons_succ]
                        refine take_to (i := 19) (v := .int .i64 0) rfl (by kernel_rfl) (by kernel_rfl) (by kernel_rfl) (fun _ _ _ h => h) (Or.inl ⟨by rfl, fun w' hS => by go_simp⟩) s52 (some 20) rfl ?_
                        try simp only [Act.put, List.setIfInBounds_toArray, List.set_cons_zero, List.set_cons_succ]
                        refine wpAnyH_done (by kernel_rfl) ?_ _
                        go_wp2_with fail
                        go_meet
                        exact ⟨gb, A8, n8, c8, rfl, rfl, HO.out.1, HO.out.2, s52.out⟩
                · skip
                  go_simp
                  have kb53 : Below v0.heap.size v0 (v0.alloc (.cells #[.int .i64 0, .int .i64 0, .slice none 0 0] 69)) := on_alloc _ _
                  have bb53 : Box (v0.alloc (.cells #[.int .i64 0, .int .i64 0, .slice none 0 0] 69)) v0.heap.size 69 #[.int .i64 0, .int .i64 0, .slice none 0 0] := Box.made _ _ _
                  obtain ⟨gb, hgb⟩ : ∃ gb, gb = v0.heap.size := ⟨_, rfl⟩
                  obtain ⟨u53, hu53⟩ : ∃ x, x = (v0.alloc (.cells #[.int .i64 0, .int .i64 0, .slice none 0 0] 69)) := ⟨_, rfl⟩
                  simp only [← hgb, ← hu53] at bb53 ⊢
                  rw [← hu53] at kb53
                  have x53 := Lib.hid (And.intro bb53 (show w7.heap.size ≤ gb by rw [hgb]; exact s0.out.size))
                  have s53 := Lib.hid (on_trans s0.out kb53)
                  clear kb53 bb53 hu53 hgb
                  refine hKq.out _ _ s53 fun _ => ?_
                  clear hKq Kq
                  try simp only [Act.put, List.setIfInBounds_toArray, List.set_cons_zero, List.set_cons_succ]
                  refine wpAnyH_ready (rs := [4]) (by kernel_rfl) (by simp) ?_
                  refine AllReadyH.cons rfl (fun Kq hKq => ?_) AllReadyH.nil
                  · skip
                    go_simp
                    refine Calls.mono (HAc2.out u53) ?_
                    rintro e u54 ⟨rfl, rfl⟩
                    refine hKq.out _ _ s53 fun _ => ?_
                    clear hKq Kq
                    try simp only [Act.put, List.setIfInBounds_toArray, List.set_cons_zero, List.set_cons_succ]
                    refine wpAnyH_ready (rs := [8]) (by kernel_rfl) (by simp) ?_
                    refine AllReadyH.cons rfl (fun Kq hKq => ?_) AllReadyH.nil
                    · skip
                      go_simp
                      refine Calls.mono (HDn2.out u53) ?_
                      rintro e u55 ⟨rfl, rfl⟩
                      refine hKq.out _ _ s53 fun _ => ?_
                      clear hKq Kq
                      try simp only [Act.put, List.setIfInBounds_toArray, List.set_cons_zero, List.set_cons_succ]
                      refine wpAnyH_ready (rs := [13]) (by kernel_rfl) (by simp) ?_
                      refine AllReadyH.cons rfl (fun Kq hKq => ?_) AllReadyH.nil
                      · skip
                        go_simp
                        have hg := HGr.out p t
                        rw [← HAD.out.1, ← HAD.out.2] at hg
                        have hOu := H7.out.2.1.on s53.out
                        have hn6 : n6 ≤ 1000000 := by
                          have h1 := hOu.il.len
                          have h2 := hg.2.1
                          have h3 := hg.2.2
                          omega
                        have hC := refGrow_any u53 ((sideN T true : Nat) : Int) ((sideN T true : Nat) : Int) (T : Int) (T : Int) true true A6 n6 c6 _ hOu.ia hn6
                        rw [hg.1] at hC
                        unfold PTells at hC
                        dsimp only at hC
                        refine Calls.mono hC ?_
                        clear hC hg hn6 hOu
                        rintro e u56 ⟨A8, n8, c8, rfl, hO, k56⟩
                        have s56 := Lib.hid (on_trans s53.out k56)
                        have o56 := Lib.hid (hO.down (show gN + 1 ≤ u53.heap.size from Nat.le_trans HGN.out s53.out.size))
                        have ne56 := Lib.hid (show ∀ b off, A8 = some ⟨b, off, none⟩ → ¬ b = gb from fun b off e => by have := (hO.new b off e).1; have := x53.out.1.lt; omega)
                        have x56 := Lib.hid (And.intro (x53.out.1.on k56) x53.out.2)
                        clear k56 hO
                        refine hKq.out _ _ s56 fun _ => ?_
                        clear hKq Kq
                        try simp only [Act.put, List.setIfInBounds_toArray, List.set_cons_zero, List.set_cons_succ]
                        refine take_to (i := 14) (v := .tuple #[.agg #[.int .i64 (T : Int), .int .i64 (T : Int), .slice A8 n8 c8], .int .i64 0]) rfl (by kernel_rfl) (by kernel_rfl) (by kernel_rfl) (fun _ _ _ h => h) (Or.inl ⟨by rfl, fun w' hS => by go_simp⟩) s56 (some 98) rfl ?_
                        try simp only [Act.put, List.setIfInBounds_toArray, List.set_cons_zero, List.set_cons_succ]
                        refine take_to (i := 15) (v := .agg #[.int .i64 (T : Int), .int .i64 (T : Int), .slice A8 n8 c8]) rfl (by kernel_rfl) (by kernel_rfl) (by kernel_rfl) (fun _ _ _ h => h) (Or.inl ⟨by rfl, fun w' hS => by go_simp⟩) s56 (some 113) rfl ?_
                        try simp only [Act.put, List.setIfInBounds_toArray, List.set_cons_zero, List.set_cons_succ]
                        refine take_to (i := 16) (v := .int .i64 0) rfl (by kernel_rfl) (by kernel_rfl) (by kernel_rfl) (fun _ _ _ h => h) (Or.inl ⟨by rfl, fun w' hS => by go_simp⟩) s56 (some 114) rfl ?_
                        try simp only [Act.put, List.setIfInBounds_toArray, List.set_cons_zero, List.set_cons_succ]
                        refine wpAnyH_ready (rs := [18]) (by kernel_rfl) (by simp) ?_
                        refine AllReadyH.cons rfl (fun Kq hKq => ?_) AllReadyH.nil
                        refine if_then (by rfl) ?_
                        refine wp_store_plane (.tmp 19) (.tmp 113) rfl rfl gb #[.int .i64 (T : Int), .int .i64 (T : Int), .slice A8 n8 c8] rfl (by simp [Value.oneCell']) rfl rfl #[.int .i64 0, .int .i64 0, .slice none 0 0] x56.out.1 rfl fun w9 b9 k9 => ?_
                        have s57 := Lib.hid (s56.out.trans (k9.below s56.out.size (fun i hi e => by have := x56.out.2; omega)))
                        have HO := Lib.hid (And.intro b9 (o56.out.kept k9 ne56.out))
                        refine hKq.out _ _ s57 fun _ => ?_
                        clear hKq Kq b9 k9
                        try simp only [Act.put, List.setIfInBounds_toArray, List.set_cons_zero, List.set_cons_succ]
                        refine take_to (i := 19) (v := .int .i64 0) rfl (by kernel_rfl) (by kernel_rfl) (by kernel_rfl) (fun _ _ _ h => h) (Or.inl ⟨by rfl, fun w' hS => by go_simp⟩) s57 (some 20) rfl ?_
                        try simp only [Act.put, List.setIfInBounds_toArray, List.set_cons_zero, List.set_cons_succ]
                        refine wpAnyH_done (by kernel_rfl) ?_ _
                        go_wp2_with fail
                        go_meet
                        exact ⟨gb, A8, n8, c8, rfl, rfl, HO.out.1, HO.out.2, s57.out⟩
              case rest =>
              obtain ⟨g19, A8, n8, c8, rfl, rfl, hbx, hO, hbw⟩ := hcut
              obtain rfl : n8 = N := by rw [← hO.il.len]; exact HPL.out p t
              have q5 := hbx.cell 2
              simp at q5
              have hTw := HR.out.2.on (on_trans H7.out.2.2.2 hbw)
              have hRw := H7.out.2.2.1.on hbw
              have cN : ∃ z, wc.cell? ⟨gN, p, none⟩ = some z := by
                rw [hTw.box.cell p]
                rcases (show p = 0 ∨ p = 1 ∨ p = 2 by omega) with h | h | h <;> subst h <;> exact ⟨_, rfl⟩
              obtain ⟨z, cN⟩ := cN
              have fN := hTw.box.free p
              have hK : Kept (fun i => i = gN) wc (wc.setCell ⟨gN, p, none⟩ (.slice A8 n8 c8)) := (Kept.refl (fun i => i = gN) wc).setCell (p := ⟨gN, p, none⟩) (fun _ => rfl) _
              rw [← HtD.out.2] at hO
              have HN9 := Lib.hid (And.intro (hRw.kept hK) (hTw.put (pl := (fun q => planeQ K T Q q (tl.getD q []))) hp3 hO))
              clear hbx hO hbw hTw hRw hK
              go_wp2_with fail
              go_roundw
              case rel => exact ⟨p + 1, _, by omega, by go_num, HN9.out.1, HN9.out.2⟩
              case measure => simp [intOf]; omega
    · obtain rfl : p = m := by omega
      have HNp := Lib.hid (show p = nP K from HMm.out)
      have hge : ¬ p < n := by omega
      have hgd : decide (p < n) = false := decide_eq_false hge
      clear hnm
      obtain ⟨wo, rfl⟩ : ∃ wo, wo = wr := ⟨_, rfl⟩
      obtain ⟨N1, hN1⟩ : ∃ N1, N1 = wo.heap.size := ⟨_, rfl⟩
      have HN1 := Lib.hid hN1
      clear hN1
      go_wp2_with fail
      clear r0
      go_loopw [21, 22, 23, 24] (fun v i a23 a24 wx => ∃ j : Nat, j ≤ N ∧ i = .int .i64 (j : Int) ∧ wx.ownsRow N1 52 3 v j (pxCells K T Q tl j) ∧ Below wo.heap.size wo wx) (fun _ i _ _ _ => N - (intOf i).toNat)
      case atStart => exact ⟨0, Nat.zero_le _, rfl, World.ownsRow_nil _ _ _ _, Below.refl _ _⟩
      case round =>
        obtain ⟨j, hj, rfl, hown, hbx⟩ := hrel
        obtain ⟨A9, c9, rfl⟩ := own_slice hown
        have HX := Lib.hid (And.intro hown (And.intro hbx (And.intro (HR.out.1.on hbx) (HR.out.2.on hbx))))
        clear hown hbx
        have q2 : wr.cell? ⟨g1, 2, none⟩ = some (.int .i64 (T : Int)) := HX.out.2.2.1.geo.cell 2
        have q3 : wr.cell? ⟨g1, 3, none⟩ = some (.int .i64 K) := HX.out.2.2.1.geo.cell 3
        by_cases hjn : j < N
        · have hNp := HNp.out
          have hval : ∀ q A' c', Os wr (gN + 1) A' N c' (planeQ K T Q q (tl.getD q [])) → q < nP K → ∃ b o, A' = some ⟨b, o, none⟩ ∧ wr.cell? ⟨b, o + j, none⟩ = some (.int .i64 (smp K T Q tl j q)) := by
            intro q A' c' hO hq
            obtain ⟨b, o, e, _, hc⟩ := hO.ia.at_ (by omega)
            refine ⟨b, o, e, ?_⟩
            rw [hc j hjn]
            unfold smp
            rw [if_pos hq]
          have hpx := HOK.out j hjn
          have hbox := HX.out.2.2.2.box
          have hsm : K = 0 → smp K T Q tl j 1 = 128 ∧ smp K T Q tl j 2 = 128 := by
            intro h
            subst h
            exact ⟨rfl, rfl⟩
          obtain ⟨A0, c0, e0, hO0⟩ := HX.out.2.2.2.done 0 (by omega)
          obtain ⟨b0, o0, rfl, s0⟩ := hval 0 A0 c0 hO0 (by omega)
          have d0 : wr.cell? ⟨gN, 0, none⟩ = some (.slice (some ⟨b0, o0, none⟩) N c0) := by rw [hbox.cell 0, ← e0]; rfl
          obtain ⟨z0, hz0⟩ : ∃ z, z = smp K T Q tl j 0 := ⟨_, rfl⟩
          have hmore := pxCells_more K T Q tl j
          have HPy : ∀ w1, Calls Tryd.prog 41 #[.int .i64 z0, .int .i64 (smp K T Q tl j 1), .int .i64 (smp K T Q tl j 2)] w1 (Tells w1 (pixQ K T Q tl j, 0)) := fun w1 => by
            rw [← hpx, ← hz0]
            exact refPix_any w1 _ _ _
          rw [← hz0] at s0
          obtain ⟨⟨y0, y1, y2⟩, hy⟩ : ∃ y, y = pixQ K T Q tl j := ⟨_, rfl⟩
          have hm2 : pxCells K T Q tl (j + 1) = pxCells K T Q tl j ++ [.int .i64 y0, .int .i64 y1, .int .i64 y2] := by
            rw [hmore]
            unfold pxc
            rw [← hy]
            rfl
          rw [← hy] at HPy
          unfold Tells triV at HPy
          dsimp only at HPy
          have HM2 := Lib.hid hm2
          clear hpx hz0 hmore hy hm2
          by_cases hK0 : K = 0
          · have h2 := hsm hK0
            rw [h2.1, h2.2] at HPy
            have HPz := Lib.hid HPy
            have hK1 : ¬ 0 < K := by omega
            clear HPy hsm hval hO0 e0 hbox h2 hK0 hNp
            go_wp2_with fail
            refine (HPz.out wr).mono ?_
            rintro e w5 ⟨rfl, k5⟩
            have H5 := Lib.hid k5
            have B2 := Lib.hid (show Box ((w5.alloc (.cells #[.int .i64 y0, .int .i64 y1, .int .i64 y2] 52)).alloc (.cells #[.int .i64 y0, .int .i64 y1, .int .i64 y2] 52)) (w5.heap.size + 1) 52 #[.int .i64 y0, .int .i64 y1, .int .i64 y2] by have := Box.made (w5.alloc (.cells #[.int .i64 y0, .int .i64 y1, .int .i64 y2] 52)) 52 #[.int .i64 y0, .int .i64 y1, .int .i64 y2]; simpa using this)
            clear k5
            dsimp only
            go_wp2_with (first
              | (at_builtin; refine wpList_append_px (o := ⟨some 155, _, _, _, _, _⟩) rfl (.tmp 152) (.tmp 154) rfl N1 (.slice A9 j c9) j _ y0 y1 y2 rfl (ownsRow_on HX.out.1 (on_trans (on_trans H5.out (on_alloc _ _)) (on_alloc _ _))) (w5.heap.size + 1) rfl B2.out (by omega) ?hs ?_
                 case hs => rw [HN1.out]; exact (on_trans (on_trans (on_trans HX.out.2.1 H5.out) (on_alloc _ _)) (on_alloc _ _)).size
                 intro v9 w9 hr9 k9
                 obtain ⟨A8, c8, hv9⟩ := own_slice hr9
                 subst hv9
                 rw [← HM2.out] at hr9
                 have H9 := Lib.hid (And.intro hr9 k9)
                 clear hr9 k9)
              | fail)
            go_roundw
            case rel =>
              have hK1 := on_trans (on_trans (on_trans HX.out.2.1 H5.out) (on_alloc w5 (.cells #[.int .i64 y0, .int .i64 y1, .int .i64 y2] 52))) (on_alloc _ (.cells #[.int .i64 y0, .int .i64 y1, .int .i64 y2] 52))
              exact ⟨j + 1, by omega, by go_num, H9.out.1, hK1.trans (H9.out.2.below hK1.size (fun i hi e => by have h2 := (own_block3 HX.out.1 e).1; rw [HN1.out] at h2; omega))⟩
            case measure => simp [intOf]; omega
          · have hm3' : p = 3 := by rw [hNp]; exact if_neg hK0
            obtain ⟨A1, c1, e1, hO1⟩ := HX.out.2.2.2.done 1 (by omega)
            obtain ⟨A2, c2, e2, hO2⟩ := HX.out.2.2.2.done 2 (by omega)
            obtain ⟨b1, o1, rfl, s1⟩ := hval 1 A1 c1 hO1 (by omega)
            obtain ⟨b2, o2, rfl, s2⟩ := hval 2 A2 c2 hO2 (by omega)
            have d1 : wr.cell? ⟨gN, 1, none⟩ = some (.slice (some ⟨b1, o1, none⟩) N c1) := by rw [hbox.cell 1, ← e1]; rfl
            have d2 : wr.cell? ⟨gN, 2, none⟩ = some (.slice (some ⟨b2, o2, none⟩) N c2) := by rw [hbox.cell 2, ← e2]; rfl
            obtain ⟨z1, hz1⟩ : ∃ z, z = smp K T Q tl j 1 := ⟨_, rfl⟩
            obtain ⟨z2, hz2⟩ : ∃ z, z = smp K T Q tl j 2 := ⟨_, rfl⟩
            rw [← hz1] at s1 HPy
            rw [← hz2] at s2 HPy
            have HPz := Lib.hid HPy
            have hK1 : 0 < K := by obtain ⟨_, _, _, h4, _⟩ := HC.out.2.1.1; omega
            clear HPy hsm hval hO0 hO1 hO2 e0 e1 e2 hbox hz1 hz2 hK0 hm3' hNp
            go_wp2_with fail
            refine (HPz.out wr).mono ?_
            rintro e w5 ⟨rfl, k5⟩
            have H5 := Lib.hid k5
            have B2 := Lib.hid (show Box ((w5.alloc (.cells #[.int .i64 y0, .int .i64 y1, .int .i64 y2] 52)).alloc (.cells #[.int .i64 y0, .int .i64 y1, .int .i64 y2] 52)) (w5.heap.size + 1) 52 #[.int .i64 y0, .int .i64 y1, .int .i64 y2] by have := Box.made (w5.alloc (.cells #[.int .i64 y0, .int .i64 y1, .int .i64 y2] 52)) 52 #[.int .i64 y0, .int .i64 y1, .int .i64 y2]; simpa using this)
            clear k5
            dsimp only
            go_wp2_with (first
              | (at_builtin; refine wpList_append_px (o := ⟨some 155, _, _, _, _, _⟩) rfl (.tmp 152) (.tmp 154) rfl N1 (.slice A9 j c9) j _ y0 y1 y2 rfl (ownsRow_on HX.out.1 (on_trans (on_trans H5.out (on_alloc _ _)) (on_alloc _ _))) (w5.heap.size + 1) rfl B2.out (by omega) ?hs ?_
                 case hs => rw [HN1.out]; exact (on_trans (on_trans (on_trans HX.out.2.1 H5.out) (on_alloc _ _)) (on_alloc _ _)).size
                 intro v9 w9 hr9 k9
                 obtain ⟨A8, c8, hv9⟩ := own_slice hr9
                 subst hv9
                 rw [← HM2.out] at hr9
                 have H9 := Lib.hid (And.intro hr9 k9)
                 clear hr9 k9)
              | fail)
            go_roundw
            case rel =>
              have hK1 := on_trans (on_trans (on_trans HX.out.2.1 H5.out) (on_alloc w5 (.cells #[.int .i64 y0, .int .i64 y1, .int .i64 y2] 52))) (on_alloc _ (.cells #[.int .i64 y0, .int .i64 y1, .int .i64 y2] 52))
              exact ⟨j + 1, by omega, by go_num, H9.out.1, hK1.trans (H9.out.2.below hK1.size (fun i hi e => by have h2 := (own_block3 HX.out.1 e).1; rw [HN1.out] at h2; omega))⟩
            case measure => simp [intOf]; omega
        · obtain rfl : N = j := by omega
          go_wp2_with fail
          go_ret2
          exact ⟨A9, c9, rfl, px_of_own HX.out.1, on_trans HR.out.1.bel HX.out.2.1⟩
end Go.Proofs.YtmadkpnkmkajoaaDoor
