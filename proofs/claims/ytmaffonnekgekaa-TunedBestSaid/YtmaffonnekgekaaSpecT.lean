/-
  The contract of Spec.
-/
import Derived.Test.YtmaffonnekgekaaSpecMath
import Derived.Test.YtmaffonnekgekaaAwake5
namespace Go.Proofs.Ytmaffonnekgekaa
open Go.RowKit

/-- what Spec holds on to: its result, and the lengths -/
structure Mid (w wr : World) (r a : Nat) (L : List Int) : Prop where
  res : Box wr r 26 zeroC
  arr : Box wr a 47 (cellsI L).toArray
  bel : Below w.heap.size w wr
  ord : w.heap.size ≤ r ∧ r < a
theorem Mid.kept {w wr w' : World} {r a : Nat} {L : List Int} (h : Mid w wr r a L) {S : Nat → Prop} (k : Kept S wr w') (hS : ∀ i, i ≤ a → ¬ S i) : Mid w w' r a L := by
  have ho := h.ord
  exact ⟨k.box h.res (hS _ (by omega)), k.box h.arr (hS _ (Nat.le_refl _)), h.bel.trans (k.below h.bel.size (fun i hi => hS i (by omega))), h.ord⟩
theorem Mid.on {w wr w' : World} {r a : Nat} {L : List Int} (h : Mid w wr r a L) (k : Below wr.heap.size wr w') : Mid w w' r a L := h.kept (Kept.of_below k (fun _ => False)) (fun _ _ h => h)
theorem specC_put {B : List Int} {v : Value} (h : B.length = 16) {k : Nat} (hk : k < 16) (z : Int) : (specC B v).setIfInBounds k (.int .i64 z) = specC (B.set k z) v := by
  unfold specC
  rw [List.setIfInBounds_toArray, List.set_append_left _ _ (by rw [cellsI_len, h]; exact hk)]
  simp [cellsI, List.map_set]
theorem specC_put16 {B : List Int} {v u : Value} (h : B.length = 16) : (specC B v).setIfInBounds 16 u = specC B u := by
  unfold specC
  rw [List.setIfInBounds_toArray, List.set_append_right _ _ (by rw [cellsI_len, h]; omega), cellsI_len, h]
  rfl
theorem zeroC_size : zeroC.size = 17 := rfl
theorem any_max {C : List Int} {m : Int} (hg : Good C) (h1 : ∀ j, j < C.length → C.getD j 0 ≤ m) (h2 : ∃ j, j < C.length ∧ m = C.getD j 0) : m = 0 ↔ ¬ Any C C.length := by
  obtain ⟨j, hj, e⟩ := h2
  have h0 := (hg.rang j hj).1
  constructor
  · rintro rfl ⟨i, hi, hp⟩
    have := h1 i hi
    omega
  · intro h
    by_cases e0 : m = 0
    · exact e0
    · exact absurd ⟨j, hj, by omega⟩ h
theorem zeros_cnt (fin : Nat → Nat) (Z : List Int) (hZ : Z = List.replicate 257 0) (s : Nat) : Z.getD s 0 = (cntOf fin (List.range 0) s : Int) := by
  rw [hZ, zeros_at]
  rfl

set_option maxRecDepth 20000 in
set_option maxHeartbeats 3200000 in
theorem spec_anyT (w : World) (C : List Int) (A : Option Addr) (n c : Nat) (h : Ia w A n c C) (hn : n ≤ 300) : Calls Try.prog 10 #[.slice A n c] w (SpecGot w C) := by
  have hz := zero25
  obtain ⟨ZC, hZC⟩ : ∃ ZC, ZC = zeroC := ⟨_, rfl⟩
  have hz26 : ∀ w, (zeroValue 26).run Try.prog w = .ok (.agg ZC) w := by rw [hZC]; exact hz
  clear hz
  obtain ⟨r, hr⟩ : ∃ r, r = w.heap.size := ⟨_, rfl⟩
  obtain ⟨w1, hw1⟩ : ∃ w1, w1 = w.alloc (.cells ZC 26) := ⟨_, rfl⟩
  have hb1 : Box w1 r 26 zeroC := by rw [hw1, hr, hZC]; exact Box.made _ _ _
  have bel1 : Below w.heap.size w w1 := by rw [hw1]; exact on_alloc _ _
  have H1 := Lib.hid (And.intro hb1 (And.intro bel1 (And.intro (h.on bel1) (And.intro hw1 (And.intro hr h.len)))))
  have HZ := Lib.hid hZC
  clear hb1 bel1 hw1 hr h hZC
  go_enter Try.func10, Try.ntmps10
  go_wp2_with fail
  rw [← H1.out.2.2.2.1, ← H1.out.2.2.2.2.1]
  refine (inRange_any w1 C A n c H1.out.2.2.1 hn).mono ?_
  rintro e w2 ⟨b, rfl, hb, b2⟩
  have H2 := Lib.hid (And.intro hb (And.intro (H1.out.1.on b2) (And.intro (on_trans H1.out.2.1 b2) (H1.out.2.2.1.on b2))))
  clear hb b2
  cases b with
  | false =>
    go_wp2_with (first
      | (with_reducible refine wpList_build_to (op := ⟨some 18, _, _, _, _, _⟩) rfl 26 _ rfl (specV (List.replicate 16 0) (.slice none 0 0)) #[] (by simp) (build_zero _) ?_)
      | ((with_reducible refine wpList_store_spec (o := ⟨none, _, _, _, _, _⟩) rfl (.tmp 2) (.tmp 18) rfl rfl r (List.replicate 16 0) (.slice none 0 0) rfl rfl zeroC H2.out.2.1 rfl rfl rfl ?_)
         intro w4 b4 k4
         have H4 := Lib.hid (And.intro b4 k4)
         clear b4 k4)
      | fail)
    refine bodyPost_ret (v := .tuple #[specV (List.replicate 16 0) (.slice none 0 0), .int .i64 2]) (results_spec Try.results10 _ _ r _ _ _ rfl rfl H4.out.1 rfl) rfl ?_
    exact ⟨H2.out.2.2.1.trans (H4.out.2.below H2.out.2.2.1.size (fun i hi e => by have := H1.out.2.2.2.2.1; omega)), .inl ⟨fun hg => absurd (H2.out.1.2 hg.1) (by simp), rfl⟩⟩
  | true =>
    have HG := Lib.hid (H2.out.1.1 rfl)
    go_wp2_with fail
    refine (max_any w2 C A n c H2.out.2.2.2 hn (by have := HG.out.one; have := H1.out.2.2.2.2.2; omega)).mono ?_
    rintro e w3 ⟨m, rfl, hm1, hm2, b3⟩
    have hmx := any_max HG.out hm1 hm2
    have H3 := Lib.hid (And.intro hmx (And.intro (H2.out.2.1.on b3) (And.intro (on_trans H2.out.2.2.1 b3) (H2.out.2.2.2.on b3))))
    clear hm1 hm2 hmx b3
    by_cases hm0 : m = 0
    · subst hm0
      go_wp2_with (first
        | (with_reducible refine wpList_build_to (op := ⟨some 18, _, _, _, _, _⟩) rfl 26 _ rfl (specV (List.replicate 16 0) (.slice none 0 0)) #[] (by simp) (build_zero _) ?_)
        | ((with_reducible refine wpList_store_spec (o := ⟨none, _, _, _, _, _⟩) rfl (.tmp 2) (.tmp 18) rfl rfl r (List.replicate 16 0) (.slice none 0 0) rfl rfl zeroC H3.out.2.1 rfl rfl rfl ?_)
           intro w4 b4 k4
           have H4 := Lib.hid (And.intro b4 k4)
           clear b4 k4)
        | fail)
      refine bodyPost_ret (v := .tuple #[specV (List.replicate 16 0) (.slice none 0 0), .int .i64 2]) (results_spec Try.results10 _ _ r _ _ _ rfl rfl H4.out.1 rfl) rfl ?_
      exact ⟨H3.out.2.2.1.trans (H4.out.2.below H3.out.2.2.1.size (fun i hi e => by have := H1.out.2.2.2.2.1; omega)), .inl ⟨fun hg => H3.out.1.1 trivial hg.2, rfl⟩⟩
    · have g0 : (m == 0) = false := by simpa using hm0
      have hany : Any C C.length := by
        by_cases ha : Any C C.length
        · exact ha
        · exact absurd (H3.out.1.2 ha) hm0
      have HA := Lib.hid hany
      clear hany
      go_wp2_with fail
      refine (grow_any w3 C A n c H3.out.2.2.2 HG.out).mono ?_
      rintro e w4 ⟨fin, L, rfl, hL, b4⟩
      have hz1 := zero47
      obtain ⟨Z, hZ⟩ : ∃ Z : List Int, Z = List.replicate 257 0 := ⟨_, rfl⟩
      rw [← hZ] at hz1
      obtain ⟨Z1, hZ1⟩ : ∃ Z1, Z1 = (cellsI Z).toArray := ⟨_, rfl⟩
      rw [← hZ1] at hz1
      obtain ⟨CL, hCL⟩ : ∃ CL, CL = (cellsI L).toArray := ⟨_, rfl⟩
      rw [← hCL]
      have hZl : Z.length = 257 := by rw [hZ, List.length_replicate]
      have H4 := Lib.hid (And.intro hL (And.intro (H3.out.2.1.on b4) (And.intro (on_trans H3.out.2.2.1 b4) (And.intro hZ (And.intro hZ1 (And.intro hCL hZl))))))
      clear hL b4 hZ hZ1 hCL hZl
      have ha0 : Box (w4.alloc (.cells Z1 47)) w4.heap.size 47 Z1 := Box.made _ _ _
      have HB0 := Lib.hid ha0
      clear ha0
      go_wp2_with (first
        | ((with_reducible refine wpList_store_arr (o := ⟨none, _, _, _, _, _⟩) rfl (.tmp 4) (.tmp 20) rfl rfl w4.heap.size L (.agg CL) (by rw [H4.out.2.2.2.2.2.1]) rfl rfl Z1 HB0.out (by rw [H4.out.2.2.2.2.1]; exact arrC_size H4.out.2.2.2.2.2.2) H4.out.1.len ?_)
           intro w5 b5 k5
           have hM : Mid w w5 r w4.heap.size L := by
             have hr := H1.out.2.2.2.2.1
             have hlt := H4.out.2.1.lt
             have kk := (Kept.refl (fun i => i = w4.heap.size) w4).alloc (.cells Z1 47) |>.trans k5 (fun _ _ e => e)
             exact ⟨kk.box H4.out.2.1 (by omega), b5, H4.out.2.2.1.trans (kk.below H4.out.2.2.1.size (fun i hi e => by have := H4.out.2.2.1.size; omega)), ⟨by omega, hlt⟩⟩
           have H5 := Lib.hid (And.intro hM (load257 hM.arr.range47 H4.out.1.len))
           clear b5 k5 hM)
        | (with_reducible refine wpList_load_to (op := ⟨some 21, _, _, _, _, _⟩) rfl 47 (.tmp 4) rfl (.pointer (some ⟨w4.heap.size, 0, none⟩)) rfl (.agg CL) (by rw [H4.out.2.2.2.2.2.1]; exact load257 (H5.out.1.on (on_alloc _ _)).arr.range47 H4.out.1.len) ?_)
        | fail)
      obtain ⟨a, ha⟩ : ∃ a, a = w4.heap.size := ⟨_, rfl⟩
      obtain ⟨b, hb⟩ : ∃ b, b = w5.heap.size := ⟨_, rfl⟩
      obtain ⟨w6, hw6⟩ : ∃ w6, w6 = w5.alloc (.cells Z1 47) := ⟨_, rfl⟩
      have h6 : Mid w w6 r a L ∧ Nums w6 b 0 Z (cntOf fin (List.range 0)) ∧ a < b := by
        rw [hw6, ha, hb]
        refine ⟨H5.out.1.on (on_alloc _ _), ⟨?_, H4.out.2.2.2.2.2.2, fun s _ _ => zeros_cnt fin Z H4.out.2.2.2.1 s⟩, H5.out.1.arr.lt⟩
        rw [← H4.out.2.2.2.2.1]
        exact Box.made _ _ _
      rw [← ha, ← hb, ← hw6]
      have H6 := Lib.hid h6
      clear h6 HB0 H5 ha hb hw6
      go_loopw [22] (fun i wr => ∃ (k : Nat) (N : List Int), k ≤ 257 ∧ i = .int .i64 k ∧ Nums wr b 0 N (cntOf fin (List.range k)) ∧ Kept (fun i => i = b) w6 wr) (fun i _ => 257 - (intOf i).toNat)
      case atStart => exact ⟨0, Z, Nat.zero_le _, rfl, H6.out.2.1, Kept.refl _ _⟩
      case round =>
        obtain ⟨k, N, hk, rfl, hN, hK⟩ := hrel
        by_cases hlt : k < 257
        · have hlti : (k : Int) < 257 := by omega
          have hix := index257 wr H4.out.1.len hlt
          rw [← H4.out.2.2.2.2.2.1, H4.out.1.at_ k hlt] at hix
          obtain ⟨x, hx⟩ : ∃ x, x = fin k := ⟨_, rfl⟩
          rw [← hx] at hix
          have hx257 : x < 257 := by have := H4.out.1.few HG.out k; omega
          have c1 := hN.cell (Nat.zero_le _) hx257
          have f1 := hN.box.free x
          have g1 := hN.box.lt
          have hcl := cntOf_le fin (List.range k) x
          rw [List.length_range] at hcl
          obtain ⟨y, hy⟩ : ∃ y, y = cntOf fin (List.range k) x := ⟨_, rfl⟩
          rw [← hy] at c1 hcl
          have HR := Lib.hid (And.intro hN (And.intro hK (And.intro hix (And.intro hx hy))))
          clear hN hK hix hx hy
          go_wp2_with (first
            | (with_reducible refine wpList_index_to (op := ⟨some 24, _, _, _, _, _⟩) rfl 47 (.tmp 21) (.tmp 22) rfl (.agg CL) (.int .i64 (k : Int)) rfl rfl _ HR.out.2.2.1 ?_)
            | fail)
          go_roundw
          case rel =>
            have hp := HR.out.1.put hx257 (y + 1) ((y : Int) + 1) (by omega) 0
            have e : upd (cntOf fin (List.range k)) x (y + 1) = cntOf fin (List.range (k + 1)) := by
              funext s
              rw [cntOf_more, ← HR.out.2.2.2.1]
              unfold upd
              by_cases h : s = x
              · subst h; rw [if_pos rfl, if_pos rfl, HR.out.2.2.2.2]
              · rw [if_neg h, if_neg (fun e => h e.symm), Nat.add_zero]
            rw [e] at hp
            exact ⟨k + 1, _, by omega, by go_num, ⟨hp.box, hp.len, hp.at_⟩, HR.out.2.1.setCell (p := ⟨b, x, none⟩) (fun _ => rfl) _⟩
          case measure => simp [intOf]; omega
        · have ek : k = 257 := by omega
          subst ek
          have hne := usF_ne HA.out
          have hN1 : Nums wr b 1 N (cntOf fin (usF C ++ [256])) := ⟨hN.box, hN.len, fun s h1 h2 => by rw [hN.at_ s (Nat.zero_le _) h2, cnt_all H4.out.1.fin HG.out hne h1]⟩
          have HR := Lib.hid (And.intro hN1 (And.intro (H6.out.1.kept hK (fun i hi e => by have := H6.out.2.2; omega)) hne))
          clear hN hK hN1 hne
          go_wp2_with fail
          refine (limit_any wr b N _ _ HR.out.1 (full256 H4.out.1.fin HG.out HR.out.2.2)).mono ?_
          rintro e w8 ⟨M, m8, rfl, hM, hlim, hfull, k8⟩
          have H8 := Lib.hid (And.intro hM (And.intro hlim (And.intro hfull (HR.out.2.1.kept k8 (fun i hi e => by have := H6.out.2.2; omega)))))
          clear hM hlim hfull k8
          go_wp2_with fail
          refine (drop_any w8 b M m8 _ H8.out.1 H8.out.2.2.1).mono ?_
          rintro e w9 ⟨M2, rfl, hM2, k9⟩
          have H9 := Lib.hid (And.intro hM2 (H8.out.2.2.2.kept k9 (fun i hi e => by have := H6.out.2.2; omega)))
          clear hM2 k9
          go_wp2_with fail
          obtain ⟨d, hd⟩ : ∃ d, d = w9.heap.size := ⟨_, rfl⟩
          obtain ⟨w10, hw10⟩ : ∃ w10, w10 = w9.alloc (.cells ZC 26) := ⟨_, rfl⟩
          rw [← hd, ← hw10]
          have h10 : Box w10 d 26 (specC (List.replicate 16 0) (.slice none 0 0)) ∧ Nums w10 b 1 M2 (lessOne m8) ∧ Mid w w10 r a L ∧ b < d := by
            have hb := H9.out.1.box
            rw [hw10, hd]
            refine ⟨?_, ⟨hb.alloc _, H9.out.1.len, H9.out.1.at_⟩, H9.out.2.on (on_alloc _ _), hb.lt⟩
            rw [HZ.out]
            exact Box.made _ _ _
          have H10 := Lib.hid h10
          clear h10 hd hw10
          go_loopw [33] (fun i wr => ∃ (k : Nat) (Bk : List Int), k ≤ 16 ∧ i = .int .i64 k ∧ Box wr d 26 (specC Bk (.slice none 0 0)) ∧ Bk.length = 16 ∧ (∀ i, i < k → Bk.getD i 0 = (lessOne m8 (i + 1) : Int)) ∧ Kept (fun i => i = d) w10 wr) (fun i _ => 16 - (intOf i).toNat)
          case atStart => exact ⟨0, List.replicate 16 0, Nat.zero_le _, rfl, H10.out.1, rfl, fun i hi => absurd hi (by omega), Kept.refl _ _⟩
          case round =>
            obtain ⟨k, Bk, hk, rfl, hB, hBl, hBk, hK⟩ := hrel
            have hnb : Box wr b 47 (cellsI M2).toArray := hK.box H10.out.2.1.box (by have := H10.out.2.2.2; omega)
            have hNb : Nums wr b 1 M2 (lessOne m8) := ⟨hnb, H10.out.2.1.len, H10.out.2.1.at_⟩
            by_cases hlt : k < 16
            · have hlti : (k : Int) < 16 := by omega
              have c1 := hNb.cell (show 1 ≤ k + 1 by omega) (show k + 1 < 257 by omega)
              obtain ⟨k2, hk2⟩ : ∃ k2, k2 = k + 1 := ⟨_, rfl⟩
              rw [← hk2] at c1
              have e1 : (k : Int) + 1 = (k2 : Int) := by omega
              have hk17 : k2 < 257 := by omega
              have c2 := (hB.cell k).trans (specC_at hBl hlt)
              have f2 := hB.free k
              have g1 := hnb.lt
              have g2 := hB.lt
              obtain ⟨x, hx⟩ : ∃ x, x = lessOne m8 k2 := ⟨_, rfl⟩
              rw [← hx] at c1
              have HR := Lib.hid (And.intro hB (And.intro hBl (And.intro hBk (And.intro hK (And.intro hx hk2)))))
              clear hB hBl hBk hK hx hnb hNb hk2
              go_wp2
              go_roundw
              case rel =>
                have hp := HR.out.1.put k (.int .i64 (x : Int))
                rw [specC_put HR.out.2.1 hlt] at hp
                refine ⟨k + 1, _, by omega, by have := HR.out.2.2.2.2.2; go_num, hp, by rw [List.length_set]; exact HR.out.2.1, fun i hi => ?_, HR.out.2.2.2.1.setCell (p := ⟨d, k, none⟩) (fun _ => rfl) _⟩
                by_cases e : k = i
                · subst e
                  rw [getD_set_same _ (by have := HR.out.2.1; omega), HR.out.2.2.2.2.1, HR.out.2.2.2.2.2]
                · rw [getD_set_ne _ e]
                  exact HR.out.2.2.1 i (by omega)
              case measure => simp [intOf]; omega
            · have ek : k = 16 := by omega
              subst ek
              have hm : Mid w wr r a L := H10.out.2.2.1.kept hK (fun i hi e => by have := H10.out.2.2.2; have := H6.out.2.2; omega)
              have hda : r < a ∧ a < d := ⟨hm.ord.2, by have := H10.out.2.2.2; have := H6.out.2.2; omega⟩
              have HR := Lib.hid (And.intro hB (And.intro hBl (And.intro hBk (And.intro hm hda))))
              clear hB hBl hBk hK hnb hNb hm hda
              go_wp2_with (first
                | (with_reducible refine wpList_load_to (op := ⟨some 44, _, _, _, _, _⟩) rfl 47 (.tmp 4) rfl (.pointer (some ⟨a, 0, none⟩)) rfl (.agg CL) (by rw [H4.out.2.2.2.2.2.1]; exact load257 HR.out.2.2.2.1.arr.range47 H4.out.1.len) ?_)
                | fail)
              have HO := Lib.hid (ordered_any wr L fin H4.out.1.len H4.out.1.at_)
              rw [H4.out.2.2.2.2.2.1]
              refine HO.out.mono ?_
              rintro e w12 ⟨A2, n2, c2, rfl, hi2, hlo2, b12⟩
              have hB12 := HR.out.1.on b12
              have d16 := (hB12.cell 16).trans (specC_last HR.out.2.1)
              have e16 := hB12.free 16
              have g16 := hB12.lt
              obtain ⟨w13, hw13⟩ : ∃ w13, w13 = w12.setCell ⟨d, 16, none⟩ (.slice A2 n2 c2) := ⟨_, rfl⟩
              have k13 : Kept (fun i => i = d) w12 w13 := by rw [hw13]; exact (Kept.refl (fun i => i = d) w12).setCell (p := ⟨d, 16, none⟩) (fun _ => rfl) _
              have h13 : Box w13 d 26 (specC Bk (.slice A2 n2 c2)) := by
                have := hB12.put 16 (.slice A2 n2 c2)
                rw [specC_put16 HR.out.2.1] at this
                rw [hw13]
                exact this
              have hdw : d < wr.heap.size := HR.out.1.lt
              have hm13 : Mid w w13 r a L := (HR.out.2.2.2.1.on b12).kept k13 (fun i hi e => by have := HR.out.2.2.2.2; omega)
              have hi13 : Il w13 A2 n2 c2 (ints (valsTo fin 256)) := hi2.kept k13 (fun b off e e2 => by have := hlo2 b off e; omega)
              have H13 := Lib.hid (And.intro h13 (And.intro hm13 (And.intro hi13 (And.intro hw13 (fun b off e => by have := hlo2 b off e; show d < b; omega : ∀ b off, A2 = some ⟨b, off, none⟩ → d < b)))))
              clear hi2 hlo2 b12 hB12 k13 h13 hm13 hi13 hw13
              rw [← H4.out.2.2.2.2.2.1]
              go_wp2_with (first
                | (refine wpList_load_to (op := ⟨some 47, _, _, _, _, _⟩) rfl 26 (.tmp 8) rfl (.pointer (some ⟨d, 0, none⟩)) rfl (specV Bk (.slice A2 n2 c2)) (by rw [← H13.out.2.2.2.1]; exact load_spec H13.out.1 HR.out.2.1) ?_)
                | ((refine wpList_store_spec (o := ⟨none, _, _, _, _, _⟩) rfl (.tmp 2) (.tmp 47) rfl rfl r Bk (.slice A2 n2 c2) rfl rfl zeroC (by rw [← H13.out.2.2.2.1]; exact H13.out.2.1.res) rfl HR.out.2.1 rfl ?_)
                   intro w14 b14 k14
                   have H14 := Lib.hid (And.intro b14 k14)
                   clear b14 k14)
                | fail)
              refine bodyPost_ret (v := .tuple #[specV Bk (.slice A2 n2 c2), .int .i64 0]) (results_spec Try.results10 _ _ r _ _ _ rfl rfl H14.out.1 HR.out.2.1) rfl ?_
              have k14 : Kept (fun i => i = r) w13 w14 := by rw [H13.out.2.2.2.1]; exact H14.out.2
              refine ⟨H13.out.2.1.bel.trans (k14.below H13.out.2.1.bel.size (fun i hi e => by have := H13.out.2.1.ord; omega)), .inr ⟨HG.out, HA.out, Bk, ints (valsTo fin 256), A2, n2, c2, rfl, H13.out.2.2.1.kept k14 (fun b off e e2 => by have := H13.out.2.2.2.2 b off e; have := HR.out.2.2.2.2; omega), specOf_made H4.out.1 HG.out (usF_ne HA.out) H8.out.2.1 HR.out.2.1 (fun i hi => HR.out.2.2.1 i hi) rfl, ?_, HR.out.2.1⟩⟩
              have h1 := H13.out.2.2.1.len
              rw [ints_len] at h1
              have h2 := valsTo_few fin 256
              omega
end Go.Proofs.Ytmaffonnekgekaa
