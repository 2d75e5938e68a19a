/-
  TunedBest: the mathematics over the contracts, and the walk.
-/
import Derived.Test.YtmaffonnekgekaaCosts
import Derived.Test.YtmaffonnekgekaaLengths
namespace Go.Proofs.Ytmaffonnekgekaa
open Go.RowKit

theorem cost_sum {C : List Int} (L : List En) : ∀ k, Rang C k → costTo C L k = ((((usTo C k).map fun (v : Nat) => cnF C v * (codeOf L (v : Int)).2).sum : Nat) : Int)
  | 0, _ => rfl
  | k + 1, h => by
    have h1 := cost_sum L k (fun j hj => h j (by omega))
    have h2 := (h k (by omega)).1
    rw [costTo, h1, usTo_more, sum_map_app]
    by_cases h0 : 0 < C.getD k 0
    · rw [if_pos h0]
      have e : C.getD k 0 = ((cnF C k : Nat) : Int) := by unfold cnF; omega
      have e2 : (([k] : List Nat).map fun (v : Nat) => cnF C v * (codeOf L (v : Int)).2).sum = cnF C k * (codeOf L (k : Int)).2 := by simp
      rw [e2, e, Int.natCast_add, Int.natCast_mul]
    · rw [if_neg h0]
      have e : C.getD k 0 = 0 := by omega
      rw [e]
      simp
theorem best_cost {C B1 V1 B V L : List Int} {fin : Nat → Nat} {t1 x1 t2 x2 : Int} (hg : Good C) (ha : Any C C.length) (hs : SpecOf C B1 V1) (hL : LensOf C L fin) (h16 : ∀ v, v < 257 → fin v ≤ 16) (h1 : CostIs C B1 V1 t1 x1) (h2 : CostIs C B V t2 x2) : x1 = 0 ∧ (Valid B V → x2 = 0 → t1 ≤ t2) := by
  have hv1 := hs.valid hg ha
  have hne := usF_ne ha
  rcases h1 with ⟨a, _⟩ | ⟨_, a, _⟩ | ⟨_, _, ⟨j, j1, j2, j3⟩, _⟩ | ⟨_, _, _, ht1, hx1⟩
  · exact absurd hg a
  · exact absurd hv1 a
  · exact absurd j3 ((hs.has hg ha j).2 ⟨j1, j2⟩)
  · refine ⟨hx1, fun hv hx2 => ?_⟩
    rcases h2 with ⟨a, _⟩ | ⟨_, a, _⟩ | ⟨_, _, _, _, hx⟩ | ⟨_, _, hall, ht2, _⟩
    · exact absurd hg a
    · exact absurd hv a
    · omega
    · rw [ht1, ht2, cost_sum _ _ hg.rang, cost_sum _ _ hg.rang]
      have e : usTo C C.length = usF C := rfl
      rw [e]
      obtain ⟨fin', m, g1, g2, g3, _, gV⟩ := hs
      obtain rfl := hL.fin.only hg.counted g1
      have hsz : ((usF C).map fun (v : Nat) => cnF C v * (codeOf (codes B1 V1) (v : Int)).2).sum = ((usF C).map fun v => cnF C v * fin v).sum := by
        refine sum_map_congr fun v hv => ?_
        rw [gV]
        have := g1.sized hg.counted hne g2 g3 (fun u hu => h16 u (by
          rcases List.mem_append.1 hu with hu | hu
          · have := (mem_usF.1 hu).1; have := hg.few; omega
          · simp at hu; omega)) hv
        rw [show ints (valsTo fin 299) = (valsTo fin 299).map Int.ofNat from rfl, this]
      rw [hsz]
      have := g1.least hg.counted hv (fun v hv2 => by
        obtain ⟨h3, h4⟩ := mem_usF.1 hv2
        have h5 := hall v h3 h4
        exact fun hn => h5 ((hv.none_ (v : Int)).2 hn))
      exact Int.ofNat_le.2 this

theorem copied_row6 {w w1 w3 : World} {o : Obj} {n : Nat} {C : List Int} {v : Value} (hw : w1 = w.alloc o) (hs : w1.heap.size = w.heap.size + 1) (hown : w3.ownsRow (w.heap.size + 1) 3 1 v (0 + n) (cellsI ([] ++ C))) (hb : Below (w.heap.size + 1) ((w.alloc o).alloc (.cells #[] 3)) w3) :
    ∃ A c, v = .slice A n c ∧ Il w3 A n c C ∧ Below w1.heap.size w1 w3 := by
  rw [← hw] at hb
  rw [← hs] at hown hb
  obtain ⟨A, c, h1, h2, _, h3⟩ := copied_row hown hb
  exact ⟨A, c, h1, h2, h3⟩
/-- what the law holds on to -/
structure S4 (w wr : World) (g g1 : Nat) (B V B1 V1 C : List Int) (A2 A3 A : Option Addr) (n2 c2 n3 c3 n c : Nat) : Prop where
  box : Boxed w wr g B V A2 n2 c2
  s1 : Box wr g1 26 (specC B1 (.slice A3 n3 c3))
  v1 : Ia wr A3 n3 c3 V1
  cs : Ia wr A n c C
theorem S4.on {w wr w' : World} {g g1 : Nat} {B V B1 V1 C : List Int} {A2 A3 A : Option Addr} {n2 c2 n3 c3 n c : Nat} (h : S4 w wr g g1 B V B1 V1 C A2 A3 A n2 c2 n3 c3 n c) (k : Below wr.heap.size wr w') : S4 w w' g g1 B V B1 V1 C A2 A3 A n2 c2 n3 c3 n c :=
  ⟨h.box.on k, h.s1.on k, h.v1.on k, h.cs.on k⟩

set_option linter.unusedSimpArgs false in
set_option maxRecDepth 20000 in
set_option maxHeartbeats 3200000 in
theorem best_calls (w : World) (C : List Int) (A : Option Addr) (n c : Nat) (B V : List Int) (A2 : Option Addr) (n2 c2 : Nat) (h : Ia w A n c C) (hB : B.length = 16) (h2 : Ia w A2 n2 c2 V) :
    Calls Try.prog 6 #[.slice A n c, specV B (.slice A2 n2 c2)] w (Law w) := by
  obtain ⟨CC, hC⟩ : ∃ CC, CC = specC B (.slice A2 n2 c2) := ⟨_, rfl⟩
  have eV : specV B (.slice A2 n2 c2) = .agg CC := by rw [hC]; rfl
  rw [eV]
  obtain ⟨g, hg⟩ : ∃ g, g = w.heap.size := ⟨_, rfl⟩
  obtain ⟨w1, hw1⟩ : ∃ w1, w1 = w.alloc (.cells CC 26) := ⟨_, rfl⟩
  have hb := boxed_made (w1 := w1) (g := g) hB h2 (by rw [hw1, hC]) hg
  have c16 := hb.slice
  rw [hw1, hg] at c16
  have hsz : w1.heap.size = w.heap.size + 1 := by rw [hw1]; simp
  have hia : Ia ((w.alloc (.cells CC 26)).alloc (.cells #[] 3)) A n c C := by rw [← hw1]; exact (h.on hb.bel).alloc _
  have hrow : ((w.alloc (.cells CC 26)).alloc (.cells #[] 3)).ownsRow (w.heap.size + 1) 3 1 (.slice (some ⟨w.heap.size + 1, 0, none⟩) 0 0) 0 (cellsI []) := by
    rw [← hw1, ← hsz]
    exact World.ownsRow_made (base := w1.heap.size) (e := 3) (size := 1) w1 #[] 0 (Nat.le_refl _) (Nat.zero_le _) rfl
  have HA := Lib.hid (And.intro hrow hia)
  have HB := Lib.hid (And.intro hb (And.intro hw1 (And.intro hg (And.intro (h.on hb.bel) (And.intro hsz h.len)))))
  clear hb hw1 hg hC eV h h2 hrow hia hsz
  by_cases hn : 300 < n
  · go_enter Try.func6, Try.ntmps6
    go_wp2_with fail
    rw [← HB.out.2.1]
    refine (awake_any w1).mono ?_
    rintro e w2 ⟨rfl, b2⟩
    have H2 := Lib.hid (on_trans HB.out.1.bel b2)
    clear b2
    go_wp2
    go_ret
    exact ⟨rfl, H2.out⟩
  by_cases hn2 : 300 < n2
  · go_enter Try.func6, Try.ntmps6
    go_wp2_with fail
    rw [← HB.out.2.1]
    refine (awake_any w1).mono ?_
    rintro e w2 ⟨rfl, b2⟩
    have H2 := Lib.hid (on_trans HB.out.1.bel b2)
    clear b2
    go_wp2
    go_ret
    exact ⟨rfl, H2.out⟩
  have HN := Lib.hid (And.intro hn hn2)
  have hz := zero25
  obtain ⟨ZC, hZC⟩ : ∃ ZC, ZC = zeroC := ⟨_, rfl⟩
  have hz26 : ∀ w, (zeroValue 26).run Try.prog w = .ok (.agg ZC) w := by rw [hZC]; exact hz
  clear hz
  have HZ := Lib.hid hZC
  clear hZC
  go_enter Try.func6, Try.ntmps6
  go_wp2_with (first
    | (at_builtin; refine wpList_append_ia (o := ⟨some 28, _, _, _, _, _⟩) rfl (.tmp 26) (.tmp 27) rfl (w.heap.size + 1) (.slice (some ⟨w.heap.size + 1, 0, none⟩) 0 0) 0 [] rfl HA.out.1 A n c C rfl HA.out.2 (by omega) (by simp) ?_; intro v3 w3 hown1 b1; obtain ⟨A5, c5, rfl, hi5, bel5⟩ := copied_row6 HB.out.2.1 HB.out.2.2.2.2.1 hown1 b1; have H3 := Lib.hid (And.intro hi5 bel5); clear hown1 b1 hi5 bel5)
    | fail)
  clear c16
  have H3' := Lib.hid (And.intro (HB.out.1.on H3.out.2) (HB.out.2.2.2.1.on H3.out.2))
  rw [← HB.out.2.2.1]
  refine (spec_anyT w3 C A5 n c5 H3.out.1.ia (by omega)).mono ?_
  rintro e w4 ⟨b4, ⟨hno, rfl⟩ | ⟨hg, ha, B1, V1, A3, n3, c3, rfl, hiV, hsp, hn3, hB1⟩⟩
  · have hb0 : Box (w4.alloc (.cells ZC 26)) w4.heap.size 26 zeroC := by rw [HZ.out]; exact Box.made _ _ _
    have H4 := Lib.hid (And.intro hb0 (on_trans H3'.out.1.bel b4))
    clear hno b4 hb0
    go_wp2_with (first
      | ((with_reducible refine wpList_store_spec (o := ⟨none, _, _, _, _, _⟩) rfl (.tmp 5) (.tmp 30) rfl rfl w4.heap.size (List.replicate 16 0) (.slice none 0 0) rfl rfl zeroC H4.out.1 rfl rfl rfl ?_)
         intro w5 b5 k5
         have H5 := Lib.hid (on_trans H4.out.2 (below_stored rfl k5))
         clear b5 k5)
      | fail)
    refine (awake_any w5).mono ?_
    rintro e w6 ⟨rfl, b6⟩
    have H6 := Lib.hid (on_trans H5.out b6)
    clear b6
    go_wp2
    go_ret
    exact ⟨rfl, H6.out⟩
  have hb0 : Box (w4.alloc (.cells ZC 26)) w4.heap.size 26 zeroC := by rw [HZ.out]; exact Box.made _ _ _
  have H4 := Lib.hid (And.intro hb0 (And.intro (H3'.out.1.on b4) (And.intro (H3'.out.2.on b4) (And.intro hiV (And.intro hB1 (And.intro hg (And.intro ha hsp)))))))
  clear b4 hb0 hiV hB1 hg ha hsp
  obtain ⟨g1, hg1⟩ : ∃ g1, g1 = w4.heap.size := ⟨_, rfl⟩
  have Hg1 := Lib.hid hg1
  clear hg1
  go_wp2_with (first
    | ((with_reducible refine wpList_store_spec (o := ⟨none, _, _, _, _, _⟩) rfl (.tmp 5) (.tmp 30) rfl rfl w4.heap.size B1 (.slice A3 n3 c3) rfl rfl zeroC H4.out.1 rfl H4.out.2.2.2.2.1 rfl ?_)
       intro w5 b5 k5
       have bb5 := below_stored rfl k5
       have H5 := Lib.hid (show S4 w w5 g g1 B V B1 V1 C A2 A3 A n2 c2 n3 c3 n c from ⟨H4.out.2.1.on bb5, Hg1.out ▸ b5, (H4.out.2.2.2.1.on bb5).ia, H4.out.2.2.1.on bb5⟩)
       clear b5 k5 bb5)
    | fail)
  rw [← Hg1.out]
  refine (lengthsH_any w5 C A n c H5.out.cs H4.out.2.2.2.2.2.1).mono ?_
  rintro e w6 ⟨fin, A7, c7, L, rfl, hiL, hL, _, b6⟩
  have H6 := Lib.hid (And.intro hiL (And.intro hL (H5.out.on b6)))
  clear hiL hL b6
  go_wp2_with fail
  go_loopw [38] (fun i wr => ∃ k : Nat, k ≤ 257 ∧ i = .int .i64 (k : Int) ∧ (∀ v, v < k → fin v ≤ 16) ∧ wr = w6) (fun i _ => 257 - (intOf i).toNat)
  case atStart => exact ⟨0, Nat.zero_le _, rfl, fun v hv => absurd hv (by omega), rfl⟩
  case round =>
    obtain ⟨k, hk, rfl, h16, rfl⟩ := hrel
    have HK := Lib.hid h16
    clear h16
    by_cases hlt : k < 257
    · have hlti : (k : Int) < 257 := by omega
      obtain ⟨b7, off7, hA7, _, hc7⟩ := H6.out.1.at_ (by omega)
      have ck := hc7 k (by omega)
      rw [H6.out.2.1.at_ k hlt] at ck
      obtain ⟨x, hx⟩ : ∃ x, x = fin k := ⟨_, rfl⟩
      rw [← hx] at ck
      have HX := Lib.hid hx
      clear hc7 hx
      subst hA7
      by_cases hx16 : 16 < x
      · have hxi : (16 : Int) < (x : Int) := by omega
        go_wp2_with fail
        refine (awake_any wr).mono ?_
        rintro e w8 ⟨rfl, b8⟩
        have H8 := Lib.hid (on_trans H6.out.2.2.box.bel b8)
        clear b8
        go_wp2
        go_ret
        exact ⟨rfl, H8.out⟩
      · have hxi : ¬ (16 : Int) < (x : Int) := by omega
        go_wp2_with fail
        go_roundw
        case rel =>
          refine ⟨k + 1, by omega, by go_num, fun v hv => ?_, trivial⟩
          rcases Nat.lt_or_ge v k with h' | h'
          · exact HK.out v h'
          · obtain rfl : v = k := by omega
            rw [← HX.out]
            omega
        case measure => simp [intOf]; omega
    · have ek : k = 257 := by omega
      subst ek
      go_wp2_with (first
        | (with_reducible refine wpList_load_to (op := ⟨some 47, _, _, _, _, _⟩) rfl 26 (.tmp 3) rfl (.pointer (some ⟨g, 0, none⟩)) rfl (specV B (.slice A2 n2 c2)) (load_spec H6.out.2.2.box.box hB) ?_)
        | fail)
      refine (refCodes_any wr B V A2 n2 c2 hB H6.out.2.2.box.vals).mono ?_
      have hcod : ∀ e w', RefCodes wr B V e w' → ∃ (Ac : Option Addr) (nc cc : Nat) (ok : Bool), e = .returned (.tuple #[.slice Ac nc cc, .bool ok]) ∧ (ok = true → Valid B V) ∧ Below wr.heap.size wr w' := by
        rintro e w' ⟨hb, ⟨_, rfl⟩ | ⟨hv, Ac, nc, cc, rfl, _⟩⟩
        · exact ⟨none, 0, 0, false, rfl, (fun e => by cases e), hb⟩
        · exact ⟨Ac, nc, cc, true, rfl, fun _ => hv, hb⟩
      intro e w7 hgot
      obtain ⟨Ac, nc, cc, ok, rfl, hok, b7⟩ := hcod e w7 hgot
      have H7 := Lib.hid (And.intro hok (H6.out.2.2.on b7))
      clear hcod hgot hok b7
      go_wp2_with (first
        | (with_reducible refine wpList_load_to (op := ⟨some 52, _, _, _, _, _⟩) rfl 26 (.tmp 3) rfl (.pointer (some ⟨g, 0, none⟩)) rfl (specV B (.slice A2 n2 c2)) (load_spec H7.out.2.box.box hB) ?_)
        | fail)
      refine (refCost_any w7 B V C A2 A n2 c2 n c hB H7.out.2.box.vals H7.out.2.cs (by omega)).mono ?_
      rintro e w8 ⟨t2, x2, rfl, hc2, b8⟩
      have H8 := Lib.hid (And.intro hc2 (H7.out.2.on b8))
      clear hc2 b8
      go_wp2_with fail
      have K1 := Lib.hid H8.out.2.s1
      have HBB := Lib.hid H4.out.2.2.2.2.1
      refine wp_region_held_drew (S := fun w' => Box w' g1 26 (specC B1 (.slice A3 n3 c3))) (by kernel_rfl) (K1.out.drewN 1) fun s0 => ?_
      refine wpAnyH_take (i := 0) rfl (by kernel_rfl) (by kernel_rfl) (by kernel_rfl) (fun _ _ _ h => h) (yieldsIf_load_mid (by rfl) 26 _ rfl g1 0 rfl (cellsI B1 ++ [.slice A3 n3 c3]) _ (fun w' h => h.spec_all) Try.underlying26 rfl (by rw [spec_size, List.length_append, cellsI_len, HBB.out]; rfl)) s0 ?_
      simp only [Act.put, List.setIfInBounds_toArray, List.set_cons_zero, List.set_cons_succ]
      refine wpAnyH_take (i := 2) (v := .slice A n c) rfl (by kernel_rfl) (by kernel_rfl) (by kernel_rfl) (fun _ _ _ h => h) (Or.inl ⟨by rfl, fun w' hS => by go_simp⟩) s0 ?_
      simp only [Act.put, List.setIfInBounds_toArray, List.set_cons_zero, List.set_cons_succ]
      refine wpAnyH_ready (rs := [1]) (by kernel_rfl) (by simp) ?_
      refine AllReadyH.cons rfl (fun K hK => ?_) AllReadyH.nil
      go_simp
      refine hK.out _ _ (K1.out.alloc _) fun s1 => ?_
      clear hK K s0
      refine wpAnyH_ready (rs := [3]) (by kernel_rfl) (by simp) ?_
      refine AllReadyH.cons rfl (fun K hK => ?_) AllReadyH.nil
      refine step_append_il rfl (.tmp 59) (.tmp 60) rfl w8.heap.size (.slice (some ⟨w8.heap.size, 0, none⟩) 0 0) 0 [] rfl (World.ownsRow_made w8 #[] 0 (Nat.le_refl _) (Nat.zero_le _) rfl) A n c C rfl ((H8.out.2.cs.alloc _).drew) (by have := HN.out.1; omega) (by simp) (some 61) rfl ?_
      intro v9 w9 hown9 bq
      obtain ⟨A9, c9, hv9, hi9, _, b9⟩ := copied_row hown9 ⟨bq.os, bq.tape, bq.output, bq.size, bq.block⟩
      rw [hv9]
      clear hown9 hv9 bq
      simp only [Act.put, List.setIfInBounds_toArray, List.set_cons_zero, List.set_cons_succ]
      have H9 := Lib.hid (And.intro hi9 (H8.out.2.on b9))
      clear hi9 b9
      refine hK.out _ _ H9.out.2.s1 fun s2 => ?_
      clear hK K s1
      refine wpAnyH_ready (rs := [4]) (by kernel_rfl) (by simp) ?_
      refine AllReadyH.cons rfl (fun K hK => ?_) AllReadyH.nil
      go_simp
      refine (cost_any w9 B1 V1 C A3 A9 n3 c3 n c9 HBB.out H9.out.2.v1 (by omega) H9.out.1.ia (by have := HN.out.1; omega)).mono ?_
      rintro e w10 ⟨t1, x1, rfl, hc1, b10⟩
      obtain ⟨hx1, hle⟩ := best_cost H4.out.2.2.2.2.2.1 H4.out.2.2.2.2.2.2.1 H4.out.2.2.2.2.2.2.2 H6.out.2.1 (fun v hv => HK.out v hv) hc1 H8.out.1
      subst hx1
      have H10 := Lib.hid (And.intro hle (H9.out.2.on b10))
      clear hc1 b10 hle
      refine hK.out _ _ H10.out.2.s1 fun s3 => ?_
      clear hK K s2
      refine wpAnyH_take (i := 5) (v := .tuple #[.int .i64 t1, .int .i64 0]) rfl (by kernel_rfl) (by kernel_rfl) (by kernel_rfl) (fun _ _ _ h => h) (Or.inl ⟨by rfl, fun w' hS => by go_simp⟩) s3 ?_
      simp only [Act.put, List.setIfInBounds_toArray, List.set_cons_zero, List.set_cons_succ]
      refine wpAnyH_take (i := 6) (v := .int .i64 t1) rfl (by kernel_rfl) (by kernel_rfl) (by kernel_rfl) (fun _ _ _ h => h) (Or.inl ⟨by rfl, fun w' hS => by go_simp⟩) s3 ?_
      simp only [Act.put, List.setIfInBounds_toArray, List.set_cons_zero, List.set_cons_succ]
      refine wpAnyH_take (i := 7) (v := .int .i64 0) rfl (by kernel_rfl) (by kernel_rfl) (by kernel_rfl) (fun _ _ _ h => h) (Or.inl ⟨by rfl, fun w' hS => by go_simp⟩) s3 ?_
      simp only [Act.put, List.setIfInBounds_toArray, List.set_cons_zero, List.set_cons_succ]
      refine wpAnyH_take (i := 8) (v := .int .i64 t1) rfl (by kernel_rfl) (by kernel_rfl) (by kernel_rfl) (fun _ _ _ h => h) (Or.inl ⟨by rfl, fun w' hS => by go_simp⟩) s3 ?_
      simp only [Act.put, List.setIfInBounds_toArray, List.set_cons_zero, List.set_cons_succ]
      refine wpAnyH_take (i := 9) (v := .int .i64 0) rfl (by kernel_rfl) (by kernel_rfl) (by kernel_rfl) (fun _ _ _ h => h) (Or.inl ⟨by rfl, fun w' hS => by go_simp⟩) s3 ?_
      simp only [Act.put, List.setIfInBounds_toArray, List.set_cons_zero, List.set_cons_succ]
      refine wpAnyH_done (by kernel_rfl) ?_ _
      clear s3
      cases ok with
      | false =>
        go_wp2_with fail
        refine (awake_any w10).mono ?_
        rintro e w11 ⟨rfl, b11⟩
        have H11 := Lib.hid (on_trans H10.out.2.box.bel b11)
        clear b11
        go_wp2
        go_ret
        exact ⟨rfl, H11.out⟩
      | true =>
        by_cases hx2 : x2 = 0
        · subst hx2
          have hle : t1 ≤ t2 := H10.out.1 (H7.out.1 rfl) rfl
          go_wp2_with fail
          refine (awake_any w10).mono ?_
          rintro e w11 ⟨rfl, b11⟩
          have H11 := Lib.hid (on_trans H10.out.2.box.bel b11)
          clear b11
          go_wp2
          go_ret
          exact ⟨rfl, H11.out⟩
        · have g0 : (x2 == 0) = false := beq_eq_false_iff_ne.2 hx2
          have g2 : (x2 != 0) = true := by simpa using hx2
          go_wp2_with fail
          refine (awake_any w10).mono ?_
          rintro e w11 ⟨rfl, b11⟩
          have H11 := Lib.hid (on_trans H10.out.2.box.bel b11)
          clear b11
          go_wp2
          go_ret
          exact ⟨rfl, H11.out⟩
end Go.Proofs.Ytmaffonnekgekaa
