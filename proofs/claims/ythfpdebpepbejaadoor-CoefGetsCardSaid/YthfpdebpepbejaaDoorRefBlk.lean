/-
  The contract of the reference's Get of a block.
-/
import Derived.Test.YthfpdebpepbejaaDoorRefBase
namespace Go.Proofs.YthfpdebpepbejaaDoor
open Go.RowKit

section
variable (w : World) (K : Nat → Prop) (Ac : Option Addr) (nc cc : Nat) (Ac' : Option Addr) (nc' cc' : Nat) (B V B' V' : List Int) (A : Option Addr) (n c : Nat) (l : List Int) (s : St) (Al : Option Addr) (cl : Nat) (prev : Int)
set_option maxRecDepth 10000 in
set_option maxHeartbeats 6400000 in
theorem refGetB_any (hT : Te w Ac nc (codes B V)) (hnc : nc ≤ 256) (hT' : Te w Ac' nc' (codes B' V')) (hnc' : nc' ≤ 256) (hv : Valid B V) (hv' : Valid B' V') (h : Sl w K A n c l) (hI : Il w Al s.c cl (dig s.v s.c)) (hok : s.ok l.length) (hn : n ≤ 5000) :
    Calls Tryd.prog 30 #[refV A n c s Al cl, .slice Ac nc cc, .slice Ac' nc' cc', .int .i64 prev] w (RefGotB w A n c (blockF (codes B V) (codes B' V') l s prev)) := by
  obtain ⟨R, hR⟩ : ∃ R, R = blockF (codes B V) (codes B' V') l s prev := ⟨_, rfl⟩
  rw [← hR]
  have HR := Lib.hid hR
  obtain ⟨C, hC⟩ := rdC_made A n c s Al cl
  rw [hC.val]
  obtain ⟨N, hN⟩ : ∃ N, N = noCells := ⟨_, rfl⟩
  have hz : ∀ w, (zeroValue 61).run Tryd.prog w = .ok (.agg N) w := fun w => by rw [hN]; kernel_rfl
  have hNs : N.size = 3 := by rw [hN]; rfl
  obtain ⟨Z, hZ⟩ : ∃ Z, Z = (cellsI zeros64).toArray := ⟨_, rfl⟩
  have hz23 : ∀ w, (zeroValue 23).run Tryd.prog w = .ok (.agg Z) w := fun w => by rw [hZ]; exact zero23 w
  have hbd : ∀ w, (Instr.build 23 #[]).run Tryd.prog w = .ok (.agg Z) w := fun w => by rw [hZ]; exact build0 w
  have hZs : Z.size = 64 := by rw [hZ]; rfl
  have HZV := Lib.hid (show Value.agg Z = blkV zeros64 by rw [hZ]; rfl)
  obtain ⟨w0, hw0⟩ : ∃ w0, w0 = (((w.alloc (.cells C 61)).alloc (.cells N 61)).alloc (.cells Z 23)).alloc (.cells Z 23) := ⟨_, rfl⟩
  have bel : Below w.heap.size w w0 := by rw [hw0]; exact on_trans (on_trans (on_trans (on_alloc _ _) (on_alloc _ _)) (on_alloc _ _)) (on_alloc _ _)
  have b4 : Box w0 w.heap.size 61 C := by rw [hw0]; exact (((Box.made w 61 C).alloc _).alloc _).alloc _
  have b8 : Box w0 (w.heap.size + 1) 61 N := by rw [hw0]; have := ((Box.made (w.alloc (.cells C 61)) 61 N).alloc (.cells Z 23)).alloc (.cells Z 23); simpa using this
  have b9 : Box w0 (w.heap.size + 1 + 1) 23 Z := by rw [hw0]; have := (Box.made ((w.alloc (.cells C 61)).alloc (.cells N 61)) 23 Z).alloc (.cells Z 23); simpa using this
  have b11 : Box w0 (w.heap.size + 1 + 1 + 1) 23 Z := by rw [hw0]; have := Box.made (((w.alloc (.cells C 61)).alloc (.cells N 61)).alloc (.cells Z 23)) 23 Z; simpa using this
  have H0 := Lib.hid (And.intro b4 (And.intro b8 (And.intro b9 (And.intro b11 (And.intro bel hw0)))))
  have HI := Lib.hid (And.intro hT (And.intro hT' (And.intro hnc (And.intro hnc' (And.intro hv (And.intro hv' (And.intro h (And.intro hI (And.intro hok (And.intro hn hC))))))))))
  clear hR hN hZ hw0 bel b4 b8 b9 b11 hT hnc hT' hnc' hv hv' h hI hok hn hC
  go_enter Tryd.func30, Tryd.ntmps30
  go_wp2_with (first
    | ((with_reducible refine wpList_store_blk (o := ⟨none, _, _, _, _, _⟩) arr23_size rfl (.tmp 11) (.tmp 24) rfl rfl (w.heap.size + 1 + 1 + 1) zeros64 rfl ?hy Z ?hg hZs rfl ?_)
       case hy => exact HZV.out
       case hg => rw [← H0.out.2.2.2.2.2]; exact H0.out.2.2.2.1
       rw [← H0.out.2.2.2.2.2]
       intro w1 b1 k1
       have H1 := Lib.hid (RGS.mk (w := w) (g4 := w.heap.size) (g8 := w.heap.size + 1) (g9 := w.heap.size + 1 + 1) (g11 := w.heap.size + 1 + 1 + 1) (l := l) (s := s) (k1.box H0.out.1 (by omega)) HI.out.2.2.2.2.2.2.2.2.2.2 (k1.box H0.out.2.1 (by omega)) (k1.box H0.out.2.2.1 (by omega)) ⟨b1, rfl⟩ (il_far23 (HI.out.2.2.2.2.2.2.2.1.on H0.out.2.2.2.2.1) H0.out.2.2.2.1 k1) HI.out.2.2.2.2.2.2.2.2.1 (H0.out.2.2.2.2.1.trans (k1.below H0.out.2.2.2.2.1.size (fun i hi e => by omega))))
       clear b1 k1)
    | fail)
  obtain ⟨g4, hg4⟩ : ∃ g4, g4 = w.heap.size := ⟨_, rfl⟩
  obtain ⟨g8, hg8⟩ : ∃ g8, g8 = w.heap.size + 1 := ⟨_, rfl⟩
  obtain ⟨g9, hg9⟩ : ∃ g9, g9 = w.heap.size + 1 + 1 := ⟨_, rfl⟩
  obtain ⟨g11, hg11⟩ : ∃ g11, g11 = w.heap.size + 1 + 1 + 1 := ⟨_, rfl⟩
  rw [← hg11, ← hg9, ← hg8, ← hg4] at H1 ⊢
  have hd1 : g8 ≠ g4 := by omega
  have hd2 : g9 ≠ g4 := by omega
  have hd3 : g11 ≠ g4 := by omega
  have hd4 : g4 ≠ g8 := by omega
  have hd5 : g9 ≠ g8 := by omega
  have hd6 : g11 ≠ g8 := by omega
  have hd7 : g4 ≠ g9 := by omega
  have hd8 : g8 ≠ g9 := by omega
  have hd9 : g11 ≠ g9 := by omega
  have hd0 : w.heap.size ≤ g4 := by omega
  have hle8 : w.heap.size ≤ g8 := by omega
  have hle9 : w.heap.size ≤ g9 := by omega
  have HD := Lib.hid (And.intro hd1 (And.intro hd2 (And.intro hd3 (And.intro hd0 (And.intro hd4 (And.intro hd5 (And.intro hd6 (And.intro hd7 (And.intro hd8 (And.intro hd9 (And.intro hle8 (And.intro hle9 (And.intro hNs hZs)))))))))))))
  have HG := Lib.hid (And.intro hg4 (And.intro hg8 (And.intro hg9 hg11)))
  have HE := Lib.hid hz
  clear hg4 hg8 hg9 hg11 HE
  by_cases hin : In prev
  · have HIN := Lib.hid hin
    have hd : decide (In prev) = true := by simpa using hin
    have HDD := Lib.hid hd
    have hprev := hin
    unfold In at hprev
    obtain ⟨hp0, hp1⟩ := hprev
    clear hd hin
    have hval := getsF_val (l := l) (valid_vals HI.out.2.2.2.2.1) 16 s 0 0
    have hok1 := getsF_ok (L := codes B V) HI.out.2.2.2.2.2.2.1.bts.fit 16 s 0 0 HI.out.2.2.2.2.2.2.2.2.1
    have HC1 := Lib.hid (refGetT_any w1 (fun _ => True) Ac nc cc (codes B V) A n c l s Al cl (HI.out.1.on H1.out.bel) (by have := HI.out.2.2.1; omega) (HI.out.2.2.2.2.2.2.1.on H1.out.bel) H1.out.row H1.out.ok HI.out.2.2.2.2.2.2.2.2.2.1)
    obtain ⟨G, hG⟩ : ∃ G, G = getsF (codes B V) l 16 s 0 0 := ⟨_, rfl⟩
    rw [← hG] at HC1 hval hok1
    rw [H1.out.rc.val] at HC1
    obtain ⟨s1, v1, E1⟩ := G
    dsimp only at hval hok1
    have HGS := Lib.hid (And.intro hG hok1)
    obtain ⟨hv0, hv1⟩ := hval
    obtain ⟨x1, hx1⟩ := Int.eq_ofNat_of_zero_le hv0
    subst hx1
    clear hG hok1
    go_wp2_with fail
    refine (refIn_any w1 prev).mono ?_
    rintro e w2 ⟨rfl, rfl⟩
    rw [HDD.out]
    go_wp2_with (first
      | (with_reducible refine wpList_load_to (op := ⟨some 32, _, _, _, _, _⟩) rfl 61 (.tmp 4) rfl (.pointer (some ⟨g4, 0, none⟩)) rfl (.agg C) (load61 H1.out.b4 H1.out.rc.size) ?_)
      | fail)
    refine HC1.out.mono ?_
    rintro e w2 ⟨Al2, cl2, rfl, hI2, b2⟩
    dsimp only at hI2 ⊢
    obtain ⟨C2, hC2⟩ := rdC_made A n c s1 Al2 cl2
    rw [hC2.val]
    have H2 := Lib.hid (H1.out.on b2)
    have HC2 := Lib.hid (And.intro hC2 hI2)
    clear hI2 b2 hC2 HC1
    by_cases h0 : E1 = 0
    · by_cases h11 : 11 < (x1 : Int)
      · subst h0
        have hRp := blockF_first (La := codes B' V') HIN.out (firstF_form HGS.out.1 rfl h11).symm (show (4 : Int) ≠ 0 by decide)
        rw [← HR.out] at hRp
        have HRP := Lib.hid hRp
        clear hRp
        go_wp2_with (first
          | ((with_reducible refine wpList_store_61 (o := ⟨none, _, _, _, _, _⟩) rfl (.tmp 4) (.tmp 34) rfl rfl g4 C2 rfl rfl C H2.out.b4 H2.out.rc.size HC2.out.1.size HC2.out.1.one ?_)
             intro w3 b3 k3
             have H3 := Lib.hid (H2.out.move k3 b3 HC2.out.1 HC2.out.2 HGS.out.2 hd0 hd1 hd2 hd3)
             clear b3 k3)
          | fail)
        have Q0 := Lib.hid (And.intro H3.out.b4 (And.intro H3.out.b11 (And.intro H3.out.b8 H3.out.b9)))
        refine wp_region_held_drew (S := fun w' => Box w' g4 61 C2 ∧ Blk w' g11 zeros64) (by kernel_rfl) ⟨Q0.out.1.drewN 1, Q0.out.2.1.on (on_drew _)⟩ fun q0 => ?_
        refine take_to (i := 0) (v := .agg C2) rfl (by kernel_rfl) (by kernel_rfl) (by kernel_rfl) (fun _ _ _ h => h) (yieldsIf_load (by rfl) 61 (.tmp 4) rfl (.pointer (some ⟨g4, 0, none⟩)) rfl (.agg C2) (fun w' h => load61 h.1 H3.out.rc.size)) q0 (some 44) rfl ?_
        try simp only [Act.put, List.setIfInBounds_toArray, List.set_cons_zero, List.set_cons_succ]
        refine take_to (i := 1) (v := blkV zeros64) rfl (by kernel_rfl) (by kernel_rfl) (by kernel_rfl) (fun _ _ _ h => h) (yieldsIf_load (by rfl) 23 (.tmp 11) rfl (.pointer (some ⟨g11, 0, none⟩)) rfl (blkV zeros64) (fun w' h => h.2.load)) q0 (some 45) rfl ?_
        try simp only [Act.put, List.setIfInBounds_toArray, List.set_cons_zero, List.set_cons_succ]
        refine wpAnyH_ready (rs := [2]) (by kernel_rfl) (by simp) ?_
        refine AllReadyH.cons rfl (fun K hK => ?_) AllReadyH.nil
        rw [if_pos (by rfl)]
        refine wp_store_61 _ _ rfl rfl g8 C2 rfl rfl N (Q0.out.2.2.1.drewN 1) hNs H3.out.rc.size H3.out.rc.one fun w21 b21 k21 => ?_
        have Q1 := Lib.hid (And.intro b21 (And.intro (k21.box (Q0.out.1.drewN 1) (by omega)) (And.intro ((Q0.out.2.1.on (on_drew _)).kept k21 (by omega)) (And.intro (k21.box (Q0.out.2.2.2.drewN 1) (by omega)) (And.intro (H3.out.bel.drew.trans (k21.below H3.out.bel.size (fun i hi e => by omega))) (il_far61 (H3.out.row.on (on_drew _)) (Q0.out.2.2.1.drewN 1) k21))))))
        clear b21 k21
        refine hK.out _ _ ⟨Q1.out.2.1, Q1.out.2.2.1⟩ fun _ => ?_
        clear hK K
        try simp only [Act.put, List.setIfInBounds_toArray, List.set_cons_zero, List.set_cons_succ]
        refine wpAnyH_ready (rs := [3]) (by kernel_rfl) (by simp) ?_
        refine AllReadyH.cons rfl (fun K hK => ?_) AllReadyH.nil
        rw [if_pos (by rfl)]
        refine wp_store_blk arr23_size _ _ rfl rfl g9 zeros64 rfl rfl Z Q1.out.2.2.2.1 hZs Q1.out.2.2.1.len fun w22 b22 k22 => ?_
        have Q2 := Lib.hid (And.intro (k22.box Q1.out.1 (by omega)) (And.intro b22 (And.intro (Q1.out.2.2.2.2.1.trans (k22.below Q1.out.2.2.2.2.1.size (fun i hi e => by omega))) (il_far23 Q1.out.2.2.2.2.2 Q1.out.2.2.2.1 k22))))
        have q2 : Box w22 g4 61 C2 ∧ Blk w22 g11 zeros64 := ⟨k22.box Q1.out.2.1 (by omega), Q1.out.2.2.1.kept k22 (by omega)⟩
        clear b22 k22
        refine hK.out _ _ q2 fun _ => ?_
        clear hK K
        try simp only [Act.put, List.setIfInBounds_toArray, List.set_cons_zero, List.set_cons_succ]
        refine take_to (i := 4) (v := .int .i64 4) rfl (by kernel_rfl) (by kernel_rfl) (by kernel_rfl) (fun _ _ _ h => h) (Or.inl ⟨by rfl, fun w' hS => by go_simp⟩) q2 (some 10) rfl ?_
        try simp only [Act.put, List.setIfInBounds_toArray, List.set_cons_zero, List.set_cons_succ]
        refine wpAnyH_done (by kernel_rfl) ?_ _
        clear q0 q2
        go_wp2
        refine bodyPost_ret (v := .tuple #[.agg C2, blkV zeros64, .int .i64 4]) (results_cct (fn := Tryd.f30) Tryd.results30 _ _ g8 g9 _ _ _ rfl rfl rfl (loadVar_61 Q2.out.1 H3.out.rc.size) (loadVar_blk Q2.out.2.1 H3.out.b11.len)) rfl ?_
        rw [HRP.out]
        exact ⟨_, _, by rw [H3.out.rc.val], Q2.out.2.2.2, Q2.out.2.2.1⟩
      · subst h0
        have hsm := numF_small HI.out.2.2.2.2.2.2.1.bts.fit HGS.out.2 (k := x1) (by omega)
        have hok2 := numF_ok HI.out.2.2.2.2.2.2.1.bts.fit HGS.out.2 x1
        have hfn := firstF_num HGS.out.1 rfl h11
        dsimp only at hfn
        rw [Int.toNat_natCast] at hfn
        obtain ⟨G2, hG2⟩ : ∃ G2, G2 = numF l s1 x1 := ⟨_, rfl⟩
        rw [← hG2] at hsm hok2 hfn
        obtain ⟨s2, d, E2⟩ := G2
        dsimp only at hsm hok2
        obtain ⟨hs0, hs1⟩ := hsm
        have HG2 := Lib.hid (And.intro hfn (And.intro hok2 hG2))
        clear hG2 hok2 hfn
        go_wp2_with (first
          | ((with_reducible refine wpList_store_61 (o := ⟨none, _, _, _, _, _⟩) rfl (.tmp 4) (.tmp 34) rfl rfl g4 C2 rfl rfl C H2.out.b4 H2.out.rc.size HC2.out.1.size HC2.out.1.one ?_)
             intro w3 b3 k3
             have H3 := Lib.hid (H2.out.move k3 b3 HC2.out.1 HC2.out.2 HGS.out.2 hd0 hd1 hd2 hd3)
             clear b3 k3)
          | (with_reducible refine wpList_load_to (op := ⟨some 47, _, _, _, _, _⟩) rfl 61 (.tmp 4) rfl (.pointer (some ⟨g4, 0, none⟩)) rfl (.agg C2) (load61 H3.out.b4 H3.out.rc.size) ?_)
          | fail)
        have HN2 := Lib.hid (refNum_any w3 (fun _ => True) A n c l s1 Al2 cl2 x1 (HI.out.2.2.2.2.2.2.1.on H3.out.bel) H3.out.row H3.out.ok HI.out.2.2.2.2.2.2.2.2.2.1 (by omega))
        rw [← HG2.out.2.2, H3.out.rc.val] at HN2
        refine HN2.out.mono ?_
        rintro e w4 ⟨Al4, cl4, rfl, hI4, b4⟩
        dsimp only at hI4 ⊢
        obtain ⟨C4, hC4⟩ := rdC_made A n c s2 Al4 cl4
        rw [hC4.val]
        have H4 := Lib.hid (H3.out.on b4)
        have HC4 := Lib.hid (And.intro hC4 hI4)
        clear hI4 b4 hC4 HN2
        by_cases h2 : E2 = 0
        · subst h2
          go_wp2_with (first
            | ((with_reducible refine wpList_store_61 (o := ⟨none, _, _, _, _, _⟩) rfl (.tmp 4) (.tmp 50) rfl rfl g4 C4 rfl rfl C2 H4.out.b4 H4.out.rc.size HC4.out.1.size HC4.out.1.one ?_)
               intro w5 b5 k5
               have H5 := Lib.hid (H4.out.move k5 b5 HC4.out.1 HC4.out.2 HG2.out.2.1 hd0 hd1 hd2 hd3)
               clear b5 k5)
            | ((with_reducible refine wpList_store_blk (o := ⟨none, _, _, _, _, _⟩) arr23_size rfl (.tmp 15) (.tmp 58) rfl rfl w5.heap.size zeros64 rfl ?hy Z (Box.made _ _ _) hZs rfl ?_)
               case hy => exact HZV.out
               intro w6 b6 k6
               have H6 := Lib.hid (And.intro (Blk.mk b6 rfl) ((on_alloc w5 (.cells Z 23)).trans (k6.below (by simp) (fun i hi e => by omega))))
               have f6 := H6.out.1.box.free 0
               have c6 := H6.out.1.cell (k := 0) (by omega)
               clear b6 k6)
            | fail)
          have h7b := (H6.out.1.put 0 (prev + d))
          have h7l := H6.out.2.setCell (p := ⟨w5.heap.size, 0, none⟩) (Nat.le_refl _) (.int .i64 (prev + d))
          obtain ⟨w7, hw7⟩ : ∃ w7, w7 = w6.setCell ⟨w5.heap.size, 0, none⟩ (.int .i64 (prev + d)) := ⟨_, rfl⟩
          rw [← hw7] at h7b h7l ⊢
          have H7 := Lib.hid (And.intro (H5.out.on h7l) (And.intro h7b h7l))
          clear h7b h7l hw7 f6 c6
          obtain ⟨g15, hg15⟩ : ∃ g15, g15 = w5.heap.size := ⟨_, rfl⟩
          rw [← hg15] at H7 ⊢
          have hd15 : w.heap.size + 4 ≤ g15 := by
            have h1 := H5.out.b11.box.lt
            have h2 := HG.out.2.2.2
            omega
          have he4 : g15 ≠ g4 := by have := HG.out.1; omega
          have he8 : g15 ≠ g8 := by have := HG.out.2.1; omega
          have he9 : g15 ≠ g9 := by have := HG.out.2.2.1; omega
          have he15 : w.heap.size ≤ g15 := by omega
          have he11 : g15 ≠ g11 := by have := HG.out.2.2.2; omega
          clear hd15 hg15
          obtain ⟨O, hO⟩ : ∃ O, O = othersG (codes B' V') l 63 1 s2 ((prev + d) :: List.replicate 63 0) := ⟨_, rfl⟩
          have HO := Lib.hid hO
          refine (refOrder_any w7).mono ?_
          rintro e w8 ⟨A16, c16, rfl, hI16, -, b8⟩
          obtain ⟨bo, oo, hA16, -, -⟩ := hI16.at_ (by omega)
          subst hA16
          have hset : (zeros64.set 0 (prev + d)) = (prev + d) :: List.replicate 63 0 := rfl
          have H8 := Lib.hid (RGL.mk (H7.out.1.on b8) (show Blk w8 g15 ((prev + d) :: List.replicate 63 0) from H7.out.2.1.on b8) hI16 hO.symm (show 64 ≤ 1 + 63 by omega))
          clear hI16 b8 hset hO
          go_wp2_with fail
          go_loopw [17] (fun i wr => ∃ (k f : Nat) (s : St) (Al : Option Addr) (cl : Nat) (C : Array Value) (b : List Int), k ≤ 100 ∧ i = .int .i64 (k : Int) ∧ RGL w wr g4 g8 g9 g11 A n c l N Z s Al cl C g15 (codes B' V') b bo oo c16 O k f) (fun i _ => 200 - (intOf i).toNat)
          case atStart => exact ⟨1, 63, s2, _, _, _, _, by omega, rfl, H8.out⟩
          case round =>
            obtain ⟨k, f, sk, Alk, clk, Ck, bk, hk, rfl, hP⟩ := hrel
            have HP := Lib.hid hP
            clear hP
            by_cases hlt : k < 64
            · have hki : (k : Int) < 64 := by omega
              have hval2 := getsF_val (l := l) (valid_vals HI.out.2.2.2.2.2.1) 16 sk 0 0
              have hok9 := getsF_ok (L := codes B' V') HI.out.2.2.2.2.2.2.1.bts.fit 16 sk 0 0 HP.out.rgs.ok
              have HCk := Lib.hid (refGetT_any wr (fun _ => True) Ac' nc' cc' (codes B' V') A n c l sk Alk clk (HI.out.2.1.on HP.out.rgs.bel) (by have := HI.out.2.2.2.1; omega) (HI.out.2.2.2.2.2.2.1.on HP.out.rgs.bel) HP.out.rgs.row HP.out.rgs.ok HI.out.2.2.2.2.2.2.2.2.2.1)
              obtain ⟨G9, hG9⟩ : ∃ G9, G9 = getsF (codes B' V') l 16 sk 0 0 := ⟨_, rfl⟩
              rw [← hG9] at HCk hval2 hok9
              rw [HP.out.rgs.rc.val] at HCk
              obtain ⟨f', hf'⟩ : ∃ f', f = f' + 1 := ⟨f - 1, by have := HP.out.fuel; omega⟩
              have hres := HP.out.res
              rw [hf'] at hres
              have HRES := Lib.hid hres
              have HF' := Lib.hid hf'
              obtain ⟨s9, v9, E9⟩ := G9
              dsimp only at hval2 hok9
              have HGS2 := Lib.hid hG9
              have HOK := Lib.hid hok9
              obtain ⟨hv20, hv21⟩ := hval2
              obtain ⟨x, hx⟩ := Int.eq_ofNat_of_zero_le hv20
              subst hx
              clear hG9 hok9 hres hf'
              go_wp2_with (first
                | (with_reducible refine wpList_load_to (op := ⟨some 68, _, _, _, _, _⟩) rfl 61 (.tmp 4) rfl (.pointer (some ⟨g4, 0, none⟩)) rfl (.agg Ck) (load61 HP.out.rgs.b4 HP.out.rgs.rc.size) ?_)
                | fail)
              refine HCk.out.mono ?_
              rintro e w12 ⟨Al12, cl12, rfl, hI12, b12⟩
              dsimp only at hI12 ⊢
              obtain ⟨C12, hC12⟩ := rdC_made A n c s9 Al12 cl12
              rw [hC12.val]
              have H12 := Lib.hid (HP.out.on b12)
              have HC12 := Lib.hid (And.intro hC12 hI12)
              have h18s := H12.out.rgs.b4.lt
              have h18a := H12.out.rgs.b8.lt
              have h18b := H12.out.rgs.b9.lt
              have h18c := H12.out.rgs.b11.box.lt
              have h18d := H12.out.out_.box.lt
              have H18 := Lib.hid (show w12.heap.size ≠ g4 ∧ w12.heap.size ≠ g8 ∧ w12.heap.size ≠ g9 ∧ w12.heap.size ≠ g11 ∧ w12.heap.size ≠ g15 ∧ w.heap.size ≤ w12.heap.size from ⟨by omega, by omega, by omega, by omega, by omega, H12.out.rgs.bel.size⟩)
              clear hI12 b12 hC12 HCk h18s h18a h18b h18c h18d
              by_cases h9 : E9 = 0
              · subst h9
                by_cases hx0 : (x : Int) = 0
                · have hO := othersG_stop (L := codes B' V') (f := f') (b := bk) HGS2.out hlt rfl hx0
                  rw [HRES.out] at hO
                  have HO2 := Lib.hid hO.symm
                  clear hO HGS2
                  have hx00 : x = 0 := by omega
                  subst hx00
                  clear hx0
                  have hres2 := othersG_end (L := codes B' V') (l := l) (f := 64) (i := 64) (s := s9) (b := bk) (by omega)
                  rw [HO2.out] at hres2
                  have HRL := Lib.hid hres2
                  clear hres2
                  go_wp2_with (first
                    | ((with_reducible refine wpList_store_61 (o := ⟨none, _, _, _, _, _⟩) rfl (.tmp 18) (.tmp 70) rfl rfl w12.heap.size C12 rfl rfl N (Box.made _ _ _) hNs HC12.out.1.size HC12.out.1.one ?_)
                       intro w13 b13 k13
                       have H13 := Lib.hid (And.intro (H12.out.on ((on_alloc w12 (.cells N 61)).trans (k13.below (by simp) (fun i hi e => by omega)))) (And.intro b13 (HC12.out.2.on ((on_alloc w12 (.cells N 61)).trans (k13.below (by simp) (fun i hi e => by omega))))))
                       clear b13 k13)
                    | (with_reducible refine wpList_load_to (op := ⟨some 73, _, _, _, _, _⟩) rfl 61 (.tmp 18) rfl (.pointer (some ⟨w12.heap.size, 0, none⟩)) rfl (.agg C12) (load61 H13.out.2.1 HC12.out.1.size) ?_)
                    | ((with_reducible refine wpList_store_61 (o := ⟨none, _, _, _, _, _⟩) rfl (.tmp 4) (.tmp 73) rfl rfl g4 C12 rfl rfl Ck H13.out.1.rgs.b4 H13.out.1.rgs.rc.size HC12.out.1.size HC12.out.1.one ?_)
                       intro w14 b14 k14
                       have H14 := Lib.hid (And.intro (H13.out.1.rgs.move k14 b14 HC12.out.1 H13.out.2.2 HOK.out hd0 hd1 hd2 hd3) (And.intro (H13.out.1.out_.kept k14 he4) (And.intro (il_far61 H13.out.1.ord H13.out.1.rgs.b4 k14) (k14.box H13.out.2.1 H18.out.1))))
                       have HBK := Lib.hid (RGL.mk H14.out.1 H14.out.2.1 H14.out.2.2.1 HRL.out (by omega))
                       clear b14 k14)
                    | (with_reducible refine wpList_load_to (op := ⟨some 127, _, _, _, _, _⟩) rfl 23 (.tmp 15) rfl (.pointer (some ⟨g15, 0, none⟩)) rfl (blkV bk) HBK.out.out_.load ?_)
                    | fail)
                  refine (refRight_any w14 bk HBK.out.out_.len).mono ?_
                  rintro e w30 ⟨rfl, b30⟩
                  have H30 := Lib.hid (HBK.out.on b30)
                  clear b30
                  by_cases hrr : RightB bk
                  · have hd : decide (RightB bk) = true := by simpa using hrr
                    have hRp := blockF_done (La := codes B' V') HIN.out HG2.out.1.symm rfl HO.out (by rw [← HO2.out]) (by rw [← HO2.out]; exact hrr)
                    rw [← HR.out, ← HO2.out] at hRp
                    have HRP := Lib.hid hRp
                    rw [hd]
                    clear hRp hd hrr
                    go_wp2_with fail
                    have Q0 := Lib.hid (And.intro H30.out.rgs.b4 (And.intro H30.out.out_ (And.intro H30.out.rgs.b8 H30.out.rgs.b9)))
                    refine wp_region_held_drew (S := fun w' => Box w' g4 61 C12 ∧ Blk w' g15 bk) (by kernel_rfl) ⟨Q0.out.1.drewN 1, Q0.out.2.1.on (on_drew _)⟩ fun q0 => ?_
                    refine take_to (i := 0) (v := .agg C12) rfl (by kernel_rfl) (by kernel_rfl) (by kernel_rfl) (fun _ _ _ h => h) (yieldsIf_load (by rfl) 61 (.tmp 4) rfl (.pointer (some ⟨g4, 0, none⟩)) rfl (.agg C12) (fun w' h => load61 h.1 H30.out.rgs.rc.size)) q0 (some 132) rfl ?_
                    try simp only [Act.put, List.setIfInBounds_toArray, List.set_cons_zero, List.set_cons_succ]
                    refine take_to (i := 1) (v := blkV bk) rfl (by kernel_rfl) (by kernel_rfl) (by kernel_rfl) (fun _ _ _ h => h) (yieldsIf_load (by rfl) 23 (.tmp 15) rfl (.pointer (some ⟨g15, 0, none⟩)) rfl (blkV bk) (fun w' h => h.2.load)) q0 (some 133) rfl ?_
                    try simp only [Act.put, List.setIfInBounds_toArray, List.set_cons_zero, List.set_cons_succ]
                    refine wpAnyH_ready (rs := [2]) (by kernel_rfl) (by simp) ?_
                    refine AllReadyH.cons rfl (fun K hK => ?_) AllReadyH.nil
                    rw [if_pos (by rfl)]
                    refine wp_store_61 _ _ rfl rfl g8 C12 rfl rfl N (Q0.out.2.2.1.drewN 1) hNs H30.out.rgs.rc.size H30.out.rgs.rc.one fun w21 b21 k21 => ?_
                    have Q1 := Lib.hid (And.intro b21 (And.intro (k21.box (Q0.out.1.drewN 1) (by omega)) (And.intro ((Q0.out.2.1.on (on_drew _)).kept k21 (by omega)) (And.intro (k21.box (Q0.out.2.2.2.drewN 1) (by omega)) (And.intro (H30.out.rgs.bel.drew.trans (k21.below H30.out.rgs.bel.size (fun i hi e => by omega))) (il_far61 (H30.out.rgs.row.on (on_drew _)) (Q0.out.2.2.1.drewN 1) k21))))))
                    clear b21 k21
                    refine hK.out _ _ ⟨Q1.out.2.1, Q1.out.2.2.1⟩ fun _ => ?_
                    clear hK K
                    try simp only [Act.put, List.setIfInBounds_toArray, List.set_cons_zero, List.set_cons_succ]
                    refine wpAnyH_ready (rs := [3]) (by kernel_rfl) (by simp) ?_
                    refine AllReadyH.cons rfl (fun K hK => ?_) AllReadyH.nil
                    rw [if_pos (by rfl)]
                    refine wp_store_blk arr23_size _ _ rfl rfl g9 bk rfl rfl Z Q1.out.2.2.2.1 hZs Q1.out.2.2.1.len fun w22 b22 k22 => ?_
                    have Q2 := Lib.hid (And.intro (k22.box Q1.out.1 (by omega)) (And.intro b22 (And.intro (Q1.out.2.2.2.2.1.trans (k22.below Q1.out.2.2.2.2.1.size (fun i hi e => by omega))) (il_far23 Q1.out.2.2.2.2.2 Q1.out.2.2.2.1 k22))))
                    have q2 : Box w22 g4 61 C12 ∧ Blk w22 g15 bk := ⟨k22.box Q1.out.2.1 (by omega), Q1.out.2.2.1.kept k22 (by omega)⟩
                    clear b22 k22
                    refine hK.out _ _ q2 fun _ => ?_
                    clear hK K
                    try simp only [Act.put, List.setIfInBounds_toArray, List.set_cons_zero, List.set_cons_succ]
                    refine take_to (i := 4) (v := .int .i64 0) rfl (by kernel_rfl) (by kernel_rfl) (by kernel_rfl) (fun _ _ _ h => h) (Or.inl ⟨by rfl, fun w' hS => by go_simp⟩) q2 (some 10) rfl ?_
                    try simp only [Act.put, List.setIfInBounds_toArray, List.set_cons_zero, List.set_cons_succ]
                    refine wpAnyH_done (by kernel_rfl) ?_ _
                    clear q0 q2
                    go_wp2
                    refine bodyPost_ret (v := .tuple #[.agg C12, blkV bk, .int .i64 0]) (results_cct (fn := Tryd.f30) Tryd.results30 _ _ g8 g9 _ _ _ rfl rfl rfl (loadVar_61 Q2.out.1 H30.out.rgs.rc.size) (loadVar_blk Q2.out.2.1 H30.out.out_.len)) rfl ?_
                    rw [HRP.out]
                    exact ⟨_, _, by rw [H30.out.rgs.rc.val], Q2.out.2.2.2, Q2.out.2.2.1⟩
                  · have hd : decide (RightB bk) = false := by simpa using hrr
                    have hRp := blockF_form (La := codes B' V') HIN.out HG2.out.1.symm rfl HO.out (by rw [← HO2.out]) (by rw [← HO2.out]; exact hrr)
                    rw [← HR.out, ← HO2.out] at hRp
                    have HRP := Lib.hid hRp
                    rw [hd]
                    clear hRp hd hrr
                    go_wp2_with fail
                    have Q0 := Lib.hid (And.intro H30.out.rgs.b4 (And.intro H30.out.rgs.b11 (And.intro H30.out.rgs.b8 H30.out.rgs.b9)))
                    refine wp_region_held_drew (S := fun w' => Box w' g4 61 C12 ∧ Blk w' g11 zeros64) (by kernel_rfl) ⟨Q0.out.1.drewN 1, Q0.out.2.1.on (on_drew _)⟩ fun q0 => ?_
                    refine take_to (i := 0) (v := .agg C12) rfl (by kernel_rfl) (by kernel_rfl) (by kernel_rfl) (fun _ _ _ h => h) (yieldsIf_load (by rfl) 61 (.tmp 4) rfl (.pointer (some ⟨g4, 0, none⟩)) rfl (.agg C12) (fun w' h => load61 h.1 H30.out.rgs.rc.size)) q0 (some 130) rfl ?_
                    try simp only [Act.put, List.setIfInBounds_toArray, List.set_cons_zero, List.set_cons_succ]
                    refine take_to (i := 1) (v := blkV zeros64) rfl (by kernel_rfl) (by kernel_rfl) (by kernel_rfl) (fun _ _ _ h => h) (yieldsIf_load (by rfl) 23 (.tmp 11) rfl (.pointer (some ⟨g11, 0, none⟩)) rfl (blkV zeros64) (fun w' h => h.2.load)) q0 (some 131) rfl ?_
                    try simp only [Act.put, List.setIfInBounds_toArray, List.set_cons_zero, List.set_cons_succ]
                    refine wpAnyH_ready (rs := [2]) (by kernel_rfl) (by simp) ?_
                    refine AllReadyH.cons rfl (fun K hK => ?_) AllReadyH.nil
                    rw [if_pos (by rfl)]
                    refine wp_store_61 _ _ rfl rfl g8 C12 rfl rfl N (Q0.out.2.2.1.drewN 1) hNs H30.out.rgs.rc.size H30.out.rgs.rc.one fun w21 b21 k21 => ?_
                    have Q1 := Lib.hid (And.intro b21 (And.intro (k21.box (Q0.out.1.drewN 1) (by omega)) (And.intro ((Q0.out.2.1.on (on_drew _)).kept k21 (by omega)) (And.intro (k21.box (Q0.out.2.2.2.drewN 1) (by omega)) (And.intro (H30.out.rgs.bel.drew.trans (k21.below H30.out.rgs.bel.size (fun i hi e => by omega))) (il_far61 (H30.out.rgs.row.on (on_drew _)) (Q0.out.2.2.1.drewN 1) k21))))))
                    clear b21 k21
                    refine hK.out _ _ ⟨Q1.out.2.1, Q1.out.2.2.1⟩ fun _ => ?_
                    clear hK K
                    try simp only [Act.put, List.setIfInBounds_toArray, List.set_cons_zero, List.set_cons_succ]
                    refine wpAnyH_ready (rs := [3]) (by kernel_rfl) (by simp) ?_
                    refine AllReadyH.cons rfl (fun K hK => ?_) AllReadyH.nil
                    rw [if_pos (by rfl)]
                    refine wp_store_blk arr23_size _ _ rfl rfl g9 zeros64 rfl rfl Z Q1.out.2.2.2.1 hZs Q1.out.2.2.1.len fun w22 b22 k22 => ?_
                    have Q2 := Lib.hid (And.intro (k22.box Q1.out.1 (by omega)) (And.intro b22 (And.intro (Q1.out.2.2.2.2.1.trans (k22.below Q1.out.2.2.2.2.1.size (fun i hi e => by omega))) (il_far23 Q1.out.2.2.2.2.2 Q1.out.2.2.2.1 k22))))
                    have q2 : Box w22 g4 61 C12 ∧ Blk w22 g11 zeros64 := ⟨k22.box Q1.out.2.1 (by omega), Q1.out.2.2.1.kept k22 (by omega)⟩
                    clear b22 k22
                    refine hK.out _ _ q2 fun _ => ?_
                    clear hK K
                    try simp only [Act.put, List.setIfInBounds_toArray, List.set_cons_zero, List.set_cons_succ]
                    refine take_to (i := 4) (v := .int .i64 4) rfl (by kernel_rfl) (by kernel_rfl) (by kernel_rfl) (fun _ _ _ h => h) (Or.inl ⟨by rfl, fun w' hS => by go_simp⟩) q2 (some 10) rfl ?_
                    try simp only [Act.put, List.setIfInBounds_toArray, List.set_cons_zero, List.set_cons_succ]
                    refine wpAnyH_done (by kernel_rfl) ?_ _
                    clear q0 q2
                    go_wp2
                    refine bodyPost_ret (v := .tuple #[.agg C12, blkV zeros64, .int .i64 4]) (results_cct (fn := Tryd.f30) Tryd.results30 _ _ g8 g9 _ _ _ rfl rfl rfl (loadVar_61 Q2.out.1 H30.out.rgs.rc.size) (loadVar_blk Q2.out.2.1 H30.out.rgs.b11.len)) rfl ?_
                    rw [HRP.out]
                    exact ⟨_, _, by rw [H30.out.rgs.rc.val], Q2.out.2.2.2, Q2.out.2.2.1⟩
                · obtain ⟨q, hq⟩ : ∃ q, q = x / 16 := ⟨_, rfl⟩
                  obtain ⟨m, hm⟩ : ∃ m, m = x % 16 := ⟨_, rfl⟩
                  have hq1 : (x : Int) / 16 = (q : Int) := by omega
                  have hm1 : (x : Int) % 16 = (m : Int) := by omega
                  have hm15 : m ≤ 15 := by omega
                  have hq15 : q ≤ 15 := by omega
                  have hbadiff : badSym x k ↔ (10 < m ∨ (m = 0 ∧ x ≠ 240) ∨ 64 ≤ k + q) := by unfold badSym; rw [← hm, ← hq]
                  have HM := Lib.hid (And.intro hq hm)
                  clear hq hm
                  by_cases hA : 10 < m
                  · have hAi : (10 : Int) < (m : Int) := by omega
                    have hbad := hbadiff.2 (.inl hA)
                    clear hbadiff
                    have hO := othersG_form (L := codes B' V') (f := f') (b := bk) HGS2.out hlt rfl hx0 hbad
                    rw [HRES.out] at hO
                    have hRp := blockF_others HIN.out HG2.out.1.symm rfl HO.out (by rw [hO]; exact (show (4 : Int) ≠ 0 by decide))
                    rw [← HR.out, hO] at hRp
                    have HRP := Lib.hid hRp
                    clear hRp hO HGS2
                    go_wp2_with (first
                      | ((with_reducible refine wpList_store_61 (o := ⟨none, _, _, _, _, _⟩) rfl (.tmp 18) (.tmp 70) rfl rfl w12.heap.size C12 rfl rfl N (Box.made _ _ _) hNs HC12.out.1.size HC12.out.1.one ?_)
                         intro w13 b13 k13
                         have H13 := Lib.hid (And.intro (H12.out.on ((on_alloc w12 (.cells N 61)).trans (k13.below (by simp) (fun i hi e => by omega)))) (And.intro b13 (HC12.out.2.on ((on_alloc w12 (.cells N 61)).trans (k13.below (by simp) (fun i hi e => by omega))))))
                         clear b13 k13)
                      | (with_reducible refine wpList_load_to (op := ⟨some 73, _, _, _, _, _⟩) rfl 61 (.tmp 18) rfl (.pointer (some ⟨w12.heap.size, 0, none⟩)) rfl (.agg C12) (load61 H13.out.2.1 HC12.out.1.size) ?_)
                      | ((with_reducible refine wpList_store_61 (o := ⟨none, _, _, _, _, _⟩) rfl (.tmp 4) (.tmp 73) rfl rfl g4 C12 rfl rfl Ck H13.out.1.rgs.b4 H13.out.1.rgs.rc.size HC12.out.1.size HC12.out.1.one ?_)
                         intro w14 b14 k14
                         have H14 := Lib.hid (And.intro (H13.out.1.rgs.move k14 b14 HC12.out.1 H13.out.2.2 HOK.out hd0 hd1 hd2 hd3) (And.intro (H13.out.1.out_.kept k14 he4) (And.intro (il_far61 H13.out.1.ord H13.out.1.rgs.b4 k14) (k14.box H13.out.2.1 H18.out.1))))
                         clear b14 k14)
                      | fail)
                    have Q0 := Lib.hid (And.intro H14.out.1.b4 (And.intro H14.out.1.b11 (And.intro H14.out.1.b8 H14.out.1.b9)))
                    refine wp_region_held_drew (S := fun w' => Box w' g4 61 C12 ∧ Blk w' g11 zeros64) (by kernel_rfl) ⟨Q0.out.1.drewN 1, Q0.out.2.1.on (on_drew _)⟩ fun q0 => ?_
                    refine take_to (i := 0) (v := .agg C12) rfl (by kernel_rfl) (by kernel_rfl) (by kernel_rfl) (fun _ _ _ h => h) (yieldsIf_load (by rfl) 61 (.tmp 4) rfl (.pointer (some ⟨g4, 0, none⟩)) rfl (.agg C12) (fun w' h => load61 h.1 H14.out.1.rc.size)) q0 (some 101) rfl ?_
                    try simp only [Act.put, List.setIfInBounds_toArray, List.set_cons_zero, List.set_cons_succ]
                    refine take_to (i := 1) (v := blkV zeros64) rfl (by kernel_rfl) (by kernel_rfl) (by kernel_rfl) (fun _ _ _ h => h) (yieldsIf_load (by rfl) 23 (.tmp 11) rfl (.pointer (some ⟨g11, 0, none⟩)) rfl (blkV zeros64) (fun w' h => h.2.load)) q0 (some 102) rfl ?_
                    try simp only [Act.put, List.setIfInBounds_toArray, List.set_cons_zero, List.set_cons_succ]
                    refine wpAnyH_ready (rs := [2]) (by kernel_rfl) (by simp) ?_
                    refine AllReadyH.cons rfl (fun K hK => ?_) AllReadyH.nil
                    rw [if_pos (by rfl)]
                    refine wp_store_61 _ _ rfl rfl g8 C12 rfl rfl N (Q0.out.2.2.1.drewN 1) hNs H14.out.1.rc.size H14.out.1.rc.one fun w21 b21 k21 => ?_
                    have Q1 := Lib.hid (And.intro b21 (And.intro (k21.box (Q0.out.1.drewN 1) (by omega)) (And.intro ((Q0.out.2.1.on (on_drew _)).kept k21 (by omega)) (And.intro (k21.box (Q0.out.2.2.2.drewN 1) (by omega)) (And.intro (H14.out.1.bel.drew.trans (k21.below H14.out.1.bel.size (fun i hi e => by omega))) (il_far61 (H14.out.1.row.on (on_drew _)) (Q0.out.2.2.1.drewN 1) k21))))))
                    clear b21 k21
                    refine hK.out _ _ ⟨Q1.out.2.1, Q1.out.2.2.1⟩ fun _ => ?_
                    clear hK K
                    try simp only [Act.put, List.setIfInBounds_toArray, List.set_cons_zero, List.set_cons_succ]
                    refine wpAnyH_ready (rs := [3]) (by kernel_rfl) (by simp) ?_
                    refine AllReadyH.cons rfl (fun K hK => ?_) AllReadyH.nil
                    rw [if_pos (by rfl)]
                    refine wp_store_blk arr23_size _ _ rfl rfl g9 zeros64 rfl rfl Z Q1.out.2.2.2.1 hZs Q1.out.2.2.1.len fun w22 b22 k22 => ?_
                    have Q2 := Lib.hid (And.intro (k22.box Q1.out.1 (by omega)) (And.intro b22 (And.intro (Q1.out.2.2.2.2.1.trans (k22.below Q1.out.2.2.2.2.1.size (fun i hi e => by omega))) (il_far23 Q1.out.2.2.2.2.2 Q1.out.2.2.2.1 k22))))
                    have q2 : Box w22 g4 61 C12 ∧ Blk w22 g11 zeros64 := ⟨k22.box Q1.out.2.1 (by omega), Q1.out.2.2.1.kept k22 (by omega)⟩
                    clear b22 k22
                    refine hK.out _ _ q2 fun _ => ?_
                    clear hK K
                    try simp only [Act.put, List.setIfInBounds_toArray, List.set_cons_zero, List.set_cons_succ]
                    refine take_to (i := 4) (v := .int .i64 4) rfl (by kernel_rfl) (by kernel_rfl) (by kernel_rfl) (fun _ _ _ h => h) (Or.inl ⟨by rfl, fun w' hS => by go_simp⟩) q2 (some 10) rfl ?_
                    try simp only [Act.put, List.setIfInBounds_toArray, List.set_cons_zero, List.set_cons_succ]
                    refine wpAnyH_done (by kernel_rfl) ?_ _
                    clear q0 q2
                    go_wp2
                    refine bodyPost_ret (v := .tuple #[.agg C12, blkV zeros64, .int .i64 4]) (results_cct (fn := Tryd.f30) Tryd.results30 _ _ g8 g9 _ _ _ rfl rfl rfl (loadVar_61 Q2.out.1 H14.out.1.rc.size) (loadVar_blk Q2.out.2.1 H14.out.1.b11.len)) rfl ?_
                    rw [HRP.out]
                    exact ⟨_, _, by rw [H14.out.1.rc.val], Q2.out.2.2.2, Q2.out.2.2.1⟩
                  have hAi : ¬ (10 : Int) < (m : Int) := by omega
                  by_cases hB : m = 0
                  · by_cases hx4 : x = 240
                    · have hmi : (m : Int) = 0 := by omega
                      have hxi : (x : Int) = 240 := by omega
                      have hmb : ((m : Int) == 0) = true := by simpa using hmi
                      have hxb : ((x : Int) != 240) = false := by simpa using hxi
                      by_cases hC : 64 ≤ k + q
                      · have hCi : (63 : Int) < (k : Int) + (q : Int) := by omega
                        have hbad := hbadiff.2 (.inr (.inr hC))
                        clear hbadiff hmi hxi hB hx4
                        have hO := othersG_form (L := codes B' V') (f := f') (b := bk) HGS2.out hlt rfl hx0 hbad
                        rw [HRES.out] at hO
                        have hRp := blockF_others HIN.out HG2.out.1.symm rfl HO.out (by rw [hO]; exact (show (4 : Int) ≠ 0 by decide))
                        rw [← HR.out, hO] at hRp
                        have HRP := Lib.hid hRp
                        clear hRp hO HGS2
                        go_wp2_with (first
                          | ((with_reducible refine wpList_store_61 (o := ⟨none, _, _, _, _, _⟩) rfl (.tmp 18) (.tmp 70) rfl rfl w12.heap.size C12 rfl rfl N (Box.made _ _ _) hNs HC12.out.1.size HC12.out.1.one ?_)
                             intro w13 b13 k13
                             have H13 := Lib.hid (And.intro (H12.out.on ((on_alloc w12 (.cells N 61)).trans (k13.below (by simp) (fun i hi e => by omega)))) (And.intro b13 (HC12.out.2.on ((on_alloc w12 (.cells N 61)).trans (k13.below (by simp) (fun i hi e => by omega))))))
                             clear b13 k13)
                          | (with_reducible refine wpList_load_to (op := ⟨some 73, _, _, _, _, _⟩) rfl 61 (.tmp 18) rfl (.pointer (some ⟨w12.heap.size, 0, none⟩)) rfl (.agg C12) (load61 H13.out.2.1 HC12.out.1.size) ?_)
                          | ((with_reducible refine wpList_store_61 (o := ⟨none, _, _, _, _, _⟩) rfl (.tmp 4) (.tmp 73) rfl rfl g4 C12 rfl rfl Ck H13.out.1.rgs.b4 H13.out.1.rgs.rc.size HC12.out.1.size HC12.out.1.one ?_)
                             intro w14 b14 k14
                             have H14 := Lib.hid (And.intro (H13.out.1.rgs.move k14 b14 HC12.out.1 H13.out.2.2 HOK.out hd0 hd1 hd2 hd3) (And.intro (H13.out.1.out_.kept k14 he4) (And.intro (il_far61 H13.out.1.ord H13.out.1.rgs.b4 k14) (k14.box H13.out.2.1 H18.out.1))))
                             clear b14 k14)
                          | fail)
                        have Q0 := Lib.hid (And.intro H14.out.1.b4 (And.intro H14.out.1.b11 (And.intro H14.out.1.b8 H14.out.1.b9)))
                        refine wp_region_held_drew (S := fun w' => Box w' g4 61 C12 ∧ Blk w' g11 zeros64) (by kernel_rfl) ⟨Q0.out.1.drewN 1, Q0.out.2.1.on (on_drew _)⟩ fun q0 => ?_
                        refine take_to (i := 0) (v := .agg C12) rfl (by kernel_rfl) (by kernel_rfl) (by kernel_rfl) (fun _ _ _ h => h) (yieldsIf_load (by rfl) 61 (.tmp 4) rfl (.pointer (some ⟨g4, 0, none⟩)) rfl (.agg C12) (fun w' h => load61 h.1 H14.out.1.rc.size)) q0 (some 101) rfl ?_
                        try simp only [Act.put, List.setIfInBounds_toArray, List.set_cons_zero, List.set_cons_succ]
                        refine take_to (i := 1) (v := blkV zeros64) rfl (by kernel_rfl) (by kernel_rfl) (by kernel_rfl) (fun _ _ _ h => h) (yieldsIf_load (by rfl) 23 (.tmp 11) rfl (.pointer (some ⟨g11, 0, none⟩)) rfl (blkV zeros64) (fun w' h => h.2.load)) q0 (some 102) rfl ?_
                        try simp only [Act.put, List.setIfInBounds_toArray, List.set_cons_zero, List.set_cons_succ]
                        refine wpAnyH_ready (rs := [2]) (by kernel_rfl) (by simp) ?_
                        refine AllReadyH.cons rfl (fun K hK => ?_) AllReadyH.nil
                        rw [if_pos (by rfl)]
                        refine wp_store_61 _ _ rfl rfl g8 C12 rfl rfl N (Q0.out.2.2.1.drewN 1) hNs H14.out.1.rc.size H14.out.1.rc.one fun w21 b21 k21 => ?_
                        have Q1 := Lib.hid (And.intro b21 (And.intro (k21.box (Q0.out.1.drewN 1) (by omega)) (And.intro ((Q0.out.2.1.on (on_drew _)).kept k21 (by omega)) (And.intro (k21.box (Q0.out.2.2.2.drewN 1) (by omega)) (And.intro (H14.out.1.bel.drew.trans (k21.below H14.out.1.bel.size (fun i hi e => by omega))) (il_far61 (H14.out.1.row.on (on_drew _)) (Q0.out.2.2.1.drewN 1) k21))))))
                        clear b21 k21
                        refine hK.out _ _ ⟨Q1.out.2.1, Q1.out.2.2.1⟩ fun _ => ?_
                        clear hK K
                        try simp only [Act.put, List.setIfInBounds_toArray, List.set_cons_zero, List.set_cons_succ]
                        refine wpAnyH_ready (rs := [3]) (by kernel_rfl) (by simp) ?_
                        refine AllReadyH.cons rfl (fun K hK => ?_) AllReadyH.nil
                        rw [if_pos (by rfl)]
                        refine wp_store_blk arr23_size _ _ rfl rfl g9 zeros64 rfl rfl Z Q1.out.2.2.2.1 hZs Q1.out.2.2.1.len fun w22 b22 k22 => ?_
                        have Q2 := Lib.hid (And.intro (k22.box Q1.out.1 (by omega)) (And.intro b22 (And.intro (Q1.out.2.2.2.2.1.trans (k22.below Q1.out.2.2.2.2.1.size (fun i hi e => by omega))) (il_far23 Q1.out.2.2.2.2.2 Q1.out.2.2.2.1 k22))))
                        have q2 : Box w22 g4 61 C12 ∧ Blk w22 g11 zeros64 := ⟨k22.box Q1.out.2.1 (by omega), Q1.out.2.2.1.kept k22 (by omega)⟩
                        clear b22 k22
                        refine hK.out _ _ q2 fun _ => ?_
                        clear hK K
                        try simp only [Act.put, List.setIfInBounds_toArray, List.set_cons_zero, List.set_cons_succ]
                        refine take_to (i := 4) (v := .int .i64 4) rfl (by kernel_rfl) (by kernel_rfl) (by kernel_rfl) (fun _ _ _ h => h) (Or.inl ⟨by rfl, fun w' hS => by go_simp⟩) q2 (some 10) rfl ?_
                        try simp only [Act.put, List.setIfInBounds_toArray, List.set_cons_zero, List.set_cons_succ]
                        refine wpAnyH_done (by kernel_rfl) ?_ _
                        clear q0 q2
                        go_wp2
                        refine bodyPost_ret (v := .tuple #[.agg C12, blkV zeros64, .int .i64 4]) (results_cct (fn := Tryd.f30) Tryd.results30 _ _ g8 g9 _ _ _ rfl rfl rfl (loadVar_61 Q2.out.1 H14.out.1.rc.size) (loadVar_blk Q2.out.2.1 H14.out.1.b11.len)) rfl ?_
                        rw [HRP.out]
                        exact ⟨_, _, by rw [H14.out.1.rc.val], Q2.out.2.2.2, Q2.out.2.2.1⟩
                      · have hCi : ¬ (63 : Int) < (k : Int) + (q : Int) := by omega
                        have hbad : ¬ badSym x k := fun h => by have := hbadiff.1 h; omega
                        clear hbadiff hmi hxi hB hx4
                        obtain ⟨kq, hkq0⟩ : ∃ kq, kq = k + q := ⟨_, rfl⟩
                        have hkq : (k : Int) + (q : Int) = (kq : Int) := by omega
                        have hkq2 : kq < 64 := by omega
                        obtain ⟨hz1, hz2⟩ := zn_at kq hkq2
                        obtain ⟨zq, hzq⟩ : ∃ zq, zq = zn kq := ⟨_, rfl⟩
                        rw [← hzq] at hz1 hz2
                        have hzqi : (zq : Int) < 64 := by omega
                        have HK := Lib.hid (And.intro hkq0 (And.intro hz1 hzq))
                        have hkqi : (kq : Int) < 64 := by omega
                        clear hkq0 hz1 hzq
                        obtain ⟨N2, hN2⟩ : ∃ N2, N2 = numF l s9 m := ⟨_, rfl⟩
                        have hsm2 := numF_small HI.out.2.2.2.2.2.2.1.bts.fit HOK.out (k := m) (by omega)
                        have hok3 := numF_ok HI.out.2.2.2.2.2.2.1.bts.fit HOK.out m
                        rw [← hN2] at hsm2 hok3
                        obtain ⟨s10, z, E10⟩ := N2
                        dsimp only at hsm2 hok3
                        have HN := Lib.hid (And.intro hN2 hok3)
                        clear hN2 hok3
                        go_wp2_with (first
                          | ((with_reducible refine wpList_store_61 (o := ⟨none, _, _, _, _, _⟩) rfl (.tmp 18) (.tmp 70) rfl rfl w12.heap.size C12 rfl rfl N (Box.made _ _ _) hNs HC12.out.1.size HC12.out.1.one ?_)
                             intro w13 b13 k13
                             have H13 := Lib.hid (And.intro (H12.out.on ((on_alloc w12 (.cells N 61)).trans (k13.below (by simp) (fun i hi e => by omega)))) (And.intro b13 (HC12.out.2.on ((on_alloc w12 (.cells N 61)).trans (k13.below (by simp) (fun i hi e => by omega))))))
                             clear b13 k13)
                          | (with_reducible refine wpList_load_to (op := ⟨some 73, _, _, _, _, _⟩) rfl 61 (.tmp 18) rfl (.pointer (some ⟨w12.heap.size, 0, none⟩)) rfl (.agg C12) (load61 H13.out.2.1 HC12.out.1.size) ?_)
                          | ((with_reducible refine wpList_store_61 (o := ⟨none, _, _, _, _, _⟩) rfl (.tmp 4) (.tmp 73) rfl rfl g4 C12 rfl rfl Ck H13.out.1.rgs.b4 H13.out.1.rgs.rc.size HC12.out.1.size HC12.out.1.one ?_)
                             intro w14 b14 k14
                             have H14 := Lib.hid (And.intro (H13.out.1.rgs.move k14 b14 HC12.out.1 H13.out.2.2 HOK.out hd0 hd1 hd2 hd3) (And.intro (H13.out.1.out_.kept k14 he4) (And.intro (il_far61 H13.out.1.ord H13.out.1.rgs.b4 k14) (k14.box H13.out.2.1 H18.out.1))))
                             clear b14 k14)
                          | (with_reducible refine wpList_load_to (op := ⟨some 107, _, _, _, _, _⟩) rfl 61 (.tmp 4) rfl (.pointer (some ⟨g4, 0, none⟩)) rfl (.agg C12) (load61 H14.out.1.b4 HC12.out.1.size) ?_)
                          | fail)
                        have HNC := Lib.hid (refNum_any w14 (fun _ => True) A n c l s9 Al12 cl12 m (HI.out.2.2.2.2.2.2.1.on H14.out.1.bel) H14.out.1.row H14.out.1.ok HI.out.2.2.2.2.2.2.2.2.2.1 (by omega))
                        rw [← HN.out.1, HC12.out.1.val] at HNC
                        refine HNC.out.mono ?_
                        rintro e w15 ⟨Al15, cl15, rfl, hI15, b15⟩
                        dsimp only at hI15 ⊢
                        obtain ⟨C15, hC15⟩ := rdC_made A n c s10 Al15 cl15
                        rw [hC15.val]
                        obtain ⟨g18, hg18⟩ : ∃ g18, g18 = w12.heap.size := ⟨_, rfl⟩
                        rw [← hg18] at H18 H14 ⊢
                        have H15 := Lib.hid (And.intro (H14.out.1.on b15) (And.intro (H14.out.2.1.on b15) (And.intro (H14.out.2.2.1.on b15) (H14.out.2.2.2.on b15))))
                        have HC15 := Lib.hid (And.intro hC15 hI15)
                        clear hI15 b15 hC15 HNC hg18 H13
                        by_cases h10 : E10 = 0
                        · subst h10
                          have hO := othersG_next (L := codes B' V') (f := f') (b := bk) (N := (s10, z, 0)) HGS2.out (by dsimp only; rw [Int.toNat_natCast, ← HM.out.2]; exact HN.out.1) hlt rfl hx0 hbad rfl
                          rw [HRES.out] at hO
                          dsimp only at hO
                          rw [Int.toNat_natCast, ← HM.out.1, ← HK.out.1, ← HK.out.2.2] at hO
                          have HO3 := Lib.hid hO
                          obtain ⟨z0, z1⟩ := hsm2
                          have c9 : ∀ w9, Il w9 (some ⟨bo, oo, none⟩) 64 c16 zz → w9.cell? ⟨bo, oo + kq, none⟩ = some (.int .i64 (zq : Int)) := fun w9 h9 => by
                            obtain ⟨b1, o1, e1, _, hc1⟩ := h9.at_ (by omega)
                            cases e1
                            rw [hc1 kq hkq2, HK.out.2.1]
                          have HC9 := Lib.hid c9
                          clear hO HGS2 c9
                          go_wp2_with (first
                            | ((with_reducible refine wpList_store_61 (o := ⟨none, _, _, _, _, _⟩) rfl (.tmp 18) (.tmp 110) rfl rfl g18 C15 rfl rfl C12 H15.out.2.2.2 HC12.out.1.size HC15.out.1.size HC15.out.1.one ?_)
                               intro w16 b16 k16
                               have H16 := Lib.hid (And.intro (H15.out.1.far k16 (fun i e => by have e : i = g18 := e; subst e; exact ⟨H18.out.2.2.2.2.2, H18.out.1, H18.out.2.1, H18.out.2.2.1, H18.out.2.2.2.1, fun cs fr e2 => by have e3 : w15.heap[i]? = some (.cells C12 61 (0, 0)) := H15.out.2.2.2; rw [e2] at e3; cases e3⟩)) (And.intro (H15.out.2.1.kept k16 (fun e => H18.out.2.2.2.2.1 e.symm)) (And.intro (il_far61 H15.out.2.2.1 H15.out.2.2.2 k16) (And.intro b16 (il_far61 HC15.out.2 H15.out.2.2.2 k16)))))
                               clear b16 k16)
                            | (with_reducible refine wpList_load_to (op := ⟨some 113, _, _, _, _, _⟩) rfl 61 (.tmp 18) rfl (.pointer (some ⟨g18, 0, none⟩)) rfl (.agg C15) (load61 H16.out.2.2.2.1 HC15.out.1.size) ?_)
                            | ((with_reducible refine wpList_store_61 (o := ⟨none, _, _, _, _, _⟩) rfl (.tmp 4) (.tmp 113) rfl rfl g4 C15 rfl rfl C12 H16.out.1.b4 HC12.out.1.size HC15.out.1.size HC15.out.1.one ?_)
                               intro w17 b17 k17
                               have H17 := Lib.hid (And.intro (H16.out.1.move k17 b17 HC15.out.1 H16.out.2.2.2.2 HN.out.2 hd0 hd1 hd2 hd3) (And.intro (H16.out.2.1.kept k17 he4) (il_far61 H16.out.2.2.1 H16.out.1.b4 k17)))
                               have c9 := HC9.out w17 H17.out.2.2
                               have g9c := H17.out.2.1.cell hz2
                               have g9f := H17.out.2.1.box.free zq
                               clear b17 k17)
                            | fail)
                          have kk : Kept (fun i => i = g15) w17 (w17.setCell ⟨g15, zq, none⟩ (.int .i64 z)) := (Kept.refl (fun i => i = g15) _).setCell (p := ⟨g15, zq, none⟩) (fun _ => rfl) _
                          have HF := Lib.hid (RGL.mk (w := w) (L := codes B' V') (O := O) (k := kq + 1) (f := f') (H17.out.1.far kk (fun i e => by have e : i = g15 := e; subst e; exact ⟨he15, he4, he8, he9, he11, fun cs fr e2 => by have e3 : w17.heap[i]? = some (.cells (cellsI bk).toArray 23 (0, 0)) := H17.out.2.1.box; rw [e2] at e3; cases e3⟩)) (H17.out.2.1.put zq z) (il_far23 H17.out.2.2 H17.out.2.1.box kk) HO3.out.symm (by have := HP.out.fuel; have := HF'.out; have := HK.out.1; omega))
                          clear kk
                          go_roundw
                          case rel => exact ⟨kq + 1, f', s10, _, _, _, _, by omega, by go_num, HF.out⟩
                          case measure => simp [intOf]; omega
                        · have hO := othersG_num (L := codes B' V') (f := f') (b := bk) (N := (s10, z, E10)) HGS2.out (by dsimp only; rw [Int.toNat_natCast, ← HM.out.2]; exact HN.out.1) hlt rfl hx0 hbad h10
                          rw [HRES.out] at hO
                          dsimp only at hO
                          have hRp := blockF_others HIN.out HG2.out.1.symm rfl HO.out (by rw [hO]; exact h10)
                          rw [← HR.out, hO] at hRp
                          have HRP := Lib.hid hRp
                          have e0 : (E10 == 0) = false := by simpa using h10
                          have e1 : (E10 != 0) = true := by simpa using h10
                          clear hRp hO HGS2
                          go_wp2_with (first
                            | ((with_reducible refine wpList_store_61 (o := ⟨none, _, _, _, _, _⟩) rfl (.tmp 18) (.tmp 110) rfl rfl g18 C15 rfl rfl C12 H15.out.2.2.2 HC12.out.1.size HC15.out.1.size HC15.out.1.one ?_)
                               intro w16 b16 k16
                               have H16 := Lib.hid (And.intro (H15.out.1.far k16 (fun i e => by have e : i = g18 := e; subst e; exact ⟨H18.out.2.2.2.2.2, H18.out.1, H18.out.2.1, H18.out.2.2.1, H18.out.2.2.2.1, fun cs fr e2 => by have e3 : w15.heap[i]? = some (.cells C12 61 (0, 0)) := H15.out.2.2.2; rw [e2] at e3; cases e3⟩)) (And.intro (H15.out.2.1.kept k16 (fun e => H18.out.2.2.2.2.1 e.symm)) (And.intro (il_far61 H15.out.2.2.1 H15.out.2.2.2 k16) (And.intro b16 (il_far61 HC15.out.2 H15.out.2.2.2 k16)))))
                               clear b16 k16)
                            | (with_reducible refine wpList_load_to (op := ⟨some 113, _, _, _, _, _⟩) rfl 61 (.tmp 18) rfl (.pointer (some ⟨g18, 0, none⟩)) rfl (.agg C15) (load61 H16.out.2.2.2.1 HC15.out.1.size) ?_)
                            | ((with_reducible refine wpList_store_61 (o := ⟨none, _, _, _, _, _⟩) rfl (.tmp 4) (.tmp 113) rfl rfl g4 C15 rfl rfl C12 H16.out.1.b4 HC12.out.1.size HC15.out.1.size HC15.out.1.one ?_)
                               intro w17 b17 k17
                               have H17 := Lib.hid (And.intro (H16.out.1.move k17 b17 HC15.out.1 H16.out.2.2.2.2 HN.out.2 hd0 hd1 hd2 hd3) (And.intro (H16.out.2.1.kept k17 he4) (il_far61 H16.out.2.2.1 H16.out.1.b4 k17)))
                               clear b17 k17)
                            | fail)
                          have Q0 := Lib.hid (And.intro H17.out.1.b4 (And.intro H17.out.1.b11 (And.intro H17.out.1.b8 H17.out.1.b9)))
                          refine wp_region_held_drew (S := fun w' => Box w' g4 61 C15 ∧ Blk w' g11 zeros64) (by kernel_rfl) ⟨Q0.out.1.drewN 1, Q0.out.2.1.on (on_drew _)⟩ fun q0 => ?_
                          refine take_to (i := 0) (v := .agg C15) rfl (by kernel_rfl) (by kernel_rfl) (by kernel_rfl) (fun _ _ _ h => h) (yieldsIf_load (by rfl) 61 (.tmp 4) rfl (.pointer (some ⟨g4, 0, none⟩)) rfl (.agg C15) (fun w' h => load61 h.1 H17.out.1.rc.size)) q0 (some 116) rfl ?_
                          try simp only [Act.put, List.setIfInBounds_toArray, List.set_cons_zero, List.set_cons_succ]
                          refine take_to (i := 1) (v := blkV zeros64) rfl (by kernel_rfl) (by kernel_rfl) (by kernel_rfl) (fun _ _ _ h => h) (yieldsIf_load (by rfl) 23 (.tmp 11) rfl (.pointer (some ⟨g11, 0, none⟩)) rfl (blkV zeros64) (fun w' h => h.2.load)) q0 (some 117) rfl ?_
                          try simp only [Act.put, List.setIfInBounds_toArray, List.set_cons_zero, List.set_cons_succ]
                          refine take_to (i := 2) (v := .int .i64 E10) rfl (by kernel_rfl) (by kernel_rfl) (by kernel_rfl) (fun _ _ _ h => h) (Or.inl ⟨by rfl, fun w' hS => by go_simp⟩) q0 (some 118) rfl ?_
                          try simp only [Act.put, List.setIfInBounds_toArray, List.set_cons_zero, List.set_cons_succ]
                          refine wpAnyH_ready (rs := [3]) (by kernel_rfl) (by simp) ?_
                          refine AllReadyH.cons rfl (fun K hK => ?_) AllReadyH.nil
                          rw [if_pos (by rfl)]
                          refine wp_store_61 _ _ rfl rfl g8 C15 rfl rfl N (Q0.out.2.2.1.drewN 1) hNs H17.out.1.rc.size H17.out.1.rc.one fun w21 b21 k21 => ?_
                          have Q1 := Lib.hid (And.intro b21 (And.intro (k21.box (Q0.out.1.drewN 1) (by omega)) (And.intro ((Q0.out.2.1.on (on_drew _)).kept k21 (by omega)) (And.intro (k21.box (Q0.out.2.2.2.drewN 1) (by omega)) (And.intro (H17.out.1.bel.drew.trans (k21.below H17.out.1.bel.size (fun i hi e => by omega))) (il_far61 (H17.out.1.row.on (on_drew _)) (Q0.out.2.2.1.drewN 1) k21))))))
                          clear b21 k21
                          refine hK.out _ _ ⟨Q1.out.2.1, Q1.out.2.2.1⟩ fun _ => ?_
                          clear hK K
                          try simp only [Act.put, List.setIfInBounds_toArray, List.set_cons_zero, List.set_cons_succ]
                          refine wpAnyH_ready (rs := [4]) (by kernel_rfl) (by simp) ?_
                          refine AllReadyH.cons rfl (fun K hK => ?_) AllReadyH.nil
                          rw [if_pos (by rfl)]
                          refine wp_store_blk arr23_size _ _ rfl rfl g9 zeros64 rfl rfl Z Q1.out.2.2.2.1 hZs Q1.out.2.2.1.len fun w22 b22 k22 => ?_
                          have Q2 := Lib.hid (And.intro (k22.box Q1.out.1 (by omega)) (And.intro b22 (And.intro (Q1.out.2.2.2.2.1.trans (k22.below Q1.out.2.2.2.2.1.size (fun i hi e => by omega))) (il_far23 Q1.out.2.2.2.2.2 Q1.out.2.2.2.1 k22))))
                          have q2 : Box w22 g4 61 C15 ∧ Blk w22 g11 zeros64 := ⟨k22.box Q1.out.2.1 (by omega), Q1.out.2.2.1.kept k22 (by omega)⟩
                          clear b22 k22
                          refine hK.out _ _ q2 fun _ => ?_
                          clear hK K
                          try simp only [Act.put, List.setIfInBounds_toArray, List.set_cons_zero, List.set_cons_succ]
                          refine take_to (i := 5) (v := .int .i64 E10) rfl (by kernel_rfl) (by kernel_rfl) (by kernel_rfl) (fun _ _ _ h => h) (Or.inl ⟨by rfl, fun w' hS => by go_simp⟩) q2 (some 10) rfl ?_
                          try simp only [Act.put, List.setIfInBounds_toArray, List.set_cons_zero, List.set_cons_succ]
                          refine wpAnyH_done (by kernel_rfl) ?_ _
                          clear q0 q2
                          go_wp2
                          refine bodyPost_ret (v := .tuple #[.agg C15, blkV zeros64, .int .i64 E10]) (results_cct (fn := Tryd.f30) Tryd.results30 _ _ g8 g9 _ _ _ rfl rfl rfl (loadVar_61 Q2.out.1 H17.out.1.rc.size) (loadVar_blk Q2.out.2.1 H17.out.1.b11.len)) rfl ?_
                          rw [HRP.out]
                          exact ⟨_, _, by rw [H17.out.1.rc.val], Q2.out.2.2.2, Q2.out.2.2.1⟩
                    · have hmi : (m : Int) = 0 := by omega
                      have hxi : ¬ (x : Int) = 240 := by omega
                      have hmb : ((m : Int) == 0) = true := by simpa using hmi
                      have hxb : ((x : Int) != 240) = true := by simpa using hxi
                      have hbad := hbadiff.2 (.inr (.inl ⟨hB, hx4⟩))
                      clear hbadiff hmi hB
                      have hO := othersG_form (L := codes B' V') (f := f') (b := bk) HGS2.out hlt rfl hx0 hbad
                      rw [HRES.out] at hO
                      have hRp := blockF_others HIN.out HG2.out.1.symm rfl HO.out (by rw [hO]; exact (show (4 : Int) ≠ 0 by decide))
                      rw [← HR.out, hO] at hRp
                      have HRP := Lib.hid hRp
                      clear hRp hO HGS2
                      go_wp2_with (first
                        | ((with_reducible refine wpList_store_61 (o := ⟨none, _, _, _, _, _⟩) rfl (.tmp 18) (.tmp 70) rfl rfl w12.heap.size C12 rfl rfl N (Box.made _ _ _) hNs HC12.out.1.size HC12.out.1.one ?_)
                           intro w13 b13 k13
                           have H13 := Lib.hid (And.intro (H12.out.on ((on_alloc w12 (.cells N 61)).trans (k13.below (by simp) (fun i hi e => by omega)))) (And.intro b13 (HC12.out.2.on ((on_alloc w12 (.cells N 61)).trans (k13.below (by simp) (fun i hi e => by omega))))))
                           clear b13 k13)
                        | (with_reducible refine wpList_load_to (op := ⟨some 73, _, _, _, _, _⟩) rfl 61 (.tmp 18) rfl (.pointer (some ⟨w12.heap.size, 0, none⟩)) rfl (.agg C12) (load61 H13.out.2.1 HC12.out.1.size) ?_)
                        | ((with_reducible refine wpList_store_61 (o := ⟨none, _, _, _, _, _⟩) rfl (.tmp 4) (.tmp 73) rfl rfl g4 C12 rfl rfl Ck H13.out.1.rgs.b4 H13.out.1.rgs.rc.size HC12.out.1.size HC12.out.1.one ?_)
                           intro w14 b14 k14
                           have H14 := Lib.hid (And.intro (H13.out.1.rgs.move k14 b14 HC12.out.1 H13.out.2.2 HOK.out hd0 hd1 hd2 hd3) (And.intro (H13.out.1.out_.kept k14 he4) (And.intro (il_far61 H13.out.1.ord H13.out.1.rgs.b4 k14) (k14.box H13.out.2.1 H18.out.1))))
                           clear b14 k14)
                        | fail)
                      have Q0 := Lib.hid (And.intro H14.out.1.b4 (And.intro H14.out.1.b11 (And.intro H14.out.1.b8 H14.out.1.b9)))
                      refine wp_region_held_drew (S := fun w' => Box w' g4 61 C12 ∧ Blk w' g11 zeros64) (by kernel_rfl) ⟨Q0.out.1.drewN 1, Q0.out.2.1.on (on_drew _)⟩ fun q0 => ?_
                      refine take_to (i := 0) (v := .agg C12) rfl (by kernel_rfl) (by kernel_rfl) (by kernel_rfl) (fun _ _ _ h => h) (yieldsIf_load (by rfl) 61 (.tmp 4) rfl (.pointer (some ⟨g4, 0, none⟩)) rfl (.agg C12) (fun w' h => load61 h.1 H14.out.1.rc.size)) q0 (some 101) rfl ?_
                      try simp only [Act.put, List.setIfInBounds_toArray, List.set_cons_zero, List.set_cons_succ]
                      refine take_to (i := 1) (v := blkV zeros64) rfl (by kernel_rfl) (by kernel_rfl) (by kernel_rfl) (fun _ _ _ h => h) (yieldsIf_load (by rfl) 23 (.tmp 11) rfl (.pointer (some ⟨g11, 0, none⟩)) rfl (blkV zeros64) (fun w' h => h.2.load)) q0 (some 102) rfl ?_
                      try simp only [Act.put, List.setIfInBounds_toArray, List.set_cons_zero, List.set_cons_succ]
                      refine wpAnyH_ready (rs := [2]) (by kernel_rfl) (by simp) ?_
                      refine AllReadyH.cons rfl (fun K hK => ?_) AllReadyH.nil
                      rw [if_pos (by rfl)]
                      refine wp_store_61 _ _ rfl rfl g8 C12 rfl rfl N (Q0.out.2.2.1.drewN 1) hNs H14.out.1.rc.size H14.out.1.rc.one fun w21 b21 k21 => ?_
                      have Q1 := Lib.hid (And.intro b21 (And.intro (k21.box (Q0.out.1.drewN 1) (by omega)) (And.intro ((Q0.out.2.1.on (on_drew _)).kept k21 (by omega)) (And.intro (k21.box (Q0.out.2.2.2.drewN 1) (by omega)) (And.intro (H14.out.1.bel.drew.trans (k21.below H14.out.1.bel.size (fun i hi e => by omega))) (il_far61 (H14.out.1.row.on (on_drew _)) (Q0.out.2.2.1.drewN 1) k21))))))
                      clear b21 k21
                      refine hK.out _ _ ⟨Q1.out.2.1, Q1.out.2.2.1⟩ fun _ => ?_
                      clear hK K
                      try simp only [Act.put, List.setIfInBounds_toArray, List.set_cons_zero, List.set_cons_succ]
                      refine wpAnyH_ready (rs := [3]) (by kernel_rfl) (by simp) ?_
                      refine AllReadyH.cons rfl (fun K hK => ?_) AllReadyH.nil
                      rw [if_pos (by rfl)]
                      refine wp_store_blk arr23_size _ _ rfl rfl g9 zeros64 rfl rfl Z Q1.out.2.2.2.1 hZs Q1.out.2.2.1.len fun w22 b22 k22 => ?_
                      have Q2 := Lib.hid (And.intro (k22.box Q1.out.1 (by omega)) (And.intro b22 (And.intro (Q1.out.2.2.2.2.1.trans (k22.below Q1.out.2.2.2.2.1.size (fun i hi e => by omega))) (il_far23 Q1.out.2.2.2.2.2 Q1.out.2.2.2.1 k22))))
                      have q2 : Box w22 g4 61 C12 ∧ Blk w22 g11 zeros64 := ⟨k22.box Q1.out.2.1 (by omega), Q1.out.2.2.1.kept k22 (by omega)⟩
                      clear b22 k22
                      refine hK.out _ _ q2 fun _ => ?_
                      clear hK K
                      try simp only [Act.put, List.setIfInBounds_toArray, List.set_cons_zero, List.set_cons_succ]
                      refine take_to (i := 4) (v := .int .i64 4) rfl (by kernel_rfl) (by kernel_rfl) (by kernel_rfl) (fun _ _ _ h => h) (Or.inl ⟨by rfl, fun w' hS => by go_simp⟩) q2 (some 10) rfl ?_
                      try simp only [Act.put, List.setIfInBounds_toArray, List.set_cons_zero, List.set_cons_succ]
                      refine wpAnyH_done (by kernel_rfl) ?_ _
                      clear q0 q2
                      go_wp2
                      refine bodyPost_ret (v := .tuple #[.agg C12, blkV zeros64, .int .i64 4]) (results_cct (fn := Tryd.f30) Tryd.results30 _ _ g8 g9 _ _ _ rfl rfl rfl (loadVar_61 Q2.out.1 H14.out.1.rc.size) (loadVar_blk Q2.out.2.1 H14.out.1.b11.len)) rfl ?_
                      rw [HRP.out]
                      exact ⟨_, _, by rw [H14.out.1.rc.val], Q2.out.2.2.2, Q2.out.2.2.1⟩
                  · have hmi : ¬ (m : Int) = 0 := by omega
                    by_cases hC : 64 ≤ k + q
                    · have hCi : (63 : Int) < (k : Int) + (q : Int) := by omega
                      have hbad := hbadiff.2 (.inr (.inr hC))
                      clear hbadiff
                      have hO := othersG_form (L := codes B' V') (f := f') (b := bk) HGS2.out hlt rfl hx0 hbad
                      rw [HRES.out] at hO
                      have hRp := blockF_others HIN.out HG2.out.1.symm rfl HO.out (by rw [hO]; exact (show (4 : Int) ≠ 0 by decide))
                      rw [← HR.out, hO] at hRp
                      have HRP := Lib.hid hRp
                      clear hRp hO HGS2
                      go_wp2_with (first
                        | ((with_reducible refine wpList_store_61 (o := ⟨none, _, _, _, _, _⟩) rfl (.tmp 18) (.tmp 70) rfl rfl w12.heap.size C12 rfl rfl N (Box.made _ _ _) hNs HC12.out.1.size HC12.out.1.one ?_)
                           intro w13 b13 k13
                           have H13 := Lib.hid (And.intro (H12.out.on ((on_alloc w12 (.cells N 61)).trans (k13.below (by simp) (fun i hi e => by omega)))) (And.intro b13 (HC12.out.2.on ((on_alloc w12 (.cells N 61)).trans (k13.below (by simp) (fun i hi e => by omega))))))
                           clear b13 k13)
                        | (with_reducible refine wpList_load_to (op := ⟨some 73, _, _, _, _, _⟩) rfl 61 (.tmp 18) rfl (.pointer (some ⟨w12.heap.size, 0, none⟩)) rfl (.agg C12) (load61 H13.out.2.1 HC12.out.1.size) ?_)
                        | ((with_reducible refine wpList_store_61 (o := ⟨none, _, _, _, _, _⟩) rfl (.tmp 4) (.tmp 73) rfl rfl g4 C12 rfl rfl Ck H13.out.1.rgs.b4 H13.out.1.rgs.rc.size HC12.out.1.size HC12.out.1.one ?_)
                           intro w14 b14 k14
                           have H14 := Lib.hid (And.intro (H13.out.1.rgs.move k14 b14 HC12.out.1 H13.out.2.2 HOK.out hd0 hd1 hd2 hd3) (And.intro (H13.out.1.out_.kept k14 he4) (And.intro (il_far61 H13.out.1.ord H13.out.1.rgs.b4 k14) (k14.box H13.out.2.1 H18.out.1))))
                           clear b14 k14)
                        | fail)
                      have Q0 := Lib.hid (And.intro H14.out.1.b4 (And.intro H14.out.1.b11 (And.intro H14.out.1.b8 H14.out.1.b9)))
                      refine wp_region_held_drew (S := fun w' => Box w' g4 61 C12 ∧ Blk w' g11 zeros64) (by kernel_rfl) ⟨Q0.out.1.drewN 1, Q0.out.2.1.on (on_drew _)⟩ fun q0 => ?_
                      refine take_to (i := 0) (v := .agg C12) rfl (by kernel_rfl) (by kernel_rfl) (by kernel_rfl) (fun _ _ _ h => h) (yieldsIf_load (by rfl) 61 (.tmp 4) rfl (.pointer (some ⟨g4, 0, none⟩)) rfl (.agg C12) (fun w' h => load61 h.1 H14.out.1.rc.size)) q0 (some 101) rfl ?_
                      try simp only [Act.put, List.setIfInBounds_toArray, List.set_cons_zero, List.set_cons_succ]
                      refine take_to (i := 1) (v := blkV zeros64) rfl (by kernel_rfl) (by kernel_rfl) (by kernel_rfl) (fun _ _ _ h => h) (yieldsIf_load (by rfl) 23 (.tmp 11) rfl (.pointer (some ⟨g11, 0, none⟩)) rfl (blkV zeros64) (fun w' h => h.2.load)) q0 (some 102) rfl ?_
                      try simp only [Act.put, List.setIfInBounds_toArray, List.set_cons_zero, List.set_cons_succ]
                      refine wpAnyH_ready (rs := [2]) (by kernel_rfl) (by simp) ?_
                      refine AllReadyH.cons rfl (fun K hK => ?_) AllReadyH.nil
                      rw [if_pos (by rfl)]
                      refine wp_store_61 _ _ rfl rfl g8 C12 rfl rfl N (Q0.out.2.2.1.drewN 1) hNs H14.out.1.rc.size H14.out.1.rc.one fun w21 b21 k21 => ?_
                      have Q1 := Lib.hid (And.intro b21 (And.intro (k21.box (Q0.out.1.drewN 1) (by omega)) (And.intro ((Q0.out.2.1.on (on_drew _)).kept k21 (by omega)) (And.intro (k21.box (Q0.out.2.2.2.drewN 1) (by omega)) (And.intro (H14.out.1.bel.drew.trans (k21.below H14.out.1.bel.size (fun i hi e => by omega))) (il_far61 (H14.out.1.row.on (on_drew _)) (Q0.out.2.2.1.drewN 1) k21))))))
                      clear b21 k21
                      refine hK.out _ _ ⟨Q1.out.2.1, Q1.out.2.2.1⟩ fun _ => ?_
                      clear hK K
                      try simp only [Act.put, List.setIfInBounds_toArray, List.set_cons_zero, List.set_cons_succ]
                      refine wpAnyH_ready (rs := [3]) (by kernel_rfl) (by simp) ?_
                      refine AllReadyH.cons rfl (fun K hK => ?_) AllReadyH.nil
                      rw [if_pos (by rfl)]
                      refine wp_store_blk arr23_size _ _ rfl rfl g9 zeros64 rfl rfl Z Q1.out.2.2.2.1 hZs Q1.out.2.2.1.len fun w22 b22 k22 => ?_
                      have Q2 := Lib.hid (And.intro (k22.box Q1.out.1 (by omega)) (And.intro b22 (And.intro (Q1.out.2.2.2.2.1.trans (k22.below Q1.out.2.2.2.2.1.size (fun i hi e => by omega))) (il_far23 Q1.out.2.2.2.2.2 Q1.out.2.2.2.1 k22))))
                      have q2 : Box w22 g4 61 C12 ∧ Blk w22 g11 zeros64 := ⟨k22.box Q1.out.2.1 (by omega), Q1.out.2.2.1.kept k22 (by omega)⟩
                      clear b22 k22
                      refine hK.out _ _ q2 fun _ => ?_
                      clear hK K
                      try simp only [Act.put, List.setIfInBounds_toArray, List.set_cons_zero, List.set_cons_succ]
                      refine take_to (i := 4) (v := .int .i64 4) rfl (by kernel_rfl) (by kernel_rfl) (by kernel_rfl) (fun _ _ _ h => h) (Or.inl ⟨by rfl, fun w' hS => by go_simp⟩) q2 (some 10) rfl ?_
                      try simp only [Act.put, List.setIfInBounds_toArray, List.set_cons_zero, List.set_cons_succ]
                      refine wpAnyH_done (by kernel_rfl) ?_ _
                      clear q0 q2
                      go_wp2
                      refine bodyPost_ret (v := .tuple #[.agg C12, blkV zeros64, .int .i64 4]) (results_cct (fn := Tryd.f30) Tryd.results30 _ _ g8 g9 _ _ _ rfl rfl rfl (loadVar_61 Q2.out.1 H14.out.1.rc.size) (loadVar_blk Q2.out.2.1 H14.out.1.b11.len)) rfl ?_
                      rw [HRP.out]
                      exact ⟨_, _, by rw [H14.out.1.rc.val], Q2.out.2.2.2, Q2.out.2.2.1⟩
                    · have hCi : ¬ (63 : Int) < (k : Int) + (q : Int) := by omega
                      have hbad : ¬ badSym x k := fun h => by have := hbadiff.1 h; omega
                      clear hbadiff
                      obtain ⟨kq, hkq0⟩ : ∃ kq, kq = k + q := ⟨_, rfl⟩
                      have hkq : (k : Int) + (q : Int) = (kq : Int) := by omega
                      have hkq2 : kq < 64 := by omega
                      obtain ⟨hz1, hz2⟩ := zn_at kq hkq2
                      obtain ⟨zq, hzq⟩ : ∃ zq, zq = zn kq := ⟨_, rfl⟩
                      rw [← hzq] at hz1 hz2
                      have hzqi : (zq : Int) < 64 := by omega
                      have HK := Lib.hid (And.intro hkq0 (And.intro hz1 hzq))
                      have hkqi : (kq : Int) < 64 := by omega
                      clear hkq0 hz1 hzq
                      obtain ⟨N2, hN2⟩ : ∃ N2, N2 = numF l s9 m := ⟨_, rfl⟩
                      have hsm2 := numF_small HI.out.2.2.2.2.2.2.1.bts.fit HOK.out (k := m) (by omega)
                      have hok3 := numF_ok HI.out.2.2.2.2.2.2.1.bts.fit HOK.out m
                      rw [← hN2] at hsm2 hok3
                      obtain ⟨s10, z, E10⟩ := N2
                      dsimp only at hsm2 hok3
                      have HN := Lib.hid (And.intro hN2 hok3)
                      clear hN2 hok3
                      go_wp2_with (first
                        | ((with_reducible refine wpList_store_61 (o := ⟨none, _, _, _, _, _⟩) rfl (.tmp 18) (.tmp 70) rfl rfl w12.heap.size C12 rfl rfl N (Box.made _ _ _) hNs HC12.out.1.size HC12.out.1.one ?_)
                           intro w13 b13 k13
                           have H13 := Lib.hid (And.intro (H12.out.on ((on_alloc w12 (.cells N 61)).trans (k13.below (by simp) (fun i hi e => by omega)))) (And.intro b13 (HC12.out.2.on ((on_alloc w12 (.cells N 61)).trans (k13.below (by simp) (fun i hi e => by omega))))))
                           clear b13 k13)
                        | (with_reducible refine wpList_load_to (op := ⟨some 73, _, _, _, _, _⟩) rfl 61 (.tmp 18) rfl (.pointer (some ⟨w12.heap.size, 0, none⟩)) rfl (.agg C12) (load61 H13.out.2.1 HC12.out.1.size) ?_)
                        | ((with_reducible refine wpList_store_61 (o := ⟨none, _, _, _, _, _⟩) rfl (.tmp 4) (.tmp 73) rfl rfl g4 C12 rfl rfl Ck H13.out.1.rgs.b4 H13.out.1.rgs.rc.size HC12.out.1.size HC12.out.1.one ?_)
                           intro w14 b14 k14
                           have H14 := Lib.hid (And.intro (H13.out.1.rgs.move k14 b14 HC12.out.1 H13.out.2.2 HOK.out hd0 hd1 hd2 hd3) (And.intro (H13.out.1.out_.kept k14 he4) (And.intro (il_far61 H13.out.1.ord H13.out.1.rgs.b4 k14) (k14.box H13.out.2.1 H18.out.1))))
                           clear b14 k14)
                        | (with_reducible refine wpList_load_to (op := ⟨some 107, _, _, _, _, _⟩) rfl 61 (.tmp 4) rfl (.pointer (some ⟨g4, 0, none⟩)) rfl (.agg C12) (load61 H14.out.1.b4 HC12.out.1.size) ?_)
                        | fail)
                      have HNC := Lib.hid (refNum_any w14 (fun _ => True) A n c l s9 Al12 cl12 m (HI.out.2.2.2.2.2.2.1.on H14.out.1.bel) H14.out.1.row H14.out.1.ok HI.out.2.2.2.2.2.2.2.2.2.1 (by omega))
                      rw [← HN.out.1, HC12.out.1.val] at HNC
                      refine HNC.out.mono ?_
                      rintro e w15 ⟨Al15, cl15, rfl, hI15, b15⟩
                      dsimp only at hI15 ⊢
                      obtain ⟨C15, hC15⟩ := rdC_made A n c s10 Al15 cl15
                      rw [hC15.val]
                      obtain ⟨g18, hg18⟩ : ∃ g18, g18 = w12.heap.size := ⟨_, rfl⟩
                      rw [← hg18] at H18 H14 ⊢
                      have H15 := Lib.hid (And.intro (H14.out.1.on b15) (And.intro (H14.out.2.1.on b15) (And.intro (H14.out.2.2.1.on b15) (H14.out.2.2.2.on b15))))
                      have HC15 := Lib.hid (And.intro hC15 hI15)
                      clear hI15 b15 hC15 HNC hg18 H13
                      by_cases h10 : E10 = 0
                      · subst h10
                        have hO := othersG_next (L := codes B' V') (f := f') (b := bk) (N := (s10, z, 0)) HGS2.out (by dsimp only; rw [Int.toNat_natCast, ← HM.out.2]; exact HN.out.1) hlt rfl hx0 hbad rfl
                        rw [HRES.out] at hO
                        dsimp only at hO
                        rw [Int.toNat_natCast, ← HM.out.1, ← HK.out.1, ← HK.out.2.2] at hO
                        have HO3 := Lib.hid hO
                        obtain ⟨z0, z1⟩ := hsm2
                        have c9 : ∀ w9, Il w9 (some ⟨bo, oo, none⟩) 64 c16 zz → w9.cell? ⟨bo, oo + kq, none⟩ = some (.int .i64 (zq : Int)) := fun w9 h9 => by
                          obtain ⟨b1, o1, e1, _, hc1⟩ := h9.at_ (by omega)
                          cases e1
                          rw [hc1 kq hkq2, HK.out.2.1]
                        have HC9 := Lib.hid c9
                        clear hO HGS2 c9
                        go_wp2_with (first
                          | ((with_reducible refine wpList_store_61 (o := ⟨none, _, _, _, _, _⟩) rfl (.tmp 18) (.tmp 110) rfl rfl g18 C15 rfl rfl C12 H15.out.2.2.2 HC12.out.1.size HC15.out.1.size HC15.out.1.one ?_)
                             intro w16 b16 k16
                             have H16 := Lib.hid (And.intro (H15.out.1.far k16 (fun i e => by have e : i = g18 := e; subst e; exact ⟨H18.out.2.2.2.2.2, H18.out.1, H18.out.2.1, H18.out.2.2.1, H18.out.2.2.2.1, fun cs fr e2 => by have e3 : w15.heap[i]? = some (.cells C12 61 (0, 0)) := H15.out.2.2.2; rw [e2] at e3; cases e3⟩)) (And.intro (H15.out.2.1.kept k16 (fun e => H18.out.2.2.2.2.1 e.symm)) (And.intro (il_far61 H15.out.2.2.1 H15.out.2.2.2 k16) (And.intro b16 (il_far61 HC15.out.2 H15.out.2.2.2 k16)))))
                             clear b16 k16)
                          | (with_reducible refine wpList_load_to (op := ⟨some 113, _, _, _, _, _⟩) rfl 61 (.tmp 18) rfl (.pointer (some ⟨g18, 0, none⟩)) rfl (.agg C15) (load61 H16.out.2.2.2.1 HC15.out.1.size) ?_)
                          | ((with_reducible refine wpList_store_61 (o := ⟨none, _, _, _, _, _⟩) rfl (.tmp 4) (.tmp 113) rfl rfl g4 C15 rfl rfl C12 H16.out.1.b4 HC12.out.1.size HC15.out.1.size HC15.out.1.one ?_)
                             intro w17 b17 k17
                             have H17 := Lib.hid (And.intro (H16.out.1.move k17 b17 HC15.out.1 H16.out.2.2.2.2 HN.out.2 hd0 hd1 hd2 hd3) (And.intro (H16.out.2.1.kept k17 he4) (il_far61 H16.out.2.2.1 H16.out.1.b4 k17)))
                             have c9 := HC9.out w17 H17.out.2.2
                             have g9c := H17.out.2.1.cell hz2
                             have g9f := H17.out.2.1.box.free zq
                             clear b17 k17)
                          | fail)
                        have kk : Kept (fun i => i = g15) w17 (w17.setCell ⟨g15, zq, none⟩ (.int .i64 z)) := (Kept.refl (fun i => i = g15) _).setCell (p := ⟨g15, zq, none⟩) (fun _ => rfl) _
                        have HF := Lib.hid (RGL.mk (w := w) (L := codes B' V') (O := O) (k := kq + 1) (f := f') (H17.out.1.far kk (fun i e => by have e : i = g15 := e; subst e; exact ⟨he15, he4, he8, he9, he11, fun cs fr e2 => by have e3 : w17.heap[i]? = some (.cells (cellsI bk).toArray 23 (0, 0)) := H17.out.2.1.box; rw [e2] at e3; cases e3⟩)) (H17.out.2.1.put zq z) (il_far23 H17.out.2.2 H17.out.2.1.box kk) HO3.out.symm (by have := HP.out.fuel; have := HF'.out; have := HK.out.1; omega))
                        clear kk
                        go_roundw
                        case rel => exact ⟨kq + 1, f', s10, _, _, _, _, by omega, by go_num, HF.out⟩
                        case measure => simp [intOf]; omega
                      · have hO := othersG_num (L := codes B' V') (f := f') (b := bk) (N := (s10, z, E10)) HGS2.out (by dsimp only; rw [Int.toNat_natCast, ← HM.out.2]; exact HN.out.1) hlt rfl hx0 hbad h10
                        rw [HRES.out] at hO
                        dsimp only at hO
                        have hRp := blockF_others HIN.out HG2.out.1.symm rfl HO.out (by rw [hO]; exact h10)
                        rw [← HR.out, hO] at hRp
                        have HRP := Lib.hid hRp
                        have e0 : (E10 == 0) = false := by simpa using h10
                        have e1 : (E10 != 0) = true := by simpa using h10
                        clear hRp hO HGS2
                        go_wp2_with (first
                          | ((with_reducible refine wpList_store_61 (o := ⟨none, _, _, _, _, _⟩) rfl (.tmp 18) (.tmp 110) rfl rfl g18 C15 rfl rfl C12 H15.out.2.2.2 HC12.out.1.size HC15.out.1.size HC15.out.1.one ?_)
                             intro w16 b16 k16
                             have H16 := Lib.hid (And.intro (H15.out.1.far k16 (fun i e => by have e : i = g18 := e; subst e; exact ⟨H18.out.2.2.2.2.2, H18.out.1, H18.out.2.1, H18.out.2.2.1, H18.out.2.2.2.1, fun cs fr e2 => by have e3 : w15.heap[i]? = some (.cells C12 61 (0, 0)) := H15.out.2.2.2; rw [e2] at e3; cases e3⟩)) (And.intro (H15.out.2.1.kept k16 (fun e => H18.out.2.2.2.2.1 e.symm)) (And.intro (il_far61 H15.out.2.2.1 H15.out.2.2.2 k16) (And.intro b16 (il_far61 HC15.out.2 H15.out.2.2.2 k16)))))
                             clear b16 k16)
                          | (with_reducible refine wpList_load_to (op := ⟨some 113, _, _, _, _, _⟩) rfl 61 (.tmp 18) rfl (.pointer (some ⟨g18, 0, none⟩)) rfl (.agg C15) (load61 H16.out.2.2.2.1 HC15.out.1.size) ?_)
                          | ((with_reducible refine wpList_store_61 (o := ⟨none, _, _, _, _, _⟩) rfl (.tmp 4) (.tmp 113) rfl rfl g4 C15 rfl rfl C12 H16.out.1.b4 HC12.out.1.size HC15.out.1.size HC15.out.1.one ?_)
                             intro w17 b17 k17
                             have H17 := Lib.hid (And.intro (H16.out.1.move k17 b17 HC15.out.1 H16.out.2.2.2.2 HN.out.2 hd0 hd1 hd2 hd3) (And.intro (H16.out.2.1.kept k17 he4) (il_far61 H16.out.2.2.1 H16.out.1.b4 k17)))
                             clear b17 k17)
                          | fail)
                        have Q0 := Lib.hid (And.intro H17.out.1.b4 (And.intro H17.out.1.b11 (And.intro H17.out.1.b8 H17.out.1.b9)))
                        refine wp_region_held_drew (S := fun w' => Box w' g4 61 C15 ∧ Blk w' g11 zeros64) (by kernel_rfl) ⟨Q0.out.1.drewN 1, Q0.out.2.1.on (on_drew _)⟩ fun q0 => ?_
                        refine take_to (i := 0) (v := .agg C15) rfl (by kernel_rfl) (by kernel_rfl) (by kernel_rfl) (fun _ _ _ h => h) (yieldsIf_load (by rfl) 61 (.tmp 4) rfl (.pointer (some ⟨g4, 0, none⟩)) rfl (.agg C15) (fun w' h => load61 h.1 H17.out.1.rc.size)) q0 (some 116) rfl ?_
                        try simp only [Act.put, List.setIfInBounds_toArray, List.set_cons_zero, List.set_cons_succ]
                        refine take_to (i := 1) (v := blkV zeros64) rfl (by kernel_rfl) (by kernel_rfl) (by kernel_rfl) (fun _ _ _ h => h) (yieldsIf_load (by rfl) 23 (.tmp 11) rfl (.pointer (some ⟨g11, 0, none⟩)) rfl (blkV zeros64) (fun w' h => h.2.load)) q0 (some 117) rfl ?_
                        try simp only [Act.put, List.setIfInBounds_toArray, List.set_cons_zero, List.set_cons_succ]
                        refine take_to (i := 2) (v := .int .i64 E10) rfl (by kernel_rfl) (by kernel_rfl) (by kernel_rfl) (fun _ _ _ h => h) (Or.inl ⟨by rfl, fun w' hS => by go_simp⟩) q0 (some 118) rfl ?_
                        try simp only [Act.put, List.setIfInBounds_toArray, List.set_cons_zero, List.set_cons_succ]
                        refine wpAnyH_ready (rs := [3]) (by kernel_rfl) (by simp) ?_
                        refine AllReadyH.cons rfl (fun K hK => ?_) AllReadyH.nil
                        rw [if_pos (by rfl)]
                        refine wp_store_61 _ _ rfl rfl g8 C15 rfl rfl N (Q0.out.2.2.1.drewN 1) hNs H17.out.1.rc.size H17.out.1.rc.one fun w21 b21 k21 => ?_
                        have Q1 := Lib.hid (And.intro b21 (And.intro (k21.box (Q0.out.1.drewN 1) (by omega)) (And.intro ((Q0.out.2.1.on (on_drew _)).kept k21 (by omega)) (And.intro (k21.box (Q0.out.2.2.2.drewN 1) (by omega)) (And.intro (H17.out.1.bel.drew.trans (k21.below H17.out.1.bel.size (fun i hi e => by omega))) (il_far61 (H17.out.1.row.on (on_drew _)) (Q0.out.2.2.1.drewN 1) k21))))))
                        clear b21 k21
                        refine hK.out _ _ ⟨Q1.out.2.1, Q1.out.2.2.1⟩ fun _ => ?_
                        clear hK K
                        try simp only [Act.put, List.setIfInBounds_toArray, List.set_cons_zero, List.set_cons_succ]
                        refine wpAnyH_ready (rs := [4]) (by kernel_rfl) (by simp) ?_
                        refine AllReadyH.cons rfl (fun K hK => ?_) AllReadyH.nil
                        rw [if_pos (by rfl)]
                        refine wp_store_blk arr23_size _ _ rfl rfl g9 zeros64 rfl rfl Z Q1.out.2.2.2.1 hZs Q1.out.2.2.1.len fun w22 b22 k22 => ?_
                        have Q2 := Lib.hid (And.intro (k22.box Q1.out.1 (by omega)) (And.intro b22 (And.intro (Q1.out.2.2.2.2.1.trans (k22.below Q1.out.2.2.2.2.1.size (fun i hi e => by omega))) (il_far23 Q1.out.2.2.2.2.2 Q1.out.2.2.2.1 k22))))
                        have q2 : Box w22 g4 61 C15 ∧ Blk w22 g11 zeros64 := ⟨k22.box Q1.out.2.1 (by omega), Q1.out.2.2.1.kept k22 (by omega)⟩
                        clear b22 k22
                        refine hK.out _ _ q2 fun _ => ?_
                        clear hK K
                        try simp only [Act.put, List.setIfInBounds_toArray, List.set_cons_zero, List.set_cons_succ]
                        refine take_to (i := 5) (v := .int .i64 E10) rfl (by kernel_rfl) (by kernel_rfl) (by kernel_rfl) (fun _ _ _ h => h) (Or.inl ⟨by rfl, fun w' hS => by go_simp⟩) q2 (some 10) rfl ?_
                        try simp only [Act.put, List.setIfInBounds_toArray, List.set_cons_zero, List.set_cons_succ]
                        refine wpAnyH_done (by kernel_rfl) ?_ _
                        clear q0 q2
                        go_wp2
                        refine bodyPost_ret (v := .tuple #[.agg C15, blkV zeros64, .int .i64 E10]) (results_cct (fn := Tryd.f30) Tryd.results30 _ _ g8 g9 _ _ _ rfl rfl rfl (loadVar_61 Q2.out.1 H17.out.1.rc.size) (loadVar_blk Q2.out.2.1 H17.out.1.b11.len)) rfl ?_
                        rw [HRP.out]
                        exact ⟨_, _, by rw [H17.out.1.rc.val], Q2.out.2.2.2, Q2.out.2.2.1⟩
              · have hO := othersG_err (L := codes B' V') (f := f') (b := bk) HGS2.out hlt h9
                rw [HRES.out] at hO
                have hRp := blockF_others HIN.out HG2.out.1.symm rfl HO.out (by rw [hO]; exact h9)
                rw [← HR.out, hO] at hRp
                have HRP := Lib.hid hRp
                have e0 : (E9 == 0) = false := by simpa using h9
                have e1 : (E9 != 0) = true := by simpa using h9
                clear hRp hO HGS2
                go_wp2_with (first
                  | ((with_reducible refine wpList_store_61 (o := ⟨none, _, _, _, _, _⟩) rfl (.tmp 18) (.tmp 70) rfl rfl w12.heap.size C12 rfl rfl N (Box.made _ _ _) hNs HC12.out.1.size HC12.out.1.one ?_)
                     intro w13 b13 k13
                     have H13 := Lib.hid (And.intro (H12.out.on ((on_alloc w12 (.cells N 61)).trans (k13.below (by simp) (fun i hi e => by omega)))) (And.intro b13 (HC12.out.2.on ((on_alloc w12 (.cells N 61)).trans (k13.below (by simp) (fun i hi e => by omega))))))
                     clear b13 k13)
                  | (with_reducible refine wpList_load_to (op := ⟨some 73, _, _, _, _, _⟩) rfl 61 (.tmp 18) rfl (.pointer (some ⟨w12.heap.size, 0, none⟩)) rfl (.agg C12) (load61 H13.out.2.1 HC12.out.1.size) ?_)
                  | ((with_reducible refine wpList_store_61 (o := ⟨none, _, _, _, _, _⟩) rfl (.tmp 4) (.tmp 73) rfl rfl g4 C12 rfl rfl Ck H13.out.1.rgs.b4 H13.out.1.rgs.rc.size HC12.out.1.size HC12.out.1.one ?_)
                     intro w14 b14 k14
                     have H14 := Lib.hid (And.intro (H13.out.1.rgs.move k14 b14 HC12.out.1 H13.out.2.2 HOK.out hd0 hd1 hd2 hd3) (And.intro (H13.out.1.out_.kept k14 he4) (And.intro (il_far61 H13.out.1.ord H13.out.1.rgs.b4 k14) (k14.box H13.out.2.1 H18.out.1))))
                     clear b14 k14)
                  | fail)
                have Q0 := Lib.hid (And.intro H14.out.1.b4 (And.intro H14.out.1.b11 (And.intro H14.out.1.b8 H14.out.1.b9)))
                refine wp_region_held_drew (S := fun w' => Box w' g4 61 C12 ∧ Blk w' g11 zeros64) (by kernel_rfl) ⟨Q0.out.1.drewN 1, Q0.out.2.1.on (on_drew _)⟩ fun q0 => ?_
                refine take_to (i := 0) (v := .agg C12) rfl (by kernel_rfl) (by kernel_rfl) (by kernel_rfl) (fun _ _ _ h => h) (yieldsIf_load (by rfl) 61 (.tmp 4) rfl (.pointer (some ⟨g4, 0, none⟩)) rfl (.agg C12) (fun w' h => load61 h.1 H14.out.1.rc.size)) q0 (some 76) rfl ?_
                try simp only [Act.put, List.setIfInBounds_toArray, List.set_cons_zero, List.set_cons_succ]
                refine take_to (i := 1) (v := blkV zeros64) rfl (by kernel_rfl) (by kernel_rfl) (by kernel_rfl) (fun _ _ _ h => h) (yieldsIf_load (by rfl) 23 (.tmp 11) rfl (.pointer (some ⟨g11, 0, none⟩)) rfl (blkV zeros64) (fun w' h => h.2.load)) q0 (some 77) rfl ?_
                try simp only [Act.put, List.setIfInBounds_toArray, List.set_cons_zero, List.set_cons_succ]
                refine take_to (i := 2) (v := .int .i64 E9) rfl (by kernel_rfl) (by kernel_rfl) (by kernel_rfl) (fun _ _ _ h => h) (Or.inl ⟨by rfl, fun w' hS => by go_simp⟩) q0 (some 78) rfl ?_
                try simp only [Act.put, List.setIfInBounds_toArray, List.set_cons_zero, List.set_cons_succ]
                refine wpAnyH_ready (rs := [3]) (by kernel_rfl) (by simp) ?_
                refine AllReadyH.cons rfl (fun K hK => ?_) AllReadyH.nil
                rw [if_pos (by rfl)]
                refine wp_store_61 _ _ rfl rfl g8 C12 rfl rfl N (Q0.out.2.2.1.drewN 1) hNs H14.out.1.rc.size H14.out.1.rc.one fun w21 b21 k21 => ?_
                have Q1 := Lib.hid (And.intro b21 (And.intro (k21.box (Q0.out.1.drewN 1) (by omega)) (And.intro ((Q0.out.2.1.on (on_drew _)).kept k21 (by omega)) (And.intro (k21.box (Q0.out.2.2.2.drewN 1) (by omega)) (And.intro (H14.out.1.bel.drew.trans (k21.below H14.out.1.bel.size (fun i hi e => by omega))) (il_far61 (H14.out.1.row.on (on_drew _)) (Q0.out.2.2.1.drewN 1) k21))))))
                clear b21 k21
                refine hK.out _ _ ⟨Q1.out.2.1, Q1.out.2.2.1⟩ fun _ => ?_
                clear hK K
                try simp only [Act.put, List.setIfInBounds_toArray, List.set_cons_zero, List.set_cons_succ]
                refine wpAnyH_ready (rs := [4]) (by kernel_rfl) (by simp) ?_
                refine AllReadyH.cons rfl (fun K hK => ?_) AllReadyH.nil
                rw [if_pos (by rfl)]
                refine wp_store_blk arr23_size _ _ rfl rfl g9 zeros64 rfl rfl Z Q1.out.2.2.2.1 hZs Q1.out.2.2.1.len fun w22 b22 k22 => ?_
                have Q2 := Lib.hid (And.intro (k22.box Q1.out.1 (by omega)) (And.intro b22 (And.intro (Q1.out.2.2.2.2.1.trans (k22.below Q1.out.2.2.2.2.1.size (fun i hi e => by omega))) (il_far23 Q1.out.2.2.2.2.2 Q1.out.2.2.2.1 k22))))
                have q2 : Box w22 g4 61 C12 ∧ Blk w22 g11 zeros64 := ⟨k22.box Q1.out.2.1 (by omega), Q1.out.2.2.1.kept k22 (by omega)⟩
                clear b22 k22
                refine hK.out _ _ q2 fun _ => ?_
                clear hK K
                try simp only [Act.put, List.setIfInBounds_toArray, List.set_cons_zero, List.set_cons_succ]
                refine take_to (i := 5) (v := .int .i64 E9) rfl (by kernel_rfl) (by kernel_rfl) (by kernel_rfl) (fun _ _ _ h => h) (Or.inl ⟨by rfl, fun w' hS => by go_simp⟩) q2 (some 10) rfl ?_
                try simp only [Act.put, List.setIfInBounds_toArray, List.set_cons_zero, List.set_cons_succ]
                refine wpAnyH_done (by kernel_rfl) ?_ _
                clear q0 q2
                go_wp2
                refine bodyPost_ret (v := .tuple #[.agg C12, blkV zeros64, .int .i64 E9]) (results_cct (fn := Tryd.f30) Tryd.results30 _ _ g8 g9 _ _ _ rfl rfl rfl (loadVar_61 Q2.out.1 H14.out.1.rc.size) (loadVar_blk Q2.out.2.1 H14.out.1.b11.len)) rfl ?_
                rw [HRP.out]
                exact ⟨_, _, by rw [H14.out.1.rc.val], Q2.out.2.2.2, Q2.out.2.2.1⟩
            · have hki : ¬ (k : Int) < 64 := by omega
              have hres := HP.out.res
              rw [othersG_end (by omega)] at hres
              have HO2 := Lib.hid hres
              clear hres
              go_wp2_with (first
                | (with_reducible refine wpList_load_to (op := ⟨some 127, _, _, _, _, _⟩) rfl 23 (.tmp 15) rfl (.pointer (some ⟨g15, 0, none⟩)) rfl (blkV bk) HP.out.out_.load ?_)
                | fail)
              refine (refRight_any wr bk HP.out.out_.len).mono ?_
              rintro e w30 ⟨rfl, b30⟩
              have H30 := Lib.hid (HP.out.on b30)
              clear b30
              by_cases hrr : RightB bk
              · have hd : decide (RightB bk) = true := by simpa using hrr
                have hRp := blockF_done (La := codes B' V') HIN.out HG2.out.1.symm rfl HO.out (by rw [← HO2.out]) (by rw [← HO2.out]; exact hrr)
                rw [← HR.out, ← HO2.out] at hRp
                have HRP := Lib.hid hRp
                rw [hd]
                clear hRp hd hrr
                go_wp2_with fail
                have Q0 := Lib.hid (And.intro H30.out.rgs.b4 (And.intro H30.out.out_ (And.intro H30.out.rgs.b8 H30.out.rgs.b9)))
                refine wp_region_held_drew (S := fun w' => Box w' g4 61 Ck ∧ Blk w' g15 bk) (by kernel_rfl) ⟨Q0.out.1.drewN 1, Q0.out.2.1.on (on_drew _)⟩ fun q0 => ?_
                refine take_to (i := 0) (v := .agg Ck) rfl (by kernel_rfl) (by kernel_rfl) (by kernel_rfl) (fun _ _ _ h => h) (yieldsIf_load (by rfl) 61 (.tmp 4) rfl (.pointer (some ⟨g4, 0, none⟩)) rfl (.agg Ck) (fun w' h => load61 h.1 H30.out.rgs.rc.size)) q0 (some 132) rfl ?_
                try simp only [Act.put, List.setIfInBounds_toArray, List.set_cons_zero, List.set_cons_succ]
                refine take_to (i := 1) (v := blkV bk) rfl (by kernel_rfl) (by kernel_rfl) (by kernel_rfl) (fun _ _ _ h => h) (yieldsIf_load (by rfl) 23 (.tmp 15) rfl (.pointer (some ⟨g15, 0, none⟩)) rfl (blkV bk) (fun w' h => h.2.load)) q0 (some 133) rfl ?_
                try simp only [Act.put, List.setIfInBounds_toArray, List.set_cons_zero, List.set_cons_succ]
                refine wpAnyH_ready (rs := [2]) (by kernel_rfl) (by simp) ?_
                refine AllReadyH.cons rfl (fun K hK => ?_) AllReadyH.nil
                rw [if_pos (by rfl)]
                refine wp_store_61 _ _ rfl rfl g8 Ck rfl rfl N (Q0.out.2.2.1.drewN 1) hNs H30.out.rgs.rc.size H30.out.rgs.rc.one fun w21 b21 k21 => ?_
                have Q1 := Lib.hid (And.intro b21 (And.intro (k21.box (Q0.out.1.drewN 1) (by omega)) (And.intro ((Q0.out.2.1.on (on_drew _)).kept k21 (by omega)) (And.intro (k21.box (Q0.out.2.2.2.drewN 1) (by omega)) (And.intro (H30.out.rgs.bel.drew.trans (k21.below H30.out.rgs.bel.size (fun i hi e => by omega))) (il_far61 (H30.out.rgs.row.on (on_drew _)) (Q0.out.2.2.1.drewN 1) k21))))))
                clear b21 k21
                refine hK.out _ _ ⟨Q1.out.2.1, Q1.out.2.2.1⟩ fun _ => ?_
                clear hK K
                try simp only [Act.put, List.setIfInBounds_toArray, List.set_cons_zero, List.set_cons_succ]
                refine wpAnyH_ready (rs := [3]) (by kernel_rfl) (by simp) ?_
                refine AllReadyH.cons rfl (fun K hK => ?_) AllReadyH.nil
                rw [if_pos (by rfl)]
                refine wp_store_blk arr23_size _ _ rfl rfl g9 bk rfl rfl Z Q1.out.2.2.2.1 hZs Q1.out.2.2.1.len fun w22 b22 k22 => ?_
                have Q2 := Lib.hid (And.intro (k22.box Q1.out.1 (by omega)) (And.intro b22 (And.intro (Q1.out.2.2.2.2.1.trans (k22.below Q1.out.2.2.2.2.1.size (fun i hi e => by omega))) (il_far23 Q1.out.2.2.2.2.2 Q1.out.2.2.2.1 k22))))
                have q2 : Box w22 g4 61 Ck ∧ Blk w22 g15 bk := ⟨k22.box Q1.out.2.1 (by omega), Q1.out.2.2.1.kept k22 (by omega)⟩
                clear b22 k22
                refine hK.out _ _ q2 fun _ => ?_
                clear hK K
                try simp only [Act.put, List.setIfInBounds_toArray, List.set_cons_zero, List.set_cons_succ]
                refine take_to (i := 4) (v := .int .i64 0) rfl (by kernel_rfl) (by kernel_rfl) (by kernel_rfl) (fun _ _ _ h => h) (Or.inl ⟨by rfl, fun w' hS => by go_simp⟩) q2 (some 10) rfl ?_
                try simp only [Act.put, List.setIfInBounds_toArray, List.set_cons_zero, List.set_cons_succ]
                refine wpAnyH_done (by kernel_rfl) ?_ _
                clear q0 q2
                go_wp2
                refine bodyPost_ret (v := .tuple #[.agg Ck, blkV bk, .int .i64 0]) (results_cct (fn := Tryd.f30) Tryd.results30 _ _ g8 g9 _ _ _ rfl rfl rfl (loadVar_61 Q2.out.1 H30.out.rgs.rc.size) (loadVar_blk Q2.out.2.1 H30.out.out_.len)) rfl ?_
                rw [HRP.out]
                exact ⟨_, _, by rw [H30.out.rgs.rc.val], Q2.out.2.2.2, Q2.out.2.2.1⟩
              · have hd : decide (RightB bk) = false := by simpa using hrr
                have hRp := blockF_form (La := codes B' V') HIN.out HG2.out.1.symm rfl HO.out (by rw [← HO2.out]) (by rw [← HO2.out]; exact hrr)
                rw [← HR.out, ← HO2.out] at hRp
                have HRP := Lib.hid hRp
                rw [hd]
                clear hRp hd hrr
                go_wp2_with fail
                have Q0 := Lib.hid (And.intro H30.out.rgs.b4 (And.intro H30.out.rgs.b11 (And.intro H30.out.rgs.b8 H30.out.rgs.b9)))
                refine wp_region_held_drew (S := fun w' => Box w' g4 61 Ck ∧ Blk w' g11 zeros64) (by kernel_rfl) ⟨Q0.out.1.drewN 1, Q0.out.2.1.on (on_drew _)⟩ fun q0 => ?_
                refine take_to (i := 0) (v := .agg Ck) rfl (by kernel_rfl) (by kernel_rfl) (by kernel_rfl) (fun _ _ _ h => h) (yieldsIf_load (by rfl) 61 (.tmp 4) rfl (.pointer (some ⟨g4, 0, none⟩)) rfl (.agg Ck) (fun w' h => load61 h.1 H30.out.rgs.rc.size)) q0 (some 130) rfl ?_
                try simp only [Act.put, List.setIfInBounds_toArray, List.set_cons_zero, List.set_cons_succ]
                refine take_to (i := 1) (v := blkV zeros64) rfl (by kernel_rfl) (by kernel_rfl) (by kernel_rfl) (fun _ _ _ h => h) (yieldsIf_load (by rfl) 23 (.tmp 11) rfl (.pointer (some ⟨g11, 0, none⟩)) rfl (blkV zeros64) (fun w' h => h.2.load)) q0 (some 131) rfl ?_
                try simp only [Act.put, List.setIfInBounds_toArray, List.set_cons_zero, List.set_cons_succ]
                refine wpAnyH_ready (rs := [2]) (by kernel_rfl) (by simp) ?_
                refine AllReadyH.cons rfl (fun K hK => ?_) AllReadyH.nil
                rw [if_pos (by rfl)]
                refine wp_store_61 _ _ rfl rfl g8 Ck rfl rfl N (Q0.out.2.2.1.drewN 1) hNs H30.out.rgs.rc.size H30.out.rgs.rc.one fun w21 b21 k21 => ?_
                have Q1 := Lib.hid (And.intro b21 (And.intro (k21.box (Q0.out.1.drewN 1) (by omega)) (And.intro ((Q0.out.2.1.on (on_drew _)).kept k21 (by omega)) (And.intro (k21.box (Q0.out.2.2.2.drewN 1) (by omega)) (And.intro (H30.out.rgs.bel.drew.trans (k21.below H30.out.rgs.bel.size (fun i hi e => by omega))) (il_far61 (H30.out.rgs.row.on (on_drew _)) (Q0.out.2.2.1.drewN 1) k21))))))
                clear b21 k21
                refine hK.out _ _ ⟨Q1.out.2.1, Q1.out.2.2.1⟩ fun _ => ?_
                clear hK K
                try simp only [Act.put, List.setIfInBounds_toArray, List.set_cons_zero, List.set_cons_succ]
                refine wpAnyH_ready (rs := [3]) (by kernel_rfl) (by simp) ?_
                refine AllReadyH.cons rfl (fun K hK => ?_) AllReadyH.nil
                rw [if_pos (by rfl)]
                refine wp_store_blk arr23_size _ _ rfl rfl g9 zeros64 rfl rfl Z Q1.out.2.2.2.1 hZs Q1.out.2.2.1.len fun w22 b22 k22 => ?_
                have Q2 := Lib.hid (And.intro (k22.box Q1.out.1 (by omega)) (And.intro b22 (And.intro (Q1.out.2.2.2.2.1.trans (k22.below Q1.out.2.2.2.2.1.size (fun i hi e => by omega))) (il_far23 Q1.out.2.2.2.2.2 Q1.out.2.2.2.1 k22))))
                have q2 : Box w22 g4 61 Ck ∧ Blk w22 g11 zeros64 := ⟨k22.box Q1.out.2.1 (by omega), Q1.out.2.2.1.kept k22 (by omega)⟩
                clear b22 k22
                refine hK.out _ _ q2 fun _ => ?_
                clear hK K
                try simp only [Act.put, List.setIfInBounds_toArray, List.set_cons_zero, List.set_cons_succ]
                refine take_to (i := 4) (v := .int .i64 4) rfl (by kernel_rfl) (by kernel_rfl) (by kernel_rfl) (fun _ _ _ h => h) (Or.inl ⟨by rfl, fun w' hS => by go_simp⟩) q2 (some 10) rfl ?_
                try simp only [Act.put, List.setIfInBounds_toArray, List.set_cons_zero, List.set_cons_succ]
                refine wpAnyH_done (by kernel_rfl) ?_ _
                clear q0 q2
                go_wp2
                refine bodyPost_ret (v := .tuple #[.agg Ck, blkV zeros64, .int .i64 4]) (results_cct (fn := Tryd.f30) Tryd.results30 _ _ g8 g9 _ _ _ rfl rfl rfl (loadVar_61 Q2.out.1 H30.out.rgs.rc.size) (loadVar_blk Q2.out.2.1 H30.out.rgs.b11.len)) rfl ?_
                rw [HRP.out]
                exact ⟨_, _, by rw [H30.out.rgs.rc.val], Q2.out.2.2.2, Q2.out.2.2.1⟩
        · have hRp := blockF_first (La := codes B' V') HIN.out HG2.out.1.symm h2
          rw [← HR.out] at hRp
          have HRP := Lib.hid hRp
          have e0 : (E2 == 0) = false := by simpa using h2
          have e1 : (E2 != 0) = true := by simpa using h2
          clear hRp
          go_wp2_with (first
            | ((with_reducible refine wpList_store_61 (o := ⟨none, _, _, _, _, _⟩) rfl (.tmp 4) (.tmp 50) rfl rfl g4 C4 rfl rfl C2 H4.out.b4 H4.out.rc.size HC4.out.1.size HC4.out.1.one ?_)
               intro w5 b5 k5
               have H5 := Lib.hid (H4.out.move k5 b5 HC4.out.1 HC4.out.2 HG2.out.2.1 hd0 hd1 hd2 hd3)
               clear b5 k5)
            | fail)
          have Q0 := Lib.hid (And.intro H5.out.b4 (And.intro H5.out.b11 (And.intro H5.out.b8 H5.out.b9)))
          refine wp_region_held_drew (S := fun w' => Box w' g4 61 C4 ∧ Blk w' g11 zeros64) (by kernel_rfl) ⟨Q0.out.1.drewN 1, Q0.out.2.1.on (on_drew _)⟩ fun q0 => ?_
          refine take_to (i := 0) (v := .agg C4) rfl (by kernel_rfl) (by kernel_rfl) (by kernel_rfl) (fun _ _ _ h => h) (yieldsIf_load (by rfl) 61 (.tmp 4) rfl (.pointer (some ⟨g4, 0, none⟩)) rfl (.agg C4) (fun w' h => load61 h.1 H5.out.rc.size)) q0 (some 55) rfl ?_
          try simp only [Act.put, List.setIfInBounds_toArray, List.set_cons_zero, List.set_cons_succ]
          refine take_to (i := 1) (v := blkV zeros64) rfl (by kernel_rfl) (by kernel_rfl) (by kernel_rfl) (fun _ _ _ h => h) (yieldsIf_load (by rfl) 23 (.tmp 11) rfl (.pointer (some ⟨g11, 0, none⟩)) rfl (blkV zeros64) (fun w' h => h.2.load)) q0 (some 56) rfl ?_
          try simp only [Act.put, List.setIfInBounds_toArray, List.set_cons_zero, List.set_cons_succ]
          refine take_to (i := 2) (v := .int .i64 E2) rfl (by kernel_rfl) (by kernel_rfl) (by kernel_rfl) (fun _ _ _ h => h) (Or.inl ⟨by rfl, fun w' hS => by go_simp⟩) q0 (some 57) rfl ?_
          try simp only [Act.put, List.setIfInBounds_toArray, List.set_cons_zero, List.set_cons_succ]
          refine wpAnyH_ready (rs := [3]) (by kernel_rfl) (by simp) ?_
          refine AllReadyH.cons rfl (fun K hK => ?_) AllReadyH.nil
          rw [if_pos (by rfl)]
          refine wp_store_61 _ _ rfl rfl g8 C4 rfl rfl N (Q0.out.2.2.1.drewN 1) hNs H5.out.rc.size H5.out.rc.one fun w21 b21 k21 => ?_
          have Q1 := Lib.hid (And.intro b21 (And.intro (k21.box (Q0.out.1.drewN 1) (by omega)) (And.intro ((Q0.out.2.1.on (on_drew _)).kept k21 (by omega)) (And.intro (k21.box (Q0.out.2.2.2.drewN 1) (by omega)) (And.intro (H5.out.bel.drew.trans (k21.below H5.out.bel.size (fun i hi e => by omega))) (il_far61 (H5.out.row.on (on_drew _)) (Q0.out.2.2.1.drewN 1) k21))))))
          clear b21 k21
          refine hK.out _ _ ⟨Q1.out.2.1, Q1.out.2.2.1⟩ fun _ => ?_
          clear hK K
          try simp only [Act.put, List.setIfInBounds_toArray, List.set_cons_zero, List.set_cons_succ]
          refine wpAnyH_ready (rs := [4]) (by kernel_rfl) (by simp) ?_
          refine AllReadyH.cons rfl (fun K hK => ?_) AllReadyH.nil
          rw [if_pos (by rfl)]
          refine wp_store_blk arr23_size _ _ rfl rfl g9 zeros64 rfl rfl Z Q1.out.2.2.2.1 hZs Q1.out.2.2.1.len fun w22 b22 k22 => ?_
          have Q2 := Lib.hid (And.intro (k22.box Q1.out.1 (by omega)) (And.intro b22 (And.intro (Q1.out.2.2.2.2.1.trans (k22.below Q1.out.2.2.2.2.1.size (fun i hi e => by omega))) (il_far23 Q1.out.2.2.2.2.2 Q1.out.2.2.2.1 k22))))
          have q2 : Box w22 g4 61 C4 ∧ Blk w22 g11 zeros64 := ⟨k22.box Q1.out.2.1 (by omega), Q1.out.2.2.1.kept k22 (by omega)⟩
          clear b22 k22
          refine hK.out _ _ q2 fun _ => ?_
          clear hK K
          try simp only [Act.put, List.setIfInBounds_toArray, List.set_cons_zero, List.set_cons_succ]
          refine take_to (i := 5) (v := .int .i64 E2) rfl (by kernel_rfl) (by kernel_rfl) (by kernel_rfl) (fun _ _ _ h => h) (Or.inl ⟨by rfl, fun w' hS => by go_simp⟩) q2 (some 10) rfl ?_
          try simp only [Act.put, List.setIfInBounds_toArray, List.set_cons_zero, List.set_cons_succ]
          refine wpAnyH_done (by kernel_rfl) ?_ _
          clear q0 q2
          go_wp2
          refine bodyPost_ret (v := .tuple #[.agg C4, blkV zeros64, .int .i64 E2]) (results_cct (fn := Tryd.f30) Tryd.results30 _ _ g8 g9 _ _ _ rfl rfl rfl (loadVar_61 Q2.out.1 H5.out.rc.size) (loadVar_blk Q2.out.2.1 H5.out.b11.len)) rfl ?_
          rw [HRP.out]
          exact ⟨_, _, by rw [H5.out.rc.val], Q2.out.2.2.2, Q2.out.2.2.1⟩
    · have hRp := blockF_first (La := codes B' V') HIN.out (firstF_err HGS.out.1 h0).symm h0
      rw [← HR.out] at hRp
      have HRP := Lib.hid hRp
      have e0 : (E1 == 0) = false := by simpa using h0
      have e1 : (E1 != 0) = true := by simpa using h0
      clear hRp
      go_wp2_with (first
        | ((with_reducible refine wpList_store_61 (o := ⟨none, _, _, _, _, _⟩) rfl (.tmp 4) (.tmp 34) rfl rfl g4 C2 rfl rfl C H2.out.b4 H2.out.rc.size HC2.out.1.size HC2.out.1.one ?_)
           intro w3 b3 k3
           have H3 := Lib.hid (H2.out.move k3 b3 HC2.out.1 HC2.out.2 HGS.out.2 hd0 hd1 hd2 hd3)
           clear b3 k3)
        | fail)
      have Q0 := Lib.hid (And.intro H3.out.b4 (And.intro H3.out.b11 (And.intro H3.out.b8 H3.out.b9)))
      refine wp_region_held_drew (S := fun w' => Box w' g4 61 C2 ∧ Blk w' g11 zeros64) (by kernel_rfl) ⟨Q0.out.1.drewN 1, Q0.out.2.1.on (on_drew _)⟩ fun q0 => ?_
      refine take_to (i := 0) (v := .agg C2) rfl (by kernel_rfl) (by kernel_rfl) (by kernel_rfl) (fun _ _ _ h => h) (yieldsIf_load (by rfl) 61 (.tmp 4) rfl (.pointer (some ⟨g4, 0, none⟩)) rfl (.agg C2) (fun w' h => load61 h.1 H3.out.rc.size)) q0 (some 39) rfl ?_
      try simp only [Act.put, List.setIfInBounds_toArray, List.set_cons_zero, List.set_cons_succ]
      refine take_to (i := 1) (v := blkV zeros64) rfl (by kernel_rfl) (by kernel_rfl) (by kernel_rfl) (fun _ _ _ h => h) (yieldsIf_load (by rfl) 23 (.tmp 11) rfl (.pointer (some ⟨g11, 0, none⟩)) rfl (blkV zeros64) (fun w' h => h.2.load)) q0 (some 40) rfl ?_
      try simp only [Act.put, List.setIfInBounds_toArray, List.set_cons_zero, List.set_cons_succ]
      refine take_to (i := 2) (v := .int .i64 E1) rfl (by kernel_rfl) (by kernel_rfl) (by kernel_rfl) (fun _ _ _ h => h) (Or.inl ⟨by rfl, fun w' hS => by go_simp⟩) q0 (some 41) rfl ?_
      try simp only [Act.put, List.setIfInBounds_toArray, List.set_cons_zero, List.set_cons_succ]
      refine wpAnyH_ready (rs := [3]) (by kernel_rfl) (by simp) ?_
      refine AllReadyH.cons rfl (fun K hK => ?_) AllReadyH.nil
      rw [if_pos (by rfl)]
      refine wp_store_61 _ _ rfl rfl g8 C2 rfl rfl N (Q0.out.2.2.1.drewN 1) hNs H3.out.rc.size H3.out.rc.one fun w21 b21 k21 => ?_
      have Q1 := Lib.hid (And.intro b21 (And.intro (k21.box (Q0.out.1.drewN 1) (by omega)) (And.intro ((Q0.out.2.1.on (on_drew _)).kept k21 (by omega)) (And.intro (k21.box (Q0.out.2.2.2.drewN 1) (by omega)) (And.intro (H3.out.bel.drew.trans (k21.below H3.out.bel.size (fun i hi e => by omega))) (il_far61 (H3.out.row.on (on_drew _)) (Q0.out.2.2.1.drewN 1) k21))))))
      clear b21 k21
      refine hK.out _ _ ⟨Q1.out.2.1, Q1.out.2.2.1⟩ fun _ => ?_
      clear hK K
      try simp only [Act.put, List.setIfInBounds_toArray, List.set_cons_zero, List.set_cons_succ]
      refine wpAnyH_ready (rs := [4]) (by kernel_rfl) (by simp) ?_
      refine AllReadyH.cons rfl (fun K hK => ?_) AllReadyH.nil
      rw [if_pos (by rfl)]
      refine wp_store_blk arr23_size _ _ rfl rfl g9 zeros64 rfl rfl Z Q1.out.2.2.2.1 hZs Q1.out.2.2.1.len fun w22 b22 k22 => ?_
      have Q2 := Lib.hid (And.intro (k22.box Q1.out.1 (by omega)) (And.intro b22 (And.intro (Q1.out.2.2.2.2.1.trans (k22.below Q1.out.2.2.2.2.1.size (fun i hi e => by omega))) (il_far23 Q1.out.2.2.2.2.2 Q1.out.2.2.2.1 k22))))
      have q2 : Box w22 g4 61 C2 ∧ Blk w22 g11 zeros64 := ⟨k22.box Q1.out.2.1 (by omega), Q1.out.2.2.1.kept k22 (by omega)⟩
      clear b22 k22
      refine hK.out _ _ q2 fun _ => ?_
      clear hK K
      try simp only [Act.put, List.setIfInBounds_toArray, List.set_cons_zero, List.set_cons_succ]
      refine take_to (i := 5) (v := .int .i64 E1) rfl (by kernel_rfl) (by kernel_rfl) (by kernel_rfl) (fun _ _ _ h => h) (Or.inl ⟨by rfl, fun w' hS => by go_simp⟩) q2 (some 10) rfl ?_
      try simp only [Act.put, List.setIfInBounds_toArray, List.set_cons_zero, List.set_cons_succ]
      refine wpAnyH_done (by kernel_rfl) ?_ _
      clear q0 q2
      go_wp2
      refine bodyPost_ret (v := .tuple #[.agg C2, blkV zeros64, .int .i64 E1]) (results_cct (fn := Tryd.f30) Tryd.results30 _ _ g8 g9 _ _ _ rfl rfl rfl (loadVar_61 Q2.out.1 H3.out.rc.size) (loadVar_blk Q2.out.2.1 H3.out.b11.len)) rfl ?_
      rw [HRP.out]
      exact ⟨_, _, by rw [H3.out.rc.val], Q2.out.2.2.2, Q2.out.2.2.1⟩
  · have hRp := blockF_prev (Ld := codes B V) (La := codes B' V') (l := l) (s := s) hin
    rw [← HR.out] at hRp
    have HRP := Lib.hid hRp
    have hd : decide (In prev) = false := by simpa using hin
    have HDD := Lib.hid hd
    clear hRp hd hin
    go_wp2_with fail
    refine (refIn_any w1 prev).mono ?_
    rintro e w2 ⟨rfl, rfl⟩
    rw [HDD.out]
    go_wp2_with fail
    have Q0 := Lib.hid (And.intro H1.out.b4 (And.intro H1.out.b11 (And.intro H1.out.b8 H1.out.b9)))
    refine wp_region_held_drew (S := fun w' => Box w' g4 61 C ∧ Blk w' g11 zeros64) (by kernel_rfl) ⟨Q0.out.1.drewN 1, Q0.out.2.1.on (on_drew _)⟩ fun q0 => ?_
    refine take_to (i := 0) (v := .agg C) rfl (by kernel_rfl) (by kernel_rfl) (by kernel_rfl) (fun _ _ _ h => h) (yieldsIf_load (by rfl) 61 (.tmp 4) rfl (.pointer (some ⟨g4, 0, none⟩)) rfl (.agg C) (fun w' h => load61 h.1 H1.out.rc.size)) q0 (some 28) rfl ?_
    try simp only [Act.put, List.setIfInBounds_toArray, List.set_cons_zero, List.set_cons_succ]
    refine take_to (i := 1) (v := blkV zeros64) rfl (by kernel_rfl) (by kernel_rfl) (by kernel_rfl) (fun _ _ _ h => h) (yieldsIf_load (by rfl) 23 (.tmp 11) rfl (.pointer (some ⟨g11, 0, none⟩)) rfl (blkV zeros64) (fun w' h => h.2.load)) q0 (some 29) rfl ?_
    try simp only [Act.put, List.setIfInBounds_toArray, List.set_cons_zero, List.set_cons_succ]
    refine wpAnyH_ready (rs := [2]) (by kernel_rfl) (by simp) ?_
    refine AllReadyH.cons rfl (fun K hK => ?_) AllReadyH.nil
    rw [if_pos (by rfl)]
    refine wp_store_61 _ _ rfl rfl g8 C rfl rfl N (Q0.out.2.2.1.drewN 1) hNs H1.out.rc.size H1.out.rc.one fun w21 b21 k21 => ?_
    have Q1 := Lib.hid (And.intro b21 (And.intro (k21.box (Q0.out.1.drewN 1) (by omega)) (And.intro ((Q0.out.2.1.on (on_drew _)).kept k21 (by omega)) (And.intro (k21.box (Q0.out.2.2.2.drewN 1) (by omega)) (And.intro (H1.out.bel.drew.trans (k21.below H1.out.bel.size (fun i hi e => by omega))) (il_far61 (H1.out.row.on (on_drew _)) (Q0.out.2.2.1.drewN 1) k21))))))
    clear b21 k21
    refine hK.out _ _ ⟨Q1.out.2.1, Q1.out.2.2.1⟩ fun _ => ?_
    clear hK K
    try simp only [Act.put, List.setIfInBounds_toArray, List.set_cons_zero, List.set_cons_succ]
    refine wpAnyH_ready (rs := [3]) (by kernel_rfl) (by simp) ?_
    refine AllReadyH.cons rfl (fun K hK => ?_) AllReadyH.nil
    rw [if_pos (by rfl)]
    refine wp_store_blk arr23_size _ _ rfl rfl g9 zeros64 rfl rfl Z Q1.out.2.2.2.1 hZs Q1.out.2.2.1.len fun w22 b22 k22 => ?_
    have Q2 := Lib.hid (And.intro (k22.box Q1.out.1 (by omega)) (And.intro b22 (And.intro (Q1.out.2.2.2.2.1.trans (k22.below Q1.out.2.2.2.2.1.size (fun i hi e => by omega))) (il_far23 Q1.out.2.2.2.2.2 Q1.out.2.2.2.1 k22))))
    have q2 : Box w22 g4 61 C ∧ Blk w22 g11 zeros64 := ⟨k22.box Q1.out.2.1 (by omega), Q1.out.2.2.1.kept k22 (by omega)⟩
    clear b22 k22
    refine hK.out _ _ q2 fun _ => ?_
    clear hK K
    try simp only [Act.put, List.setIfInBounds_toArray, List.set_cons_zero, List.set_cons_succ]
    refine take_to (i := 4) (v := .int .i64 2) rfl (by kernel_rfl) (by kernel_rfl) (by kernel_rfl) (fun _ _ _ h => h) (Or.inl ⟨by rfl, fun w' hS => by go_simp⟩) q2 (some 10) rfl ?_
    try simp only [Act.put, List.setIfInBounds_toArray, List.set_cons_zero, List.set_cons_succ]
    refine wpAnyH_done (by kernel_rfl) ?_ _
    clear q0 q2
    go_wp2
    refine bodyPost_ret (v := .tuple #[.agg C, blkV zeros64, .int .i64 2]) (results_cct (fn := Tryd.f30) Tryd.results30 _ _ g8 g9 _ _ _ rfl rfl rfl (loadVar_61 Q2.out.1 H1.out.rc.size) (loadVar_blk Q2.out.2.1 H1.out.b11.len)) rfl ?_
    rw [HRP.out]
    exact ⟨Al, cl, by rw [H1.out.rc.val], Q2.out.2.2.2, Q2.out.2.2.1⟩
end
end Go.Proofs.YthfpdebpepbejaaDoor
