/-
  TunedCosts: the walk.
-/
import Derived.Test.YtmaffonnekgekaaLawBase
import Derived.Test.YtmaffonnekgekaaRefCost
namespace Go.Proofs.Ytmaffonnekgekaa
open Go.RowKit

theorem Box.spec_all {w : World} {g : Nat} {B : List Int} {v : Value} (h : Box w g 26 (specC B v)) : w.rangeAt g 0 (cellsI B ++ [v]) := by
  intro j u hu
  rw [Nat.zero_add, h.cell j]
  simpa [specC] using hu

set_option linter.unusedSimpArgs false in
set_option maxRecDepth 20000 in
set_option maxHeartbeats 3200000 in
theorem costs_calls (w : World) (B V : List Int) (A : Option Addr) (n c : Nat) (C : List Int) (A2 : Option Addr) (n2 c2 : Nat) (hB : B.length = 16) (h : Ia w A n c V) (h2 : Ia w A2 n2 c2 C) :
    Calls Try.prog 4 #[specV B (.slice A n c), .slice A2 n2 c2] w (Law w) := by
  obtain ⟨CC, hC⟩ : ∃ CC, CC = specC B (.slice A n c) := ⟨_, rfl⟩
  have eV : specV B (.slice A n c) = .agg CC := by rw [hC]; rfl
  rw [eV]
  obtain ⟨g, hg⟩ : ∃ g, g = w.heap.size := ⟨_, rfl⟩
  obtain ⟨w1, hw1⟩ : ∃ w1, w1 = w.alloc (.cells CC 26) := ⟨_, rfl⟩
  have hb := boxed_made (w1 := w1) (g := g) hB h (by rw [hw1, hC]) hg
  have c16 := hb.slice
  rw [hw1, hg] at c16
  have HB := Lib.hid (And.intro hb (And.intro hw1 (And.intro hg (h2.on hb.bel))))
  clear hb hw1 hg hC eV h h2
  by_cases hn2 : 300 < n2
  · go_enter Try.func4, Try.ntmps4
    go_wp2_with fail
    rw [← HB.out.2.1]
    refine (awake_any w1).mono ?_
    rintro e w2 ⟨rfl, b2⟩
    have H2 := Lib.hid (on_trans HB.out.1.bel b2)
    clear b2
    go_wp2
    go_ret
    exact ⟨rfl, H2.out⟩
  by_cases hn : 300 < n
  · go_enter Try.func4, Try.ntmps4
    go_wp2_with fail
    rw [← HB.out.2.1]
    refine (awake_any w1).mono ?_
    rintro e w2 ⟨rfl, b2⟩
    have H2 := Lib.hid (on_trans HB.out.1.bel b2)
    clear b2
    go_wp2
    go_ret
    exact ⟨rfl, H2.out⟩
  have HN := Lib.hid (And.intro hn hn2)
  go_enter Try.func4, Try.ntmps4
  go_wp2_with fail
  rw [← HB.out.2.1, ← HB.out.2.2.1]
  clear c16
  have K1 := Lib.hid HB.out.1.box
  refine wp_region_held_drew (S := fun w' => Box w' g 26 (specC B (.slice A n c))) (by kernel_rfl) (K1.out.drewN 1) fun s0 => ?_
  refine wpAnyH_take (i := 0) rfl (by kernel_rfl) (by kernel_rfl) (by kernel_rfl) (fun _ _ _ h => h) (yieldsIf_load_mid (by rfl) 26 _ rfl g 0 rfl (cellsI B ++ [.slice A n c]) _ (fun w' h => h.spec_all) Try.underlying26 rfl (by rw [spec_size, List.length_append, cellsI_len, hB]; rfl)) s0 ?_
  simp only [Act.put, List.setIfInBounds_toArray, List.set_cons_zero, List.set_cons_succ]
  refine wpAnyH_take (i := 2) (v := .slice A2 n2 c2) rfl (by kernel_rfl) (by kernel_rfl) (by kernel_rfl) (fun _ _ _ h => h) (Or.inl ⟨by rfl, fun w' hS => by go_simp⟩) s0 ?_
  simp only [Act.put, List.setIfInBounds_toArray, List.set_cons_zero, List.set_cons_succ]
  refine wpAnyH_ready (rs := [1]) (by kernel_rfl) (by simp) ?_
  refine AllReadyH.cons rfl (fun K hK => ?_) AllReadyH.nil
  go_simp
  refine hK.out _ _ (K1.out.alloc _) fun s1 => ?_
  clear hK K s0
  refine wpAnyH_ready (rs := [3]) (by kernel_rfl) (by simp) ?_
  refine AllReadyH.cons rfl (fun K hK => ?_) AllReadyH.nil
  refine step_append_il rfl (.tmp 21) (.tmp 22) rfl w1.heap.size (.slice (some ⟨w1.heap.size, 0, none⟩) 0 0) 0 [] rfl (World.ownsRow_made w1 #[] 0 (Nat.le_refl _) (Nat.zero_le _) rfl) A2 n2 c2 C rfl ((HB.out.2.2.2.alloc _).drew) (by have := HN.out.2; omega) (by simp) (some 23) rfl ?_
  intro v3 w3 hown3 bq
  obtain ⟨A3, c3, hv3, hi3, _, b3⟩ := copied_row hown3 ⟨bq.os, bq.tape, bq.output, bq.size, bq.block⟩
  rw [hv3]
  clear hown3 hv3 bq
  simp only [Act.put, List.setIfInBounds_toArray, List.set_cons_zero, List.set_cons_succ]
  have H3 := Lib.hid (And.intro hi3 (And.intro (HB.out.1.on b3) (And.intro (HB.out.2.2.2.on b3) b3)))
  clear hi3 b3
  refine hK.out _ _ H3.out.2.1.box fun s2 => ?_
  clear hK K s1
  refine wpAnyH_ready (rs := [4]) (by kernel_rfl) (by simp) ?_
  refine AllReadyH.cons rfl (fun K hK => ?_) AllReadyH.nil
  go_simp
  refine (cost_any w3 B V C A A3 n c n2 c3 hB H3.out.2.1.vals (by have := HN.out.1; omega) H3.out.1.ia (by have := HN.out.2; omega)).mono ?_
  rintro e w4 ⟨t1, x1, rfl, hc1, b4⟩
  have H4 := Lib.hid (And.intro hc1 (And.intro (H3.out.2.1.on b4) (H3.out.2.2.1.on b4)))
  clear hc1 b4
  refine hK.out _ _ H4.out.2.1.box fun s3 => ?_
  clear hK K s2
  refine wpAnyH_take (i := 5) (v := .tuple #[.int .i64 t1, .int .i64 x1]) rfl (by kernel_rfl) (by kernel_rfl) (by kernel_rfl) (fun _ _ _ h => h) (Or.inl ⟨by rfl, fun w' hS => by go_simp⟩) s3 ?_
  simp only [Act.put, List.setIfInBounds_toArray, List.set_cons_zero, List.set_cons_succ]
  refine wpAnyH_take (i := 6) (v := .int .i64 t1) rfl (by kernel_rfl) (by kernel_rfl) (by kernel_rfl) (fun _ _ _ h => h) (Or.inl ⟨by rfl, fun w' hS => by go_simp⟩) s3 ?_
  simp only [Act.put, List.setIfInBounds_toArray, List.set_cons_zero, List.set_cons_succ]
  refine wpAnyH_take (i := 7) (v := .int .i64 x1) rfl (by kernel_rfl) (by kernel_rfl) (by kernel_rfl) (fun _ _ _ h => h) (Or.inl ⟨by rfl, fun w' hS => by go_simp⟩) s3 ?_
  simp only [Act.put, List.setIfInBounds_toArray, List.set_cons_zero, List.set_cons_succ]
  refine wpAnyH_take (i := 8) (v := .int .i64 t1) rfl (by kernel_rfl) (by kernel_rfl) (by kernel_rfl) (fun _ _ _ h => h) (Or.inl ⟨by rfl, fun w' hS => by go_simp⟩) s3 ?_
  simp only [Act.put, List.setIfInBounds_toArray, List.set_cons_zero, List.set_cons_succ]
  refine wpAnyH_take (i := 9) (v := .int .i64 x1) rfl (by kernel_rfl) (by kernel_rfl) (by kernel_rfl) (fun _ _ _ h => h) (Or.inl ⟨by rfl, fun w' hS => by go_simp⟩) s3 ?_
  simp only [Act.put, List.setIfInBounds_toArray, List.set_cons_zero, List.set_cons_succ]
  refine wpAnyH_done (by kernel_rfl) ?_ _
  clear s3
  go_wp2_with (first
    | (with_reducible refine wpList_load_to (op := ⟨some 28, _, _, _, _, _⟩) rfl 26 (.tmp 2) rfl (.pointer (some ⟨g, 0, none⟩)) rfl (specV B (.slice A n c)) (load_spec H4.out.2.1.box hB) ?_)
    | fail)
  refine (refCost_any w4 B V C A A2 n c n2 c2 hB H4.out.2.1.vals H4.out.2.2 (by have := HN.out.2; omega)).mono ?_
  rintro e w5 ⟨t2, x2, rfl, hc2, b5⟩
  obtain ⟨rfl, rfl⟩ := H4.out.1.only hc2
  have H5 := Lib.hid (on_trans H4.out.2.1.bel b5)
  clear hc2 b5
  go_wp2_with fail
  refine (awake_any w5).mono ?_
  rintro e w6 ⟨rfl, b6⟩
  have H6 := Lib.hid (on_trans H5.out b6)
  clear b6
  go_wp2
  go_ret
  exact ⟨rfl, H6.out⟩
end Go.Proofs.Ytmaffonnekgekaa
