/-
  SegmentHeads: two headers that may be, and are not the same, are told otherwise, and neither begins the other: the walk. SegmentHeads: two headers that may be, and are not the same, are told otherwise, and neither begins the other: the walk.
-/
import Derived.Test.YtgipngedmblnmaaDoorLAwake
namespace Go.Proofs.YtgipngedmblnmaaDoor
open Go.RowKit

theorem head_facts {W H K R : Int} (h : RightS W H K R) : (headB W H K R).getD 5 0 = (if K = 0 then 11 else 17) ∧ (headB W H K R).getD 8 0 = H ∧ (headB W H K R).getD 10 0 = W ∧ (headB W H K R).getD 13 0 = (if K = 0 then 17 else howB K) ∧
    (headB W H K R).getD (if K = 0 then 16 else 22) 0 = (if 0 < R then 221 else 218) ∧ (0 < R → (headB W H K R).getD (if K = 0 then 19 else 25) 0 = R / 256 ∧ (headB W H K R).getD (if K = 0 then 20 else 26) 0 = R % 256) ∧
    (headB W H K R).length = (if K = 0 then 25 else 35) + (if 0 < R then 6 else 0) := by
  unfold RightS at h
  have e1 : H / 256 % 256 = 0 := by omega
  have e2 : H % 256 = H := by omega
  have e3 : W / 256 % 256 = 0 := by omega
  have e4 : W % 256 = W := by omega
  have e5 : R / 256 % 256 = R / 256 := by omega
  rcases (show K = 0 ∨ K = 1 ∨ K = 2 ∨ K = 3 by omega) with rfl | rfl | rfl | rfl <;> by_cases hR : 0 < R <;>
    simp [headB, frameB, scanB, segB, be2, howB, hR, e1, e2, e3, e4, e5]
theorem howB_inj {K K' : Int} (h : howB K = howB K') (a : 1 ≤ K ∧ K ≤ 3) (b : 1 ≤ K' ∧ K' ≤ 3) : K = K' := by
  unfold howB at h
  rcases (show K = 1 ∨ K = 2 ∨ K = 3 by omega) with rfl | rfl | rfl <;> rcases (show K' = 1 ∨ K' = 2 ∨ K' = 3 by omega) with rfl | rfl | rfl <;> first | rfl | (exfalso; revert h; decide)
theorem heads_apart {W H K R W' H' K' R' : Int} (h : RightS W H K R) (h' : RightS W' H' K' R') {n : Nat} (hn : n = min (headB W H K R).length (headB W' H' K' R').length) (he : (headB W H K R).take n = (headB W' H' K' R').take n) : W = W' ∧ H = H' ∧ K = K' ∧ R = R' := by
  obtain ⟨a1, a2, a3, a4, a5, a6, a7⟩ := head_facts h
  obtain ⟨b1, b2, b3, b4, b5, b6, b7⟩ := head_facts h'
  have key : ∀ i, i < n → (headB W H K R).getD i 0 = (headB W' H' K' R').getD i 0 := fun i hi => by
    have := congrArg (fun l => l.getD i 0) he
    simp only [List.getD_eq_getElem?_getD] at this ⊢
    rwa [List.getElem?_take_of_lt hi, List.getElem?_take_of_lt hi] at this
  rw [a7, b7] at hn
  have hn25 : 25 ≤ n := by rw [hn]; split <;> split <;> split <;> split <;> omega
  have k5 := key 5 (by omega)
  have k8 := key 8 (by omega)
  have k10 := key 10 (by omega)
  have k13 := key 13 (by omega)
  rw [a1, b1] at k5
  rw [a2, b2] at k8
  rw [a3, b3] at k10
  rw [a4, b4] at k13
  unfold RightS at h h'
  have hK0 : K = 0 ↔ K' = 0 := by
    constructor
    · intro e
      rw [if_pos e] at k5
      by_cases e' : K' = 0
      · exact e'
      · rw [if_neg e'] at k5; omega
    · intro e
      rw [if_pos e] at k5
      by_cases e' : K = 0
      · exact e'
      · rw [if_neg e'] at k5; omega
  have hK : K = K' := by
    by_cases e : K = 0
    · rw [e, hK0.1 e]
    · have e' : K' ≠ 0 := fun x => e (hK0.2 x)
      rw [if_neg e, if_neg e'] at k13
      exact howB_inj k13 (by omega) (by omega)
  subst hK
  refine ⟨k10, k8, rfl, ?_⟩
  by_cases e : K = 0
  · subst e
    simp only [if_true] at a5 a6 b5 b6 hn
    have k16 := key 16 (by omega)
    rw [a5, b5] at k16
    by_cases r : 0 < R
    · by_cases r' : 0 < R'
      · have k19 := key 19 (by omega)
        have k20 := key 20 (by omega)
        rw [(a6 r).1, (b6 r').1] at k19
        rw [(a6 r).2, (b6 r').2] at k20
        omega
      · rw [if_pos r, if_neg r'] at k16; omega
    · by_cases r' : 0 < R'
      · rw [if_neg r, if_pos r'] at k16; omega
      · omega
  · simp only [e, if_false] at a5 a6 b5 b6 hn
    have k22 := key 22 (by split at hn <;> split at hn <;> omega)
    rw [a5, b5] at k22
    by_cases r : 0 < R
    · by_cases r' : 0 < R'
      · have k25 := key 25 (by first | omega | (split at hn <;> omega) | (split at hn <;> split at hn <;> omega) | (rw [if_pos r, if_pos r'] at hn; omega))
        have k26 := key 26 (by first | omega | (split at hn <;> omega) | (split at hn <;> split at hn <;> omega) | (rw [if_pos r, if_pos r'] at hn; omega))
        rw [(a6 r).1, (b6 r').1] at k25
        rw [(a6 r).2, (b6 r').2] at k26
        omega
      · rw [if_pos r, if_neg r'] at k22; omega
    · by_cases r' : 0 < R'
      · rw [if_neg r, if_pos r'] at k22; omega
      · omega
end Go.Proofs.YtgipngedmblnmaaDoor

namespace Go.Proofs.YtgipngedmblnmaaDoor
open Go.RowKit

theorem headF_bad {W H K R : Int} (h : ¬ RightS W H K R) : headF W H K R = ([], 1) := if_neg h
theorem headF_ok {W H K R : Int} (h : RightS W H K R) : headF W H K R = (headB W H K R, 0) := if_pos h
set_option maxRecDepth 10000 in
set_option maxHeartbeats 3200000 in
theorem heads_calls (w : World) (W H K R W' H' K' R' : Int) (hT : Tab w) : Calls Tryd.prog 7 #[.agg #[.int .i64 W, .int .i64 H, .int .i64 K, .int .i64 R], .agg #[.int .i64 W', .int .i64 H', .int .i64 K', .int .i64 R']] w (Law w) := by
  obtain ⟨w1, hw1⟩ : ∃ x, (w.alloc (.cells #[.int .i64 W, .int .i64 H, .int .i64 K, .int .i64 R] 33)).alloc (.cells #[.int .i64 W', .int .i64 H', .int .i64 K', .int .i64 R'] 33) = x := ⟨_, rfl⟩
  have ba : Box w1 w.heap.size 33 #[.int .i64 W, .int .i64 H, .int .i64 K, .int .i64 R] := by rw [← hw1]; exact (Box.made _ _ _).alloc _
  have bb : Box w1 (w.heap.size + 1) 33 #[.int .i64 W', .int .i64 H', .int .i64 K', .int .i64 R'] := by
    have := Box.made (w.alloc (.cells #[.int .i64 W, .int .i64 H, .int .i64 K, .int .i64 R] 33)) 33 #[.int .i64 W', .int .i64 H', .int .i64 K', .int .i64 R']
    rw [show (w.alloc (.cells #[.int .i64 W, .int .i64 H, .int .i64 K, .int .i64 R] 33)).heap.size = w.heap.size + 1 by simp, hw1] at this
    exact this
  have k1 : Below w.heap.size w w1 := by rw [← hw1]; exact on_trans (on_alloc _ _) (on_alloc _ _)
  have HH := Lib.hid (head_any w1 W H K R)
  have H1 := Lib.hid (And.intro hw1 (And.intro ba (And.intro bb (And.intro k1 hT))))
  obtain ⟨F, hF⟩ : ∃ F, F = headF W H K R := ⟨_, rfl⟩
  obtain ⟨F', hF'⟩ : ∃ F, F = headF W' H' K' R' := ⟨_, rfl⟩
  rw [← hF] at HH
  have HF := Lib.hid (And.intro hF hF')
  have hf01 : F.2 = 0 ∨ F.2 = 1 := by
    rw [hF]
    by_cases h : RightS W H K R
    · rw [headF_ok h]; exact .inl rfl
    · rw [headF_bad h]; exact .inr rfl
  have hg01 : F'.2 = 0 ∨ F'.2 = 1 := by
    rw [hF']
    by_cases h : RightS W' H' K' R'
    · rw [headF_ok h]; exact .inl rfl
    · rw [headF_bad h]; exact .inr rfl
  clear hw1 ba bb k1 hT hF hF'
  go_enter Tryd.func7, Tryd.ntmps7
  go_upto_region 1 with fail
  rw [H1.out.1]
  have d0 : w1.cell? ⟨w.heap.size, 0, none⟩ = some (.int .i64 W) := H1.out.2.1.cell 0
  have d1 : w1.cell? ⟨w.heap.size, 1, none⟩ = some (.int .i64 H) := H1.out.2.1.cell 1
  have d2 : w1.cell? ⟨w.heap.size, 2, none⟩ = some (.int .i64 K) := H1.out.2.1.cell 2
  have d3 : w1.cell? ⟨w.heap.size, 3, none⟩ = some (.int .i64 R) := H1.out.2.1.cell 3
  go_wp2_with fail
  refine Calls.mono HH.out ?_
  rintro e w2 ⟨A1, c1, rfl, s1, b2⟩
  obtain ⟨n1, hn1⟩ : ∃ n, n = F.1.length := ⟨_, rfl⟩
  rw [← hn1] at s1 ⊢
  obtain ⟨f, hf⟩ : ∃ f, f = F.2 := ⟨_, rfl⟩
  rw [← hf] at hf01 ⊢
  have Hf := Lib.hid (And.intro hn1 hf)
  have H2 := Lib.hid (And.intro (H1.out.2.1.on b2) (And.intro (H1.out.2.2.1.on b2) (And.intro s1 (on_trans H1.out.2.2.2.1 b2))))
  have HH2 := Lib.hid (head_any w2 W' H' K' R')
  rw [← HF.out.2] at HH2
  clear s1 b2 hn1 hf d0 d1 d2 d3 HH
  have d0 : w2.cell? ⟨w.heap.size + 1, 0, none⟩ = some (.int .i64 W') := H2.out.2.1.cell 0
  have d1 : w2.cell? ⟨w.heap.size + 1, 1, none⟩ = some (.int .i64 H') := H2.out.2.1.cell 1
  have d2 : w2.cell? ⟨w.heap.size + 1, 2, none⟩ = some (.int .i64 K') := H2.out.2.1.cell 2
  have d3 : w2.cell? ⟨w.heap.size + 1, 3, none⟩ = some (.int .i64 R') := H2.out.2.1.cell 3
  go_wp2_with fail
  refine Calls.mono HH2.out ?_
  rintro e w3 ⟨A2, c2, rfl, s2, b3⟩
  obtain ⟨n2, hn2⟩ : ∃ n, n = F'.1.length := ⟨_, rfl⟩
  rw [← hn2] at s2 ⊢
  obtain ⟨f', hf'⟩ : ∃ f, f = F'.2 := ⟨_, rfl⟩
  rw [← hf'] at hg01 ⊢
  have Hf' := Lib.hid (And.intro hn2 hf')
  have H3 := Lib.hid (And.intro (H2.out.1.on b3) (And.intro (H2.out.2.1.on b3) (And.intro (H2.out.2.2.1.on b3) (And.intro s2 (on_trans H2.out.2.2.2 b3)))))
  have HA := Lib.hid (fun (w' : World) (k : Below w.heap.size w w') => (awake_any w' (H1.out.2.2.2.2.on k)).mono (fun e w'' (h : Law w' e w'') => (show Law w e w'' from ⟨h.1, on_trans k h.2⟩)))
  clear s2 b3 hn2 hf' d0 d1 d2 d3 HH2
  have d0 : w3.cell? ⟨w.heap.size, 0, none⟩ = some (.int .i64 W) := H3.out.1.cell 0
  have d1 : w3.cell? ⟨w.heap.size, 1, none⟩ = some (.int .i64 H) := H3.out.1.cell 1
  have d2 : w3.cell? ⟨w.heap.size, 2, none⟩ = some (.int .i64 K) := H3.out.1.cell 2
  have d3 : w3.cell? ⟨w.heap.size, 3, none⟩ = some (.int .i64 R) := H3.out.1.cell 3
  have g0 : w3.cell? ⟨w.heap.size + 1, 0, none⟩ = some (.int .i64 W') := H3.out.2.1.cell 0
  have g1 : w3.cell? ⟨w.heap.size + 1, 1, none⟩ = some (.int .i64 H') := H3.out.2.1.cell 1
  have g2 : w3.cell? ⟨w.heap.size + 1, 2, none⟩ = some (.int .i64 K') := H3.out.2.1.cell 2
  have g3 : w3.cell? ⟨w.heap.size + 1, 3, none⟩ = some (.int .i64 R') := H3.out.2.1.cell 3
  rcases hf01 with h0 | h0
  case inr =>
    subst h0
    go_wp2_with fail
    refine (HA.out w3 H3.out.2.2.2.2).mono ?_
    rintro e w4 ⟨rfl, b4⟩
    have H4 := Lib.hid b4
    clear b4
    go_wp2_with fail
    go_ret
    exact ⟨rfl, H4.out⟩
  subst h0
  rcases hg01 with h0 | h0
  case inr =>
    subst h0
    go_wp2_with fail
    refine (HA.out w3 H3.out.2.2.2.2).mono ?_
    rintro e w4 ⟨rfl, b4⟩
    have H4 := Lib.hid b4
    clear b4
    go_wp2_with fail
    go_ret
    exact ⟨rfl, H4.out⟩
  subst h0
  have hra : RightS W H K R := by
    by_cases h : RightS W H K R
    · exact h
    · have := Hf.out.2; rw [HF.out.1, headF_bad h] at this; cases this
  have hrb : RightS W' H' K' R' := by
    by_cases h : RightS W' H' K' R'
    · exact h
    · have := Hf'.out.2; rw [HF.out.2, headF_bad h] at this; cases this
  by_cases hsame : W = W' ∧ H = H' ∧ K = K' ∧ R = R'
  · obtain ⟨rfl, rfl, rfl, rfl⟩ := hsame
    clear hra hrb
    go_wp2_with fail
    refine (HA.out w3 H3.out.2.2.2.2).mono ?_
    rintro e w4 ⟨rfl, b4⟩
    have H4 := Lib.hid b4
    clear b4
    go_wp2_with fail
    go_ret
    exact ⟨rfl, H4.out⟩
  have eF : F.1 = headB W H K R := by rw [HF.out.1, headF_ok hra]
  have eF' : F'.1 = headB W' H' K' R' := by rw [HF.out.2, headF_ok hrb]
  have hl1 : 25 ≤ n1 := by rw [Hf.out.1, eF, (head_facts hra).2.2.2.2.2.2]; split <;> split <;> omega
  have hl2 : 25 ≤ n2 := by rw [Hf'.out.1, eF', (head_facts hrb).2.2.2.2.2.2]; split <;> split <;> omega
  obtain ⟨b1, o1, e1, _⟩ := H3.out.2.2.1.get (k := 0) (by omega)
  obtain ⟨b2, o2, e2, _⟩ := H3.out.2.2.2.1.get (k := 0) (by omega)
  subst e1
  subst e2
  have hd : (W == W' && (H == H' && (K == K' && R == R'))) = false := by
    rw [Bool.eq_false_iff]
    intro h
    simp at h
    exact hsame ⟨h.1, h.2.1, h.2.2.1, h.2.2.2⟩
  obtain ⟨n, hn⟩ : ∃ n, n = min n1 n2 := ⟨_, rfl⟩
  have hne : F.1.take n ≠ F'.1.take n := fun h => hsame (heads_apart (n := n) hra hrb (by rw [hn, Hf.out.1, Hf'.out.1, eF, eF']) (by rw [← eF, ← eF']; exact h))
  have t1 := sl_take H3.out.2.2.1 (m := n) (by omega)
  have t2 := sl_take H3.out.2.2.2.1 (m := n) (by omega)
  obtain ⟨S1, hS1⟩ : ∃ S, S = strOfNums (F.1.take n) := ⟨_, rfl⟩
  obtain ⟨S2, hS2⟩ : ∃ S, S = strOfNums (F'.1.take n) := ⟨_, rfl⟩
  have hstr : (S1.toList == S2.toList) = false := by rw [hS1, hS2, str_dec t1.bts.fit t2.bts.fit, decide_eq_false hne]
  have HNe := Lib.hid hstr
  have HCv := Lib.hid (And.intro (fun (w' : World) (k : Below w3.heap.size w3 w') => (show (convert 37 9 (.slice (some ⟨b1, o1, none⟩) n c1)).run Tryd.prog w' = .ok (.string S1) w' by rw [hS1]; exact sl_str (t1.on k))) (fun (w' : World) (k : Below w3.heap.size w3 w') => (show (convert 37 9 (.slice (some ⟨b2, o2, none⟩) n c2)).run Tryd.prog w' = .ok (.string S2) w' by rw [hS2]; exact sl_str (t2.on k))))
  have hcap := And.intro H3.out.2.2.1.cap H3.out.2.2.2.1.cap
  have hnn := Lib.hid hn
  have hn1' : n ≤ n1 := by omega
  have hn2' : n ≤ n2 := by omega
  have hk1 : n ≤ c1 := by omega
  have hk2 : n ≤ c2 := by omega
  have hsp : Hid (¬ (W = W' ∧ H = H' ∧ K = K' ∧ R = R')) := Lib.hid hsame
  clear hne t1 t2 hS1 hS2 hstr hra hrb eF eF' hn hsame
  have hcs : (W ≠ W') ∨ (W = W' ∧ H ≠ H') ∨ (W = W' ∧ H = H' ∧ K ≠ K') ∨ (W = W' ∧ H = H' ∧ K = K' ∧ R ≠ R') := by have := hsp.out; omega
  clear hd
  rcases hcs with q | ⟨rfl, q⟩ | ⟨rfl, rfl, q⟩ | ⟨rfl, rfl, rfl, q⟩
  all_goals
    have q' := beq_eq_false_iff_ne.2 q
    have q2 := decide_eq_false q
    rcases Nat.lt_or_ge n2 n1 with hle | hle
    · have en : n = n2 := by have := hnn.out; omega
      subst en
      clear hnn
      have hle2 : ¬ n1 ≤ n := by omega
      have hle3 : (n : Int) < (n1 : Int) := by omega
      go_upto_region 6 with fail
      refine wp_region_held_drew (S := fun w' => Hid (Below w3.heap.size w3 w')) (by kernel_rfl) (Lib.hid (on_drew w3)) fun s0 => ?_
      refine take_to (i := 0) (v := .slice (some ⟨b1, o1, none⟩) n1 c1) rfl (by kernel_rfl) (by kernel_rfl) (by kernel_rfl) (fun _ _ _ h => h) (Or.inl ⟨by rfl, fun w' hS => by go_simp⟩) s0 (some 37) rfl ?_
      simp only [Act.put, List.setIfInBounds_toArray, List.set_cons_zero, List.set_cons_succ]
      refine take_to (i := 1) (v := .int .i64 (n : Int)) rfl (by kernel_rfl) (by kernel_rfl) (by kernel_rfl) (fun _ _ _ h => h) (Or.inl ⟨by rfl, fun w' hS => by go_simp⟩) s0 (some 38) rfl ?_
      simp only [Act.put, List.setIfInBounds_toArray, List.set_cons_zero, List.set_cons_succ]
      refine take_to (i := 2) (v := .slice (some ⟨b1, o1, none⟩) n c1) rfl (by kernel_rfl) (by kernel_rfl) (by kernel_rfl) (fun _ _ _ h => h) (Or.inl ⟨by rfl, fun w' hS => by go_simp⟩) s0 (some 39) rfl ?_
      simp only [Act.put, List.setIfInBounds_toArray, List.set_cons_zero, List.set_cons_succ]
      refine take_to (i := 3) (v := .string S1) rfl (by kernel_rfl) (by kernel_rfl) (by kernel_rfl) (fun _ _ _ h => h) (Or.inl ⟨by rfl, fun w' hS => by have cv := HCv.out.1 w' hS.out; go_simp⟩) s0 (some 40) rfl ?_
      simp only [Act.put, List.setIfInBounds_toArray, List.set_cons_zero, List.set_cons_succ]
      refine take_to (i := 4) (v := .slice (some ⟨b2, o2, none⟩) n c2) rfl (by kernel_rfl) (by kernel_rfl) (by kernel_rfl) (fun _ _ _ h => h) (Or.inl ⟨by rfl, fun w' hS => by go_simp⟩) s0 (some 41) rfl ?_
      simp only [Act.put, List.setIfInBounds_toArray, List.set_cons_zero, List.set_cons_succ]
      refine take_to (i := 5) (v := .int .i64 (n : Int)) rfl (by kernel_rfl) (by kernel_rfl) (by kernel_rfl) (fun _ _ _ h => h) (Or.inl ⟨by rfl, fun w' hS => by go_simp⟩) s0 (some 42) rfl ?_
      simp only [Act.put, List.setIfInBounds_toArray, List.set_cons_zero, List.set_cons_succ]
      refine take_to (i := 6) (v := .slice (some ⟨b2, o2, none⟩) n c2) rfl (by kernel_rfl) (by kernel_rfl) (by kernel_rfl) (fun _ _ _ h => h) (Or.inl ⟨by rfl, fun w' hS => by go_simp⟩) s0 (some 43) rfl ?_
      simp only [Act.put, List.setIfInBounds_toArray, List.set_cons_zero, List.set_cons_succ]
      refine take_to (i := 7) (v := .string S2) rfl (by kernel_rfl) (by kernel_rfl) (by kernel_rfl) (fun _ _ _ h => h) (Or.inl ⟨by rfl, fun w' hS => by have cv := HCv.out.2 w' hS.out; go_simp⟩) s0 (some 44) rfl ?_
      simp only [Act.put, List.setIfInBounds_toArray, List.set_cons_zero, List.set_cons_succ]
      refine take_to (i := 8) (v := .bool true) rfl (by kernel_rfl) (by kernel_rfl) (by kernel_rfl) (fun _ _ _ h => h) (Or.inl ⟨by rfl, fun w' hS => by have hne := HNe.out; go_simp⟩) s0 (some 45) rfl ?_
      simp only [Act.put, List.setIfInBounds_toArray, List.set_cons_zero, List.set_cons_succ]
      refine take_to (i := 9) (v := .bool true) rfl (by kernel_rfl) (by kernel_rfl) (by kernel_rfl) (fun _ _ _ h => h) (Or.inl ⟨by rfl, fun w' hS => by go_simp⟩) s0 (some 46) rfl ?_
      simp only [Act.put, List.setIfInBounds_toArray, List.set_cons_zero, List.set_cons_succ]
      refine wpAnyH_ready (rs := [10]) (by kernel_rfl) (by simp) ?_
      refine AllReadyH.cons rfl (fun Kq hKq => ?_) AllReadyH.nil
      go_simp
      refine (awake_any w3.drew ((H1.out.2.2.2.2.on H3.out.2.2.2.2).on (on_drew w3))).mono ?_
      rintro e w4 ⟨rfl, b4⟩
      have s4 := Lib.hid (on_trans s0.out b4)
      refine hKq.out _ _ s4 fun _ => ?_
      clear hKq Kq
      refine take_to (i := 11) (v := .bool true) rfl (by kernel_rfl) (by kernel_rfl) (by kernel_rfl) (fun _ _ _ h => h) (Or.inl ⟨by rfl, fun w' hS => by go_simp⟩) s4 (some 48) rfl ?_
      simp only [Act.put, List.setIfInBounds_toArray, List.set_cons_zero, List.set_cons_succ]
      refine take_to (i := 12) (v := .bool true) rfl (by kernel_rfl) (by kernel_rfl) (by kernel_rfl) (fun _ _ _ h => h) (Or.inl ⟨by rfl, fun w' hS => by go_simp⟩) s4 (some 4) rfl ?_
      simp only [Act.put, List.setIfInBounds_toArray, List.set_cons_zero, List.set_cons_succ]
      refine wpAnyH_done (by kernel_rfl) ?_ _
      have H9 := Lib.hid (on_trans H3.out.2.2.2.2 s4.out)
      go_wp2_with fail
      go_ret
      exact ⟨rfl, H9.out⟩
    · have en : n = n1 := by have := hnn.out; omega
      subst en
      clear hnn
      have hle2 : ¬ n2 < n := by omega
      have hle3 : (n : Int) ≤ (n2 : Int) := by omega
      go_upto_region 6 with fail
      refine wp_region_held_drew (S := fun w' => Hid (Below w3.heap.size w3 w')) (by kernel_rfl) (Lib.hid (on_drew w3)) fun s0 => ?_
      refine take_to (i := 0) (v := .slice (some ⟨b1, o1, none⟩) n c1) rfl (by kernel_rfl) (by kernel_rfl) (by kernel_rfl) (fun _ _ _ h => h) (Or.inl ⟨by rfl, fun w' hS => by go_simp⟩) s0 (some 37) rfl ?_
      simp only [Act.put, List.setIfInBounds_toArray, List.set_cons_zero, List.set_cons_succ]
      refine take_to (i := 1) (v := .int .i64 (n : Int)) rfl (by kernel_rfl) (by kernel_rfl) (by kernel_rfl) (fun _ _ _ h => h) (Or.inl ⟨by rfl, fun w' hS => by go_simp⟩) s0 (some 38) rfl ?_
      simp only [Act.put, List.setIfInBounds_toArray, List.set_cons_zero, List.set_cons_succ]
      refine take_to (i := 2) (v := .slice (some ⟨b1, o1, none⟩) n c1) rfl (by kernel_rfl) (by kernel_rfl) (by kernel_rfl) (fun _ _ _ h => h) (Or.inl ⟨by rfl, fun w' hS => by go_simp⟩) s0 (some 39) rfl ?_
      simp only [Act.put, List.setIfInBounds_toArray, List.set_cons_zero, List.set_cons_succ]
      refine take_to (i := 3) (v := .string S1) rfl (by kernel_rfl) (by kernel_rfl) (by kernel_rfl) (fun _ _ _ h => h) (Or.inl ⟨by rfl, fun w' hS => by have cv := HCv.out.1 w' hS.out; go_simp⟩) s0 (some 40) rfl ?_
      simp only [Act.put, List.setIfInBounds_toArray, List.set_cons_zero, List.set_cons_succ]
      refine take_to (i := 4) (v := .slice (some ⟨b2, o2, none⟩) n2 c2) rfl (by kernel_rfl) (by kernel_rfl) (by kernel_rfl) (fun _ _ _ h => h) (Or.inl ⟨by rfl, fun w' hS => by go_simp⟩) s0 (some 41) rfl ?_
      simp only [Act.put, List.setIfInBounds_toArray, List.set_cons_zero, List.set_cons_succ]
      refine take_to (i := 5) (v := .int .i64 (n : Int)) rfl (by kernel_rfl) (by kernel_rfl) (by kernel_rfl) (fun _ _ _ h => h) (Or.inl ⟨by rfl, fun w' hS => by go_simp⟩) s0 (some 42) rfl ?_
      simp only [Act.put, List.setIfInBounds_toArray, List.set_cons_zero, List.set_cons_succ]
      refine take_to (i := 6) (v := .slice (some ⟨b2, o2, none⟩) n c2) rfl (by kernel_rfl) (by kernel_rfl) (by kernel_rfl) (fun _ _ _ h => h) (Or.inl ⟨by rfl, fun w' hS => by go_simp⟩) s0 (some 43) rfl ?_
      simp only [Act.put, List.setIfInBounds_toArray, List.set_cons_zero, List.set_cons_succ]
      refine take_to (i := 7) (v := .string S2) rfl (by kernel_rfl) (by kernel_rfl) (by kernel_rfl) (fun _ _ _ h => h) (Or.inl ⟨by rfl, fun w' hS => by have cv := HCv.out.2 w' hS.out; go_simp⟩) s0 (some 44) rfl ?_
      simp only [Act.put, List.setIfInBounds_toArray, List.set_cons_zero, List.set_cons_succ]
      refine take_to (i := 8) (v := .bool true) rfl (by kernel_rfl) (by kernel_rfl) (by kernel_rfl) (fun _ _ _ h => h) (Or.inl ⟨by rfl, fun w' hS => by have hne := HNe.out; go_simp⟩) s0 (some 45) rfl ?_
      simp only [Act.put, List.setIfInBounds_toArray, List.set_cons_zero, List.set_cons_succ]
      refine take_to (i := 9) (v := .bool true) rfl (by kernel_rfl) (by kernel_rfl) (by kernel_rfl) (fun _ _ _ h => h) (Or.inl ⟨by rfl, fun w' hS => by go_simp⟩) s0 (some 46) rfl ?_
      simp only [Act.put, List.setIfInBounds_toArray, List.set_cons_zero, List.set_cons_succ]
      refine wpAnyH_ready (rs := [10]) (by kernel_rfl) (by simp) ?_
      refine AllReadyH.cons rfl (fun Kq hKq => ?_) AllReadyH.nil
      go_simp
      refine (awake_any w3.drew ((H1.out.2.2.2.2.on H3.out.2.2.2.2).on (on_drew w3))).mono ?_
      rintro e w4 ⟨rfl, b4⟩
      have s4 := Lib.hid (on_trans s0.out b4)
      refine hKq.out _ _ s4 fun _ => ?_
      clear hKq Kq
      refine take_to (i := 11) (v := .bool true) rfl (by kernel_rfl) (by kernel_rfl) (by kernel_rfl) (fun _ _ _ h => h) (Or.inl ⟨by rfl, fun w' hS => by go_simp⟩) s4 (some 48) rfl ?_
      simp only [Act.put, List.setIfInBounds_toArray, List.set_cons_zero, List.set_cons_succ]
      refine take_to (i := 12) (v := .bool true) rfl (by kernel_rfl) (by kernel_rfl) (by kernel_rfl) (fun _ _ _ h => h) (Or.inl ⟨by rfl, fun w' hS => by go_simp⟩) s4 (some 4) rfl ?_
      simp only [Act.put, List.setIfInBounds_toArray, List.set_cons_zero, List.set_cons_succ]
      refine wpAnyH_done (by kernel_rfl) ?_ _
      have H9 := Lib.hid (on_trans H3.out.2.2.2.2 s4.out)
      go_wp2_with fail
      go_ret
      exact ⟨rfl, H9.out⟩
end Go.Proofs.YtgipngedmblnmaaDoor
