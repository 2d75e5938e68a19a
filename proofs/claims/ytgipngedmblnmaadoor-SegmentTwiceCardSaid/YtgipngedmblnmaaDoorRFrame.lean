/-
  The contracts of the program's small functions: Right, frameParts, scanParts, scanEnd, kindOf. The contract of the program's readFrame.
-/
import Derived.Test.YtgipngedmblnmaaDoorRCur
import Derived.Test.YtgipngedmblnmaaDoorSegFrame
import Derived.Test.YtgipngedmblnmaaDoorRTabs
namespace Go.Proofs.YtgipngedmblnmaaDoor
open Go.RowKit

set_option maxHeartbeats 1600000 in
theorem rightS_any (w : World) (W H K R : Int) : Calls Tryd.prog 15 #[.agg #[.int .i64 W, .int .i64 H, .int .i64 K, .int .i64 R]] w fun e w' => e = .returned (.bool (decide (RightS W H K R))) ∧ Below w.heap.size w w' := by
  by_cases hr : RightS W H K R
  · have E := Lib.hid (decide_eq_true hr)
    obtain ⟨⟨a, b⟩, ⟨c, d⟩, ⟨e, f⟩, g, h⟩ := hr
    go_enter Tryd.func15, Tryd.ntmps15
    go_wp2_with fail
    go_ret
    exact ⟨by rw [E.out]; rfl, on_alloc _ _⟩
  · have E := Lib.hid (decide_eq_false hr)
    have hc : W < 1 ∨ (1 ≤ W ∧ 128 < W) ∨ (1 ≤ W ∧ W ≤ 128 ∧ H < 1) ∨ (1 ≤ W ∧ W ≤ 128 ∧ 1 ≤ H ∧ 128 < H) ∨ (1 ≤ W ∧ W ≤ 128 ∧ 1 ≤ H ∧ H ≤ 128 ∧ K < 0) ∨ (1 ≤ W ∧ W ≤ 128 ∧ 1 ≤ H ∧ H ≤ 128 ∧ 0 ≤ K ∧ 3 < K) ∨
      (1 ≤ W ∧ W ≤ 128 ∧ 1 ≤ H ∧ H ≤ 128 ∧ 0 ≤ K ∧ K ≤ 3 ∧ R < 0) ∨ (1 ≤ W ∧ W ≤ 128 ∧ 1 ≤ H ∧ H ≤ 128 ∧ 0 ≤ K ∧ K ≤ 3 ∧ 0 ≤ R ∧ 65535 < R) := by unfold RightS at hr; omega
    clear hr
    rcases hc with a | ⟨a, b⟩ | ⟨a, b, c⟩ | ⟨a, b, c, d⟩ | ⟨a, b, c, d, e⟩ | ⟨a, b, c, d, e, f⟩ | ⟨a, b, c, d, e, f, g⟩ | ⟨a, b, c, d, e, f, g, h⟩
    case inr.inr.inr.inr.inr.inr.inr =>
      have D := Lib.hid (decide_eq_false (show ¬ R ≤ 65535 by omega))
      go_enter Tryd.func15, Tryd.ntmps15
      go_wp2_with fail
      go_ret
      exact ⟨by rw [E.out, ← D.out]; rfl, on_alloc _ _⟩
    all_goals
      go_enter Tryd.func15, Tryd.ntmps15
      go_wp2_with fail
      go_ret
      exact ⟨by rw [E.out]; rfl, on_alloc _ _⟩

/-- what a frame tells of its parts, and a scan -/
def partsB (k : Int) : List Int := if k = 0 then [1, 1, 17, 0] else [3, 1, howB k, 0, 2, 17, 1, 3, 17, 1]
def sparB (k : Int) : List Int := if k = 0 then [1, 1, 0] else [3, 1, 0, 2, 17, 3, 17]
theorem partsB_fit (k : Int) : Fit (partsB k) := by
  unfold partsB howB
  split
  · unfold Fit; decide
  · split
    · unfold Fit; decide
    · split <;> (unfold Fit; decide)
theorem sparB_fit (k : Int) : Fit (sparB k) := by unfold sparB; split <;> (unfold Fit; decide)
theorem scanB_parts (k : Int) : scanB k = sparB k ++ [0, 63, 0] := by unfold scanB sparB; split <;> rfl
theorem frameB_parts (W H k : Int) : frameB W H k = [8] ++ be2 H ++ be2 W ++ partsB k := rfl
set_option maxHeartbeats 800000 in
theorem frameParts_any (w : World) (k : Int) (h0 : 0 ≤ k) (h3 : k ≤ 3) : Calls Tryd.prog 31 #[.int .i64 k] w (GivesY w (partsB k)) := by
  rcases (show k = 0 ∨ k = 1 ∨ k = 2 ∨ k = 3 by omega) with rfl | rfl | rfl | rfl
  · show Calls _ _ _ _ (GivesY w [1, 1, 17, 0])
    have HS := Lib.hid (sl_lit w [1, 1, 17, 0] (by unfold Fit; decide) (show 4 ≤ maxLen by decide))
    go_enter Tryd.func31, Tryd.ntmps31
    go_wp2_with fail
    go_ret
    exact ⟨_, _, rfl, HS.out.mono' (fun b hb => by have hb' : b = w.heap.size := hb; omega), on_alloc _ _⟩
  · show Calls _ _ _ _ (GivesY w [3, 1, 17, 0, 2, 17, 1, 3, 17, 1])
    have HS := Lib.hid (sl_lit w [3, 1, 17, 0, 2, 17, 1, 3, 17, 1] (by unfold Fit; decide) (show 10 ≤ maxLen by decide))
    go_enter Tryd.func31, Tryd.ntmps31
    go_wp2_with fail
    go_ret
    exact ⟨_, _, rfl, HS.out.mono' (fun b hb => by have hb' : b = w.heap.size := hb; omega), on_alloc _ _⟩
  · show Calls _ _ _ _ (GivesY w [3, 1, 33, 0, 2, 17, 1, 3, 17, 1])
    have HS := Lib.hid (sl_lit w [3, 1, 33, 0, 2, 17, 1, 3, 17, 1] (by unfold Fit; decide) (show 10 ≤ maxLen by decide))
    go_enter Tryd.func31, Tryd.ntmps31
    go_wp2_with fail
    go_ret
    exact ⟨_, _, rfl, HS.out.mono' (fun b hb => by have hb' : b = w.heap.size := hb; omega), on_alloc _ _⟩
  · show Calls _ _ _ _ (GivesY w [3, 1, 34, 0, 2, 17, 1, 3, 17, 1])
    have HS := Lib.hid (sl_lit w [3, 1, 34, 0, 2, 17, 1, 3, 17, 1] (by unfold Fit; decide) (show 10 ≤ maxLen by decide))
    go_enter Tryd.func31, Tryd.ntmps31
    go_wp2_with fail
    go_ret
    exact ⟨_, _, rfl, HS.out.mono' (fun b hb => by have hb' : b = w.heap.size := hb; omega), on_alloc _ _⟩
set_option maxHeartbeats 800000 in
theorem scanParts_any (w : World) (k : Int) : Calls Tryd.prog 33 #[.int .i64 k] w (GivesY w (sparB k)) := by
  by_cases h0 : k = 0
  · subst h0
    show Calls _ _ _ _ (GivesY w [1, 1, 0])
    have HS := Lib.hid (sl_lit w [1, 1, 0] (by unfold Fit; decide) (show 3 ≤ maxLen by decide))
    go_enter Tryd.func33, Tryd.ntmps33
    go_wp2_with fail
    go_ret
    exact ⟨_, _, rfl, HS.out.mono' (fun b hb => by have hb' : b = w.heap.size := hb; omega), on_alloc _ _⟩
  · have e : sparB k = [3, 1, 0, 2, 17, 3, 17] := if_neg h0
    rw [e]
    have h0' : (k == 0) = false := by simpa using h0
    clear e
    have HS := Lib.hid (sl_lit w [3, 1, 0, 2, 17, 3, 17] (by unfold Fit; decide) (show 7 ≤ maxLen by decide))
    go_enter Tryd.func33, Tryd.ntmps33
    go_wp2_with fail
    go_ret
    exact ⟨_, _, rfl, HS.out.mono' (fun b hb => by have hb' : b = w.heap.size := hb; omega), on_alloc _ _⟩
set_option maxHeartbeats 800000 in
theorem scanEnd_any (w : World) : Calls Tryd.prog 32 #[] w fun e w' => e = .returned (.agg #[.int .u8 0, .int .u8 63, .int .u8 0]) ∧ Below w.heap.size w w' := by
  go_enter Tryd.func32, Tryd.ntmps32
  go_wp2_with fail
  refine bodyPost_ret (v := .agg #[.int .u8 0, .int .u8 63, .int .u8 0]) (results_c (fn := Tryd.f32) Tryd.results32 _ _ w.heap.size _ rfl (run_loadVar_row _ _ 65 65 _ (0, 0) _ (Box.made w 65 #[.int .u8 0, .int .u8 63, .int .u8 0]) Tryd.underlying65 rfl (by kernel_rfl))) rfl ?_
  exact ⟨rfl, on_alloc _ _⟩
/-- the kind whose parts these are -/
def kindF (b : List Int) : Int := if b = partsB 0 then 0 else if b = partsB 1 then 1 else if b = partsB 2 then 2 else if b = partsB 3 then 3 else -1
/-- no kind up to k has these -/
def NoK (b : List Int) (k : Nat) : Prop := ∀ j : Nat, j < k → b ≠ partsB (j : Int)
theorem NoK.none {b : List Int} (h : NoK b 4) : kindF b = -1 := by
  unfold kindF
  rw [if_neg (show b ≠ partsB 0 from h 0 (by omega)), if_neg (show b ≠ partsB 1 from h 1 (by omega)), if_neg (show b ≠ partsB 2 from h 2 (by omega)), if_neg (show b ≠ partsB 3 from h 3 (by omega))]
theorem NoK.some {b : List Int} {k : Nat} (h : NoK b k) (hk : k < 4) (e : b = partsB (k : Int)) : kindF b = (k : Int) := by
  unfold kindF
  rcases (show k = 0 ∨ k = 1 ∨ k = 2 ∨ k = 3 by omega) with rfl | rfl | rfl | rfl
  · rw [if_pos (show b = partsB 0 from e)]; rfl
  · rw [if_neg (show b ≠ partsB 0 from h 0 (by omega)), if_pos (show b = partsB 1 from e)]; rfl
  · rw [if_neg (show b ≠ partsB 0 from h 0 (by omega)), if_neg (show b ≠ partsB 1 from h 1 (by omega)), if_pos (show b = partsB 2 from e)]; rfl
  · rw [if_neg (show b ≠ partsB 0 from h 0 (by omega)), if_neg (show b ≠ partsB 1 from h 1 (by omega)), if_neg (show b ≠ partsB 2 from h 2 (by omega)), if_pos (show b = partsB 3 from e)]; rfl
theorem NoK.more {b : List Int} {k : Nat} (h : NoK b k) (e : b ≠ partsB (k : Int)) : NoK b (k + 1) := fun j hj => by
  by_cases ej : j = k
  · rw [ej]; exact e
  · exact h j (by omega)
set_option maxHeartbeats 1600000 in
theorem kindOf_any (w : World) (Ks : Nat → Prop) (A : Option Addr) (n c : Nat) (b : List Int) (h : Sl w Ks A n c b) : Calls Tryd.prog 84 #[.slice A n c] w fun e w' => e = .returned (.int .i64 (kindF b)) ∧ Below w.heap.size w w' := by
  have H := Lib.hid h
  clear h
  go_enter Tryd.func84, Tryd.ntmps84
  go_wp2_with fail
  go_loopw [3] (fun i wr => ∃ k : Nat, k ≤ 4 ∧ i = .int .i64 ((k : Nat) : Int) ∧ NoK b k ∧ Below w.heap.size w wr) (fun i _ => 4 - (intOf i).toNat)
  case atStart => exact ⟨0, by omega, rfl, fun j hj => absurd hj (by omega), Below.refl _ _⟩
  case round =>
    obtain ⟨k, hk, rfl, hN, hb⟩ := hrel
    have HR := Lib.hid (And.intro hN hb)
    clear hN hb
    by_cases hk4 : k < 4
    · have hk3 : (k : Int) ≤ 3 := by omega
      have HF := Lib.hid (frameParts_any wr (k : Int) (by omega) hk3)
      go_wp2_with fail
      refine Calls.mono HF.out ?_
      rintro e w2 ⟨A2, c2, rfl, s2, b2⟩
      have s0 := H.out.on (on_trans HR.out.2 b2)
      have H2 := Lib.hid (And.intro (equal_any w2 _ _ A A2 n c (partsB (k : Int)).length c2 b (partsB (k : Int)) s0 s2) (on_trans HR.out.2 b2))
      clear s2 b2 s0 HF
      obtain ⟨m2, hm2⟩ : ∃ m, m = (partsB (k : Int)).length := ⟨_, rfl⟩
      rw [← hm2] at H2 ⊢
      clear hm2
      go_wp2_with fail
      refine Calls.mono H2.out.1 ?_
      rintro e w3 ⟨rfl, rfl⟩
      by_cases he : b = partsB (k : Int)
      · have hf := HR.out.1.some hk4 he
        rw [decide_eq_true he]
        have HK := Lib.hid hf
        clear hf he
        go_wp2_with fail
        go_ret
        exact ⟨by rw [HK.out]; rfl, H2.out.2⟩
      · rw [decide_eq_false he]
        have hf := HR.out.1.more he
        have HK := Lib.hid hf
        clear hf he
        go_wp2_with fail
        go_roundw
        case rel => exact ⟨k + 1, by omega, by go_num, HK.out, H2.out.2⟩
        case measure => simp [intOf]; omega
    · have ek : k = 4 := by omega
      have hN := HR.out.1
      rw [ek] at hN
      have HK := Lib.hid hN.none
      clear hN ek
      have hk3 : ¬ (k : Int) ≤ 3 := by omega
      go_wp2_with fail
      go_ret
      exact ⟨by rw [HK.out]; rfl, HR.out.2⟩
end Go.Proofs.YtgipngedmblnmaaDoor

namespace Go.Proofs.YtgipngedmblnmaaDoor
open Go.RowKit

theorem partsB_len (k : Int) : 4 ≤ (partsB k).length := by unfold partsB; split <;> simp
theorem frOk_iff {b : List Int} (hf : Fit b) {k : Int} : FrOk b k ↔ (5 ≤ b.length ∧ b.getD 0 0 = 8 ∧ RightS (256 * b.getD 3 0 + b.getD 4 0) (256 * b.getD 1 0 + b.getD 2 0) k 0 ∧ b.drop 5 = partsB k) := by
  unfold FrOk
  by_cases h5 : 5 ≤ b.length
  · have e1 : frW b = 256 * b.getD 3 0 + b.getD 4 0 := if_pos h5
    have e2 : frH b = 256 * b.getD 1 0 + b.getD 2 0 := if_pos h5
    rw [e1, e2, frameB_parts]
    have f1 := hf.getD 1
    have f2 := hf.getD 2
    have f3 := hf.getD 3
    have f4 := hf.getD 4
    match b, h5 with
    | x0 :: x1 :: x2 :: x3 :: x4 :: r, _ =>
      simp only [List.getD_cons_succ, List.getD_cons_zero, List.length_cons, List.drop_succ_cons, List.drop_zero] at *
      have a1 : (256 * x1 + x2) / 256 % 256 = x1 := by omega
      have a2 : (256 * x1 + x2) % 256 = x2 := by omega
      have a3 : (256 * x3 + x4) / 256 % 256 = x3 := by omega
      have a4 : (256 * x3 + x4) % 256 = x4 := by omega
      unfold be2
      rw [a1, a2, a3, a4]
      simp only [List.cons_append, List.nil_append, List.cons.injEq]
      constructor
      · rintro ⟨h1, h2, _, _, _, _, h3⟩
        exact ⟨by omega, h2.symm, h1, h3.symm⟩
      · rintro ⟨_, h2, h1, h3⟩
        exact ⟨h1, h2.symm, trivial, trivial, trivial, trivial, h3.symm⟩
  · constructor
    · rintro ⟨_, h2⟩
      exfalso
      have := congrArg List.length h2
      rw [frameB_parts] at this
      have h4 := partsB_len k
      simp [be2] at this
      omega
    · rintro ⟨h1, _⟩
      exact absurd h1 h5
theorem kindF_le (b : List Int) : -1 ≤ kindF b ∧ kindF b ≤ 3 := by
  unfold kindF
  repeat' split
  all_goals omega
theorem rdFrame_eq {b : List Int} {K : Kv} (hf : Fit b) (h6 : K.F 6 = false) : rdFrame b K = if 5 ≤ b.length ∧ b.getD 0 0 = 8 ∧ RightS (256 * b.getD 3 0 + b.getD 4 0) (256 * b.getD 1 0 + b.getD 2 0) (kindF (b.drop 5)) 0 then some (K.frame b (kindF (b.drop 5))) else none := by
  unfold rdFrame
  rw [h6]
  simp only [Bool.false_eq_true, if_false, frOk_iff hf]
  by_cases h5 : 5 ≤ b.length
  · by_cases h8 : b.getD 0 0 = 8
    · simp only [h5, h8, true_and]
      generalize 256 * b.getD 3 0 + b.getD 4 0 = W
      generalize 256 * b.getD 1 0 + b.getD 2 0 = H
      by_cases hw : (1 ≤ W ∧ W ≤ 128) ∧ (1 ≤ H ∧ H ≤ 128)
      · have hr : ∀ k : Int, RightS W H k 0 ↔ (0 ≤ k ∧ k ≤ 3) := fun k => by unfold RightS; exact ⟨fun h => h.2.2.1, fun h => ⟨hw.1, hw.2, h, by omega, by omega⟩⟩
        simp only [hr]
        unfold kindF
        by_cases k0 : b.drop 5 = partsB 0
        · simp [k0]
        · by_cases k1 : b.drop 5 = partsB 1
          · rw [if_neg k0, if_pos k1, if_neg (fun h => k0 h.2), if_pos ⟨by omega, k1⟩, if_pos (by omega)]
          · by_cases k2 : b.drop 5 = partsB 2
            · rw [if_neg k0, if_neg k1, if_pos k2, if_neg (fun h => k0 h.2), if_neg (fun h => k1 h.2), if_pos ⟨by omega, k2⟩, if_pos (by omega)]
            · by_cases k3 : b.drop 5 = partsB 3
              · rw [if_neg k0, if_neg k1, if_neg k2, if_pos k3, if_neg (fun h => k0 h.2), if_neg (fun h => k1 h.2), if_neg (fun h => k2 h.2), if_pos ⟨by omega, k3⟩, if_pos (by omega)]
              · rw [if_neg k0, if_neg k1, if_neg k2, if_neg k3, if_neg (fun h => k0 h.2), if_neg (fun h => k1 h.2), if_neg (fun h => k2 h.2), if_neg (fun h => k3 h.2), if_neg (by omega)]
      · have hr : ∀ k : Int, ¬ RightS W H k 0 := fun k h => hw ⟨h.1, h.2.1⟩
        simp [hr]
    · rw [if_neg (fun h => h8 h.2.1), if_neg (fun h => h8 h.2.1), if_neg (fun h => h8 h.2.1), if_neg (fun h => h8 h.2.1), if_neg (fun h => h8 h.2.1)]
  · simp [h5]
theorem wpList_store_N' {ops : Array Oper} {rest : List Oper} {o : Oper} {a : Act} {w : World} {Q : Exit → Act → World → Prop} (hgd : o.guard = none) (x y : Operand) (ho : o.op = .store 33 x y) (hd : o.dst = none) {g : Nat} {K : Kv} {X : Nat → Value}
    (h : Box w g 46 (kvC K X).toArray) (p q r s : Int) (hx : a.eval x = .pointer (some ⟨g, 205, none⟩)) (hy : a.eval y = .agg #[.int .i64 p, .int .i64 q, .int .i64 r, .int .i64 s])
    (hK : ∀ w', Box w' g 46 (kvC ((((K.setN 0 p).setN 1 q).setN 2 r).setN 3 s) X).toArray → Kept (fun i => i = g) w w' → wpList Tryd.prog ops Q rest a w') : wpList Tryd.prog ops Q (o :: rest) a w := wpList_store_N hgd x y ho hd h p q r s hx hy hK

set_option maxRecDepth 10000 in
set_option maxHeartbeats 6400000 in
theorem readFrame_any (lo : Nat) (w : World) (g s gk : Nat) (A : Option Addr) (n c : Nat) (l : List Int) (K : Kv) (X : Nat → Value) (h : Rd lo w w g s gk A n c l 0 K X) (hN3 : 0 ≤ K.N 3 ∧ K.N 3 ≤ 65535) : Calls Tryd.prog 79 #[.pointer (some ⟨g, 0, none⟩), .pointer (some ⟨gk, 0, none⟩)] w (BodyE lo w g s gk A n c l (rdFrame l K)) := by
  have c6 : w.cell? ⟨gk, 202, none⟩ = some (.bool (K.F 6)) := h.kv.kvF (k := 6) (by omega)
  have hlen := h.len
  have H0 := Lib.hid (And.intro h (And.intro hN3 hlen))
  obtain ⟨R, hR⟩ : ∃ R, R = rdFrame l K := ⟨_, rfl⟩
  rw [← hR]
  have HR := Lib.hid hR
  clear hR hN3 hlen
  by_cases h6 : K.F 6 = true
  · have hr : R = none := by rw [HR.out]; unfold rdFrame; rw [if_pos h6]
    have HRn := Lib.hid hr
    rw [h6] at c6
    have HQ := Lib.hid (require_no w g s A n c 0 4 (by decide) h.cur)
    clear hr h6 h
    go_enter Tryd.func79, Tryd.ntmps79
    go_wp2_with fail
    refine Calls.mono HQ.out ?_
    rintro e w4 ⟨rfl, k4⟩
    exact ⟨rfl, k4.mono (fun _ _ e => absurd e (fun e => e)), .inl ⟨HRn.out, 4, by decide, rfl⟩⟩
  have h6' : K.F 6 = false := by simpa using h6
  rw [h6'] at c6
  have hRe := rdFrame_eq (K := K) h.sl.bts.fit h6'
  rw [← HR.out] at hRe
  have HRe := Lib.hid hRe
  clear h6 h6' hRe
  by_cases h1 : n < 1
  · have HN := Lib.hid (num1_up lo w g s gk A n c l 0 K X h (by omega))
    have hr : R = none := by rw [HRe.out, if_neg (by have := H0.out.2.2; omega)]
    have HRn := Lib.hid hr
    clear hr h
    go_enter Tryd.func79, Tryd.ntmps79
    go_wp2_with fail
    refine Calls.mono HN.out ?_
    rintro e w4 ⟨rfl, k4⟩
    exact ⟨rfl, k4.mono (fun _ _ e => absurd e (fun e => e)), .inl ⟨HRn.out, 3, by decide, rfl⟩⟩
  have HN := Lib.hid (num1 lo w g s gk A n c l 0 K X h (by omega))
  clear h
  obtain ⟨z0, hz0⟩ : ∃ z, z = l.getD 0 0 := ⟨_, rfl⟩
  rw [← hz0] at HN HRe
  have Hz0 := Lib.hid hz0
  clear hz0
  go_enter Tryd.func79, Tryd.ntmps79
  go_wp2_with fail
  refine Calls.mono HN.out ?_
  rintro e w3 ⟨rfl, r3, _⟩
  have H3 := Lib.hid r3
  clear r3
  have HQ := Lib.hid (And.intro (require_yes w3 g 4) (require_no w3 g s A n c 1 4 (by decide) H3.out.cur))
  by_cases h8 : ¬ z0 = 8
  · have hr : R = none := by rw [HRe.out, if_neg (fun h => h8 h.2.1)]
    have HRn := Lib.hid hr
    have h8' : (z0 == 8) = false := by simpa using h8
    clear hr h8
    go_wp2_with fail
    refine Calls.mono HQ.out.2 ?_
    rintro e w4 ⟨rfl, k4⟩
    exact ⟨rfl, H3.out.kep.trans k4 (fun _ _ e => absurd e (fun e => e)), .inl ⟨HRn.out, 4, by decide, rfl⟩⟩
  have h8' : z0 = 8 := by omega
  subst h8'
  clear h8
  obtain ⟨a0, ha0⟩ : ∃ a, a = K.N 0 := ⟨_, rfl⟩
  obtain ⟨a1, ha1⟩ : ∃ a, a = K.N 1 := ⟨_, rfl⟩
  obtain ⟨a2, ha2⟩ : ∃ a, a = K.N 2 := ⟨_, rfl⟩
  obtain ⟨a3, ha3⟩ : ∃ a, a = K.N 3 := ⟨_, rfl⟩
  have d0 : w3.cell? ⟨gk, 205, none⟩ = some (.int .i64 a0) := by rw [ha0]; exact H3.out.kv.kvN (k := 0) (by omega)
  have d1 : w3.cell? ⟨gk, 206, none⟩ = some (.int .i64 a1) := by rw [ha1]; exact H3.out.kv.kvN (k := 1) (by omega)
  have d2 : w3.cell? ⟨gk, 207, none⟩ = some (.int .i64 a2) := by rw [ha2]; exact H3.out.kv.kvN (k := 2) (by omega)
  have d3 : w3.cell? ⟨gk, 208, none⟩ = some (.int .i64 a3) := by rw [ha3]; exact H3.out.kv.kvN (k := 3) (by omega)
  have hN3 := H0.out.2.1
  rw [← ha3] at hN3
  obtain ⟨gs, hgs⟩ : ∃ gs, gs = w3.heap.size := ⟨_, rfl⟩
  obtain ⟨w5, hw5⟩ : ∃ x, w3.alloc (.cells #[.int .i64 a0, .int .i64 a1, .int .i64 a2, .int .i64 a3] 33) = x := ⟨_, rfl⟩
  have b5 : Box w5 gs 33 #[.int .i64 a0, .int .i64 a1, .int .i64 a2, .int .i64 a3] := by rw [hgs, ← hw5]; exact Box.made _ _ _
  have r5 := H3.out.on (show Below w3.heap.size w3 w5 by rw [← hw5]; exact on_alloc _ _)
  have H5 := Lib.hid (And.intro hw5 (And.intro hgs (And.intro r5 (And.intro b5 (And.intro ha3 hN3)))))
  have hsz : w.heap.size ≤ gs := by rw [hgs]; exact H3.out.kep.size
  have Hsz := Lib.hid hsz
  clear ha0 ha1 ha2 ha3 hN3 hw5 b5 r5 hgs hsz
  go_wp2_with fail
  refine Calls.mono HQ.out.1 ?_
  rintro e w4 ⟨rfl, rfl⟩
  clear HQ
  go_wp2_with fail
  rw [H5.out.1, ← H5.out.2.1]
  clear d0 d1 d2 d3 c6
  by_cases h2 : n ≤ 2
  · have HN2 := Lib.hid (num2_up lo w5 g s gk A n c l 1 K X H5.out.2.2.1.fresh h2)
    have hr : R = none := by rw [HRe.out, if_neg (by have := H0.out.2.2; omega)]
    refine Calls.mono HN2.out ?_
    rintro e w4 ⟨rfl, k4⟩
    exact ⟨rfl, H5.out.2.2.1.kep.trans k4 (fun _ _ e => absurd e (fun e => e)), .inl ⟨hr, 3, by decide, rfl⟩⟩
  refine Calls.mono (num2 lo w5 g s gk A n c l 1 K X H5.out.2.2.1.fresh (by omega)) ?_
  rintro e w6 ⟨rfl, r6, k6⟩
  obtain ⟨zh, hzh⟩ : ∃ z, z = 256 * l.getD 1 0 + l.getD (1 + 1) 0 := ⟨_, rfl⟩
  rw [← hzh]
  have Hzh := Lib.hid hzh
  have b6 : Box w6 gs 33 #[.int .i64 a0, .int .i64 a1, .int .i64 a2, .int .i64 a3] := k6.box H5.out.2.2.2.1 (by have := H5.out.2.2.2.1.apart H5.out.2.2.1.own (by decide); omega)
  have e1 : w6.cell? ⟨gs, 1, none⟩ = some (.int .i64 a1) := b6.cell 1
  have f1 : w6.frozen? ⟨gs, 1, none⟩ = false := b6.free 1
  obtain ⟨w7, hw7⟩ : ∃ x, w6.setCell ⟨gs, 1, none⟩ (.int .i64 zh) = x := ⟨_, rfl⟩
  have k7 : Kept (fun i => i = gs) w6 w7 := by rw [← hw7]; exact (Kept.refl (fun i => i = gs) w6).setCell (p := ⟨gs, 1, none⟩) (fun _ => rfl) _
  have b7 : Box w7 gs 33 #[.int .i64 a0, .int .i64 zh, .int .i64 a2, .int .i64 a3] := by rw [← hw7]; exact b6.put 1 _
  have r7 := (H5.out.2.2.1.trans r6).mine k7 Hsz.out (fun cs hb => hb.apart b6 (by decide) rfl)
  have H7 := Lib.hid (And.intro hw7 (And.intro r7 b7))
  clear hzh r6 k6 b6 hw7 k7 b7 r7
  go_wp2_with fail
  rw [H7.out.1]
  clear e1 f1
  by_cases h4 : n ≤ 4
  · have hr : R = none := by rw [HRe.out, if_neg (by have := H0.out.2.2; omega)]
    refine Calls.mono (num2_up lo w7 g s gk A n c l 3 K X H7.out.2.1.fresh h4) ?_
    rintro e w4 ⟨rfl, k4⟩
    exact ⟨rfl, H7.out.2.1.kep.trans k4 (fun _ _ e => absurd e (fun e => e)), .inl ⟨hr, 3, by decide, rfl⟩⟩
  refine Calls.mono (num2 lo w7 g s gk A n c l 3 K X H7.out.2.1.fresh (by omega)) ?_
  rintro e w8 ⟨rfl, r8, k8⟩
  obtain ⟨zw, hzw⟩ : ∃ z, z = 256 * l.getD 3 0 + l.getD (3 + 1) 0 := ⟨_, rfl⟩
  rw [← hzw]
  have Hzw := Lib.hid hzw
  have b8 : Box w8 gs 33 #[.int .i64 a0, .int .i64 zh, .int .i64 a2, .int .i64 a3] := k8.box H7.out.2.2 (by have := H7.out.2.2.apart H7.out.2.1.own (by decide); omega)
  have e1 : w8.cell? ⟨gs, 0, none⟩ = some (.int .i64 a0) := b8.cell 0
  have f1 : w8.frozen? ⟨gs, 0, none⟩ = false := b8.free 0
  obtain ⟨w9, hw9⟩ : ∃ x, w8.setCell ⟨gs, 0, none⟩ (.int .i64 zw) = x := ⟨_, rfl⟩
  have k9 : Kept (fun i => i = gs) w8 w9 := by rw [← hw9]; exact (Kept.refl (fun i => i = gs) w8).setCell (p := ⟨gs, 0, none⟩) (fun _ => rfl) _
  have b9 : Box w9 gs 33 #[.int .i64 zw, .int .i64 zh, .int .i64 a2, .int .i64 a3] := by rw [← hw9]; exact b8.put 0 _
  have r9 := (H7.out.2.1.trans r8).mine k9 Hsz.out (fun cs hb => hb.apart b8 (by decide) rfl)
  have H9 := Lib.hid (And.intro hw9 (And.intro r9 b9))
  have HL := Lib.hid (left_any lo w9 g s gk A n c l 5 K X r9.fresh)
  clear hzw r8 k8 b8 hw9 k9 b9 r9
  go_wp2_with fail
  rw [H9.out.1]
  clear e1 f1
  refine Calls.mono HL.out ?_
  rintro e w10 ⟨rfl, k10⟩
  have H10 := Lib.hid (And.intro (H9.out.2.1.on k10) (H9.out.2.2.on k10))
  clear HL k10
  obtain ⟨m, hm⟩ : ∃ m, m = n - 5 := ⟨_, rfl⟩
  rw [← hm]
  have HB := Lib.hid (bytes_any lo w10 g s gk A n c l 5 K X H10.out.1.fresh m (by omega))
  have Hm := Lib.hid (show n = 5 + m by omega)
  clear hm
  go_wp2_with fail
  refine Calls.mono HB.out ?_
  rintro e w11 ⟨A', c', rfl, s11, r11, k11⟩
  have b11 : Box w11 gs 33 #[.int .i64 zw, .int .i64 zh, .int .i64 a2, .int .i64 a3] := k11.box H10.out.2 (by have := H10.out.2.apart H10.out.1.own (by decide); omega)
  rw [List.take_of_length_le (by rw [List.length_drop]; have := H0.out.2.2; have := Hm.out; omega)] at s11
  have HK := Lib.hid (kindOf_any w11 _ A' m c' (l.drop 5) s11)
  have H11 := Lib.hid (And.intro (H10.out.1.trans r11) b11)
  clear HB s11 r11 k11 b11
  go_wp2_with fail
  refine Calls.mono HK.out ?_
  rintro e w12 ⟨rfl, k12⟩
  obtain ⟨kd, hkd⟩ : ∃ k, k = kindF (l.drop 5) := ⟨_, rfl⟩
  rw [← hkd]
  have b12 := H11.out.2.on k12
  have e1 : w12.cell? ⟨gs, 2, none⟩ = some (.int .i64 a2) := b12.cell 2
  have f1 : w12.frozen? ⟨gs, 2, none⟩ = false := b12.free 2
  obtain ⟨w13, hw13⟩ : ∃ x, w12.setCell ⟨gs, 2, none⟩ (.int .i64 kd) = x := ⟨_, rfl⟩
  have k13 : Kept (fun i => i = gs) w12 w13 := by rw [← hw13]; exact (Kept.refl (fun i => i = gs) w12).setCell (p := ⟨gs, 2, none⟩) (fun _ => rfl) _
  have b13 : Box w13 gs 33 #[.int .i64 zw, .int .i64 zh, .int .i64 kd, .int .i64 a3] := by rw [← hw13]; exact b12.put 2 _
  have r13 := (H11.out.1.on k12).mine k13 Hsz.out (fun cs hb => hb.apart b12 (by decide) rfl)
  have q0 : w13.cell? ⟨gs, 0, none⟩ = some (.int .i64 zw) := b13.cell 0
  have q1 : w13.cell? ⟨gs, 1, none⟩ = some (.int .i64 zh) := b13.cell 1
  have q2 : w13.cell? ⟨gs, 2, none⟩ = some (.int .i64 kd) := b13.cell 2
  have q3 : w13.cell? ⟨gs, 3, none⟩ = some (.int .i64 a3) := b13.cell 3
  have HRi := Lib.hid (rightS_any w13 zw zh kd a3)
  have H13 := Lib.hid (And.intro hw13 (And.intro r13 (And.intro b13 hkd)))
  clear HK k12 hkd b12 k13 b13 r13
  go_upto_region 5 with fail
  clear e1 f1 hw13
  go_wp2_with fail
  refine Calls.mono HRi.out ?_
  rintro e w14 ⟨rfl, k14⟩
  have H14 := Lib.hid (And.intro (H13.out.2.1.on k14) (H13.out.2.2.1.on k14))
  have HQ := Lib.hid (And.intro (require_yes w14 g 4) (require_no w14 g s A n c (5 + m) 4 (by decide) H14.out.1.cur))
  have hRe := HRe.out
  rw [show 256 * l.getD 3 0 + l.getD 4 0 = zw from Hzw.out.symm, show 256 * l.getD 1 0 + l.getD 2 0 = zh from Hzh.out.symm, ← H13.out.2.2.2] at hRe
  have HRe2 := Lib.hid hRe
  have hiff : RightS zw zh kd a3 ↔ RightS zw zh kd 0 := by
    have := H5.out.2.2.2.2.2
    unfold RightS
    omega
  have Hif := Lib.hid hiff
  clear k14 HRi hRe hiff q0 q1 q2 q3
  by_cases hok : ¬ RightS zw zh kd a3
  · have hr : R = none := by rw [HRe2.out, if_neg (fun h => hok (Hif.out.2 h.2.2))]
    have HRn := Lib.hid hr
    rw [decide_eq_false hok]
    clear hr hok
    go_wp2_with fail
    refine Calls.mono HQ.out.2 ?_
    rintro e w4 ⟨rfl, k4⟩
    exact ⟨rfl, H14.out.1.kep.trans k4 (fun _ _ e => absurd e (fun e => e)), .inl ⟨HRn.out, 4, by decide, rfl⟩⟩
  have hok' : RightS zw zh kd a3 := by simpa using hok
  have hr : R = some (K.frame l kd) := by rw [HRe2.out, if_pos ⟨by have := H0.out.2.2; have := Hm.out; omega, trivial, Hif.out.1 hok'⟩]
  have HRn := Lib.hid hr
  rw [decide_eq_true hok']
  have q0 : w14.cell? ⟨gs, 0, none⟩ = some (.int .i64 zw) := H14.out.2.cell 0
  have q1 : w14.cell? ⟨gs, 1, none⟩ = some (.int .i64 zh) := H14.out.2.cell 1
  have q2 : w14.cell? ⟨gs, 2, none⟩ = some (.int .i64 kd) := H14.out.2.cell 2
  have q3 : w14.cell? ⟨gs, 3, none⟩ = some (.int .i64 a3) := H14.out.2.cell 3
  clear hr hok hok'
  go_wp2_with fail
  refine Calls.mono HQ.out.1 ?_
  rintro e w15 ⟨rfl, rfl⟩
  clear HQ
  go_wp2_with (first
    | ((with_reducible refine wpList_store_N' (o := ⟨none, _, _, _, _, _⟩) rfl (.tmp 41) (.tmp 39) rfl rfl (g := gk) (K := K) (X := X) H14.out.1.kv zw zh kd a3 rfl rfl ?_)
       intro w16 b16 k16
       have r16 := H14.out.1.known k16 b16 ((((H14.out.1.kn.setN 0 zw).setN 1 zh).setN 2 kd).setN 3 a3)
       have cf := b16.kvF (k := 6) (by omega)
       have ff := b16.free (196 + 6)
       obtain ⟨fo, hfo⟩ : ∃ fo, fo = ((((K.setN 0 zw).setN 1 zh).setN 2 kd).setN 3 a3).F 6 := ⟨_, rfl⟩
       rw [← hfo] at cf
       have H16 := Lib.hid r16
       clear b16 k16 r16 hfo)
    | fail)
  go_end0
  have R17 := H16.out.known ((Kept.refl (fun j => j = gk) w16).setCell (p := ⟨gk, 196 + 6, none⟩) (fun _ => rfl) (.bool true)) (H16.out.kv.putF (i := 6) (by omega) true) (H16.out.kn.setF 6 true)
  refine ⟨R17.kep, .inr ⟨rfl, _, X, 5 + m, R17, ?_⟩⟩
  rw [HRn.out, if_pos Hm.out.symm, H5.out.2.2.2.2.1]
  have e3 : (((K.setN 0 zw).setN 1 zh).setN 2 kd).setN 3 (K.N 3) = ((K.setN 0 zw).setN 1 zh).setN 2 kd := setN3_same K zw zh kd
  rw [e3]
  unfold Kv.frame
  rw [show frW l = zw from (if_pos (by have := H0.out.2.2; have := Hm.out; omega)).trans Hzw.out.symm, show frH l = zh from (if_pos (by have := H0.out.2.2; have := Hm.out; omega)).trans Hzh.out.symm]
end Go.Proofs.YtgipngedmblnmaaDoor
