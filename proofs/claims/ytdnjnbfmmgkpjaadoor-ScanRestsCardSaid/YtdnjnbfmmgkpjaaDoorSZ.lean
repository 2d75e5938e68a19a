/-
  The law's small.
-/
import Derived.Test.YtdnjnbfmmgkpjaaDoorSV
namespace Go.Proofs.YtdnjnbfmmgkpjaaDoor
open Go.RowKit

def SmallY (w : World) (W H K R : Int) (T : Tbs) (e : Ending) (w' : World) : Prop := ∃ r, e = .returned (.bool r) ∧ (r = true → (RightS W H K R → W ≤ 40 ∧ H ≤ 40) ∧ ∀ j, j < 4 → (T.V j).length ≤ 300) ∧ Below w.heap.size w w'
set_option maxRecDepth 10000 in
set_option maxHeartbeats 6400000 in
theorem small_any (w : World) (W H K R : Int) (T : Tbs) (X : Nat → Value) (hX : Xs w T X) : Calls Tryd.prog 8 #[scanV W H K R, tbV T X] w (SmallY w W H K R T) := by
  obtain ⟨C, hC⟩ : ∃ C, C = (tbC T X).toArray := ⟨_, rfl⟩
  obtain ⟨w1, hw1⟩ : ∃ w1, (w.alloc (.cells #[.int .i64 W, .int .i64 H, .int .i64 K, .int .i64 R] 23)).alloc (.cells C 33) = w1 := ⟨_, rfl⟩
  have b1 : Box w1 w.heap.size 23 #[.int .i64 W, .int .i64 H, .int .i64 K, .int .i64 R] := by rw [← hw1]; exact (Box.made _ _ _).alloc _
  have b2 : Box w1 (w.heap.size + 1) 33 C := by rw [← hw1]; have := Box.made (w.alloc (.cells #[.int .i64 W, .int .i64 H, .int .i64 K, .int .i64 R] 23)) 33 C; simpa using this
  have k1 : Below w.heap.size w w1 := by rw [← hw1]; exact on_trans (on_alloc _ _) (on_alloc _ _)
  have q0 : w1.cell? ⟨w.heap.size, 0, none⟩ = some (.int .i64 W) := b1.cell 0
  have q1 : w1.cell? ⟨w.heap.size, 1, none⟩ = some (.int .i64 H) := b1.cell 1
  have q2 : w1.cell? ⟨w.heap.size, 2, none⟩ = some (.int .i64 K) := b1.cell 2
  have q3 : w1.cell? ⟨w.heap.size, 3, none⟩ = some (.int .i64 R) := b1.cell 3
  have hx : ∀ j, j < 4 → ∃ A n c, X j = .slice A n c ∧ (T.V j).length = n ∧ n ≤ 9223372036854775807 := fun j hj => by
    obtain ⟨A, n, c, e, hi⟩ := hX j hj
    exact ⟨A, n, c, e, hi.len, by have := hi.cap; have := hi.max; unfold maxLen at this; omega⟩
  obtain ⟨A0, n0, c0, e0, l0, m0⟩ := hx 0 (by omega)
  obtain ⟨A1, n1, c1, e1, l1, m1⟩ := hx 1 (by omega)
  obtain ⟨A2, n2, c2, e2, l2, m2⟩ := hx 2 (by omega)
  obtain ⟨A3, n3, c3, e3, l3, m3⟩ := hx 3 (by omega)
  rw [hC] at b2
  have hc : ∀ j, j < 4 → w1.cell? ⟨w.heap.size + 1, 128 + 17 * j + 16, none⟩ = some (X j) := fun j hj => by rw [b2.tb.cell (by omega), tbAt_x]
  have x0 : w1.cell? ⟨w.heap.size + 1, 144, none⟩ = some (.slice A0 n0 c0) := by rw [← e0]; exact hc 0 (by omega)
  have x1 : w1.cell? ⟨w.heap.size + 1, 161, none⟩ = some (.slice A1 n1 c1) := by rw [← e1]; exact hc 1 (by omega)
  have x2 : w1.cell? ⟨w.heap.size + 1, 178, none⟩ = some (.slice A2 n2 c2) := by rw [← e2]; exact hc 2 (by omega)
  have x3 : w1.cell? ⟨w.heap.size + 1, 195, none⟩ = some (.slice A3 n3 c3) := by rw [← e3]; exact hc 3 (by omega)
  have HB := Lib.hid (And.intro k1 (And.intro l0 (And.intro l1 (And.intro l2 l3))))
  have hV : tbV T X = .agg C := by rw [hC]; rfl
  have HR := Lib.hid (refRightS_any w1 W H K R)
  rw [hV]
  have hfin : ∀ w', Below w1.heap.size w1 w' → n0 ≤ 300 → n1 ≤ 300 → n2 ≤ 300 → n3 ≤ 300 → (RightS W H K R → W ≤ 40 ∧ H ≤ 40) → SmallY w W H K R T (.returned (.bool true)) w' := fun w' k h0 h1 h2 h3 h4 =>
    ⟨true, rfl, fun _ => ⟨h4, fun j hj => by rcases (show j = 0 ∨ j = 1 ∨ j = 2 ∨ j = 3 by omega) with rfl | rfl | rfl | rfl <;> omega⟩, on_trans HB.out.1 k⟩
  have hbad : ∀ w', Below w1.heap.size w1 w' → SmallY w W H K R T (.returned (.bool false)) w' := fun w' k => ⟨false, rfl, (fun h => by cases h), on_trans HB.out.1 k⟩
  have HF := Lib.hid (And.intro hfin hbad)
  clear b1 b2 k1 hc hX hx hC hV e0 e1 e2 e3 l0 l1 l2 l3 hfin hbad
  unfold scanV
  by_cases hw : W ≤ 40
  · by_cases hh : H ≤ 40
    · by_cases h0 : n0 ≤ 300
      · have h0i : (n0 : Int) ≤ 300 := by omega
        by_cases h1 : n1 ≤ 300
        · have h1i : (n1 : Int) ≤ 300 := by omega
          by_cases h2 : n2 ≤ 300
          · have h2i : (n2 : Int) ≤ 300 := by omega
            by_cases h3 : n3 ≤ 300
            · have h3i : (n3 : Int) ≤ 300 := by omega
              go_enter Tryd.func8, Tryd.ntmps8
              go_wp2_with fail
              go_ret
              exact HF.out.1 _ (Below.refl _ _) (by omega) (by omega) (by omega) (by omega) (fun _ => ⟨hw, hh⟩)
            · have h3i : ¬ (n3 : Int) ≤ 300 := by omega
              go_enter Tryd.func8, Tryd.ntmps8
              go_wp2_with fail
              go_ret
              first
                | exact HF.out.2 _ (Below.refl _ _)
                | (have q := HF.out.2 _ (Below.refl _ _); rw [← decide_eq_false (show ¬ (n3 : Int) ≤ 300 by omega)] at q; exact q)
          · have h2i : ¬ (n2 : Int) ≤ 300 := by omega
            go_enter Tryd.func8, Tryd.ntmps8
            go_wp2_with fail
            go_ret
            exact HF.out.2 _ (Below.refl _ _)
        · have h1i : ¬ (n1 : Int) ≤ 300 := by omega
          go_enter Tryd.func8, Tryd.ntmps8
          go_wp2_with fail
          go_ret
          exact HF.out.2 _ (Below.refl _ _)
      · have h0i : ¬ (n0 : Int) ≤ 300 := by omega
        go_enter Tryd.func8, Tryd.ntmps8
        go_wp2_with fail
        go_ret
        exact HF.out.2 _ (Below.refl _ _)
    · by_cases hr : RightS W H K R
      · have hd := decide_eq_true hr
        go_enter Tryd.func8, Tryd.ntmps8
        go_wp2_with fail
        refine HR.out.mono ?_
        rintro e w2 ⟨rfl, k2⟩
        rw [hd]
        have K2 := Lib.hid k2
        have y0 : w2.cell? ⟨w.heap.size + 1, 144, none⟩ = some (.slice A0 n0 c0) := (k2.cell (World.block_lt_of_cell? _ _ x0)).trans x0
        have y1 : w2.cell? ⟨w.heap.size + 1, 161, none⟩ = some (.slice A1 n1 c1) := (k2.cell (World.block_lt_of_cell? _ _ x1)).trans x1
        have y2 : w2.cell? ⟨w.heap.size + 1, 178, none⟩ = some (.slice A2 n2 c2) := (k2.cell (World.block_lt_of_cell? _ _ x2)).trans x2
        have y3 : w2.cell? ⟨w.heap.size + 1, 195, none⟩ = some (.slice A3 n3 c3) := (k2.cell (World.block_lt_of_cell? _ _ x3)).trans x3
        clear k2
        go_wp2_with fail
        go_ret
        exact HF.out.2 _ K2.out
      · have hd := decide_eq_false hr
        by_cases h0 : n0 ≤ 300
        · have h0i : (n0 : Int) ≤ 300 := by omega
          by_cases h1 : n1 ≤ 300
          · have h1i : (n1 : Int) ≤ 300 := by omega
            by_cases h2 : n2 ≤ 300
            · have h2i : (n2 : Int) ≤ 300 := by omega
              by_cases h3 : n3 ≤ 300
              · have h3i : (n3 : Int) ≤ 300 := by omega
                go_enter Tryd.func8, Tryd.ntmps8
                go_wp2_with fail
                refine HR.out.mono ?_
                rintro e w2 ⟨rfl, k2⟩
                rw [hd]
                have K2 := Lib.hid k2
                have y0 : w2.cell? ⟨w.heap.size + 1, 144, none⟩ = some (.slice A0 n0 c0) := (k2.cell (World.block_lt_of_cell? _ _ x0)).trans x0
                have y1 : w2.cell? ⟨w.heap.size + 1, 161, none⟩ = some (.slice A1 n1 c1) := (k2.cell (World.block_lt_of_cell? _ _ x1)).trans x1
                have y2 : w2.cell? ⟨w.heap.size + 1, 178, none⟩ = some (.slice A2 n2 c2) := (k2.cell (World.block_lt_of_cell? _ _ x2)).trans x2
                have y3 : w2.cell? ⟨w.heap.size + 1, 195, none⟩ = some (.slice A3 n3 c3) := (k2.cell (World.block_lt_of_cell? _ _ x3)).trans x3
                clear k2
                go_wp2_with fail
                go_ret
                exact HF.out.1 _ (K2.out) (by omega) (by omega) (by omega) (by omega) (fun h => absurd h hr)
              · have h3i : ¬ (n3 : Int) ≤ 300 := by omega
                go_enter Tryd.func8, Tryd.ntmps8
                go_wp2_with fail
                refine HR.out.mono ?_
                rintro e w2 ⟨rfl, k2⟩
                rw [hd]
                have K2 := Lib.hid k2
                have y0 : w2.cell? ⟨w.heap.size + 1, 144, none⟩ = some (.slice A0 n0 c0) := (k2.cell (World.block_lt_of_cell? _ _ x0)).trans x0
                have y1 : w2.cell? ⟨w.heap.size + 1, 161, none⟩ = some (.slice A1 n1 c1) := (k2.cell (World.block_lt_of_cell? _ _ x1)).trans x1
                have y2 : w2.cell? ⟨w.heap.size + 1, 178, none⟩ = some (.slice A2 n2 c2) := (k2.cell (World.block_lt_of_cell? _ _ x2)).trans x2
                have y3 : w2.cell? ⟨w.heap.size + 1, 195, none⟩ = some (.slice A3 n3 c3) := (k2.cell (World.block_lt_of_cell? _ _ x3)).trans x3
                clear k2
                go_wp2_with fail
                go_ret
                first
                  | exact HF.out.2 _ (K2.out)
                  | (have q := HF.out.2 _ (K2.out); rw [← decide_eq_false (show ¬ (n3 : Int) ≤ 300 by omega)] at q; exact q)
            · have h2i : ¬ (n2 : Int) ≤ 300 := by omega
              go_enter Tryd.func8, Tryd.ntmps8
              go_wp2_with fail
              refine HR.out.mono ?_
              rintro e w2 ⟨rfl, k2⟩
              rw [hd]
              have K2 := Lib.hid k2
              have y0 : w2.cell? ⟨w.heap.size + 1, 144, none⟩ = some (.slice A0 n0 c0) := (k2.cell (World.block_lt_of_cell? _ _ x0)).trans x0
              have y1 : w2.cell? ⟨w.heap.size + 1, 161, none⟩ = some (.slice A1 n1 c1) := (k2.cell (World.block_lt_of_cell? _ _ x1)).trans x1
              have y2 : w2.cell? ⟨w.heap.size + 1, 178, none⟩ = some (.slice A2 n2 c2) := (k2.cell (World.block_lt_of_cell? _ _ x2)).trans x2
              have y3 : w2.cell? ⟨w.heap.size + 1, 195, none⟩ = some (.slice A3 n3 c3) := (k2.cell (World.block_lt_of_cell? _ _ x3)).trans x3
              clear k2
              go_wp2_with fail
              go_ret
              exact HF.out.2 _ (K2.out)
          · have h1i : ¬ (n1 : Int) ≤ 300 := by omega
            go_enter Tryd.func8, Tryd.ntmps8
            go_wp2_with fail
            refine HR.out.mono ?_
            rintro e w2 ⟨rfl, k2⟩
            rw [hd]
            have K2 := Lib.hid k2
            have y0 : w2.cell? ⟨w.heap.size + 1, 144, none⟩ = some (.slice A0 n0 c0) := (k2.cell (World.block_lt_of_cell? _ _ x0)).trans x0
            have y1 : w2.cell? ⟨w.heap.size + 1, 161, none⟩ = some (.slice A1 n1 c1) := (k2.cell (World.block_lt_of_cell? _ _ x1)).trans x1
            have y2 : w2.cell? ⟨w.heap.size + 1, 178, none⟩ = some (.slice A2 n2 c2) := (k2.cell (World.block_lt_of_cell? _ _ x2)).trans x2
            have y3 : w2.cell? ⟨w.heap.size + 1, 195, none⟩ = some (.slice A3 n3 c3) := (k2.cell (World.block_lt_of_cell? _ _ x3)).trans x3
            clear k2
            go_wp2_with fail
            go_ret
            exact HF.out.2 _ (K2.out)
        · have h0i : ¬ (n0 : Int) ≤ 300 := by omega
          go_enter Tryd.func8, Tryd.ntmps8
          go_wp2_with fail
          refine HR.out.mono ?_
          rintro e w2 ⟨rfl, k2⟩
          rw [hd]
          have K2 := Lib.hid k2
          have y0 : w2.cell? ⟨w.heap.size + 1, 144, none⟩ = some (.slice A0 n0 c0) := (k2.cell (World.block_lt_of_cell? _ _ x0)).trans x0
          have y1 : w2.cell? ⟨w.heap.size + 1, 161, none⟩ = some (.slice A1 n1 c1) := (k2.cell (World.block_lt_of_cell? _ _ x1)).trans x1
          have y2 : w2.cell? ⟨w.heap.size + 1, 178, none⟩ = some (.slice A2 n2 c2) := (k2.cell (World.block_lt_of_cell? _ _ x2)).trans x2
          have y3 : w2.cell? ⟨w.heap.size + 1, 195, none⟩ = some (.slice A3 n3 c3) := (k2.cell (World.block_lt_of_cell? _ _ x3)).trans x3
          clear k2
          go_wp2_with fail
          go_ret
          exact HF.out.2 _ (K2.out)
  · by_cases hr : RightS W H K R
    · have hd := decide_eq_true hr
      go_enter Tryd.func8, Tryd.ntmps8
      go_wp2_with fail
      refine HR.out.mono ?_
      rintro e w2 ⟨rfl, k2⟩
      rw [hd]
      have K2 := Lib.hid k2
      have y0 : w2.cell? ⟨w.heap.size + 1, 144, none⟩ = some (.slice A0 n0 c0) := (k2.cell (World.block_lt_of_cell? _ _ x0)).trans x0
      have y1 : w2.cell? ⟨w.heap.size + 1, 161, none⟩ = some (.slice A1 n1 c1) := (k2.cell (World.block_lt_of_cell? _ _ x1)).trans x1
      have y2 : w2.cell? ⟨w.heap.size + 1, 178, none⟩ = some (.slice A2 n2 c2) := (k2.cell (World.block_lt_of_cell? _ _ x2)).trans x2
      have y3 : w2.cell? ⟨w.heap.size + 1, 195, none⟩ = some (.slice A3 n3 c3) := (k2.cell (World.block_lt_of_cell? _ _ x3)).trans x3
      clear k2
      go_wp2_with fail
      go_ret
      exact HF.out.2 _ K2.out
    · have hd := decide_eq_false hr
      by_cases h0 : n0 ≤ 300
      · have h0i : (n0 : Int) ≤ 300 := by omega
        by_cases h1 : n1 ≤ 300
        · have h1i : (n1 : Int) ≤ 300 := by omega
          by_cases h2 : n2 ≤ 300
          · have h2i : (n2 : Int) ≤ 300 := by omega
            by_cases h3 : n3 ≤ 300
            · have h3i : (n3 : Int) ≤ 300 := by omega
              go_enter Tryd.func8, Tryd.ntmps8
              go_wp2_with fail
              refine HR.out.mono ?_
              rintro e w2 ⟨rfl, k2⟩
              rw [hd]
              have K2 := Lib.hid k2
              have y0 : w2.cell? ⟨w.heap.size + 1, 144, none⟩ = some (.slice A0 n0 c0) := (k2.cell (World.block_lt_of_cell? _ _ x0)).trans x0
              have y1 : w2.cell? ⟨w.heap.size + 1, 161, none⟩ = some (.slice A1 n1 c1) := (k2.cell (World.block_lt_of_cell? _ _ x1)).trans x1
              have y2 : w2.cell? ⟨w.heap.size + 1, 178, none⟩ = some (.slice A2 n2 c2) := (k2.cell (World.block_lt_of_cell? _ _ x2)).trans x2
              have y3 : w2.cell? ⟨w.heap.size + 1, 195, none⟩ = some (.slice A3 n3 c3) := (k2.cell (World.block_lt_of_cell? _ _ x3)).trans x3
              clear k2
              go_wp2_with fail
              go_ret
              exact HF.out.1 _ (K2.out) (by omega) (by omega) (by omega) (by omega) (fun h => absurd h hr)
            · have h3i : ¬ (n3 : Int) ≤ 300 := by omega
              go_enter Tryd.func8, Tryd.ntmps8
              go_wp2_with fail
              refine HR.out.mono ?_
              rintro e w2 ⟨rfl, k2⟩
              rw [hd]
              have K2 := Lib.hid k2
              have y0 : w2.cell? ⟨w.heap.size + 1, 144, none⟩ = some (.slice A0 n0 c0) := (k2.cell (World.block_lt_of_cell? _ _ x0)).trans x0
              have y1 : w2.cell? ⟨w.heap.size + 1, 161, none⟩ = some (.slice A1 n1 c1) := (k2.cell (World.block_lt_of_cell? _ _ x1)).trans x1
              have y2 : w2.cell? ⟨w.heap.size + 1, 178, none⟩ = some (.slice A2 n2 c2) := (k2.cell (World.block_lt_of_cell? _ _ x2)).trans x2
              have y3 : w2.cell? ⟨w.heap.size + 1, 195, none⟩ = some (.slice A3 n3 c3) := (k2.cell (World.block_lt_of_cell? _ _ x3)).trans x3
              clear k2
              go_wp2_with fail
              go_ret
              first
                | exact HF.out.2 _ (K2.out)
                | (have q := HF.out.2 _ (K2.out); rw [← decide_eq_false (show ¬ (n3 : Int) ≤ 300 by omega)] at q; exact q)
          · have h2i : ¬ (n2 : Int) ≤ 300 := by omega
            go_enter Tryd.func8, Tryd.ntmps8
            go_wp2_with fail
            refine HR.out.mono ?_
            rintro e w2 ⟨rfl, k2⟩
            rw [hd]
            have K2 := Lib.hid k2
            have y0 : w2.cell? ⟨w.heap.size + 1, 144, none⟩ = some (.slice A0 n0 c0) := (k2.cell (World.block_lt_of_cell? _ _ x0)).trans x0
            have y1 : w2.cell? ⟨w.heap.size + 1, 161, none⟩ = some (.slice A1 n1 c1) := (k2.cell (World.block_lt_of_cell? _ _ x1)).trans x1
            have y2 : w2.cell? ⟨w.heap.size + 1, 178, none⟩ = some (.slice A2 n2 c2) := (k2.cell (World.block_lt_of_cell? _ _ x2)).trans x2
            have y3 : w2.cell? ⟨w.heap.size + 1, 195, none⟩ = some (.slice A3 n3 c3) := (k2.cell (World.block_lt_of_cell? _ _ x3)).trans x3
            clear k2
            go_wp2_with fail
            go_ret
            exact HF.out.2 _ (K2.out)
        · have h1i : ¬ (n1 : Int) ≤ 300 := by omega
          go_enter Tryd.func8, Tryd.ntmps8
          go_wp2_with fail
          refine HR.out.mono ?_
          rintro e w2 ⟨rfl, k2⟩
          rw [hd]
          have K2 := Lib.hid k2
          have y0 : w2.cell? ⟨w.heap.size + 1, 144, none⟩ = some (.slice A0 n0 c0) := (k2.cell (World.block_lt_of_cell? _ _ x0)).trans x0
          have y1 : w2.cell? ⟨w.heap.size + 1, 161, none⟩ = some (.slice A1 n1 c1) := (k2.cell (World.block_lt_of_cell? _ _ x1)).trans x1
          have y2 : w2.cell? ⟨w.heap.size + 1, 178, none⟩ = some (.slice A2 n2 c2) := (k2.cell (World.block_lt_of_cell? _ _ x2)).trans x2
          have y3 : w2.cell? ⟨w.heap.size + 1, 195, none⟩ = some (.slice A3 n3 c3) := (k2.cell (World.block_lt_of_cell? _ _ x3)).trans x3
          clear k2
          go_wp2_with fail
          go_ret
          exact HF.out.2 _ (K2.out)
      · have h0i : ¬ (n0 : Int) ≤ 300 := by omega
        go_enter Tryd.func8, Tryd.ntmps8
        go_wp2_with fail
        refine HR.out.mono ?_
        rintro e w2 ⟨rfl, k2⟩
        rw [hd]
        have K2 := Lib.hid k2
        have y0 : w2.cell? ⟨w.heap.size + 1, 144, none⟩ = some (.slice A0 n0 c0) := (k2.cell (World.block_lt_of_cell? _ _ x0)).trans x0
        have y1 : w2.cell? ⟨w.heap.size + 1, 161, none⟩ = some (.slice A1 n1 c1) := (k2.cell (World.block_lt_of_cell? _ _ x1)).trans x1
        have y2 : w2.cell? ⟨w.heap.size + 1, 178, none⟩ = some (.slice A2 n2 c2) := (k2.cell (World.block_lt_of_cell? _ _ x2)).trans x2
        have y3 : w2.cell? ⟨w.heap.size + 1, 195, none⟩ = some (.slice A3 n3 c3) := (k2.cell (World.block_lt_of_cell? _ _ x3)).trans x3
        clear k2
        go_wp2_with fail
        go_ret
        exact HF.out.2 _ (K2.out)
end Go.Proofs.YtdnjnbfmmgkpjaaDoor
