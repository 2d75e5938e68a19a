/-
  QuantFiner: the walk.
-/
import Derived.Test.YtambeekkgbbfnaaDoorAwake
namespace Go.Proofs.YtambeekkgbbfnaaDoor
open Go.RowKit

theorem scl_anti {a b : Int} (h0 : 1 ≤ a) (h : a ≤ b) (h1 : b ≤ 100) : scl b ≤ scl a := by
  have key : ∀ x, 1 ≤ x → x ≤ a → 0 ≤ x := fun x h _ => by omega
  have low : a < 50 → 100 ≤ 5000 / a := fun ha => Int.le_ediv_of_mul_le (by omega) (by omega)
  unfold scl
  by_cases hb : b < 50
  · rw [if_pos hb, if_pos (by omega)]
    have n0 : 0 ≤ 5000 / b := Int.ediv_nonneg (by omega) (by omega)
    have h2 : 5000 / b * b ≤ 5000 := Int.ediv_mul_le _ (by omega)
    have h3 : 5000 / b * a ≤ 5000 / b * b := Int.mul_le_mul_of_nonneg_left h n0
    exact Int.le_ediv_of_mul_le (by omega) (by omega)
  · rw [if_neg hb]
    by_cases ha : a < 50
    · rw [if_pos ha]; have := low ha; omega
    · rw [if_neg ha]; omega
theorem held_mono {x y lo hi : Int} (h : x ≤ y) (hl : lo ≤ hi) : held x lo hi ≤ held y lo hi := by
  unfold held
  repeat' split
  all_goals omega
theorem stepOf_anti {s a b : Int} (hs : 0 ≤ s) (h0 : 1 ≤ a) (h : a ≤ b) (h1 : b ≤ 100) : stepOf s b ≤ stepOf s a := by
  unfold stepOf
  refine held_mono (Int.ediv_le_ediv (by omega) ?_) (by omega)
  have := Int.mul_le_mul_of_nonneg_left (scl_anti h0 h h1) hs
  omega
theorem finer_at (c : Bool) {a b : Int} (h0 : 1 ≤ a) (h : a ≤ b) (h1 : b ≤ 100) {k : Nat} (hk : k < 64) : (stepsL c b).getD k 0 ≤ (stepsL c a).getD k 0 := by
  rw [stepsL_at c b hk, stepsL_at c a hk]
  have := baseL_bounds c k hk
  exact stepOf_anti (by omega) h0 h h1

/-- two blocks that two calls told -/
structure Both (w wr : World) (g1 g2 : Nat) (x y : List Int) : Prop where
  one : Blk wr g1 x
  two : Blk wr g2 y
  tab : Tab wr
  bel : Below w.heap.size w wr
theorem below_drewN_refl (w : World) (k : Nat) : Below w.heap.size w (w.drewN k) := ⟨rfl, rfl, rfl, Nat.le_refl _, fun _ _ => rfl⟩
theorem Both.on {w wr w' : World} {g1 g2 : Nat} {x y : List Int} (h : Both w wr g1 g2 x y) (k : Below wr.heap.size wr w') : Both w w' g1 g2 x y := ⟨h.one.on k, h.two.on k, h.tab.on k, on_trans h.bel k⟩

set_option maxRecDepth 10000 in
set_option maxHeartbeats 3200000 in
theorem finer_calls (w : World) (c : Bool) (a b : Int) (hT : Tab w) (ha : isInt a) (hb : isInt b) : Calls Tryd.prog 8 #[.bool c, .int .i64 a, .int .i64 b] w (Law w) := by
  obtain ⟨Z, hZ⟩ : ∃ Z, Z = (cellsI zeros64).toArray := ⟨_, rfl⟩
  have hz : ∀ w, (zeroValue 26).run Tryd.prog w = .ok (.agg Z) w := fun w => by rw [hZ]; exact zero26 w
  have hZs : Z.size = 64 := by rw [hZ]; rfl
  obtain ⟨x, hx⟩ : ∃ x, x = (stepsF c a).1 := ⟨_, rfl⟩
  obtain ⟨e, he⟩ : ∃ e, e = (stepsF c a).2 := ⟨_, rfl⟩
  obtain ⟨y, hy⟩ : ∃ y, y = (stepsF c b).1 := ⟨_, rfl⟩
  obtain ⟨f, hf⟩ : ∃ f, f = (stepsF c b).2 := ⟨_, rfl⟩
  have hxl : x.length = 64 := by rw [hx]; exact stepsF_len _ _
  have hyl : y.length = 64 := by rw [hy]; exact stepsF_len _ _
  have HC1 := steps_any w c a hT
  unfold Tells at HC1
  rw [← hx, ← he] at HC1
  have HC2 := fun w (hT : Tab w) => steps_any w c b hT
  unfold Tells at HC2
  rw [← hy, ← hf] at HC2
  have H := Lib.hid (And.intro hT (And.intro hZs (And.intro hxl (And.intro hyl (And.intro HC1 HC2)))))
  have HA := Lib.hid (And.intro hx (And.intro he (And.intro hy (And.intro hf (And.intro ha hb)))))
  clear hT hZ hZs hx he hy hf hxl hyl HC1 HC2 ha hb
  go_enter Tryd.func8, Tryd.ntmps8
  go_wp2_with fail
  refine H.out.2.2.2.2.1.mono ?_
  rintro e1 w2 ⟨rfl, b2⟩
  have H2 := Lib.hid (And.intro (H.out.1.on b2) b2)
  clear b2
  go_wp2_with (first
    | ((with_reducible refine wpList_store_blk (o := ⟨none, _, _, _, _, _⟩) rfl (.tmp 7) (.tmp 16) rfl rfl w2.heap.size x rfl rfl Z (Box.made _ _ _) H.out.2.1 H.out.2.2.1 ?_)
       intro w3 b3 k3
       have H3 := Lib.hid (laid_new H2.out.2 b3 k3)
       clear b3 k3)
    | fail)
  refine (H.out.2.2.2.2.2 w3 (H2.out.1.on H3.out.2.1)).mono ?_
  rintro e1 w4 ⟨rfl, b4⟩
  have H4 := Lib.hid (And.intro (on_trans H3.out.2.2 b4) (And.intro (H3.out.1.on b4) ((H2.out.1.on H3.out.2.1).on b4)))
  clear b4
  obtain ⟨g1, hg1⟩ : ∃ g1, g1 = w2.heap.size := ⟨_, rfl⟩
  rw [← hg1] at H4 ⊢
  clear hg1
  by_cases ea : 1 ≤ a ∧ a ≤ 100
  · have he : e = 0 := by rw [HA.out.2.1]; unfold stepsF; rw [if_pos ea]
    subst he
    by_cases eb : 1 ≤ b ∧ b ≤ 100
    · have hf : f = 0 := by rw [HA.out.2.2.2.1]; unfold stepsF; rw [if_pos eb]
      subst hf
      by_cases hab : b < a
      · clear ea eb
        go_wp2_with (first
          | ((with_reducible refine wpList_store_blk (o := ⟨none, _, _, _, _, _⟩) rfl (.tmp 9) (.tmp 22) rfl rfl w4.heap.size y rfl rfl Z (Box.made _ _ _) H.out.2.1 H.out.2.2.2.1 ?_)
             intro w5 b5 k5
             have H5 := Lib.hid (laid_new H4.out.1 b5 k5)
             clear b5 k5)
          | fail)
        refine (awake_any w5 (H4.out.2.2.on H5.out.2.1)).mono ?_
        rintro e w6 ⟨rfl, b6⟩
        have H6 := Lib.hid (on_trans H5.out.2.2 b6)
        clear b6
        go_wp2
        go_ret
        exact ⟨rfl, H6.out⟩
      · have hxy : ∀ k, k < 64 → y.getD k 0 ≤ x.getD k 0 := fun k hk => by
          have hx : x = stepsL c a := by rw [HA.out.1]; unfold stepsF; rw [if_pos ea]
          have hy : y = stepsL c b := by rw [HA.out.2.2.1]; unfold stepsF; rw [if_pos eb]
          rw [hx, hy]
          exact finer_at c ea.1 (by omega) eb.2 hk
        have HXY := Lib.hid hxy
        clear hxy ea eb
        go_wp2_with (first
          | ((with_reducible refine wpList_store_blk (o := ⟨none, _, _, _, _, _⟩) rfl (.tmp 9) (.tmp 22) rfl rfl w4.heap.size y rfl rfl Z (Box.made _ _ _) H.out.2.1 H.out.2.2.2.1 ?_)
             intro w5 b5 k5
             have H5 := Lib.hid (laid_new H4.out.1 b5 k5)
             clear b5 k5)
          | fail)
        go_loopw [36] (fun i wr => ∃ k : Nat, k ≤ 64 ∧ i = .int .i64 k ∧ Both w wr g1 w4.heap.size x y) (fun i _ => 64 - (intOf i).toNat)
        case atStart => exact ⟨0, by omega, rfl, ⟨H4.out.2.1.on H5.out.2.1, H5.out.1, H4.out.2.2.on H5.out.2.1, H5.out.2.2⟩⟩
        case round =>
          obtain ⟨k, hk, rfl, hR⟩ := hrel
          have HR := Lib.hid hR
          clear hR
          by_cases hlt : k < 64
          · have c1 := HR.out.one.cell hlt
            have c2 := HR.out.two.cell hlt
            have hle := HXY.out k hlt
            obtain ⟨u, hu⟩ : ∃ u, u = x.getD k 0 := ⟨_, rfl⟩
            obtain ⟨v, hv⟩ : ∃ v, v = y.getD k 0 := ⟨_, rfl⟩
            rw [← hu] at c1 hle
            rw [← hv] at c2 hle
            clear hu hv
            go_wp2_with fail
            go_quiet (fail)
            go_wp2_with fail
            refine ⟨⟨k + 1, by omega, by go_num, HR.out.on (below_drewN_refl _ _)⟩, ?_⟩
            simp [intOf]; omega
          · obtain rfl : k = 64 := by omega
            go_wp2_with fail
            refine (awake_any wr HR.out.tab).mono ?_
            rintro e w6 ⟨rfl, b6⟩
            have H6 := Lib.hid (on_trans HR.out.bel b6)
            clear b6
            go_wp2
            go_ret
            exact ⟨rfl, H6.out⟩
    · have hf : f = 2 := by rw [HA.out.2.2.2.1]; unfold stepsF; rw [if_neg eb]
      subst hf
      clear ea eb
      go_wp2_with (first
        | ((with_reducible refine wpList_store_blk (o := ⟨none, _, _, _, _, _⟩) rfl (.tmp 9) (.tmp 22) rfl rfl w4.heap.size y rfl rfl Z (Box.made _ _ _) H.out.2.1 H.out.2.2.2.1 ?_)
           intro w5 b5 k5
           have H5 := Lib.hid (laid_new H4.out.1 b5 k5)
           clear b5 k5)
        | fail)
      refine (awake_any w5 (H4.out.2.2.on H5.out.2.1)).mono ?_
      rintro e w6 ⟨rfl, b6⟩
      have H6 := Lib.hid (on_trans H5.out.2.2 b6)
      clear b6
      go_wp2
      go_ret
      exact ⟨rfl, H6.out⟩
  · have he : e = 2 := by rw [HA.out.2.1]; unfold stepsF; rw [if_neg ea]
    subst he
    clear ea
    go_wp2_with (first
      | ((with_reducible refine wpList_store_blk (o := ⟨none, _, _, _, _, _⟩) rfl (.tmp 9) (.tmp 22) rfl rfl w4.heap.size y rfl rfl Z (Box.made _ _ _) H.out.2.1 H.out.2.2.2.1 ?_)
         intro w5 b5 k5
         have H5 := Lib.hid (laid_new H4.out.1 b5 k5)
         clear b5 k5)
      | fail)
    refine (awake_any w5 (H4.out.2.2.on H5.out.2.1)).mono ?_
    rintro e w6 ⟨rfl, b6⟩
    have H6 := Lib.hid (on_trans H5.out.2.2 b6)
    clear b6
    go_wp2
    go_ret
    exact ⟨rfl, H6.out⟩
end Go.Proofs.YtambeekkgbbfnaaDoor
