/-
  HalfFlat: the walk.
-/
import Derived.Test.YtjkmbiieagmjkaaDoorTold10
namespace Go.Proofs.YtjkmbiieagmjkaaDoor
open Go.RowKit

theorem one_alike (n : Int) : Alike (four4 (oneL n)) n := fun m hm j hj => by rw [four4_at (oneL_len n) hm hj, oneL_at]
/-- a block that is boxed -/
theorem one_boxed (w : World) (b : List Int) (hT : Tab w) (hb : b.length = 64) : ∃ cs w1, blkV b = .agg cs ∧ w.alloc (.cells cs 23) = w1 ∧ Know w w1 [.blk w.heap.size b] ∧ w1.heap.size = w.heap.size + 1 :=
  ⟨_, _, rfl, rfl, (Know.nil hT).made hb, by simp⟩

set_option maxRecDepth 10000 in
set_option maxHeartbeats 6400000 in
theorem flat_calls (w : World) (n : Int) (s : List Int) (hT : Tab w) (hn : isInt n) (hs : s.length = 64) : Calls Tryd.prog 6 #[.int .i64 n, blkV s] w (Law w) := by
  obtain ⟨cs, w1, hsv, hw1, hk, _⟩ := one_boxed w s hT hs
  obtain ⟨Z, hZ⟩ : ∃ Z, Z = (cellsI zeros64).toArray := ⟨_, rfl⟩
  have hz' : ∀ w, (zeroValue 23).run Tryd.prog w = .ok (.agg Z) w := fun w => by rw [hZ]; exact zero23 w
  have hZs : Z.size = 64 := by rw [hZ]; rfl
  have HL := Lib.hid hk.b0.load
  rw [← hw1] at HL
  have hb1 := fun w => build_one w n
  have hb4 := fun w => build_four w n
  have hM := fun w hT => told_any w (four4 (oneL n)) s hT (four4_len (oneL_len n)) hs
  have hF := fun (h1 : Wi s 1 255) (h2 : -1023 ≤ n ∧ n ≤ 1023) => told_flat h1 h2 (one_alike n)
  have hxl := toldF_len (four4 (oneL n)) s
  obtain ⟨E, hE⟩ : ∃ E, E = oneL n := ⟨_, rfl⟩
  have hEl : E.length = 64 := by rw [hE]; rfl
  rw [← hE] at hb1 hb4 hM hF hxl
  obtain ⟨G, hG⟩ : ∃ G, G = four4 E := ⟨_, rfl⟩
  rw [← hG] at hb4 hM hF hxl
  obtain ⟨⟨x, e⟩, hx⟩ : ∃ R, R = toldF G s := ⟨_, rfl⟩
  rw [← hx] at hM hF hxl
  dsimp only at hxl hF
  have H := Lib.hid (And.intro hk (And.intro hw1 (And.intro hZs (And.intro hEl (And.intro hb1 (And.intro hb4 (And.intro hM (And.intro hF (And.intro hxl hs)))))))))
  rw [hsv]
  obtain ⟨n0, n1⟩ := hn
  clear hT hk hs hsv hZ hZs hw1 hE hEl hG hb1 hb4 hM hF hxl hx
  by_cases hin : -1023 ≤ n ∧ n ≤ 1023
  · obtain ⟨m0, m1⟩ := hin
    have d0 : decide (n < -1023) = false := decide_eq_false (by omega)
    have d1 : decide (1023 < n) = false := decide_eq_false (by omega)
    go_enter Tryd.func6, Tryd.ntmps6
    go_wp2_with (first
      | ((with_reducible refine wpList_load_when (op := ⟨some 15, _, _, _, _, _⟩) ?hw 23 (.tmp 3) rfl (.pointer (some ⟨w.heap.size, 0, none⟩)) ?hx (blkV s) HL.out ?_)
         case hw => rfl
         case hx => rfl)
      | fail)
    rw [H.out.2.1]
    refine (refIn_any w1 s 1 255 H.out.2.2.2.2.2.2.2.2.2).mono ?_
    rintro r w2 ⟨rfl, bb⟩
    have H2 := Lib.hid (H.out.1.on bb)
    clear bb
    by_cases hw : Wi s 1 255
    · rw [decide_eq_true hw]
      obtain ⟨q1, q2⟩ := H.out.2.2.2.2.2.2.2.1 hw ⟨m0, m1⟩
      subst q1
      have HX := Lib.hid q2
      clear hw q2
      go_wp2_with (first
        | (with_reducible refine wpList_build_to (op := ⟨some 21, _, _, _, _, _⟩) rfl 23 #[(0, .tmp 20)] rfl (blkV E) #[(0, .int .i64 n)] (by simp [Act.eval]) (H.out.2.2.2.2.1 _) ?_)
        | ((with_reducible refine wpList_store_blk (o := ⟨none, _, _, _, _, _⟩) rfl (.tmp 5) (.tmp 21) rfl rfl w2.heap.size E rfl rfl Z (Box.made _ _ _) H.out.2.2.1 H.out.2.2.2.1 ?_)
           intro w3 b3 k3
           have H3 := Lib.hid (H2.out.laid b3 k3)
           clear b3 k3)
        | (with_reducible refine wpList_load_to (op := ⟨some 23, _, _, _, _, _⟩) rfl 23 (.tmp 5) rfl (.pointer (some ⟨w2.heap.size, 0, none⟩)) rfl (blkV E) H3.out.b0.load ?_)
        | (with_reducible refine wpList_load_to (op := ⟨some 24, _, _, _, _, _⟩) rfl 23 (.tmp 5) rfl (.pointer (some ⟨w2.heap.size, 0, none⟩)) rfl (blkV E) H3.out.b0.load ?_)
        | (with_reducible refine wpList_load_to (op := ⟨some 25, _, _, _, _, _⟩) rfl 23 (.tmp 5) rfl (.pointer (some ⟨w2.heap.size, 0, none⟩)) rfl (blkV E) H3.out.b0.load ?_)
        | (with_reducible refine wpList_load_to (op := ⟨some 26, _, _, _, _, _⟩) rfl 23 (.tmp 5) rfl (.pointer (some ⟨w2.heap.size, 0, none⟩)) rfl (blkV E) H3.out.b0.load ?_)
        | (with_reducible refine wpList_build_to (op := ⟨some 27, _, _, _, _, _⟩) rfl 24 #[(0, .tmp 23), (1, .tmp 24), (2, .tmp 25), (3, .tmp 26)] rfl (fourV G) #[(0, blkV E), (1, blkV E), (2, blkV E), (3, blkV E)] (by simp [Act.eval, Act.put]) (H.out.2.2.2.2.2.1 _) ?_)
        | (with_reducible refine wpList_load_to (op := ⟨some 28, _, _, _, _, _⟩) rfl 23 (.tmp 3) rfl (.pointer (some ⟨w.heap.size, 0, none⟩)) rfl (blkV s) H3.out.b1.load ?_)
        | fail)
      refine (H.out.2.2.2.2.2.2.1 w3 H3.out.tab).mono ?_
      rintro r w4 ⟨rfl, b4⟩
      have H4 := Lib.hid (H3.out.on b4)
      clear b4
      dsimp only
      go_wp2_with (first
        | ((with_reducible refine wpList_store_blk (o := ⟨none, _, _, _, _, _⟩) rfl (.tmp 6) (.tmp 30) rfl rfl w4.heap.size x rfl rfl Z (Box.made _ _ _) H.out.2.2.1 H.out.2.2.2.2.2.2.2.2.1 ?_)
           intro w5 b5 k5
           have H5 := Lib.hid (H4.out.laid b5 k5)
           have c1 := H5.out.b0.cell (k := 0) (by omega)
           rw [HX.out] at c1
           clear b5 k5)
        | fail)
      refine (awake_any w5 H5.out.tab).mono ?_
      rintro r w6 ⟨rfl, b6⟩
      have H6 := Lib.hid (on_trans H5.out.bel b6)
      clear b6
      go_wp2
      go_ret
      exact ⟨rfl, H6.out⟩
    · rw [decide_eq_false hw]
      clear hw
      go_wp2_with fail
      refine (awake_any w2 H2.out.tab).mono ?_
      rintro r w6 ⟨rfl, b6⟩
      have H6 := Lib.hid (on_trans H2.out.bel b6)
      clear b6
      go_wp2
      go_ret
      exact ⟨rfl, H6.out⟩
  · have hq : n < -1023 ∨ (-1023 ≤ n ∧ 1023 < n) := by omega
    clear hin
    rcases hq with a | ⟨a, b⟩
    all_goals
      go_enter Tryd.func6, Tryd.ntmps6
      go_wp2_with fail
      rw [H.out.2.1]
      refine (awake_any w1 H.out.1.tab).mono ?_
      rintro r w6 ⟨rfl, b6⟩
      have H6 := Lib.hid (on_trans H.out.1.bel b6)
      clear b6
      go_wp2
      go_ret
      exact ⟨rfl, H6.out⟩
end Go.Proofs.YtjkmbiieagmjkaaDoor
