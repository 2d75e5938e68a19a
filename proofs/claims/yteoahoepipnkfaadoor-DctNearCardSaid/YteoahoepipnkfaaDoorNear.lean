/-
  DctNear: the walk.
-/
import Derived.Test.YteoahoepipnkfaaDoorInverse
namespace Go.Proofs.YteoahoepipnkfaaDoor
open Go.RowKit

set_option maxRecDepth 10000 in
set_option maxHeartbeats 3200000 in
theorem near_calls (w : World) (b : List Int) (hT : Tab w) (hb : b.length = 64) : Calls Tryd.prog 5 #[blkV b] w (Law w) := by
  obtain ⟨cs, w1, hbv, hw1, hk, _⟩ := one_boxed w b hT hb
  obtain ⟨Z, hZ⟩ : ∃ Z, Z = (cellsI zeros64).toArray := ⟨_, rfl⟩
  have hz : ∀ w, (zeroValue 23).run Tryd.prog w = .ok (.agg Z) w := fun w => by rw [hZ]; exact zero23 w
  have hZs : Z.size = 64 := by rw [hZ]; rfl
  have HL := Lib.hid hk.n0.load
  rw [← hw1] at HL
  have H := Lib.hid (And.intro hk (And.intro hb (And.intro hZs hw1)))
  rw [hbv]
  clear hT hk hb hbv hZ hZs hw1
  go_enter Tryd.func5, Tryd.ntmps5
  go_wp2_with (first
    | (with_reducible refine wpList_load_to (op := ⟨some 9, _, _, _, _, _⟩) rfl 23 (.tmp 1) rfl (.pointer (some ⟨w.heap.size, 0, none⟩)) rfl (blkV b) HL.out ?_)
    | fail)
  rw [H.out.2.2.2]
  refine (refIn_any w1 b (-128) 127 H.out.2.1).mono ?_
  rintro r w2 ⟨rfl, bb⟩
  have H2 := Lib.hid (H.out.1.on bb)
  clear bb
  by_cases hw : Wi b (-128) 127
  · rw [decide_eq_true hw]
    obtain ⟨d1, d2, d3⟩ := dct_near hw
    have HP := Lib.hid (fun (w : World) (h : Tab w) => forward_any w b h H.out.2.1)
    have HQ := Lib.hid (fun (w : World) (h : Tab w) => inverse_any w (fwdL b) h (fwdL_len b))
    rw [d1] at HP
    rw [d2] at HQ
    have hxl := fwdL_len b
    have hyl := invL_len (fwdL b)
    obtain ⟨x, hx⟩ : ∃ x, x = fwdL b := ⟨_, rfl⟩
    rw [← hx] at HP HQ hxl hyl d3
    obtain ⟨y, hy⟩ : ∃ y, y = invL x := ⟨_, rfl⟩
    rw [← hy] at HQ hyl d3
    have HX := Lib.hid (And.intro hxl (And.intro hyl (And.intro d3 hw)))
    clear d1 d2 d3 hx hy hxl hyl hw
    go_wp2_with (first
      | (with_reducible refine wpList_load_to (op := ⟨some 14, _, _, _, _, _⟩) rfl 23 (.tmp 1) rfl (.pointer (some ⟨w.heap.size, 0, none⟩)) rfl (blkV b) H2.out.n0.load ?_)
      | fail)
    refine (HP.out w2 H2.out.tab).mono ?_
    rintro r w3 ⟨rfl, bb⟩
    have H3 := Lib.hid (H2.out.on bb)
    clear bb
    dsimp only
    go_wp2_with (first
      | ((with_reducible refine wpList_store_blk (o := ⟨none, _, _, _, _, _⟩) rfl (.tmp 3) (.tmp 16) rfl rfl w3.heap.size x rfl rfl Z (Box.made _ _ _) H.out.2.2.1 HX.out.1 ?_)
         intro w4 b4 k4
         have H4 := Lib.hid (H3.out.laid b4 k4)
         clear b4 k4)
      | (with_reducible refine wpList_load_to (op := ⟨some 19, _, _, _, _, _⟩) rfl 23 (.tmp 3) rfl (.pointer (some ⟨w3.heap.size, 0, none⟩)) rfl (blkV x) H4.out.n0.load ?_)
      | fail)
    obtain ⟨g3, hg3⟩ : ∃ g, g = w3.heap.size := ⟨_, rfl⟩
    rw [← hg3] at H4 ⊢
    clear hg3
    refine (HQ.out w4 H4.out.tab).mono ?_
    rintro r w5 ⟨rfl, bb⟩
    have H5 := Lib.hid (H4.out.on bb)
    clear bb
    dsimp only
    go_wp2_with (first
      | ((with_reducible refine wpList_store_blk (o := ⟨none, _, _, _, _, _⟩) rfl (.tmp 5) (.tmp 21) rfl rfl w5.heap.size y rfl rfl Z (Box.made _ _ _) H.out.2.2.1 HX.out.2.1 ?_)
         intro w6 b6 k6
         have H6 := Lib.hid (H5.out.laid b6 k6)
         clear b6 k6)
      | fail)
    obtain ⟨g5, hg5⟩ : ∃ g, g = w5.heap.size := ⟨_, rfl⟩
    rw [← hg5] at H6 ⊢
    clear hg5
    go_loopw [23] (fun i wr => ∃ k : Nat, k ≤ 64 ∧ i = .int .i64 k ∧ Know w wr [(g5, y), (g3, x), (w.heap.size, b)]) (fun i _ => 64 - (intOf i).toNat)
    case atStart => exact ⟨0, by omega, rfl, H6.out⟩
    case round =>
      obtain ⟨k, hk, rfl, hR⟩ := hrel
      have HR := Lib.hid hR
      clear hR
      by_cases hlt : k < 64
      · have c1 := HR.out.n2.cell hlt
        have c2 := HR.out.n0.cell hlt
        have q1 := HX.out.2.2.1 k hlt
        have q2 := HX.out.2.2.2 k hlt
        obtain ⟨m, hm⟩ : ∃ m, m = b.getD k 0 := ⟨_, rfl⟩
        obtain ⟨n, hn⟩ : ∃ n, n = y.getD k 0 := ⟨_, rfl⟩
        rw [← hm] at c1 q1 q2
        rw [← hn] at c2 q1
        obtain ⟨q10, q11⟩ := q1
        obtain ⟨q20, q21⟩ := q2
        clear hm hn
        go_wp2_with fail
        go_region
        go_wp2_with fail
        go_roundw
        case rel => exact ⟨k + 1, by omega, by go_num, HR.out.on (on_drew _)⟩
        case measure => simp [intOf]; omega
      · obtain rfl : k = 64 := by omega
        go_wp2_with fail
        refine (awake_any wr HR.out.tab).mono ?_
        rintro r w8 ⟨rfl, b8⟩
        have H8 := Lib.hid (on_trans HR.out.bel b8)
        clear b8
        go_wp2
        go_ret
        exact ⟨rfl, H8.out⟩
  · rw [decide_eq_false hw]
    clear hw
    go_wp2_with fail
    refine (awake_any w2 H2.out.tab).mono ?_
    rintro r w8 ⟨rfl, b8⟩
    have H8 := Lib.hid (on_trans H2.out.bel b8)
    clear b8
    go_wp2
    go_ret
    exact ⟨rfl, H8.out⟩
end Go.Proofs.YteoahoepipnkfaaDoor
