/-
  DctInverse: the walk.
-/
import Derived.Test.YteoahoepipnkfaaDoorAwake
namespace Go.Proofs.YteoahoepipnkfaaDoor
open Go.RowKit

/-- a block that is boxed -/
theorem one_boxed (w : World) (b : List Int) (hT : Tab w) (hb : b.length = 64) : ∃ cs w1, blkV b = .agg cs ∧ w.alloc (.cells cs 23) = w1 ∧ Know w w1 [(w.heap.size, b)] ∧ w1.heap.size = w.heap.size + 1 := by
  refine ⟨_, _, rfl, rfl, ⟨fun p hp => ?_, hT.on (on_alloc _ _), on_alloc _ _⟩, by simp⟩
  rw [List.mem_singleton] at hp
  subst hp
  exact Blk.made _ _ hb

set_option maxRecDepth 10000 in
set_option maxHeartbeats 3200000 in
theorem inverse_calls (w : World) (b : List Int) (hT : Tab w) (hb : b.length = 64) : Calls Tryd.prog 4 #[blkV b] w (Law w) := by
  obtain ⟨cs, w1, hbv, hw1, hk, _⟩ := one_boxed w b hT hb
  obtain ⟨Z, hZ⟩ : ∃ Z, Z = (cellsI zeros64).toArray := ⟨_, rfl⟩
  have hz : ∀ w, (zeroValue 23).run Tryd.prog w = .ok (.agg Z) w := fun w => by rw [hZ]; exact zero23 w
  have hZs : Z.size = 64 := by rw [hZ]; rfl
  have HL := Lib.hid hk.n0.load
  rw [← hw1] at HL
  have H := Lib.hid (And.intro hk (And.intro hb (And.intro hZs hw1)))
  rw [hbv]
  have HP := Lib.hid (fun (w : World) (h : Tab w) => inverse_any w b h hb)
  have HQ := Lib.hid (fun w => refInverse_any w b hb)
  have hxl := invF_len b
  obtain ⟨⟨x, e⟩, hx⟩ : ∃ R, R = invF b := ⟨_, rfl⟩
  rw [← hx] at HP HQ hxl
  dsimp only at hxl
  have HX := Lib.hid hxl
  clear hT hk hb hbv hZ hZs hw1 hx hxl
  go_enter Tryd.func4, Tryd.ntmps4
  go_wp2_with (first
    | (with_reducible refine wpList_load_to (op := ⟨some 8, _, _, _, _, _⟩) rfl 23 (.tmp 1) rfl (.pointer (some ⟨w.heap.size, 0, none⟩)) rfl (blkV b) HL.out ?_)
    | fail)
  rw [H.out.2.2.2]
  refine (HP.out w1 H.out.1.tab).mono ?_
  rintro r w2 ⟨rfl, b2⟩
  have H2 := Lib.hid (H.out.1.on b2)
  clear b2
  dsimp only
  go_wp2_with (first
    | ((with_reducible refine wpList_store_blk (o := ⟨none, _, _, _, _, _⟩) rfl (.tmp 3) (.tmp 10) rfl rfl w2.heap.size x rfl rfl Z (Box.made _ _ _) H.out.2.2.1 HX.out ?_)
       intro w3 b3 k3
       have H3 := Lib.hid (H2.out.laid b3 k3)
       clear b3 k3)
    | (with_reducible refine wpList_load_to (op := ⟨some 13, _, _, _, _, _⟩) rfl 23 (.tmp 1) rfl (.pointer (some ⟨w.heap.size, 0, none⟩)) rfl (blkV b) H3.out.n1.load ?_)
    | fail)
  obtain ⟨g3, hg3⟩ : ∃ g, g = w2.heap.size := ⟨_, rfl⟩
  rw [← hg3] at H3 ⊢
  clear hg3
  refine (HQ.out w3).mono ?_
  rintro r w4 ⟨rfl, b4⟩
  have H4 := Lib.hid (H3.out.on b4)
  clear b4
  dsimp only
  go_wp2_with (first
    | ((with_reducible refine wpList_store_blk (o := ⟨none, _, _, _, _, _⟩) rfl (.tmp 5) (.tmp 15) rfl rfl w4.heap.size x rfl rfl Z (Box.made _ _ _) H.out.2.2.1 HX.out ?_)
       intro w5 b5 k5
       have H5 := Lib.hid (H4.out.laid b5 k5)
       clear b5 k5)
    | (with_reducible refine wpList_load_to (op := ⟨some 17, _, _, _, _, _⟩) rfl 23 (.tmp 3) rfl (.pointer (some ⟨g3, 0, none⟩)) rfl (blkV x) H5.out.n1.load ?_)
    | (with_reducible refine wpList_load_to (op := ⟨some 18, _, _, _, _, _⟩) rfl 23 (.tmp 5) rfl (.pointer (some ⟨w4.heap.size, 0, none⟩)) rfl (blkV x) H5.out.n0.load ?_)
    | (with_reducible refine wpList_eql23_when (op := ⟨some 19, _, _, _, _, _⟩) rfl (.tmp 17) (.tmp 18) rfl x HX.out rfl rfl ?_)
    | fail)
  refine (awake_any w5 H5.out.tab).mono ?_
  rintro r w6 ⟨rfl, b6⟩
  have H6 := Lib.hid (on_trans H5.out.bel b6)
  clear b6
  go_wp2
  go_ret
  exact ⟨rfl, H6.out⟩
end Go.Proofs.YteoahoepipnkfaaDoor
