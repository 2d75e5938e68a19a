/-
  HalfTold: the walk.
-/
import Derived.Test.YtjkmbiieagmjkaaDoorRefTold
namespace Go.Proofs.YtjkmbiieagmjkaaDoor
open Go.RowKit

/-- four blocks that are boxed -/
theorem one4_boxed (w : World) (f : List Int) (hT : Tab w) (hf : f.length = 256) : ∃ cs w1, fourV f = .agg cs ∧ w.alloc (.cells cs 24) = w1 ∧ Know w w1 [.four w.heap.size f] ∧ w1.heap.size = w.heap.size + 1 :=
  ⟨_, _, rfl, rfl, (Know.nil hT).made4 hf, by simp⟩
theorem two4_boxed (w : World) (f s : List Int) (hT : Tab w) (hf : f.length = 256) (hs : s.length = 64) : ∃ cs cu w2, fourV f = .agg cs ∧ blkV s = .agg cu ∧ (w.alloc (.cells cs 24)).alloc (.cells cu 23) = w2 ∧ Know w w2 [.blk (w.heap.size + 1) s, .four w.heap.size f] ∧ w2.heap.size = w.heap.size + 1 + 1 := by
  have h := ((Know.nil hT).made4 hf).made hs
  have e1 : (w.alloc (.cells (cellsI f).toArray 24)).heap.size = w.heap.size + 1 := by simp
  rw [e1] at h
  exact ⟨_, _, _, rfl, rfl, rfl, h, by simp⟩

set_option maxRecDepth 10000 in
set_option maxHeartbeats 3200000 in
theorem toldLaw_calls (w : World) (f s : List Int) (hT : Tab w) (hf : f.length = 256) (hs : s.length = 64) : Calls Tryd.prog 4 #[fourV f, blkV s] w (Law w) := by
  obtain ⟨cs, cu, w1, hfv, hsv, hw1, hk, _⟩ := two4_boxed w f s hT hf hs
  obtain ⟨Z, hZ⟩ : ∃ Z, Z = (cellsI zeros64).toArray := ⟨_, rfl⟩
  have hz' : ∀ w, (zeroValue 23).run Tryd.prog w = .ok (.agg Z) w := fun w => by rw [hZ]; exact zero23 w
  have hZs : Z.size = 64 := by rw [hZ]; rfl
  have HL := Lib.hid (And.intro hk.f1.load hk.b0.load)
  rw [← hw1] at HL
  have H := Lib.hid (And.intro hk (And.intro hZs hw1))
  rw [hfv, hsv]
  have HP := Lib.hid (fun (w : World) (h : Tab w) => told_any w f s h hf hs)
  have HQ := Lib.hid (fun (w : World) (h : Tab w) => refTold_any w f s h hf hs)
  have hxl := toldF_len f s
  obtain ⟨⟨x, e⟩, hx⟩ : ∃ R, R = toldF f s := ⟨_, rfl⟩
  rw [← hx] at HP HQ hxl
  dsimp only at hxl
  have HX := Lib.hid hxl
  clear hT hk hf hs hfv hsv hZ hZs hw1 hx hxl
  go_enter Tryd.func4, Tryd.ntmps4
  go_wp2_with (first
    | (with_reducible refine wpList_load_to (op := ⟨some 10, _, _, _, _, _⟩) rfl 24 (.tmp 2) rfl (.pointer (some ⟨w.heap.size, 0, none⟩)) rfl (fourV f) HL.out.1 ?_)
    | (with_reducible refine wpList_load_to (op := ⟨some 11, _, _, _, _, _⟩) rfl 23 (.tmp 3) rfl (.pointer (some ⟨w.heap.size + 1, 0, none⟩)) rfl (blkV s) HL.out.2 ?_)
    | fail)
  rw [H.out.2.2]
  refine (HP.out w1 H.out.1.tab).mono ?_
  rintro r w2 ⟨rfl, b2⟩
  have H2 := Lib.hid (H.out.1.on b2)
  clear b2
  dsimp only
  go_wp2_with (first
    | ((with_reducible refine wpList_store_blk (o := ⟨none, _, _, _, _, _⟩) rfl (.tmp 5) (.tmp 13) rfl rfl w2.heap.size x rfl rfl Z (Box.made _ _ _) H.out.2.1 HX.out ?_)
       intro w3 b3 k3
       have H3 := Lib.hid (H2.out.laid b3 k3)
       clear b3 k3)
    | (with_reducible refine wpList_load_to (op := ⟨some 16, _, _, _, _, _⟩) rfl 24 (.tmp 2) rfl (.pointer (some ⟨w.heap.size, 0, none⟩)) rfl (fourV f) H3.out.f2.load ?_)
    | (with_reducible refine wpList_load_to (op := ⟨some 17, _, _, _, _, _⟩) rfl 23 (.tmp 3) rfl (.pointer (some ⟨w.heap.size + 1, 0, none⟩)) rfl (blkV s) H3.out.b1.load ?_)
    | fail)
  obtain ⟨g3, hg3⟩ : ∃ g, g = w2.heap.size := ⟨_, rfl⟩
  rw [← hg3] at H3 ⊢
  clear hg3
  refine (HQ.out w3 H3.out.tab).mono ?_
  rintro r w4 ⟨rfl, b4⟩
  have H4 := Lib.hid (H3.out.on b4)
  clear b4
  dsimp only
  go_wp2_with (first
    | ((with_reducible refine wpList_store_blk (o := ⟨none, _, _, _, _, _⟩) rfl (.tmp 7) (.tmp 19) rfl rfl w4.heap.size x rfl rfl Z (Box.made _ _ _) H.out.2.1 HX.out ?_)
       intro w5 b5 k5
       have H5 := Lib.hid (H4.out.laid b5 k5)
       clear b5 k5)
    | (with_reducible refine wpList_load_to (op := ⟨some 21, _, _, _, _, _⟩) rfl 23 (.tmp 5) rfl (.pointer (some ⟨g3, 0, none⟩)) rfl (blkV x) H5.out.b1.load ?_)
    | (with_reducible refine wpList_load_to (op := ⟨some 22, _, _, _, _, _⟩) rfl 23 (.tmp 7) rfl (.pointer (some ⟨w4.heap.size, 0, none⟩)) rfl (blkV x) H5.out.b0.load ?_)
    | (with_reducible refine wpList_eql23_when (op := ⟨some 23, _, _, _, _, _⟩) rfl (.tmp 21) (.tmp 22) rfl x HX.out rfl rfl ?_)
    | fail)
  refine (awake_any w5 H5.out.tab).mono ?_
  rintro r w6 ⟨rfl, b6⟩
  have H6 := Lib.hid (on_trans H5.out.bel b6)
  clear b6
  go_wp2
  go_ret
  exact ⟨rfl, H6.out⟩
end Go.Proofs.YtjkmbiieagmjkaaDoor
