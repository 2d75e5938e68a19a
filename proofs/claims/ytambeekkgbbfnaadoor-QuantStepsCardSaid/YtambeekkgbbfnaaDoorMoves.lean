/-
  QuantMoves: the walk.
-/
import Derived.Test.YtambeekkgbbfnaaDoorRefMove
import Derived.Test.YtambeekkgbbfnaaDoorAwake
namespace Go.Proofs.YtambeekkgbbfnaaDoor
open Go.RowKit

/-- the blocks of a list lie in memory -/
structure Know (w wr : World) (L : List (Nat × List Int)) : Prop where
  all : ∀ p ∈ L, Blk wr p.1 p.2
  tab : Tab wr
  bel : Below w.heap.size w wr
section
variable {w wr w' : World} {L : List (Nat × List Int)}
theorem Know.on (h : Know w wr L) (k : Below wr.heap.size wr w') : Know w w' L := ⟨fun p hp => (h.all p hp).on k, h.tab.on k, on_trans h.bel k⟩
theorem Know.get (h : Know w wr L) {g : Nat} {b : List Int} (hp : (g, b) ∈ L) : Blk wr g b := h.all _ hp
theorem Know.n0 {g : Nat} {b : List Int} (h : Know w wr ((g, b) :: L)) : Blk wr g b := h.all _ (.head _)
theorem Know.n1 {p0 : Nat × List Int} {g : Nat} {b : List Int} (h : Know w wr (p0 :: (g, b) :: L)) : Blk wr g b := h.all _ (.tail _ (.head _))
theorem Know.n2 {p0 p1 : Nat × List Int} {g : Nat} {b : List Int} (h : Know w wr (p0 :: p1 :: (g, b) :: L)) : Blk wr g b := h.all _ (.tail _ (.tail _ (.head _)))
theorem Know.n3 {p0 p1 p2 : Nat × List Int} {g : Nat} {b : List Int} (h : Know w wr (p0 :: p1 :: p2 :: (g, b) :: L)) : Blk wr g b := h.all _ (.tail _ (.tail _ (.tail _ (.head _))))
theorem Know.n4 {p0 p1 p2 p3 : Nat × List Int} {g : Nat} {b : List Int} (h : Know w wr (p0 :: p1 :: p2 :: p3 :: (g, b) :: L)) : Blk wr g b := h.all _ (.tail _ (.tail _ (.tail _ (.tail _ (.head _)))))
theorem Know.n5 {p0 p1 p2 p3 p4 : Nat × List Int} {g : Nat} {b : List Int} (h : Know w wr (p0 :: p1 :: p2 :: p3 :: p4 :: (g, b) :: L)) : Blk wr g b := h.all _ (.tail _ (.tail _ (.tail _ (.tail _ (.tail _ (.head _))))))
theorem Know.n6 {p0 p1 p2 p3 p4 p5 : Nat × List Int} {g : Nat} {b : List Int} (h : Know w wr (p0 :: p1 :: p2 :: p3 :: p4 :: p5 :: (g, b) :: L)) : Blk wr g b := h.all _ (.tail _ (.tail _ (.tail _ (.tail _ (.tail _ (.tail _ (.head _)))))))
theorem Know.laid {b : List Int} {Z : Array Value} (h : Know w wr L) (hb : Blk w' wr.heap.size b) (k : Kept (fun i => i = wr.heap.size) (wr.alloc (.cells Z 26)) w') : Know w w' ((wr.heap.size, b) :: L) := by
  have hk := (on_alloc wr (.cells Z 26)).trans (k.below (B := wr.heap.size) (by simp) (fun i hi e => by omega))
  refine ⟨fun p hp => ?_, h.tab.on hk, on_trans h.bel hk⟩
  rcases List.mem_cons.1 hp with rfl | hp
  · exact hb
  · exact (h.all p hp).on hk
theorem Know.two {b s : List Int} {cs cu : Array Value} (hT : Tab w) (h : Two w wr cs cu b s) : Know w wr [(w.heap.size + 1, s), (w.heap.size, b)] := by
  refine ⟨fun p hp => ?_, hT.on h.bel, h.bel⟩
  rcases List.mem_cons.1 hp with rfl | hp
  · exact h.b2
  · rw [List.mem_singleton] at hp
    subst hp
    exact h.b1
end

set_option maxRecDepth 10000 in
set_option maxHeartbeats 3200000 in
theorem moves_calls (w : World) (b s : List Int) (hT : Tab w) (hb : b.length = 64) (hs : s.length = 64) : Calls Tryd.prog 5 #[blkV b, blkV s] w (Law w) := by
  obtain ⟨cs, cu, w2, hbv, hsv, h2⟩ := two_boxed w b s hb hs
  obtain ⟨Z, hZ⟩ : ∃ Z, Z = (cellsI zeros64).toArray := ⟨_, rfl⟩
  have hz : ∀ w, (zeroValue 26).run Tryd.prog w = .ok (.agg Z) w := fun w => by rw [hZ]; exact zero26 w
  have hZs : Z.size = 64 := by rw [hZ]; rfl
  have H := Lib.hid (And.intro h2 (And.intro hb (And.intro hs (And.intro hZs (Know.two hT h2)))))
  rw [hbv, hsv]
  have HD := Lib.hid (fun w => down_any w b s hb hs)
  have HRD := Lib.hid (fun w => refDown_any w b s hb hs)
  have HU := Lib.hid (fun w => up_any w b s hb hs)
  have HRU := Lib.hid (fun w => refUp_any w b s hb hs)
  obtain ⟨⟨x, e⟩, hx⟩ : ∃ R, R = downF b s := ⟨_, rfl⟩
  obtain ⟨⟨u, f⟩, hu⟩ : ∃ R, R = upF b s := ⟨_, rfl⟩
  have hxl : x.length = 64 := by have := downF_len b s; rw [← hx] at this; exact this
  have hul : u.length = 64 := by have := upF_len b s; rw [← hu] at this; exact this
  rw [← hx] at HD HRD
  rw [← hu] at HU HRU
  have HL := Lib.hid (And.intro hxl hul)
  clear hT h2 hb hs hbv hsv hZ hZs hx hu hxl hul
  go_enter Tryd.func5, Tryd.ntmps5
  go_wp2_with (first
    | (with_reducible refine wpList_load_to (op := ⟨some 14, _, _, _, _, _⟩) rfl 26 (.tmp 2) rfl (.pointer (some ⟨w.heap.size, 0, none⟩)) rfl (blkV b) H.out.1.l1 ?_)
    | (with_reducible refine wpList_load_to (op := ⟨some 15, _, _, _, _, _⟩) rfl 26 (.tmp 3) rfl (.pointer (some ⟨w.heap.size + 1, 0, none⟩)) rfl (blkV s) H.out.1.l2 ?_)
    | fail)
  rw [H.out.1.e]
  refine (HD.out w2).mono ?_
  rintro r w3 ⟨rfl, b3⟩
  have H3 := Lib.hid (H.out.2.2.2.2.on b3)
  clear b3
  dsimp only
  go_wp2_with (first
    | ((with_reducible refine wpList_store_blk (o := ⟨none, _, _, _, _, _⟩) rfl (.tmp 5) (.tmp 17) rfl rfl w3.heap.size x rfl rfl Z (Box.made _ _ _) H.out.2.2.2.1 HL.out.1 ?_)
       intro w4 b4 k4
       have H4 := Lib.hid (H3.out.laid b4 k4)
       clear b4 k4)
    | (with_reducible refine wpList_load_to (op := ⟨some 20, _, _, _, _, _⟩) rfl 26 (.tmp 2) rfl (.pointer (some ⟨w.heap.size, 0, none⟩)) rfl (blkV b) H4.out.n2.load ?_)
    | (with_reducible refine wpList_load_to (op := ⟨some 21, _, _, _, _, _⟩) rfl 26 (.tmp 3) rfl (.pointer (some ⟨w.heap.size + 1, 0, none⟩)) rfl (blkV s) H4.out.n1.load ?_)
    | fail)
  obtain ⟨g5, hg5⟩ : ∃ g, g = w3.heap.size := ⟨_, rfl⟩
  rw [← hg5] at H4 ⊢
  clear hg5
  refine (HRD.out w4).mono ?_
  rintro r w5 ⟨rfl, b5⟩
  have H5 := Lib.hid (H4.out.on b5)
  clear b5
  dsimp only
  go_wp2_with (first
    | ((with_reducible refine wpList_store_blk (o := ⟨none, _, _, _, _, _⟩) rfl (.tmp 7) (.tmp 23) rfl rfl w5.heap.size x rfl rfl Z (Box.made _ _ _) H.out.2.2.2.1 HL.out.1 ?_)
       intro w6 b6 k6
       have H6 := Lib.hid (H5.out.laid b6 k6)
       clear b6 k6)
    | (with_reducible refine wpList_load_to (op := ⟨some 26, _, _, _, _, _⟩) rfl 26 (.tmp 2) rfl (.pointer (some ⟨w.heap.size, 0, none⟩)) rfl (blkV b) H6.out.n3.load ?_)
    | (with_reducible refine wpList_load_to (op := ⟨some 27, _, _, _, _, _⟩) rfl 26 (.tmp 3) rfl (.pointer (some ⟨w.heap.size + 1, 0, none⟩)) rfl (blkV s) H6.out.n2.load ?_)
    | fail)
  obtain ⟨g7, hg7⟩ : ∃ g, g = w5.heap.size := ⟨_, rfl⟩
  rw [← hg7] at H6 ⊢
  clear hg7
  refine (HU.out w6).mono ?_
  rintro r w7 ⟨rfl, b7⟩
  have H7 := Lib.hid (H6.out.on b7)
  clear b7
  dsimp only
  go_wp2_with (first
    | ((with_reducible refine wpList_store_blk (o := ⟨none, _, _, _, _, _⟩) rfl (.tmp 9) (.tmp 29) rfl rfl w7.heap.size u rfl rfl Z (Box.made _ _ _) H.out.2.2.2.1 HL.out.2 ?_)
       intro w8 b8 k8
       have H8 := Lib.hid (H7.out.laid b8 k8)
       clear b8 k8)
    | (with_reducible refine wpList_load_to (op := ⟨some 32, _, _, _, _, _⟩) rfl 26 (.tmp 2) rfl (.pointer (some ⟨w.heap.size, 0, none⟩)) rfl (blkV b) H8.out.n4.load ?_)
    | (with_reducible refine wpList_load_to (op := ⟨some 33, _, _, _, _, _⟩) rfl 26 (.tmp 3) rfl (.pointer (some ⟨w.heap.size + 1, 0, none⟩)) rfl (blkV s) H8.out.n3.load ?_)
    | fail)
  obtain ⟨g9, hg9⟩ : ∃ g, g = w7.heap.size := ⟨_, rfl⟩
  rw [← hg9] at H8 ⊢
  clear hg9
  refine (HRU.out w8).mono ?_
  rintro r w9 ⟨rfl, b9⟩
  have H9 := Lib.hid (H8.out.on b9)
  clear b9
  dsimp only
  go_wp2_with (first
    | ((with_reducible refine wpList_store_blk (o := ⟨none, _, _, _, _, _⟩) rfl (.tmp 11) (.tmp 35) rfl rfl w9.heap.size u rfl rfl Z (Box.made _ _ _) H.out.2.2.2.1 HL.out.2 ?_)
       intro wa ba ka
       have HA := Lib.hid (H9.out.laid ba ka)
       clear ba ka)
    | (with_reducible refine wpList_load_to (op := ⟨some 37, _, _, _, _, _⟩) rfl 26 (.tmp 5) rfl (.pointer (some ⟨g5, 0, none⟩)) rfl (blkV x) HA.out.n3.load ?_)
    | (with_reducible refine wpList_load_to (op := ⟨some 38, _, _, _, _, _⟩) rfl 26 (.tmp 7) rfl (.pointer (some ⟨g7, 0, none⟩)) rfl (blkV x) HA.out.n2.load ?_)
    | (with_reducible refine wpList_eql26_when (op := ⟨some 39, _, _, _, _, _⟩) rfl (.tmp 37) (.tmp 38) rfl x HL.out.1 rfl rfl ?_)
    | (with_reducible refine wpList_load_when (op := ⟨some 46, _, _, _, _, _⟩) rfl 26 (.tmp 9) rfl (.pointer (some ⟨g9, 0, none⟩)) rfl (blkV u) HA.out.n1.load ?_)
    | (with_reducible refine wpList_load_when (op := ⟨some 47, _, _, _, _, _⟩) rfl 26 (.tmp 11) rfl (.pointer (some ⟨w9.heap.size, 0, none⟩)) rfl (blkV u) HA.out.n0.load ?_)
    | (with_reducible refine wpList_eql26_when (op := ⟨some 48, _, _, _, _, _⟩) rfl (.tmp 46) (.tmp 47) rfl u HL.out.2 rfl rfl ?_)
    | fail)
  refine (awake_any wa HA.out.tab).mono ?_
  rintro r wb ⟨rfl, bb⟩
  have HB := Lib.hid (on_trans HA.out.bel bb)
  clear bb
  go_wp2
  go_ret
  exact ⟨rfl, HB.out⟩
end Go.Proofs.YtambeekkgbbfnaaDoor
