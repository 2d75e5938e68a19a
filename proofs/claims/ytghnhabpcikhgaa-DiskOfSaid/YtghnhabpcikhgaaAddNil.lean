/-
  The contract of add, where the disk has no journal.
-/
import Derived.Test.YtghnhabpcikhgaaAdd
namespace Go.Proofs.Ytghnhabpcikhgaa
open Go.RowKit

set_option maxRecDepth 10000 in
set_option maxHeartbeats 1600000 in
theorem add_first (lo : Nat) (w : World) (d cnt m : Nat) (i g : Nat) (hd : Box w d 59 (cellsD cnt m (.pointer none) 0 false)) (hlo : lo ≤ w.heap.size) :
    Calls Try.prog 29 #[.pointer (some ⟨d, 0, none⟩), .agg #[.int .i64 (i : Int), .slice (some ⟨g, 0, none⟩) 128 128]] w fun e w' => ∃ j, w.heap.size ≤ j ∧ Added lo w d cnt m j 0 (fun k => k = j) [] i g e w' := by
  obtain ⟨i0, hi0, hz0, hz1, hz2⟩ := info_parts info64
  have c2 := cellD2 hd
  have ld := hd.lt
  have HH := Lib.hid (And.intro hd hlo)
  clear hd hlo
  go_enter Try.func29, Try.ntmps29
  go_wp2
  go_quiet (fail)
  go_wp2_with fail
  obtain ⟨u, hu⟩ : ∃ u, u = (w.alloc (.cells #[.int .i64 (i : Int), .slice (some ⟨g, 0, none⟩) 128 128] 64)).drewN nq := ⟨_, rfl⟩
  have hu1 : Below w.heap.size w u := by rw [hu]; exact on_trans (on_alloc _ _) (below_drewN_refl _ _)
  have hub : Box u w.heap.size 64 #[.int .i64 (i : Int), .slice (some ⟨g, 0, none⟩) 128 128] := by rw [hu]; exact (Box.made w 64 _).drewN _
  rw [← hu]
  clear hu c2
  refine (writes_nil u d (cellD2 (HH.out.1.on hu1))).mono ?_
  rintro e w2 ⟨rfl, hw2⟩
  have b2 : Below w.heap.size w w2 := on_trans hu1 hw2
  have hd2 := HH.out.1.on b2
  have hub2 := hub.on hw2
  have l2 := hd2.lt
  have c22 := cellD2 hd2
  have f22 := hd2.free 2
  have HU := Lib.hid (And.intro hu1 (And.intro hub (And.intro hw2 (And.intro b2 (And.intro hd2 hub2)))))
  clear hu1 hub hw2 b2 hd2 hub2 ld
  go_wp2
  obtain ⟨j, hj0⟩ : ∃ j, j = w2.heap.size := ⟨_, rfl⟩
  rw [← hj0]
  obtain ⟨w0, hw0⟩ : ∃ w0, w0 = (w2.setCell ⟨d, 2, none⟩ (.pointer (some ⟨j, 0, none⟩))).alloc (.cells #[.slice none 0 0] 68) := ⟨_, rfl⟩
  have hat : AddAt lo w0 d cnt m j 0 0 none [] i g w.heap.size := by
    obtain ⟨hu1, hub, hw2, b2, hd2, hub2⟩ := HU.out
    have hjb := Box.made (w2.setCell ⟨d, 2, none⟩ (.pointer (some ⟨j, 0, none⟩))) 68 #[.slice none 0 0]
    have ej : (w2.setCell ⟨d, 2, none⟩ (.pointer (some ⟨j, 0, none⟩))).heap.size = j := by rw [hj0]; simp [World.setCell]
    rw [ej] at hjb
    have n2 : w.heap.size ≠ d := by have := HH.out.1.lt; omega
    rw [hw0]
    have e1 : (cellsD cnt m (.pointer none) 0 false).setIfInBounds 2 (.pointer (some ⟨j, 0, none⟩)) = cellsD cnt m (.pointer (some ⟨j, 0, none⟩)) 0 false := rfl
    refine ⟨?_, hjb, ⟨rfl, .inl ⟨rfl, rfl⟩⟩, (hub2.beside (p := ⟨d, 2, none⟩) n2 _).alloc _, ?_, fun e => by cases e⟩
    · rw [← e1]
      exact (hd2.put 2 _).alloc _
    · have := HH.out.2
      have := b2.size
      simp [World.setCell]
      omega
  have hk0 : Only d w w0 := by
    rw [hw0]
    exact Only.trans (Only.trans (Only.of_on HU.out.2.2.2.1) (Only.put _)) (Only.of_on (on_alloc _ _))
  have hjw : w.heap.size ≤ j := by rw [hj0]; exact HU.out.2.2.2.1.size
  rw [← hw0]
  have HK := Lib.hid hk0
  clear hw0 hk0 hj0 HH HU c22 f22 l2
  have c2 := cellD2 hat.hd
  have c3 := cellD3 hat.hd
  have cj : w0.cell? ⟨j, 0, none⟩ = some (.slice none 0 0) := hat.hj.cell 0
  have cb0 : w0.cell? ⟨w.heap.size, 0, none⟩ = some (.int .i64 (i : Int)) := hat.hb.cell 0
  have cb1 : w0.cell? ⟨w.heap.size, 1, none⟩ = some (.slice (some ⟨g, 0, none⟩) 128 128) := hat.hb.cell 1
  have fd := hat.hd.free 3
  have fj := hat.hj.free 0
  have ld := hat.hd.lt
  have lj := hat.hj.lt
  have lb := hat.hb.lt
  have hdj : d ≠ j := hat.hd.apart hat.hj (by decide)
  have hjd : j ≠ d := fun e => hdj e.symm
  have nd := own_apart hat.ho hat.hd (by decide)
  have nj := own_apart hat.ho hat.hj (by decide)
  have nb := hat.hnb
  have hlo := hat.hlo
  have HA := Lib.hid hat
  have fja : ∀ o, (w0.alloc o).drew.frozen? ⟨j, 0, none⟩ = false := fun o => ((on_alloc w0 o).frozen (p := ⟨j, 0, none⟩) lj).trans fj
  have fda : ∀ o, (w0.alloc o).drew.frozen? ⟨d, 3, none⟩ = false := fun o => ((on_alloc w0 o).frozen (p := ⟨d, 3, none⟩) ld).trans fd
  have ca3 : ∀ o, (w0.alloc o).drew.cell? ⟨d, 3, none⟩ = some (.int .i64 ((0 : Nat) : Int)) := fun o => ((on_alloc w0 o).cell (p := ⟨d, 3, none⟩) ld).trans c3
  have ca2 : ∀ o, (w0.alloc o).drew.cell? ⟨d, 2, none⟩ = some (.pointer (some ⟨j, 0, none⟩)) := fun o => ((on_alloc w0 o).cell (p := ⟨d, 2, none⟩) ld).trans c2
  have caj : ∀ o, (w0.alloc o).drew.cell? ⟨j, 0, none⟩ = some (.slice none 0 0) := fun o => ((on_alloc w0 o).cell (p := ⟨j, 0, none⟩) lj).trans cj
  have cab0 : ∀ o, (w0.alloc o).drew.cell? ⟨w.heap.size, 0, none⟩ = some (.int .i64 (i : Int)) := fun o => ((on_alloc w0 o).cell (p := ⟨w.heap.size, 0, none⟩) lb).trans cb0
  have cab1 : ∀ o, (w0.alloc o).drew.cell? ⟨w.heap.size, 1, none⟩ = some (.slice (some ⟨g, 0, none⟩) 128 128) := fun o => ((on_alloc w0 o).cell (p := ⟨w.heap.size, 1, none⟩) lb).trans cb1
  clear hat
  refine Code.wp_mono (Q := AtNormal fun a' w' => ∃ gg cap w1, Grown lo w0 w1 0 0 none [] i g gg cap ∧ a' = ({ tmps := #[.pointer (some ⟨d, 0, none⟩), .agg #[.int .i64 (i : Int), .slice (some ⟨g, 0, none⟩) 128 128], undef, .pointer (some ⟨w.heap.size, 0, none⟩), .pointer (some ⟨d, 0, none⟩), .pointer (some ⟨d, 0, none⟩), .pointer (some ⟨d, 2, none⟩), .pointer none, .bool true, .bool true, undef, undef, undef, undef, undef, undef, undef, undef, undef, undef, undef, undef, undef, .bool true, .pointer (some ⟨d, 0, none⟩), .pointer (some ⟨d, 0, none⟩), .slice none 0 0, .agg #[.slice none 0 0], .pointer (some ⟨j, 0, none⟩), .pointer (some ⟨d, 0, none⟩), .pointer (some ⟨d, 2, none⟩), .pointer (some ⟨d, 0, none⟩), .pointer (some ⟨d, 0, none⟩), .pointer (some ⟨d, 2, none⟩), .pointer (some ⟨j, 0, none⟩), .pointer (some ⟨d, 0, none⟩), .pointer (some ⟨d, 0, none⟩), .pointer (some ⟨d, 2, none⟩), .pointer (some ⟨j, 0, none⟩), .pointer (some ⟨j, 0, none⟩), .pointer (some ⟨j, 0, none⟩), .slice none 0 0, .agg #[.int .i64 (i : Int), .slice (some ⟨g, 0, none⟩) 128 128], .slice (some ⟨w0.heap.size, 0, none⟩) 1 1, .slice (some ⟨gg, 0, none⟩) (0 + 1) cap, .pointer (some ⟨j, 0, none⟩), .pointer (some ⟨j, 0, none⟩), undef, undef, undef, undef, undef, undef, undef], defers := [] } : Act) ∧ w' = w1.setCell ⟨j, 0, none⟩ (.slice (some ⟨gg, 0, none⟩) (0 + 1) cap)) ?imp ?reg
  case reg =>
    go_region_law
      ((refine step_append_lies _ (by rfl) _ _ _ (by rfl) lo 64 i0 _ 2 32 Try.underlying65 hi0 hz0 hz1 hz2 rfl (by omega) (.slice none 0 0) 0 [] (by rfl) ((HA.out.ho.alloc _).drew)
          ⟨w0.heap.size, 0, none⟩ 1 1 [.int .i64 (i : Int), .slice (some ⟨g, 0, none⟩) 128 128] (by rfl) (by rfl) (World.news_of_block (cs := #[.int .i64 (i : Int), .slice (some ⟨g, 0, none⟩) 128 128]) (t := 64) (fr := (0, 0)) (heap_alloc_new w0 _)) (by simp [Value.oneCell'])
          (by omega) (by unfold maxLen; omega) (by omega) (by simp; omega) (w0.heap.size + 1) (by simp) ?_; intro gg cap w1 hown1 hgrow hat hlt; have q1 := (hgrow.cell_far ⟨j, 0, none⟩ (Nat.lt_of_lt_of_le lj (by simp)) (Ne.symm nj)).trans (caj _); have q2 := (hgrow.frozen_far ⟨j, 0, none⟩ (Nat.lt_of_lt_of_le lj (by simp)) (Ne.symm nj)).trans (fja _); have q3 := (hgrow.cell_far ⟨d, 2, none⟩ (Nat.lt_of_lt_of_le ld (by simp)) (Ne.symm nd)).trans (ca2 _)))
    all_goals exact ⟨gg, cap, w1, ⟨hown1, _, hgrow⟩, rfl, rfl⟩
  case imp =>
    refine AtNormal.imp ?_
    rintro a' w' ⟨gg, cap, w1, hG, rfl, rfl⟩
    obtain ⟨hown1, o, hgrow⟩ := hG
    have q4 := (hgrow.cell_far ⟨d, 3, none⟩ (Nat.lt_of_lt_of_le ld (by simp)) (Ne.symm nd)).trans (ca3 _)
    have q5 := (hgrow.frozen_far ⟨d, 3, none⟩ (Nat.lt_of_lt_of_le ld (by simp)) (Ne.symm nd)).trans (fda _)
    have HE := Lib.hid (add_end HA.out hown1 hgrow)
    clear hown1 hgrow
    go_wp2
    go_end0
    obtain ⟨r1, r2, r3, r4⟩ := HE.out
    refine ⟨j, hjw, rfl, _, r1, r2, r3, ?_⟩
    refine Kept.trans (Kept.mono HK.out fun _ _ e => .inl e) r4 fun k hk h => ?_
    rcases h with h | h | h
    · exact .inl h
    · exact .inr (.inl h)
    · cases h

end Go.Proofs.Ytghnhabpcikhgaa
