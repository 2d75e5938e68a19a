/-
  The contract of the reference's Bit, at a byte of set bits.
-/
import Derived.Test.YtgnkbopnkllgaaaRefByte
namespace Go.Proofs.Ytgnkbopnkllgaaa
open Go.RowKit

set_option maxRecDepth 10000 in
set_option maxHeartbeats 1600000 in
theorem refBit_two (w : World) (K : Nat → Prop) (ba oa n c : Nat) (l : List Int) (s : St) (Al : Option Addr) (cl : Nat) (h : Sl w K (some ⟨ba, oa, none⟩) n c l) (hc : s.c = 0) (ha1 : s.at_ + 1 < n) (hz : l.getD s.at_ 0 = 255) (hz1 : l.getD (s.at_ + 1) 0 = 0) (hn : n ≤ 5000) :
    Calls Try.prog 32 #[refV (some ⟨ba, oa, none⟩) n c s Al cl] w (RefGot w (some ⟨ba, oa, none⟩) n c (bitF l s)) := by
  have hlen := h.len
  have ha : s.at_ < n := by omega
  have hE : beginE l s.at_ = 0 := by rw [beginE, if_pos (by omega), if_pos hz, if_pos (by omega), if_pos hz1]
  have hS : beginS l s.at_ = 2 := by rw [beginS, if_pos hz]
  obtain ⟨b', o', e', hcz⟩ := h.get ha
  cases e'
  obtain ⟨b'', o'', e'', hcy⟩ := h.get ha1
  cases e''
  rw [hz1] at hcy
  have lb : ba < w.heap.size := World.block_lt_of_cell? w ⟨ba, oa + s.at_, none⟩ hcz
  obtain ⟨a, haa⟩ : ∃ a, a = s.at_ := ⟨_, rfl⟩
  obtain ⟨z, hzz⟩ : ∃ z : Nat, z = (l.getD s.at_ 0).toNat := ⟨_, rfl⟩
  have hzi : l.getD s.at_ 0 = (z : Int) := by have := h.bts.fit.getD s.at_; omega
  have hz8 : z = 255 := by omega
  have hz9 : 255 ≤ z := by omega
  have hz10 : z ≤ 255 := by omega
  clear hz8
  have eV : refV (some ⟨ba, oa, none⟩) n c s Al cl = .agg #[.slice (some ⟨ba, oa, none⟩) n c, .int .i64 (a : Int), .slice Al 0 cl] := by rw [refV, ← haa, hc]
  rw [eV]
  obtain ⟨w1, hw1⟩ : ∃ w1, w1 = (w.alloc (.cells #[.slice (some ⟨ba, oa, none⟩) n c, .int .i64 (a : Int), .slice Al 0 cl] 48)).alloc (.cells #[.slice none 0 0, .int .i64 0, .slice none 0 0] 48) := ⟨_, rfl⟩
  obtain ⟨h1, h2, bel⟩ := two_made w _ _ hw1
  rw [hzi] at hcz
  rw [← haa] at hcz ha hcy ha1
  obtain ⟨t, ht⟩ : ∃ t, t = a + 1 := ⟨_, rfl⟩
  rw [← ht] at hcy ha1
  have hcy1 := (bel.cell (p := ⟨ba, oa + t, none⟩) lb).trans hcy
  have ht1 : (a : Int) + 1 = (t : Int) := by omega
  have ht3 : ¬ (n : Int) ≤ t := by omega
  have hcz1 := (bel.cell (p := ⟨ba, oa + a, none⟩) lb).trans hcz
  have hcw : ((w.alloc (.cells #[.slice (some ⟨ba, oa, none⟩) n c, .int .i64 (a : Int), .slice Al 0 cl] 48)).alloc (.cells #[.slice none 0 0, .int .i64 0, .slice none 0 0] 48)).cell? ⟨ba, oa + a, none⟩ = some (.int .u8 (z : Int)) := by rw [← hw1]; exact hcz1
  obtain ⟨g1, hg1⟩ : ∃ g1, g1 = w.heap.size := ⟨_, rfl⟩
  rw [← hg1] at h1 h2
  have HH := Lib.hid (And.intro h1 (And.intro h2 (And.intro bel (And.intro hw1 (And.intro hg1 (And.intro hcz1 (And.intro lb hcy1)))))))
  have HE := Lib.hid (And.intro hc (And.intro hE (And.intro hS (And.intro haa hzz))))
  have ha2 : (a : Int) < n := by omega
  clear h hlen hE hS hcz hzz hzi hz eV h1 h2 bel hw1 hg1 hc hcz1 lb haa hcy hcy1 ht hz1
  go_enter Try.func32, Try.ntmps32
  go_wp2_with fail
  rw [← HH.out.2.2.2.1, ← HH.out.2.2.2.2.1]
  clear hcw
  refine (digits8 w1 z (by omega)).mono ?_
  rintro e w2 ⟨A8, c8, rfl, hI8, b2⟩
  obtain ⟨b, off, rfl, hb8, hc8⟩ := hI8.at_ (by omega)
  have hx8 : w2.cell? ⟨b, off, none⟩ = some (.int .i64 ((z / 128 : Nat) : Int)) := by
    have hd := hI8
    rw [dig_byte (by omega)] at hd
    exact (il_tail hd).2
  obtain ⟨x, hx⟩ : ∃ x, x = z / 128 := ⟨_, rfl⟩
  rw [← hx] at hx8
  have hcap8 := hI8.cap
  have hmx8 := hI8.max
  unfold maxLen at hmx8
  have k1 := HH.out.1.on b2
  have k2 := HH.out.2.1.on b2
  have hbg : b ≠ g1 + 1 := not_there hI8 k2
  have kz : w2.cell? ⟨ba, oa + a, none⟩ = some (.int .u8 (z : Int)) := (b2.cell (p := ⟨ba, oa + a, none⟩) (Nat.lt_of_lt_of_le HH.out.2.2.2.2.2.2.1 HH.out.2.2.1.size)).trans HH.out.2.2.2.2.2.1
  have ky : w2.cell? ⟨ba, oa + t, none⟩ = some (.int .u8 0) := (b2.cell (p := ⟨ba, oa + t, none⟩) (Nat.lt_of_lt_of_le HH.out.2.2.2.2.2.2.1 HH.out.2.2.1.size)).trans HH.out.2.2.2.2.2.2.2
  have q0 : w2.cell? ⟨g1, 0, none⟩ = some (.slice (some ⟨ba, oa, none⟩) n c) := k1.cell 0
  have q1 : w2.cell? ⟨g1, 1, none⟩ = some (.int .i64 (a : Int)) := k1.cell 1
  have q2 : w2.cell? ⟨g1, 2, none⟩ = some (.slice Al 0 cl) := k1.cell 2
  have f0 : w2.frozen? ⟨g1 + 1, 0, none⟩ = false := k2.free 0
  have f1 : w2.frozen? ⟨g1 + 1, 1, none⟩ = false := k2.free 1
  have f2 : w2.frozen? ⟨g1 + 1, 2, none⟩ = false := k2.free 2
  have e0 : w2.cell? ⟨g1 + 1, 0, none⟩ = some (.slice none 0 0) := k2.cell 0
  have e1 : w2.cell? ⟨g1 + 1, 1, none⟩ = some (.int .i64 0) := k2.cell 1
  have e2 : w2.cell? ⟨g1 + 1, 2, none⟩ = some (.slice none 0 0) := k2.cell 2
  have K1 := Lib.hid (show (w2.drew.cell? ⟨g1, 0, none⟩ = some (.slice (some ⟨ba, oa, none⟩) n c) ∧ w2.drew.cell? ⟨g1, 1, none⟩ = some (.int .i64 (a : Int)) ∧ w2.drew.cell? ⟨g1, 2, none⟩ = some (.slice Al 0 cl)) ∧ w2.drew.cell? ⟨b, off, none⟩ = some (.int .i64 (x : Int)) from ⟨⟨q0, q1, q2⟩, hx8⟩)
  have H2 := Lib.hid (And.intro hI8 (And.intro (on_trans HH.out.2.2.1 b2) hx))
  have HF := Lib.hid (And.intro f0 (And.intro f1 (And.intro f2 (And.intro e0 (And.intro e1 e2)))))
  have c1 : 1 ≤ c8 := by omega
  have hc81 : ¬ (c8 : Int) = 1 := by omega
  have hc82 : ¬ c8 = 1 := by omega
  clear hI8 b2 hx k1 k2 hb8 hc8
  go_wp2_with fail
  clear q0 q1 q2 kz ky
  go_region_held (fun w' => (w'.cell? ⟨g1, 0, none⟩ = some (.slice (some ⟨ba, oa, none⟩) n c) ∧ w'.cell? ⟨g1, 1, none⟩ = some (.int .i64 (a : Int)) ∧ w'.cell? ⟨g1, 2, none⟩ = some (.slice Al 0 cl)) ∧ w'.cell? ⟨b, off, none⟩ = some (.int .i64 (x : Int)))
    (first | exact K1.out | exact keepS K1.out (by omega) hbg _ _ _) (fail)
  all_goals
    (go_wp2
     refine bodyPost_ret (v := .tuple #[.agg #[.slice (some ⟨ba, oa, none⟩) n c, .int .i64 (IntKind.i64.wrap ((a : Int) + 2)), .slice (some ⟨b, off + 1, none⟩) 7 (c8 - 1)], .int .i64 (x : Int), .int .i64 0]) (by simp [results, Try.results32, go_sem, e0, e1, e2]) rfl ?_
     rw [H2.out.2.2]
     exact refGot_begun (w2 := w2) (S := 2) HE.out.1 HE.out.2.1 HE.out.2.2.1 HE.out.2.2.2.2 (by omega) H2.out.1 ((threeSet H2.out.2.1 (by have := HH.out.2.2.2.2.1; omega) _ _ _).drew) (fun h => (h.kept (three_kept w2 (g1 + 1) _ _ _) (fun b' off' e => by cases e; exact hbg)).drew') (by rw [wrap_small (by omega) (by omega), ← HE.out.2.2.2.1]; omega))

set_option maxRecDepth 10000 in
set_option maxHeartbeats 1600000 in
theorem refBit_last (w : World) (K : Nat → Prop) (ba oa n c : Nat) (l : List Int) (s : St) (Al : Option Addr) (cl : Nat) (h : Sl w K (some ⟨ba, oa, none⟩) n c l) (hI : Il w Al s.c cl (dig s.v s.c)) (hc : s.c = 0) (ha : s.at_ < n) (ha1 : n ≤ s.at_ + 1) (hz : l.getD s.at_ 0 = 255) (hn : n ≤ 5000) :
    Calls Try.prog 32 #[refV (some ⟨ba, oa, none⟩) n c s Al cl] w (RefGot w (some ⟨ba, oa, none⟩) n c (bitF l s)) := by
  have hlen := h.len
  have hE : beginE l s.at_ = 3 := by rw [beginE, if_pos (by omega), if_pos hz, if_neg (by omega)]
  obtain ⟨b', o', e', hcz⟩ := h.get ha
  cases e'
  have lb : ba < w.heap.size := World.block_lt_of_cell? w ⟨ba, oa + s.at_, none⟩ hcz
  have HN := Lib.hid (fun w1 => refGot_not (w1 := w1) (A := some ⟨ba, oa, none⟩) (n := n) (c := c) hc hE (by decide) hI)
  rw [hc] at HN
  obtain ⟨a, haa⟩ : ∃ a, a = s.at_ := ⟨_, rfl⟩
  rw [← haa] at HN
  obtain ⟨z, hzz⟩ : ∃ z : Nat, z = (l.getD s.at_ 0).toNat := ⟨_, rfl⟩
  have hzi : l.getD s.at_ 0 = (z : Int) := by have := h.bts.fit.getD s.at_; omega
  have hz8 : z = 255 := by omega
  have hz9 : 255 ≤ z := by omega
  have hz10 : z ≤ 255 := by omega
  clear hz8
  have eV : refV (some ⟨ba, oa, none⟩) n c s Al cl = .agg #[.slice (some ⟨ba, oa, none⟩) n c, .int .i64 (a : Int), .slice Al 0 cl] := by rw [refV, ← haa, hc]
  rw [eV]
  obtain ⟨w1, hw1⟩ : ∃ w1, w1 = (w.alloc (.cells #[.slice (some ⟨ba, oa, none⟩) n c, .int .i64 (a : Int), .slice Al 0 cl] 48)).alloc (.cells #[.slice none 0 0, .int .i64 0, .slice none 0 0] 48) := ⟨_, rfl⟩
  obtain ⟨h1, h2, bel⟩ := two_made w _ _ hw1
  rw [hzi] at hcz
  rw [← haa] at hcz ha ha1
  obtain ⟨t, ht⟩ : ∃ t, t = a + 1 := ⟨_, rfl⟩
  have ht1 : (a : Int) + 1 = (t : Int) := by omega
  have ht3 : (n : Int) ≤ t := by omega
  have hcz1 := (bel.cell (p := ⟨ba, oa + a, none⟩) lb).trans hcz
  have hcw : ((w.alloc (.cells #[.slice (some ⟨ba, oa, none⟩) n c, .int .i64 (a : Int), .slice Al 0 cl] 48)).alloc (.cells #[.slice none 0 0, .int .i64 0, .slice none 0 0] 48)).cell? ⟨ba, oa + a, none⟩ = some (.int .u8 (z : Int)) := by rw [← hw1]; exact hcz1
  obtain ⟨g1, hg1⟩ : ∃ g1, g1 = w.heap.size := ⟨_, rfl⟩
  rw [← hg1] at h1 h2
  have HH := Lib.hid (And.intro h1 (And.intro h2 (And.intro bel (And.intro hw1 (And.intro hg1 (And.intro hcz1 (And.intro lb trivial)))))))
  have ha2 : (a : Int) < n := by omega
  clear h hI hlen hE hcz hzz hzi hz eV h1 h2 bel hw1 hg1 hc hcz1 lb haa ht ha1
  go_enter Try.func32, Try.ntmps32
  go_wp2_with fail
  rw [← HH.out.2.2.2.1, ← HH.out.2.2.2.2.1]
  clear hcw
  refine (digits8 w1 z (by omega)).mono ?_
  rintro e w2 ⟨A8, c8, rfl, hI8, b2⟩
  obtain ⟨b, off, rfl, hb8, hc8⟩ := hI8.at_ (by omega)
  have k1 := HH.out.1.on b2
  have k2 := HH.out.2.1.on b2
  have kz : w2.cell? ⟨ba, oa + a, none⟩ = some (.int .u8 (z : Int)) := (b2.cell (p := ⟨ba, oa + a, none⟩) (Nat.lt_of_lt_of_le HH.out.2.2.2.2.2.2.1 HH.out.2.2.1.size)).trans HH.out.2.2.2.2.2.1
  have q0 : w2.cell? ⟨g1, 0, none⟩ = some (.slice (some ⟨ba, oa, none⟩) n c) := k1.cell 0
  have q1 : w2.cell? ⟨g1, 1, none⟩ = some (.int .i64 (a : Int)) := k1.cell 1
  have q2 : w2.cell? ⟨g1, 2, none⟩ = some (.slice Al 0 cl) := k1.cell 2
  have f0 : w2.frozen? ⟨g1 + 1, 0, none⟩ = false := k2.free 0
  have f1 : w2.frozen? ⟨g1 + 1, 1, none⟩ = false := k2.free 1
  have f2 : w2.frozen? ⟨g1 + 1, 2, none⟩ = false := k2.free 2
  have e0 : w2.cell? ⟨g1 + 1, 0, none⟩ = some (.slice none 0 0) := k2.cell 0
  have e1 : w2.cell? ⟨g1 + 1, 1, none⟩ = some (.int .i64 0) := k2.cell 1
  have e2 : w2.cell? ⟨g1 + 1, 2, none⟩ = some (.slice none 0 0) := k2.cell 2
  have H2 := Lib.hid (on_trans HH.out.2.2.1 b2)
  clear hI8 b2 k1 k2 hb8 hc8
  go_wp2
  refine bodyPost_ret (v := .tuple #[.agg #[.slice (some ⟨ba, oa, none⟩) n c, .int .i64 (a : Int), .slice Al 0 cl], .int .i64 0, .int .i64 3]) (by simp [results, Try.results32, go_sem, e0, e1, e2]) rfl ?_
  exact HN.out _ (threeSet H2.out (by have := HH.out.2.2.2.2.1; omega) _ _ _)

set_option maxRecDepth 10000 in
set_option maxHeartbeats 1600000 in
theorem refBit_mark (w : World) (K : Nat → Prop) (ba oa n c : Nat) (l : List Int) (s : St) (Al : Option Addr) (cl : Nat) (h : Sl w K (some ⟨ba, oa, none⟩) n c l) (hI : Il w Al s.c cl (dig s.v s.c)) (hc : s.c = 0) (ha1 : s.at_ + 1 < n) (hz : l.getD s.at_ 0 = 255) (hz1 : l.getD (s.at_ + 1) 0 ≠ 0) (hn : n ≤ 5000) :
    Calls Try.prog 32 #[refV (some ⟨ba, oa, none⟩) n c s Al cl] w (RefGot w (some ⟨ba, oa, none⟩) n c (bitF l s)) := by
  have hlen := h.len
  have ha : s.at_ < n := by omega
  have hE : beginE l s.at_ = 7 := by rw [beginE, if_pos (by omega), if_pos hz, if_pos (by omega), if_neg hz1]
  obtain ⟨b', o', e', hcz⟩ := h.get ha
  cases e'
  obtain ⟨b'', o'', e'', hcy⟩ := h.get ha1
  cases e''
  obtain ⟨y, hy⟩ : ∃ y, y = l.getD (s.at_ + 1) 0 := ⟨_, rfl⟩
  have hy0 : 0 < y := by have := h.bts.fit.getD (s.at_ + 1); omega
  rw [← hy] at hcy
  have lb : ba < w.heap.size := World.block_lt_of_cell? w ⟨ba, oa + s.at_, none⟩ hcz
  have HN := Lib.hid (fun w1 => refGot_not (w1 := w1) (A := some ⟨ba, oa, none⟩) (n := n) (c := c) hc hE (by decide) hI)
  rw [hc] at HN
  obtain ⟨a, haa⟩ : ∃ a, a = s.at_ := ⟨_, rfl⟩
  rw [← haa] at HN
  obtain ⟨z, hzz⟩ : ∃ z : Nat, z = (l.getD s.at_ 0).toNat := ⟨_, rfl⟩
  have hzi : l.getD s.at_ 0 = (z : Int) := by have := h.bts.fit.getD s.at_; omega
  have hz8 : z = 255 := by omega
  have hz9 : 255 ≤ z := by omega
  have hz10 : z ≤ 255 := by omega
  clear hz8
  have eV : refV (some ⟨ba, oa, none⟩) n c s Al cl = .agg #[.slice (some ⟨ba, oa, none⟩) n c, .int .i64 (a : Int), .slice Al 0 cl] := by rw [refV, ← haa, hc]
  rw [eV]
  obtain ⟨w1, hw1⟩ : ∃ w1, w1 = (w.alloc (.cells #[.slice (some ⟨ba, oa, none⟩) n c, .int .i64 (a : Int), .slice Al 0 cl] 48)).alloc (.cells #[.slice none 0 0, .int .i64 0, .slice none 0 0] 48) := ⟨_, rfl⟩
  obtain ⟨h1, h2, bel⟩ := two_made w _ _ hw1
  rw [hzi] at hcz
  rw [← haa] at hcz ha hcy ha1
  obtain ⟨t, ht⟩ : ∃ t, t = a + 1 := ⟨_, rfl⟩
  rw [← ht] at hcy ha1
  have hcy1 := (bel.cell (p := ⟨ba, oa + t, none⟩) lb).trans hcy
  have ht1 : (a : Int) + 1 = (t : Int) := by omega
  have ht3 : ¬ (n : Int) ≤ t := by omega
  have hcz1 := (bel.cell (p := ⟨ba, oa + a, none⟩) lb).trans hcz
  have hcw : ((w.alloc (.cells #[.slice (some ⟨ba, oa, none⟩) n c, .int .i64 (a : Int), .slice Al 0 cl] 48)).alloc (.cells #[.slice none 0 0, .int .i64 0, .slice none 0 0] 48)).cell? ⟨ba, oa + a, none⟩ = some (.int .u8 (z : Int)) := by rw [← hw1]; exact hcz1
  obtain ⟨g1, hg1⟩ : ∃ g1, g1 = w.heap.size := ⟨_, rfl⟩
  rw [← hg1] at h1 h2
  have HH := Lib.hid (And.intro h1 (And.intro h2 (And.intro bel (And.intro hw1 (And.intro hg1 (And.intro hcz1 (And.intro lb hcy1)))))))
  have ha2 : (a : Int) < n := by omega
  clear h hI hlen hE hcz hzz hzi hz eV h1 h2 bel hw1 hg1 hc hcz1 lb haa hcy hcy1 ht hz1 hy
  go_enter Try.func32, Try.ntmps32
  go_wp2_with fail
  rw [← HH.out.2.2.2.1, ← HH.out.2.2.2.2.1]
  clear hcw
  refine (digits8 w1 z (by omega)).mono ?_
  rintro e w2 ⟨A8, c8, rfl, hI8, b2⟩
  obtain ⟨b, off, rfl, hb8, hc8⟩ := hI8.at_ (by omega)
  have k1 := HH.out.1.on b2
  have k2 := HH.out.2.1.on b2
  have kz : w2.cell? ⟨ba, oa + a, none⟩ = some (.int .u8 (z : Int)) := (b2.cell (p := ⟨ba, oa + a, none⟩) (Nat.lt_of_lt_of_le HH.out.2.2.2.2.2.2.1 HH.out.2.2.1.size)).trans HH.out.2.2.2.2.2.1
  have ky : w2.cell? ⟨ba, oa + t, none⟩ = some (.int .u8 y) := (b2.cell (p := ⟨ba, oa + t, none⟩) (Nat.lt_of_lt_of_le HH.out.2.2.2.2.2.2.1 HH.out.2.2.1.size)).trans HH.out.2.2.2.2.2.2.2
  have q0 : w2.cell? ⟨g1, 0, none⟩ = some (.slice (some ⟨ba, oa, none⟩) n c) := k1.cell 0
  have q1 : w2.cell? ⟨g1, 1, none⟩ = some (.int .i64 (a : Int)) := k1.cell 1
  have q2 : w2.cell? ⟨g1, 2, none⟩ = some (.slice Al 0 cl) := k1.cell 2
  have f0 : w2.frozen? ⟨g1 + 1, 0, none⟩ = false := k2.free 0
  have f1 : w2.frozen? ⟨g1 + 1, 1, none⟩ = false := k2.free 1
  have f2 : w2.frozen? ⟨g1 + 1, 2, none⟩ = false := k2.free 2
  have e0 : w2.cell? ⟨g1 + 1, 0, none⟩ = some (.slice none 0 0) := k2.cell 0
  have e1 : w2.cell? ⟨g1 + 1, 1, none⟩ = some (.int .i64 0) := k2.cell 1
  have e2 : w2.cell? ⟨g1 + 1, 2, none⟩ = some (.slice none 0 0) := k2.cell 2
  have H2 := Lib.hid (on_trans HH.out.2.2.1 b2)
  clear hI8 b2 k1 k2 hb8 hc8
  go_wp2
  refine bodyPost_ret (v := .tuple #[.agg #[.slice (some ⟨ba, oa, none⟩) n c, .int .i64 (a : Int), .slice Al 0 cl], .int .i64 0, .int .i64 7]) (by simp [results, Try.results32, go_sem, e0, e1, e2]) rfl ?_
  exact HN.out _ (threeSet H2.out (by have := HH.out.2.2.2.2.1; omega) _ _ _)

theorem refBit_any (w : World) (K : Nat → Prop) (A : Option Addr) (n c : Nat) (l : List Int) (s : St) (Al : Option Addr) (cl : Nat) (h : Sl w K A n c l) (hI : Il w Al s.c cl (dig s.v s.c)) (hok : s.ok l.length) (hn : n ≤ 5000) :
    Calls Try.prog 32 #[refV A n c s Al cl] w (RefGot w A n c (bitF l s)) := by
  have hlen := h.len
  by_cases hc : 0 < s.c
  · obtain ⟨b, off, rfl, _⟩ := hI.at_ hc
    exact refBit_left w A n c l s b off cl hI hc hok.v
  have hc0 : s.c = 0 := by omega
  by_cases ha : n ≤ s.at_
  · exact refBit_over w A n c l s Al cl hI hc0 hlen ha
  obtain ⟨ba, oa, rfl, _⟩ := h.get (show s.at_ < n by omega)
  by_cases hz : l.getD s.at_ 0 = 255
  · by_cases ha1 : n ≤ s.at_ + 1
    · exact refBit_last w K ba oa n c l s Al cl h hI hc0 (by omega) ha1 hz hn
    by_cases hz1 : l.getD (s.at_ + 1) 0 = 0
    · exact refBit_two w K ba oa n c l s Al cl h hc0 (by omega) hz hz1 hn
    · exact refBit_mark w K ba oa n c l s Al cl h hI hc0 (by omega) hz hz1 hn
  · exact refBit_byte w K ba oa n c l s Al cl h hc0 (by omega) hz hn
end Go.Proofs.Ytgnkbopnkllgaaa
