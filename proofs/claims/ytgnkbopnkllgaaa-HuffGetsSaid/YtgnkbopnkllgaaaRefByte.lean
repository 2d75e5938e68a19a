/-
  The contract of the reference's Bit.
-/
import Derived.Test.YtgnkbopnkllgaaaRefBit
namespace Go.Proofs.Ytgnkbopnkllgaaa
open Go.RowKit

theorem digits8 (w : World) (z : Nat) (hz : z ≤ 255) : Calls Try.prog 38 #[.int .i64 (z : Int), .int .i64 8] w fun e w' => ∃ A c, e = .returned (.slice A 8 c) ∧ Il w' A 8 c (dig z 8) ∧ Below w.heap.size w w' :=
  digits_any w z 8 (by omega) (by omega)

theorem dig_byte {z : Nat} (hz : z ≤ 255) : dig z 8 = ((z / 128 : Nat) : Int) :: dig (z % 128) 7 := dig_head z 8 (by omega) (by show z < 256; omega)
/-- eight numbers don't lie in a block of three cells -/
theorem not_there {w : World} {b off c8 g : Nat} {t : TypeId} {v0 v1 v2 : Value} {xs : List Int} (hI : Il w (some ⟨b, off, none⟩) 8 c8 xs) (hb : Box w g t #[v0, v1, v2]) : b ≠ g := by
  intro e
  obtain ⟨b', off', e', _, hc⟩ := hI.at_ (by omega)
  cases e'
  have h7 := hc 7 (by omega)
  rw [e, hb.cell (off + 7)] at h7
  have := (Array.getElem?_eq_some_iff.1 h7).1
  simp at this
  omega

theorem Il.drew' {w : World} {A : Option Addr} {n c : Nat} {xs : List Int} (h : Il w A n c xs) : Il w.drew A n c xs := h.on (on_drew w)
theorem three_kept (w : World) (g : Nat) (y0 y1 y2 : Value) : Kept (fun i => i = g) w (((w.setCell ⟨g, 0, none⟩ y0).setCell ⟨g, 1, none⟩ y1).setCell ⟨g, 2, none⟩ y2) :=
  (((Kept.refl (fun i => i = g) w).setCell (p := ⟨g, 0, none⟩) (fun _ => rfl) _).setCell (p := ⟨g, 1, none⟩) (fun _ => rfl) _).setCell (p := ⟨g, 2, none⟩) (fun _ => rfl) _

/-- the answer where a byte is begun -/
theorem refGot_begun {w w2 w3 : World} {A : Option Addr} {n c b off c8 S : Nat} {l : List Int} {s : St} {z : Nat} (h0 : s.c = 0) (hE : beginE l s.at_ = 0) (hS : beginS l s.at_ = S) (hz : z = (l.getD s.at_ 0).toNat) (hz8 : z ≤ 255) (hI : Il w2 (some ⟨b, off, none⟩) 8 c8 (dig z 8)) (hb : Below w.heap.size w w3) (hk : Il w2 (some ⟨b, off + 1, none⟩) 7 (c8 - 1) (dig (z % 128) 7) → Il w3 (some ⟨b, off + 1, none⟩) 7 (c8 - 1) (dig (z % 128) 7)) {x : Int} (hx : x = ((s.at_ + S : Nat) : Int)) :
    RefGot w A n c (bitF l s) (.returned (.tuple #[.agg #[.slice A n c, .int .i64 x, .slice (some ⟨b, off + 1, none⟩) 7 (c8 - 1)], .int .i64 ((z / 128 : Nat) : Int), .int .i64 0])) w3 := by
  subst hx
  rw [bitF, if_neg (by omega), if_pos hE, hS, ← hz]
  have hd := hI
  have hcap := hI.cap
  rw [dig_head z 8 (by omega) (by show z < 256; omega)] at hd
  have h2 := (il_tail hd).1
  rw [if_neg (by omega)] at h2
  exact ⟨some ⟨b, off + 1, none⟩, c8 - 1, rfl, hk h2, hb⟩

set_option maxRecDepth 10000 in
set_option maxHeartbeats 1600000 in
theorem refBit_byte (w : World) (K : Nat → Prop) (ba oa n c : Nat) (l : List Int) (s : St) (Al : Option Addr) (cl : Nat) (h : Sl w K (some ⟨ba, oa, none⟩) n c l) (hc : s.c = 0) (ha : s.at_ < n) (hz : l.getD s.at_ 0 ≠ 255) (hn : n ≤ 5000) :
    Calls Try.prog 32 #[refV (some ⟨ba, oa, none⟩) n c s Al cl] w (RefGot w (some ⟨ba, oa, none⟩) n c (bitF l s)) := by
  have hlen := h.len
  have hE : beginE l s.at_ = 0 := by rw [beginE, if_pos (by omega), if_neg hz]
  have hS : beginS l s.at_ = 1 := by rw [beginS, if_neg hz]
  obtain ⟨b', o', e', hcz⟩ := h.get ha
  cases e'
  have lb : ba < w.heap.size := World.block_lt_of_cell? w ⟨ba, oa + s.at_, none⟩ hcz
  obtain ⟨a, haa⟩ : ∃ a, a = s.at_ := ⟨_, rfl⟩
  obtain ⟨z, hzz⟩ : ∃ z : Nat, z = (l.getD s.at_ 0).toNat := ⟨_, rfl⟩
  have hzi : l.getD s.at_ 0 = (z : Int) := by have := h.bts.fit.getD s.at_; omega
  have hz8 : z < 255 := by have := h.bts.fit.getD s.at_; omega
  have eV : refV (some ⟨ba, oa, none⟩) n c s Al cl = .agg #[.slice (some ⟨ba, oa, none⟩) n c, .int .i64 (a : Int), .slice Al 0 cl] := by rw [refV, ← haa, hc]
  rw [eV]
  obtain ⟨w1, hw1⟩ : ∃ w1, w1 = (w.alloc (.cells #[.slice (some ⟨ba, oa, none⟩) n c, .int .i64 (a : Int), .slice Al 0 cl] 48)).alloc (.cells #[.slice none 0 0, .int .i64 0, .slice none 0 0] 48) := ⟨_, rfl⟩
  obtain ⟨h1, h2, bel⟩ := two_made w _ _ hw1
  rw [hzi] at hcz
  rw [← haa] at hcz ha
  have hcz1 := (bel.cell (p := ⟨ba, oa + a, none⟩) lb).trans hcz
  have hcw : ((w.alloc (.cells #[.slice (some ⟨ba, oa, none⟩) n c, .int .i64 (a : Int), .slice Al 0 cl] 48)).alloc (.cells #[.slice none 0 0, .int .i64 0, .slice none 0 0] 48)).cell? ⟨ba, oa + a, none⟩ = some (.int .u8 (z : Int)) := by rw [← hw1]; exact hcz1
  obtain ⟨g1, hg1⟩ : ∃ g1, g1 = w.heap.size := ⟨_, rfl⟩
  rw [← hg1] at h1 h2
  have HH := Lib.hid (And.intro h1 (And.intro h2 (And.intro bel (And.intro hw1 (And.intro hg1 (And.intro hcz1 lb))))))
  have HE := Lib.hid (And.intro hc (And.intro hE (And.intro hS (And.intro haa hzz))))
  have ha2 : (a : Int) < n := by omega
  clear h hlen hE hS hcz hzz hzi hz eV h1 h2 bel hw1 hg1 hc hcz1 lb haa
  go_enter Try.func32, Try.ntmps32
  go_wp2_with fail
  rw [← HH.out.2.2.2.1, ← HH.out.2.2.2.2.1]
  clear hcw
  refine (digits8 w1 z (by omega)).mono ?_
  rintro e w2 ⟨A8, c8, rfl, hI8, b2⟩
  obtain ⟨b, off, rfl, hb8, hc8⟩ := hI8.at_ (by omega)
  have hx8 : w2.cell? ⟨b, off, none⟩ = some (.int .i64 ((z / 128 : Nat) : Int)) := by
    have hd := hI8
    rw [dig_byte (by omega)] at hd
    exact (il_tail hd).2
  obtain ⟨x, hx⟩ : ∃ x, x = z / 128 := ⟨_, rfl⟩
  rw [← hx] at hx8
  have hcap8 := hI8.cap
  have hmx8 := hI8.max
  unfold maxLen at hmx8
  have k1 := HH.out.1.on b2
  have k2 := HH.out.2.1.on b2
  have hbg : b ≠ g1 + 1 := not_there hI8 k2
  have kz : w2.cell? ⟨ba, oa + a, none⟩ = some (.int .u8 (z : Int)) := (b2.cell (p := ⟨ba, oa + a, none⟩) (Nat.lt_of_lt_of_le HH.out.2.2.2.2.2.2 HH.out.2.2.1.size)).trans HH.out.2.2.2.2.2.1
  have q0 : w2.cell? ⟨g1, 0, none⟩ = some (.slice (some ⟨ba, oa, none⟩) n c) := k1.cell 0
  have q1 : w2.cell? ⟨g1, 1, none⟩ = some (.int .i64 (a : Int)) := k1.cell 1
  have q2 : w2.cell? ⟨g1, 2, none⟩ = some (.slice Al 0 cl) := k1.cell 2
  have f0 : w2.frozen? ⟨g1 + 1, 0, none⟩ = false := k2.free 0
  have f1 : w2.frozen? ⟨g1 + 1, 1, none⟩ = false := k2.free 1
  have f2 : w2.frozen? ⟨g1 + 1, 2, none⟩ = false := k2.free 2
  have e0 : w2.cell? ⟨g1 + 1, 0, none⟩ = some (.slice none 0 0) := k2.cell 0
  have e1 : w2.cell? ⟨g1 + 1, 1, none⟩ = some (.int .i64 0) := k2.cell 1
  have e2 : w2.cell? ⟨g1 + 1, 2, none⟩ = some (.slice none 0 0) := k2.cell 2
  have K1 := Lib.hid (show (w2.drew.cell? ⟨g1, 0, none⟩ = some (.slice (some ⟨ba, oa, none⟩) n c) ∧ w2.drew.cell? ⟨g1, 1, none⟩ = some (.int .i64 (a : Int)) ∧ w2.drew.cell? ⟨g1, 2, none⟩ = some (.slice Al 0 cl)) ∧ w2.drew.cell? ⟨b, off, none⟩ = some (.int .i64 (x : Int)) from ⟨⟨q0, q1, q2⟩, hx8⟩)
  have H2 := Lib.hid (And.intro hI8 (And.intro (on_trans HH.out.2.2.1 b2) hx))
  have HF := Lib.hid (And.intro f0 (And.intro f1 (And.intro f2 (And.intro e0 (And.intro e1 e2)))))
  have c1 : 1 ≤ c8 := by omega
  have hc81 : ¬ (c8 : Int) = 1 := by omega
  have hc82 : ¬ c8 = 1 := by omega
  clear hI8 b2 hx k1 k2 hb8 hc8
  go_wp2_with fail
  clear q0 q1 q2 kz
  go_region_held (fun w' => (w'.cell? ⟨g1, 0, none⟩ = some (.slice (some ⟨ba, oa, none⟩) n c) ∧ w'.cell? ⟨g1, 1, none⟩ = some (.int .i64 (a : Int)) ∧ w'.cell? ⟨g1, 2, none⟩ = some (.slice Al 0 cl)) ∧ w'.cell? ⟨b, off, none⟩ = some (.int .i64 (x : Int)))
    (first | exact K1.out | exact keepS K1.out (by omega) hbg _ _ _) (fail)
  all_goals
    (go_wp2
     refine bodyPost_ret (v := .tuple #[.agg #[.slice (some ⟨ba, oa, none⟩) n c, .int .i64 (IntKind.i64.wrap ((a : Int) + 1)), .slice (some ⟨b, off + 1, none⟩) 7 (c8 - 1)], .int .i64 (x : Int), .int .i64 0]) (by simp [results, Try.results32, go_sem, e0, e1, e2]) rfl ?_
     rw [H2.out.2.2]
     exact refGot_begun (w2 := w2) (S := 1) HE.out.1 HE.out.2.1 HE.out.2.2.1 HE.out.2.2.2.2 (by omega) H2.out.1 ((threeSet H2.out.2.1 (by have := HH.out.2.2.2.2.1; omega) _ _ _).drew) (fun h => (h.kept (three_kept w2 (g1 + 1) _ _ _) (fun b' off' e => by cases e; exact hbg)).drew') (by rw [wrap_small (by omega) (by omega), ← HE.out.2.2.2.1]; omega))
end Go.Proofs.Ytgnkbopnkllgaaa
