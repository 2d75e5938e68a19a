/-
  The contracts of the reference's reader. The contract of the reference's Bit. The contract of the reference's Bit, at a byte of set bits.
-/
import Derived.Test.YthfpdebpepbejaaDoorReadMath
import Derived.Test.YthfpdebpepbejaaDoorRefBytes
import Derived.Deep.RegionHeld
namespace Go.Proofs.YthfpdebpepbejaaDoor
open Go.RowKit

/-- a reader of the reference, as a value -/
def refV (A : Option Addr) (n c : Nat) (s : St) (Al : Option Addr) (cl : Nat) : Value := .agg #[.slice A n c, .int .i64 (s.at_ : Int), .slice Al s.c cl]
/-- what the reference's calls tell -/
def RefGot (w : World) (A : Option Addr) (n c : Nat) (R : St × Nat × Int) (e : Ending) (w' : World) : Prop :=
  ∃ Al cl, e = .returned (.tuple #[refV A n c R.1 Al cl, .int .i64 (R.2.1 : Int), .int .i64 R.2.2]) ∧ Il w' Al R.1.c cl (dig R.1.v R.1.c) ∧ Below w.heap.size w w'

theorem threeSet {B : Nat} {w w1 : World} (h : Below B w w1) {g : Nat} (hg : B ≤ g) (x0 x1 x2 : Value) : Below B w (((w1.setCell ⟨g, 0, none⟩ x0).setCell ⟨g, 1, none⟩ x1).setCell ⟨g, 2, none⟩ x2) :=
  ((h.setCell (p := ⟨g, 0, none⟩) hg _).setCell (p := ⟨g, 1, none⟩) hg _).setCell (p := ⟨g, 2, none⟩) hg _

theorem dig_head (v c : Nat) (hc : 0 < c) (hv : v < 2 ^ c) : dig v c = ((v / 2 ^ (c - 1) : Nat) : Int) :: dig (v % 2 ^ (c - 1)) (c - 1) := by
  obtain ⟨d, rfl⟩ : ∃ d, c = d + 1 := ⟨c - 1, by omega⟩
  rw [Nat.add_sub_cancel, Nat.add_comm d 1, dig_cut]
  have : v / 2 ^ d < 2 := by
    rw [Nat.div_lt_iff_lt_mul (pow_pos' _), ← Nat.pow_succ']
    exact hv
  show ([] ++ [((v / 2 ^ d % 2 : Nat) : Int)]) ++ _ = _
  rw [List.nil_append, Nat.mod_eq_of_lt this]
  rfl

/-- a slice of numbers without its first one -/
theorem il_tail {w : World} {b off n c : Nat} {x : Int} {xs : List Int} (h : Il w (some ⟨b, off, none⟩) (n + 1) c (x :: xs)) : Il w (some ⟨b, if c = 1 then off else off + 1, none⟩) n (c - 1) xs ∧ w.cell? ⟨b, off, none⟩ = some (.int .i64 x) := by
  obtain ⟨b', off', e, hb, hc⟩ := h.at_ (by omega)
  cases e
  have h0 := hc 0 (by omega)
  rw [Nat.add_zero] at h0
  refine ⟨⟨by have := h.len; simpa using this, by have := h.cap; omega, by have := h.max; omega, (fun e => by cases e), (fun b2 off2 e => by cases e; exact h.typ _ _ rfl), fun hn => ⟨b, _, rfl, hb, fun i hi => ?_⟩⟩, h0⟩
  have := h.cap
  rw [if_neg (by omega), show off + 1 + i = off + (i + 1) by omega, hc (i + 1) (by omega)]
  simp

/-- a struct of three cells stored into a block beside -/
theorem keepS {W : World} {g1 g2 b off : Nat} {v0 v1 v2 v3 : Value} (h : (W.cell? ⟨g1, 0, none⟩ = some v0 ∧ W.cell? ⟨g1, 1, none⟩ = some v1 ∧ W.cell? ⟨g1, 2, none⟩ = some v2) ∧ W.cell? ⟨b, off, none⟩ = some v3) (hg : g1 ≠ g2) (hb : b ≠ g2) (y0 y1 y2 : Value) :
    ((((W.setCell ⟨g2, 0, none⟩ y0).setCell ⟨g2, 1, none⟩ y1).setCell ⟨g2, 2, none⟩ y2).cell? ⟨g1, 0, none⟩ = some v0 ∧ (((W.setCell ⟨g2, 0, none⟩ y0).setCell ⟨g2, 1, none⟩ y1).setCell ⟨g2, 2, none⟩ y2).cell? ⟨g1, 1, none⟩ = some v1 ∧ (((W.setCell ⟨g2, 0, none⟩ y0).setCell ⟨g2, 1, none⟩ y1).setCell ⟨g2, 2, none⟩ y2).cell? ⟨g1, 2, none⟩ = some v2) ∧ (((W.setCell ⟨g2, 0, none⟩ y0).setCell ⟨g2, 1, none⟩ y1).setCell ⟨g2, 2, none⟩ y2).cell? ⟨b, off, none⟩ = some v3 := by
  have key : ∀ p : Addr, p.block ≠ g2 → (((W.setCell ⟨g2, 0, none⟩ y0).setCell ⟨g2, 1, none⟩ y1).setCell ⟨g2, 2, none⟩ y2).cell? p = W.cell? p := fun p hp =>
    ((World.cell?_setCell_other _ ⟨g2, 2, none⟩ p y2 (fun e => hp (congrArg Addr.block e).symm)).trans (World.cell?_setCell_other _ ⟨g2, 1, none⟩ p y1 (fun e => hp (congrArg Addr.block e).symm))).trans (World.cell?_setCell_other _ ⟨g2, 0, none⟩ p y0 (fun e => hp (congrArg Addr.block e).symm))
  exact ⟨⟨(key _ hg).trans h.1.1, (key _ hg).trans h.1.2.1, (key _ hg).trans h.1.2.2⟩, (key _ hb).trans h.2⟩

/-- two blocks, one behind the other -/
theorem two_made (w : World) (xs ys : Array Value) {w1 : World} (h : w1 = (w.alloc (.cells xs 61)).alloc (.cells ys 61)) : Box w1 w.heap.size 61 xs ∧ Box w1 (w.heap.size + 1) 61 ys ∧ Below w.heap.size w w1 := by
  subst h
  have h1 := Box.made (w.alloc (.cells xs 61)) 61 ys
  simp only [World.size_alloc] at h1
  exact ⟨(Box.made w 61 _).alloc _, h1, on_trans (on_alloc _ _) (on_alloc _ _)⟩

set_option maxHeartbeats 800000 in
theorem refBit_left (w : World) (A : Option Addr) (n c : Nat) (l : List Int) (s : St) (b off cl : Nat) (hI : Il w (some ⟨b, off, none⟩) s.c cl (dig s.v s.c)) (hc : 0 < s.c) (hv : s.v < 2 ^ s.c) :
    Calls Tryd.prog 61 #[refV A n c s (some ⟨b, off, none⟩) cl] w (RefGot w A n c (bitF l s)) := by
  rw [bitF_full hc]
  have hI2 := hI
  rw [dig_head s.v s.c hc hv] at hI2
  obtain ⟨k, hk⟩ : ∃ k, s.c = k + 1 := ⟨s.c - 1, by omega⟩
  have hcap := hI.cap
  have hmx := hI.max
  unfold maxLen at hmx
  rw [hk] at hcap
  rw [hk, Nat.add_sub_cancel] at hI2 ⊢
  obtain ⟨hT, h0⟩ := il_tail hI2
  obtain ⟨x, hx⟩ : ∃ x, x = s.v / 2 ^ k := ⟨_, rfl⟩
  rw [← hx] at h0 ⊢
  have lb : b < w.heap.size := World.block_lt_of_cell? w ⟨b, off, none⟩ h0
  obtain ⟨a, ha⟩ : ∃ a, a = s.at_ := ⟨_, rfl⟩
  have eV : refV A n c s (some ⟨b, off, none⟩) cl = .agg #[.slice A n c, .int .i64 (a : Int), .slice (some ⟨b, off, none⟩) (k + 1) cl] := by rw [refV, ← ha, hk]
  rw [eV, ← ha]
  obtain ⟨w1, hw1⟩ : ∃ w1, w1 = (w.alloc (.cells #[.slice A n c, .int .i64 (a : Int), .slice (some ⟨b, off, none⟩) (k + 1) cl] 61)).alloc (.cells #[.slice none 0 0, .int .i64 0, .slice none 0 0] 61) := ⟨_, rfl⟩
  obtain ⟨g1, hg1⟩ : ∃ g1, g1 = w.heap.size := ⟨_, rfl⟩
  obtain ⟨h1, h2, bel⟩ := two_made w _ _ hw1
  have h0' := (bel.cell (p := ⟨b, off, none⟩) lb).trans h0
  rw [← hg1] at h1 h2 lb
  have hbg : b ≠ g1 + 1 := by omega
  have c1 : 1 ≤ cl := by omega
  have hS : ((w1.drew.cell? ⟨g1, 0, none⟩ = some (.slice A n c) ∧ w1.drew.cell? ⟨g1, 1, none⟩ = some (.int .i64 (a : Int)) ∧ w1.drew.cell? ⟨g1, 2, none⟩ = some (.slice (some ⟨b, off, none⟩) (k + 1) cl)) ∧ w1.drew.cell? ⟨b, off, none⟩ = some (.int .i64 (x : Int))) := ⟨⟨h1.cell 0, h1.cell 1, h1.cell 2⟩, h0'⟩
  have f0 : w1.frozen? ⟨g1 + 1, 0, none⟩ = false := h2.free 0
  have f1 : w1.frozen? ⟨g1 + 1, 1, none⟩ = false := h2.free 1
  have f2 : w1.frozen? ⟨g1 + 1, 2, none⟩ = false := h2.free 2
  have e0 : w1.cell? ⟨g1 + 1, 0, none⟩ = some (.slice none 0 0) := h2.cell 0
  have e1 : w1.cell? ⟨g1 + 1, 1, none⟩ = some (.int .i64 0) := h2.cell 1
  have e2 : w1.cell? ⟨g1 + 1, 2, none⟩ = some (.slice none 0 0) := h2.cell 2
  have HH := Lib.hid (And.intro hT (And.intro bel (And.intro hw1 (And.intro hg1 hS))))
  clear hI hI2 hT hx eV ha bel hw1 hg1 hk hc hv h1 h2 h0 h0' lb hS
  have G2 : w.heap.size ≤ g1 + 1 := by have := HH.out.2.2.2.1; omega
  by_cases h1 : cl = 1
  · subst h1
    obtain rfl : k = 0 := by omega
    go_enter Tryd.func61, Tryd.ntmps61
    go_wp2_with fail
    rw [← HH.out.2.2.1, ← HH.out.2.2.2.1]
    have K1 := HH.out.2.2.2.2
    go_region_held (fun w' => (w'.cell? ⟨g1, 0, none⟩ = some (.slice A n c) ∧ w'.cell? ⟨g1, 1, none⟩ = some (.int .i64 (a : Int)) ∧ w'.cell? ⟨g1, 2, none⟩ = some (.slice (some ⟨b, off, none⟩) 1 1)) ∧ w'.cell? ⟨b, off, none⟩ = some (.int .i64 (x : Int)))
      (first | exact K1 | exact keepS K1 (by omega) hbg _ _ _) (fail)
    all_goals
      (clear K1
       go_wp2
       refine bodyPost_ret (v := .tuple #[.agg #[.slice A n c, .int .i64 (a : Int), .slice (some ⟨b, off, none⟩) 0 0], .int .i64 (x : Int), .int .i64 0]) (by simp [results, Tryd.results61, go_sem, e0, e1, e2]) rfl ?_
       have hT := HH.out.1
       exact ⟨some ⟨b, off, none⟩, 0, rfl, hT.on ((threeSet HH.out.2.1 G2 _ _ _).drew), (threeSet HH.out.2.1 G2 _ _ _).drew⟩)
  · have hc1 : ¬ ((cl : Int) = 1) := by omega
    go_enter Tryd.func61, Tryd.ntmps61
    go_wp2_with fail
    rw [← HH.out.2.2.1, ← HH.out.2.2.2.1]
    have K1 := HH.out.2.2.2.2
    go_region_held (fun w' => (w'.cell? ⟨g1, 0, none⟩ = some (.slice A n c) ∧ w'.cell? ⟨g1, 1, none⟩ = some (.int .i64 (a : Int)) ∧ w'.cell? ⟨g1, 2, none⟩ = some (.slice (some ⟨b, off, none⟩) (k + 1) cl)) ∧ w'.cell? ⟨b, off, none⟩ = some (.int .i64 (x : Int)))
      (first | exact K1 | exact keepS K1 (by omega) hbg _ _ _) (fail)
    all_goals
      (clear K1
       go_wp2
       refine bodyPost_ret (v := .tuple #[.agg #[.slice A n c, .int .i64 (a : Int), .slice (some ⟨b, off + 1, none⟩) k (cl - 1)], .int .i64 (x : Int), .int .i64 0]) (by simp [results, Tryd.results61, go_sem, e0, e1, e2]) rfl ?_
       have hT := HH.out.1
       rw [if_neg h1] at hT
       exact ⟨some ⟨b, off + 1, none⟩, cl - 1, rfl, hT.on ((threeSet HH.out.2.1 G2 _ _ _).drew), (threeSet HH.out.2.1 G2 _ _ _).drew⟩)

/-- the answer where there is no bit -/
theorem refGot_not {w w1 : World} {A : Option Addr} {n c cl : Nat} {l : List Int} {s : St} {Al : Option Addr} {E : Int} (h0 : s.c = 0) (hE : beginE l s.at_ = E) (hne : E ≠ 0) (hI : Il w Al s.c cl (dig s.v s.c)) (hb : Below w.heap.size w w1) :
    RefGot w A n c (bitF l s) (.returned (.tuple #[.agg #[.slice A n c, .int .i64 (s.at_ : Int), .slice Al s.c cl], .int .i64 0, .int .i64 E])) w1 := by
  rw [bitF_none h0 (by rw [hE]; exact hne), hE]
  exact ⟨Al, cl, rfl, hI.on hb, hb⟩

set_option maxHeartbeats 800000 in
theorem refBit_over (w : World) (A : Option Addr) (n c : Nat) (l : List Int) (s : St) (Al : Option Addr) (cl : Nat) (hI : Il w Al s.c cl (dig s.v s.c)) (hc : s.c = 0) (hn : l.length = n) (ha : n ≤ s.at_) :
    Calls Tryd.prog 61 #[refV A n c s Al cl] w (RefGot w A n c (bitF l s)) := by
  have hE : beginE l s.at_ = 3 := by rw [beginE, if_neg (by omega)]
  have HN := Lib.hid (fun w1 => refGot_not (w1 := w1) (A := A) (n := n) (c := c) hc hE (by decide) hI)
  rw [hc] at HN
  obtain ⟨a, haa⟩ : ∃ a, a = s.at_ := ⟨_, rfl⟩
  have eV : refV A n c s Al cl = .agg #[.slice A n c, .int .i64 (a : Int), .slice Al 0 cl] := by rw [refV, ← haa, hc]
  rw [eV]
  rw [← haa] at ha HN
  have ha2 : (n : Int) ≤ a := by omega
  clear hI hc hE eV haa hn
  go_enter Tryd.func61, Tryd.ntmps61
  go_wp2
  refine bodyPost_ret (v := .tuple #[.agg #[.slice A n c, .int .i64 (a : Int), .slice Al 0 cl], .int .i64 0, .int .i64 3]) (by simp [results, Tryd.results61, go_sem]) rfl ?_
  exact HN.out _ (on_trans (on_alloc _ _) (on_alloc _ _))
end Go.Proofs.YthfpdebpepbejaaDoor

namespace Go.Proofs.YthfpdebpepbejaaDoor
open Go.RowKit

theorem digits8 (w : World) (z : Nat) (hz : z ≤ 255) : Calls Tryd.prog 46 #[.int .i64 (z : Int), .int .i64 8] w fun e w' => ∃ A c, e = .returned (.slice A 8 c) ∧ Il w' A 8 c (dig z 8) ∧ Below w.heap.size w w' :=
  digits_any w z 8 (by omega) (by omega)

theorem dig_byte {z : Nat} (hz : z ≤ 255) : dig z 8 = ((z / 128 : Nat) : Int) :: dig (z % 128) 7 := dig_head z 8 (by omega) (by show z < 256; omega)
/-- eight numbers don't lie in a block of three cells -/
theorem not_there {w : World} {b off c8 g : Nat} {t : TypeId} {v0 v1 v2 : Value} {xs : List Int} (hI : Il w (some ⟨b, off, none⟩) 8 c8 xs) (hb : Box w g t #[v0, v1, v2]) : b ≠ g := by
  intro e
  obtain ⟨b', off', e', _, hc⟩ := hI.at_ (by omega)
  cases e'
  have h7 := hc 7 (by omega)
  rw [e, hb.cell (off + 7)] at h7
  have := (Array.getElem?_eq_some_iff.1 h7).1
  simp at this
  omega

theorem Il.drew' {w : World} {A : Option Addr} {n c : Nat} {xs : List Int} (h : Il w A n c xs) : Il w.drew A n c xs := h.on (on_drew w)
theorem three_kept (w : World) (g : Nat) (y0 y1 y2 : Value) : Kept (fun i => i = g) w (((w.setCell ⟨g, 0, none⟩ y0).setCell ⟨g, 1, none⟩ y1).setCell ⟨g, 2, none⟩ y2) :=
  (((Kept.refl (fun i => i = g) w).setCell (p := ⟨g, 0, none⟩) (fun _ => rfl) _).setCell (p := ⟨g, 1, none⟩) (fun _ => rfl) _).setCell (p := ⟨g, 2, none⟩) (fun _ => rfl) _

/-- the answer where a byte is begun -/
theorem refGot_begun {w w2 w3 : World} {A : Option Addr} {n c b off c8 S : Nat} {l : List Int} {s : St} {z : Nat} (h0 : s.c = 0) (hE : beginE l s.at_ = 0) (hS : beginS l s.at_ = S) (hz : z = (l.getD s.at_ 0).toNat) (hz8 : z ≤ 255) (hI : Il w2 (some ⟨b, off, none⟩) 8 c8 (dig z 8)) (hb : Below w.heap.size w w3) (hk : Il w2 (some ⟨b, off + 1, none⟩) 7 (c8 - 1) (dig (z % 128) 7) → Il w3 (some ⟨b, off + 1, none⟩) 7 (c8 - 1) (dig (z % 128) 7)) {x : Int} (hx : x = ((s.at_ + S : Nat) : Int)) :
    RefGot w A n c (bitF l s) (.returned (.tuple #[.agg #[.slice A n c, .int .i64 x, .slice (some ⟨b, off + 1, none⟩) 7 (c8 - 1)], .int .i64 ((z / 128 : Nat) : Int), .int .i64 0])) w3 := by
  subst hx
  rw [bitF, if_neg (by omega), if_pos hE, hS, ← hz]
  have hd := hI
  have hcap := hI.cap
  rw [dig_head z 8 (by omega) (by show z < 256; omega)] at hd
  have h2 := (il_tail hd).1
  rw [if_neg (by omega)] at h2
  exact ⟨some ⟨b, off + 1, none⟩, c8 - 1, rfl, hk h2, hb⟩

set_option maxRecDepth 10000 in
set_option maxHeartbeats 1600000 in
theorem refBit_byte (w : World) (K : Nat → Prop) (ba oa n c : Nat) (l : List Int) (s : St) (Al : Option Addr) (cl : Nat) (h : Sl w K (some ⟨ba, oa, none⟩) n c l) (hc : s.c = 0) (ha : s.at_ < n) (hz : l.getD s.at_ 0 ≠ 255) (hn : n ≤ 5000) :
    Calls Tryd.prog 61 #[refV (some ⟨ba, oa, none⟩) n c s Al cl] w (RefGot w (some ⟨ba, oa, none⟩) n c (bitF l s)) := by
  have hlen := h.len
  have hE : beginE l s.at_ = 0 := by rw [beginE, if_pos (by omega), if_neg hz]
  have hS : beginS l s.at_ = 1 := by rw [beginS, if_neg hz]
  obtain ⟨b', o', e', hcz⟩ := h.get ha
  cases e'
  have lb : ba < w.heap.size := World.block_lt_of_cell? w ⟨ba, oa + s.at_, none⟩ hcz
  obtain ⟨a, haa⟩ : ∃ a, a = s.at_ := ⟨_, rfl⟩
  obtain ⟨z, hzz⟩ : ∃ z : Nat, z = (l.getD s.at_ 0).toNat := ⟨_, rfl⟩
  have hzi : l.getD s.at_ 0 = (z : Int) := by have := h.bts.fit.getD s.at_; omega
  have hz8 : z < 255 := by have := h.bts.fit.getD s.at_; omega
  have eV : refV (some ⟨ba, oa, none⟩) n c s Al cl = .agg #[.slice (some ⟨ba, oa, none⟩) n c, .int .i64 (a : Int), .slice Al 0 cl] := by rw [refV, ← haa, hc]
  rw [eV]
  obtain ⟨w1, hw1⟩ : ∃ w1, w1 = (w.alloc (.cells #[.slice (some ⟨ba, oa, none⟩) n c, .int .i64 (a : Int), .slice Al 0 cl] 61)).alloc (.cells #[.slice none 0 0, .int .i64 0, .slice none 0 0] 61) := ⟨_, rfl⟩
  obtain ⟨h1, h2, bel⟩ := two_made w _ _ hw1
  rw [hzi] at hcz
  rw [← haa] at hcz ha
  have hcz1 := (bel.cell (p := ⟨ba, oa + a, none⟩) lb).trans hcz
  have hcw : ((w.alloc (.cells #[.slice (some ⟨ba, oa, none⟩) n c, .int .i64 (a : Int), .slice Al 0 cl] 61)).alloc (.cells #[.slice none 0 0, .int .i64 0, .slice none 0 0] 61)).cell? ⟨ba, oa + a, none⟩ = some (.int .u8 (z : Int)) := by rw [← hw1]; exact hcz1
  obtain ⟨g1, hg1⟩ : ∃ g1, g1 = w.heap.size := ⟨_, rfl⟩
  rw [← hg1] at h1 h2
  have HH := Lib.hid (And.intro h1 (And.intro h2 (And.intro bel (And.intro hw1 (And.intro hg1 (And.intro hcz1 lb))))))
  have HE := Lib.hid (And.intro hc (And.intro hE (And.intro hS (And.intro haa hzz))))
  have ha2 : (a : Int) < n := by omega
  clear h hlen hE hS hcz hzz hzi hz eV h1 h2 bel hw1 hg1 hc hcz1 lb haa
  go_enter Tryd.func61, Tryd.ntmps61
  go_wp2_with fail
  rw [← HH.out.2.2.2.1, ← HH.out.2.2.2.2.1]
  clear hcw
  refine (digits8 w1 z (by omega)).mono ?_
  rintro e w2 ⟨A8, c8, rfl, hI8, b2⟩
  obtain ⟨b, off, rfl, hb8, hc8⟩ := hI8.at_ (by omega)
  have hx8 : w2.cell? ⟨b, off, none⟩ = some (.int .i64 ((z / 128 : Nat) : Int)) := by
    have hd := hI8
    rw [dig_byte (by omega)] at hd
    exact (il_tail hd).2
  obtain ⟨x, hx⟩ : ∃ x, x = z / 128 := ⟨_, rfl⟩
  rw [← hx] at hx8
  have hcap8 := hI8.cap
  have hmx8 := hI8.max
  unfold maxLen at hmx8
  have k1 := HH.out.1.on b2
  have k2 := HH.out.2.1.on b2
  have hbg : b ≠ g1 + 1 := not_there hI8 k2
  have kz : w2.cell? ⟨ba, oa + a, none⟩ = some (.int .u8 (z : Int)) := (b2.cell (p := ⟨ba, oa + a, none⟩) (Nat.lt_of_lt_of_le HH.out.2.2.2.2.2.2 HH.out.2.2.1.size)).trans HH.out.2.2.2.2.2.1
  have q0 : w2.cell? ⟨g1, 0, none⟩ = some (.slice (some ⟨ba, oa, none⟩) n c) := k1.cell 0
  have q1 : w2.cell? ⟨g1, 1, none⟩ = some (.int .i64 (a : Int)) := k1.cell 1
  have q2 : w2.cell? ⟨g1, 2, none⟩ = some (.slice Al 0 cl) := k1.cell 2
  have f0 : w2.frozen? ⟨g1 + 1, 0, none⟩ = false := k2.free 0
  have f1 : w2.frozen? ⟨g1 + 1, 1, none⟩ = false := k2.free 1
  have f2 : w2.frozen? ⟨g1 + 1, 2, none⟩ = false := k2.free 2
  have e0 : w2.cell? ⟨g1 + 1, 0, none⟩ = some (.slice none 0 0) := k2.cell 0
  have e1 : w2.cell? ⟨g1 + 1, 1, none⟩ = some (.int .i64 0) := k2.cell 1
  have e2 : w2.cell? ⟨g1 + 1, 2, none⟩ = some (.slice none 0 0) := k2.cell 2
  have K1 := Lib.hid (show (w2.drew.cell? ⟨g1, 0, none⟩ = some (.slice (some ⟨ba, oa, none⟩) n c) ∧ w2.drew.cell? ⟨g1, 1, none⟩ = some (.int .i64 (a : Int)) ∧ w2.drew.cell? ⟨g1, 2, none⟩ = some (.slice Al 0 cl)) ∧ w2.drew.cell? ⟨b, off, none⟩ = some (.int .i64 (x : Int)) from ⟨⟨q0, q1, q2⟩, hx8⟩)
  have H2 := Lib.hid (And.intro hI8 (And.intro (on_trans HH.out.2.2.1 b2) hx))
  have HF := Lib.hid (And.intro f0 (And.intro f1 (And.intro f2 (And.intro e0 (And.intro e1 e2)))))
  have c1 : 1 ≤ c8 := by omega
  have hc81 : ¬ (c8 : Int) = 1 := by omega
  have hc82 : ¬ c8 = 1 := by omega
  clear hI8 b2 hx k1 k2 hb8 hc8
  go_wp2_with fail
  clear q0 q1 q2 kz
  go_region_held (fun w' => (w'.cell? ⟨g1, 0, none⟩ = some (.slice (some ⟨ba, oa, none⟩) n c) ∧ w'.cell? ⟨g1, 1, none⟩ = some (.int .i64 (a : Int)) ∧ w'.cell? ⟨g1, 2, none⟩ = some (.slice Al 0 cl)) ∧ w'.cell? ⟨b, off, none⟩ = some (.int .i64 (x : Int)))
    (first | exact K1.out | exact keepS K1.out (by omega) hbg _ _ _) (fail)
  all_goals
    (go_wp2
     refine bodyPost_ret (v := .tuple #[.agg #[.slice (some ⟨ba, oa, none⟩) n c, .int .i64 (IntKind.i64.wrap ((a : Int) + 1)), .slice (some ⟨b, off + 1, none⟩) 7 (c8 - 1)], .int .i64 (x : Int), .int .i64 0]) (by simp [results, Tryd.results61, go_sem, e0, e1, e2]) rfl ?_
     rw [H2.out.2.2]
     exact refGot_begun (w2 := w2) (S := 1) HE.out.1 HE.out.2.1 HE.out.2.2.1 HE.out.2.2.2.2 (by omega) H2.out.1 ((threeSet H2.out.2.1 (by have := HH.out.2.2.2.2.1; omega) _ _ _).drew) (fun h => (h.kept (three_kept w2 (g1 + 1) _ _ _) (fun b' off' e => by cases e; exact hbg)).drew') (by rw [wrap_small (by omega) (by omega), ← HE.out.2.2.2.1]; omega))
end Go.Proofs.YthfpdebpepbejaaDoor

namespace Go.Proofs.YthfpdebpepbejaaDoor
open Go.RowKit

set_option maxRecDepth 10000 in
set_option maxHeartbeats 1600000 in
theorem refBit_two (w : World) (K : Nat → Prop) (ba oa n c : Nat) (l : List Int) (s : St) (Al : Option Addr) (cl : Nat) (h : Sl w K (some ⟨ba, oa, none⟩) n c l) (hc : s.c = 0) (ha1 : s.at_ + 1 < n) (hz : l.getD s.at_ 0 = 255) (hz1 : l.getD (s.at_ + 1) 0 = 0) (hn : n ≤ 5000) :
    Calls Tryd.prog 61 #[refV (some ⟨ba, oa, none⟩) n c s Al cl] w (RefGot w (some ⟨ba, oa, none⟩) n c (bitF l s)) := by
  have hlen := h.len
  have ha : s.at_ < n := by omega
  have hE : beginE l s.at_ = 0 := by rw [beginE, if_pos (by omega), if_pos hz, if_pos (by omega), if_pos hz1]
  have hS : beginS l s.at_ = 2 := by rw [beginS, if_pos hz]
  obtain ⟨b', o', e', hcz⟩ := h.get ha
  cases e'
  obtain ⟨b'', o'', e'', hcy⟩ := h.get ha1
  cases e''
  rw [hz1] at hcy
  have lb : ba < w.heap.size := World.block_lt_of_cell? w ⟨ba, oa + s.at_, none⟩ hcz
  obtain ⟨a, haa⟩ : ∃ a, a = s.at_ := ⟨_, rfl⟩
  obtain ⟨z, hzz⟩ : ∃ z : Nat, z = (l.getD s.at_ 0).toNat := ⟨_, rfl⟩
  have hzi : l.getD s.at_ 0 = (z : Int) := by have := h.bts.fit.getD s.at_; omega
  have hz8 : z = 255 := by omega
  have hz9 : 255 ≤ z := by omega
  have hz10 : z ≤ 255 := by omega
  clear hz8
  have eV : refV (some ⟨ba, oa, none⟩) n c s Al cl = .agg #[.slice (some ⟨ba, oa, none⟩) n c, .int .i64 (a : Int), .slice Al 0 cl] := by rw [refV, ← haa, hc]
  rw [eV]
  obtain ⟨w1, hw1⟩ : ∃ w1, w1 = (w.alloc (.cells #[.slice (some ⟨ba, oa, none⟩) n c, .int .i64 (a : Int), .slice Al 0 cl] 61)).alloc (.cells #[.slice none 0 0, .int .i64 0, .slice none 0 0] 61) := ⟨_, rfl⟩
  obtain ⟨h1, h2, bel⟩ := two_made w _ _ hw1
  rw [hzi] at hcz
  rw [← haa] at hcz ha hcy ha1
  obtain ⟨t, ht⟩ : ∃ t, t = a + 1 := ⟨_, rfl⟩
  rw [← ht] at hcy ha1
  have hcy1 := (bel.cell (p := ⟨ba, oa + t, none⟩) lb).trans hcy
  have ht1 : (a : Int) + 1 = (t : Int) := by omega
  have ht3 : ¬ (n : Int) ≤ t := by omega
  have hcz1 := (bel.cell (p := ⟨ba, oa + a, none⟩) lb).trans hcz
  have hcw : ((w.alloc (.cells #[.slice (some ⟨ba, oa, none⟩) n c, .int .i64 (a : Int), .slice Al 0 cl] 61)).alloc (.cells #[.slice none 0 0, .int .i64 0, .slice none 0 0] 61)).cell? ⟨ba, oa + a, none⟩ = some (.int .u8 (z : Int)) := by rw [← hw1]; exact hcz1
  obtain ⟨g1, hg1⟩ : ∃ g1, g1 = w.heap.size := ⟨_, rfl⟩
  rw [← hg1] at h1 h2
  have HH := Lib.hid (And.intro h1 (And.intro h2 (And.intro bel (And.intro hw1 (And.intro hg1 (And.intro hcz1 (And.intro lb hcy1)))))))
  have HE := Lib.hid (And.intro hc (And.intro hE (And.intro hS (And.intro haa hzz))))
  have ha2 : (a : Int) < n := by omega
  clear h hlen hE hS hcz hzz hzi hz eV h1 h2 bel hw1 hg1 hc hcz1 lb haa hcy hcy1 ht hz1
  go_enter Tryd.func61, Tryd.ntmps61
  go_wp2_with fail
  rw [← HH.out.2.2.2.1, ← HH.out.2.2.2.2.1]
  clear hcw
  refine (digits8 w1 z (by omega)).mono ?_
  rintro e w2 ⟨A8, c8, rfl, hI8, b2⟩
  obtain ⟨b, off, rfl, hb8, hc8⟩ := hI8.at_ (by omega)
  have hx8 : w2.cell? ⟨b, off, none⟩ = some (.int .i64 ((z / 128 : Nat) : Int)) := by
    have hd := hI8
    rw [dig_byte (by omega)] at hd
    exact (il_tail hd).2
  obtain ⟨x, hx⟩ : ∃ x, x = z / 128 := ⟨_, rfl⟩
  rw [← hx] at hx8
  have hcap8 := hI8.cap
  have hmx8 := hI8.max
  unfold maxLen at hmx8
  have k1 := HH.out.1.on b2
  have k2 := HH.out.2.1.on b2
  have hbg : b ≠ g1 + 1 := not_there hI8 k2
  have kz : w2.cell? ⟨ba, oa + a, none⟩ = some (.int .u8 (z : Int)) := (b2.cell (p := ⟨ba, oa + a, none⟩) (Nat.lt_of_lt_of_le HH.out.2.2.2.2.2.2.1 HH.out.2.2.1.size)).trans HH.out.2.2.2.2.2.1
  have ky : w2.cell? ⟨ba, oa + t, none⟩ = some (.int .u8 0) := (b2.cell (p := ⟨ba, oa + t, none⟩) (Nat.lt_of_lt_of_le HH.out.2.2.2.2.2.2.1 HH.out.2.2.1.size)).trans HH.out.2.2.2.2.2.2.2
  have q0 : w2.cell? ⟨g1, 0, none⟩ = some (.slice (some ⟨ba, oa, none⟩) n c) := k1.cell 0
  have q1 : w2.cell? ⟨g1, 1, none⟩ = some (.int .i64 (a : Int)) := k1.cell 1
  have q2 : w2.cell? ⟨g1, 2, none⟩ = some (.slice Al 0 cl) := k1.cell 2
  have f0 : w2.frozen? ⟨g1 + 1, 0, none⟩ = false := k2.free 0
  have f1 : w2.frozen? ⟨g1 + 1, 1, none⟩ = false := k2.free 1
  have f2 : w2.frozen? ⟨g1 + 1, 2, none⟩ = false := k2.free 2
  have e0 : w2.cell? ⟨g1 + 1, 0, none⟩ = some (.slice none 0 0) := k2.cell 0
  have e1 : w2.cell? ⟨g1 + 1, 1, none⟩ = some (.int .i64 0) := k2.cell 1
  have e2 : w2.cell? ⟨g1 + 1, 2, none⟩ = some (.slice none 0 0) := k2.cell 2
  have K1 := Lib.hid (show (w2.drew.cell? ⟨g1, 0, none⟩ = some (.slice (some ⟨ba, oa, none⟩) n c) ∧ w2.drew.cell? ⟨g1, 1, none⟩ = some (.int .i64 (a : Int)) ∧ w2.drew.cell? ⟨g1, 2, none⟩ = some (.slice Al 0 cl)) ∧ w2.drew.cell? ⟨b, off, none⟩ = some (.int .i64 (x : Int)) from ⟨⟨q0, q1, q2⟩, hx8⟩)
  have H2 := Lib.hid (And.intro hI8 (And.intro (on_trans HH.out.2.2.1 b2) hx))
  have HF := Lib.hid (And.intro f0 (And.intro f1 (And.intro f2 (And.intro e0 (And.intro e1 e2)))))
  have c1 : 1 ≤ c8 := by omega
  have hc81 : ¬ (c8 : Int) = 1 := by omega
  have hc82 : ¬ c8 = 1 := by omega
  clear hI8 b2 hx k1 k2 hb8 hc8
  go_wp2_with fail
  clear q0 q1 q2 kz ky
  go_region_held (fun w' => (w'.cell? ⟨g1, 0, none⟩ = some (.slice (some ⟨ba, oa, none⟩) n c) ∧ w'.cell? ⟨g1, 1, none⟩ = some (.int .i64 (a : Int)) ∧ w'.cell? ⟨g1, 2, none⟩ = some (.slice Al 0 cl)) ∧ w'.cell? ⟨b, off, none⟩ = some (.int .i64 (x : Int)))
    (first | exact K1.out | exact keepS K1.out (by omega) hbg _ _ _) (fail)
  all_goals
    (go_wp2
     refine bodyPost_ret (v := .tuple #[.agg #[.slice (some ⟨ba, oa, none⟩) n c, .int .i64 (IntKind.i64.wrap ((a : Int) + 2)), .slice (some ⟨b, off + 1, none⟩) 7 (c8 - 1)], .int .i64 (x : Int), .int .i64 0]) (by simp [results, Tryd.results61, go_sem, e0, e1, e2]) rfl ?_
     rw [H2.out.2.2]
     exact refGot_begun (w2 := w2) (S := 2) HE.out.1 HE.out.2.1 HE.out.2.2.1 HE.out.2.2.2.2 (by omega) H2.out.1 ((threeSet H2.out.2.1 (by have := HH.out.2.2.2.2.1; omega) _ _ _).drew) (fun h => (h.kept (three_kept w2 (g1 + 1) _ _ _) (fun b' off' e => by cases e; exact hbg)).drew') (by rw [wrap_small (by omega) (by omega), ← HE.out.2.2.2.1]; omega))

set_option maxRecDepth 10000 in
set_option maxHeartbeats 1600000 in
theorem refBit_last (w : World) (K : Nat → Prop) (ba oa n c : Nat) (l : List Int) (s : St) (Al : Option Addr) (cl : Nat) (h : Sl w K (some ⟨ba, oa, none⟩) n c l) (hI : Il w Al s.c cl (dig s.v s.c)) (hc : s.c = 0) (ha : s.at_ < n) (ha1 : n ≤ s.at_ + 1) (hz : l.getD s.at_ 0 = 255) (hn : n ≤ 5000) :
    Calls Tryd.prog 61 #[refV (some ⟨ba, oa, none⟩) n c s Al cl] w (RefGot w (some ⟨ba, oa, none⟩) n c (bitF l s)) := by
  have hlen := h.len
  have hE : beginE l s.at_ = 3 := by rw [beginE, if_pos (by omega), if_pos hz, if_neg (by omega)]
  obtain ⟨b', o', e', hcz⟩ := h.get ha
  cases e'
  have lb : ba < w.heap.size := World.block_lt_of_cell? w ⟨ba, oa + s.at_, none⟩ hcz
  have HN := Lib.hid (fun w1 => refGot_not (w1 := w1) (A := some ⟨ba, oa, none⟩) (n := n) (c := c) hc hE (by decide) hI)
  rw [hc] at HN
  obtain ⟨a, haa⟩ : ∃ a, a = s.at_ := ⟨_, rfl⟩
  rw [← haa] at HN
  obtain ⟨z, hzz⟩ : ∃ z : Nat, z = (l.getD s.at_ 0).toNat := ⟨_, rfl⟩
  have hzi : l.getD s.at_ 0 = (z : Int) := by have := h.bts.fit.getD s.at_; omega
  have hz8 : z = 255 := by omega
  have hz9 : 255 ≤ z := by omega
  have hz10 : z ≤ 255 := by omega
  clear hz8
  have eV : refV (some ⟨ba, oa, none⟩) n c s Al cl = .agg #[.slice (some ⟨ba, oa, none⟩) n c, .int .i64 (a : Int), .slice Al 0 cl] := by rw [refV, ← haa, hc]
  rw [eV]
  obtain ⟨w1, hw1⟩ : ∃ w1, w1 = (w.alloc (.cells #[.slice (some ⟨ba, oa, none⟩) n c, .int .i64 (a : Int), .slice Al 0 cl] 61)).alloc (.cells #[.slice none 0 0, .int .i64 0, .slice none 0 0] 61) := ⟨_, rfl⟩
  obtain ⟨h1, h2, bel⟩ := two_made w _ _ hw1
  rw [hzi] at hcz
  rw [← haa] at hcz ha ha1
  obtain ⟨t, ht⟩ : ∃ t, t = a + 1 := ⟨_, rfl⟩
  have ht1 : (a : Int) + 1 = (t : Int) := by omega
  have ht3 : (n : Int) ≤ t := by omega
  have hcz1 := (bel.cell (p := ⟨ba, oa + a, none⟩) lb).trans hcz
  have hcw : ((w.alloc (.cells #[.slice (some ⟨ba, oa, none⟩) n c, .int .i64 (a : Int), .slice Al 0 cl] 61)).alloc (.cells #[.slice none 0 0, .int .i64 0, .slice none 0 0] 61)).cell? ⟨ba, oa + a, none⟩ = some (.int .u8 (z : Int)) := by rw [← hw1]; exact hcz1
  obtain ⟨g1, hg1⟩ : ∃ g1, g1 = w.heap.size := ⟨_, rfl⟩
  rw [← hg1] at h1 h2
  have HH := Lib.hid (And.intro h1 (And.intro h2 (And.intro bel (And.intro hw1 (And.intro hg1 (And.intro hcz1 (And.intro lb trivial)))))))
  have ha2 : (a : Int) < n := by omega
  clear h hI hlen hE hcz hzz hzi hz eV h1 h2 bel hw1 hg1 hc hcz1 lb haa ht ha1
  go_enter Tryd.func61, Tryd.ntmps61
  go_wp2_with fail
  rw [← HH.out.2.2.2.1, ← HH.out.2.2.2.2.1]
  clear hcw
  refine (digits8 w1 z (by omega)).mono ?_
  rintro e w2 ⟨A8, c8, rfl, hI8, b2⟩
  obtain ⟨b, off, rfl, hb8, hc8⟩ := hI8.at_ (by omega)
  have k1 := HH.out.1.on b2
  have k2 := HH.out.2.1.on b2
  have kz : w2.cell? ⟨ba, oa + a, none⟩ = some (.int .u8 (z : Int)) := (b2.cell (p := ⟨ba, oa + a, none⟩) (Nat.lt_of_lt_of_le HH.out.2.2.2.2.2.2.1 HH.out.2.2.1.size)).trans HH.out.2.2.2.2.2.1
  have q0 : w2.cell? ⟨g1, 0, none⟩ = some (.slice (some ⟨ba, oa, none⟩) n c) := k1.cell 0
  have q1 : w2.cell? ⟨g1, 1, none⟩ = some (.int .i64 (a : Int)) := k1.cell 1
  have q2 : w2.cell? ⟨g1, 2, none⟩ = some (.slice Al 0 cl) := k1.cell 2
  have f0 : w2.frozen? ⟨g1 + 1, 0, none⟩ = false := k2.free 0
  have f1 : w2.frozen? ⟨g1 + 1, 1, none⟩ = false := k2.free 1
  have f2 : w2.frozen? ⟨g1 + 1, 2, none⟩ = false := k2.free 2
  have e0 : w2.cell? ⟨g1 + 1, 0, none⟩ = some (.slice none 0 0) := k2.cell 0
  have e1 : w2.cell? ⟨g1 + 1, 1, none⟩ = some (.int .i64 0) := k2.cell 1
  have e2 : w2.cell? ⟨g1 + 1, 2, none⟩ = some (.slice none 0 0) := k2.cell 2
  have H2 := Lib.hid (on_trans HH.out.2.2.1 b2)
  clear hI8 b2 k1 k2 hb8 hc8
  go_wp2
  refine bodyPost_ret (v := .tuple #[.agg #[.slice (some ⟨ba, oa, none⟩) n c, .int .i64 (a : Int), .slice Al 0 cl], .int .i64 0, .int .i64 3]) (by simp [results, Tryd.results61, go_sem, e0, e1, e2]) rfl ?_
  exact HN.out _ (threeSet H2.out (by have := HH.out.2.2.2.2.1; omega) _ _ _)

set_option maxRecDepth 10000 in
set_option maxHeartbeats 1600000 in
theorem refBit_mark (w : World) (K : Nat → Prop) (ba oa n c : Nat) (l : List Int) (s : St) (Al : Option Addr) (cl : Nat) (h : Sl w K (some ⟨ba, oa, none⟩) n c l) (hI : Il w Al s.c cl (dig s.v s.c)) (hc : s.c = 0) (ha1 : s.at_ + 1 < n) (hz : l.getD s.at_ 0 = 255) (hz1 : l.getD (s.at_ + 1) 0 ≠ 0) (hn : n ≤ 5000) :
    Calls Tryd.prog 61 #[refV (some ⟨ba, oa, none⟩) n c s Al cl] w (RefGot w (some ⟨ba, oa, none⟩) n c (bitF l s)) := by
  have hlen := h.len
  have ha : s.at_ < n := by omega
  have hE : beginE l s.at_ = 7 := by rw [beginE, if_pos (by omega), if_pos hz, if_pos (by omega), if_neg hz1]
  obtain ⟨b', o', e', hcz⟩ := h.get ha
  cases e'
  obtain ⟨b'', o'', e'', hcy⟩ := h.get ha1
  cases e''
  obtain ⟨y, hy⟩ : ∃ y, y = l.getD (s.at_ + 1) 0 := ⟨_, rfl⟩
  have hy0 : 0 < y := by have := h.bts.fit.getD (s.at_ + 1); omega
  rw [← hy] at hcy
  have lb : ba < w.heap.size := World.block_lt_of_cell? w ⟨ba, oa + s.at_, none⟩ hcz
  have HN := Lib.hid (fun w1 => refGot_not (w1 := w1) (A := some ⟨ba, oa, none⟩) (n := n) (c := c) hc hE (by decide) hI)
  rw [hc] at HN
  obtain ⟨a, haa⟩ : ∃ a, a = s.at_ := ⟨_, rfl⟩
  rw [← haa] at HN
  obtain ⟨z, hzz⟩ : ∃ z : Nat, z = (l.getD s.at_ 0).toNat := ⟨_, rfl⟩
  have hzi : l.getD s.at_ 0 = (z : Int) := by have := h.bts.fit.getD s.at_; omega
  have hz8 : z = 255 := by omega
  have hz9 : 255 ≤ z := by omega
  have hz10 : z ≤ 255 := by omega
  clear hz8
  have eV : refV (some ⟨ba, oa, none⟩) n c s Al cl = .agg #[.slice (some ⟨ba, oa, none⟩) n c, .int .i64 (a : Int), .slice Al 0 cl] := by rw [refV, ← haa, hc]
  rw [eV]
  obtain ⟨w1, hw1⟩ : ∃ w1, w1 = (w.alloc (.cells #[.slice (some ⟨ba, oa, none⟩) n c, .int .i64 (a : Int), .slice Al 0 cl] 61)).alloc (.cells #[.slice none 0 0, .int .i64 0, .slice none 0 0] 61) := ⟨_, rfl⟩
  obtain ⟨h1, h2, bel⟩ := two_made w _ _ hw1
  rw [hzi] at hcz
  rw [← haa] at hcz ha hcy ha1
  obtain ⟨t, ht⟩ : ∃ t, t = a + 1 := ⟨_, rfl⟩
  rw [← ht] at hcy ha1
  have hcy1 := (bel.cell (p := ⟨ba, oa + t, none⟩) lb).trans hcy
  have ht1 : (a : Int) + 1 = (t : Int) := by omega
  have ht3 : ¬ (n : Int) ≤ t := by omega
  have hcz1 := (bel.cell (p := ⟨ba, oa + a, none⟩) lb).trans hcz
  have hcw : ((w.alloc (.cells #[.slice (some ⟨ba, oa, none⟩) n c, .int .i64 (a : Int), .slice Al 0 cl] 61)).alloc (.cells #[.slice none 0 0, .int .i64 0, .slice none 0 0] 61)).cell? ⟨ba, oa + a, none⟩ = some (.int .u8 (z : Int)) := by rw [← hw1]; exact hcz1
  obtain ⟨g1, hg1⟩ : ∃ g1, g1 = w.heap.size := ⟨_, rfl⟩
  rw [← hg1] at h1 h2
  have HH := Lib.hid (And.intro h1 (And.intro h2 (And.intro bel (And.intro hw1 (And.intro hg1 (And.intro hcz1 (And.intro lb hcy1)))))))
  have ha2 : (a : Int) < n := by omega
  clear h hI hlen hE hcz hzz hzi hz eV h1 h2 bel hw1 hg1 hc hcz1 lb haa hcy hcy1 ht hz1 hy
  go_enter Tryd.func61, Tryd.ntmps61
  go_wp2_with fail
  rw [← HH.out.2.2.2.1, ← HH.out.2.2.2.2.1]
  clear hcw
  refine (digits8 w1 z (by omega)).mono ?_
  rintro e w2 ⟨A8, c8, rfl, hI8, b2⟩
  obtain ⟨b, off, rfl, hb8, hc8⟩ := hI8.at_ (by omega)
  have k1 := HH.out.1.on b2
  have k2 := HH.out.2.1.on b2
  have kz : w2.cell? ⟨ba, oa + a, none⟩ = some (.int .u8 (z : Int)) := (b2.cell (p := ⟨ba, oa + a, none⟩) (Nat.lt_of_lt_of_le HH.out.2.2.2.2.2.2.1 HH.out.2.2.1.size)).trans HH.out.2.2.2.2.2.1
  have ky : w2.cell? ⟨ba, oa + t, none⟩ = some (.int .u8 y) := (b2.cell (p := ⟨ba, oa + t, none⟩) (Nat.lt_of_lt_of_le HH.out.2.2.2.2.2.2.1 HH.out.2.2.1.size)).trans HH.out.2.2.2.2.2.2.2
  have q0 : w2.cell? ⟨g1, 0, none⟩ = some (.slice (some ⟨ba, oa, none⟩) n c) := k1.cell 0
  have q1 : w2.cell? ⟨g1, 1, none⟩ = some (.int .i64 (a : Int)) := k1.cell 1
  have q2 : w2.cell? ⟨g1, 2, none⟩ = some (.slice Al 0 cl) := k1.cell 2
  have f0 : w2.frozen? ⟨g1 + 1, 0, none⟩ = false := k2.free 0
  have f1 : w2.frozen? ⟨g1 + 1, 1, none⟩ = false := k2.free 1
  have f2 : w2.frozen? ⟨g1 + 1, 2, none⟩ = false := k2.free 2
  have e0 : w2.cell? ⟨g1 + 1, 0, none⟩ = some (.slice none 0 0) := k2.cell 0
  have e1 : w2.cell? ⟨g1 + 1, 1, none⟩ = some (.int .i64 0) := k2.cell 1
  have e2 : w2.cell? ⟨g1 + 1, 2, none⟩ = some (.slice none 0 0) := k2.cell 2
  have H2 := Lib.hid (on_trans HH.out.2.2.1 b2)
  clear hI8 b2 k1 k2 hb8 hc8
  go_wp2
  refine bodyPost_ret (v := .tuple #[.agg #[.slice (some ⟨ba, oa, none⟩) n c, .int .i64 (a : Int), .slice Al 0 cl], .int .i64 0, .int .i64 7]) (by simp [results, Tryd.results61, go_sem, e0, e1, e2]) rfl ?_
  exact HN.out _ (threeSet H2.out (by have := HH.out.2.2.2.2.1; omega) _ _ _)

theorem refBit_any (w : World) (K : Nat → Prop) (A : Option Addr) (n c : Nat) (l : List Int) (s : St) (Al : Option Addr) (cl : Nat) (h : Sl w K A n c l) (hI : Il w Al s.c cl (dig s.v s.c)) (hok : s.ok l.length) (hn : n ≤ 5000) :
    Calls Tryd.prog 61 #[refV A n c s Al cl] w (RefGot w A n c (bitF l s)) := by
  have hlen := h.len
  by_cases hc : 0 < s.c
  · obtain ⟨b, off, rfl, _⟩ := hI.at_ hc
    exact refBit_left w A n c l s b off cl hI hc hok.v
  have hc0 : s.c = 0 := by omega
  by_cases ha : n ≤ s.at_
  · exact refBit_over w A n c l s Al cl hI hc0 hlen ha
  obtain ⟨ba, oa, rfl, _⟩ := h.get (show s.at_ < n by omega)
  by_cases hz : l.getD s.at_ 0 = 255
  · by_cases ha1 : n ≤ s.at_ + 1
    · exact refBit_last w K ba oa n c l s Al cl h hI hc0 (by omega) ha1 hz hn
    by_cases hz1 : l.getD (s.at_ + 1) 0 = 0
    · exact refBit_two w K ba oa n c l s Al cl h hc0 (by omega) hz hz1 hn
    · exact refBit_mark w K ba oa n c l s Al cl h hI hc0 (by omega) hz hz1 hn
  · exact refBit_byte w K ba oa n c l s Al cl h hc0 (by omega) hz hn
end Go.Proofs.YthfpdebpepbejaaDoor
