/-
  The contracts of the reference's reader.
-/
import Derived.Test.YtgnkbopnkllgaaaReadMath
import Derived.Test.YtgnkbopnkllgaaaRefPut
import Derived.Deep.RegionHeld
namespace Go.Proofs.Ytgnkbopnkllgaaa
open Go.RowKit

/-- a reader of the reference, as a value -/
def refV (A : Option Addr) (n c : Nat) (s : St) (Al : Option Addr) (cl : Nat) : Value := .agg #[.slice A n c, .int .i64 (s.at_ : Int), .slice Al s.c cl]
/-- what the reference's calls tell -/
def RefGot (w : World) (A : Option Addr) (n c : Nat) (R : St × Nat × Int) (e : Ending) (w' : World) : Prop :=
  ∃ Al cl, e = .returned (.tuple #[refV A n c R.1 Al cl, .int .i64 (R.2.1 : Int), .int .i64 R.2.2]) ∧ Il w' Al R.1.c cl (dig R.1.v R.1.c) ∧ Below w.heap.size w w'

theorem threeSet {B : Nat} {w w1 : World} (h : Below B w w1) {g : Nat} (hg : B ≤ g) (x0 x1 x2 : Value) : Below B w (((w1.setCell ⟨g, 0, none⟩ x0).setCell ⟨g, 1, none⟩ x1).setCell ⟨g, 2, none⟩ x2) :=
  ((h.setCell (p := ⟨g, 0, none⟩) hg _).setCell (p := ⟨g, 1, none⟩) hg _).setCell (p := ⟨g, 2, none⟩) hg _

theorem dig_head (v c : Nat) (hc : 0 < c) (hv : v < 2 ^ c) : dig v c = ((v / 2 ^ (c - 1) : Nat) : Int) :: dig (v % 2 ^ (c - 1)) (c - 1) := by
  obtain ⟨d, rfl⟩ : ∃ d, c = d + 1 := ⟨c - 1, by omega⟩
  rw [Nat.add_sub_cancel, Nat.add_comm d 1, dig_cut]
  have : v / 2 ^ d < 2 := by
    rw [Nat.div_lt_iff_lt_mul (pow_pos' _), ← Nat.pow_succ']
    exact hv
  show ([] ++ [((v / 2 ^ d % 2 : Nat) : Int)]) ++ _ = _
  rw [List.nil_append, Nat.mod_eq_of_lt this]
  rfl

/-- a slice of numbers without its first one -/
theorem il_tail {w : World} {b off n c : Nat} {x : Int} {xs : List Int} (h : Il w (some ⟨b, off, none⟩) (n + 1) c (x :: xs)) : Il w (some ⟨b, if c = 1 then off else off + 1, none⟩) n (c - 1) xs ∧ w.cell? ⟨b, off, none⟩ = some (.int .i64 x) := by
  obtain ⟨b', off', e, hb, hc⟩ := h.at_ (by omega)
  cases e
  have h0 := hc 0 (by omega)
  rw [Nat.add_zero] at h0
  refine ⟨⟨by have := h.len; simpa using this, by have := h.cap; omega, by have := h.max; omega, (fun e => by cases e), (fun b2 off2 e => by cases e; exact h.typ _ _ rfl), fun hn => ⟨b, _, rfl, hb, fun i hi => ?_⟩⟩, h0⟩
  have := h.cap
  rw [if_neg (by omega), show off + 1 + i = off + (i + 1) by omega, hc (i + 1) (by omega)]
  simp

/-- a struct of three cells stored into a block beside -/
theorem keepS {W : World} {g1 g2 b off : Nat} {v0 v1 v2 v3 : Value} (h : (W.cell? ⟨g1, 0, none⟩ = some v0 ∧ W.cell? ⟨g1, 1, none⟩ = some v1 ∧ W.cell? ⟨g1, 2, none⟩ = some v2) ∧ W.cell? ⟨b, off, none⟩ = some v3) (hg : g1 ≠ g2) (hb : b ≠ g2) (y0 y1 y2 : Value) :
    ((((W.setCell ⟨g2, 0, none⟩ y0).setCell ⟨g2, 1, none⟩ y1).setCell ⟨g2, 2, none⟩ y2).cell? ⟨g1, 0, none⟩ = some v0 ∧ (((W.setCell ⟨g2, 0, none⟩ y0).setCell ⟨g2, 1, none⟩ y1).setCell ⟨g2, 2, none⟩ y2).cell? ⟨g1, 1, none⟩ = some v1 ∧ (((W.setCell ⟨g2, 0, none⟩ y0).setCell ⟨g2, 1, none⟩ y1).setCell ⟨g2, 2, none⟩ y2).cell? ⟨g1, 2, none⟩ = some v2) ∧ (((W.setCell ⟨g2, 0, none⟩ y0).setCell ⟨g2, 1, none⟩ y1).setCell ⟨g2, 2, none⟩ y2).cell? ⟨b, off, none⟩ = some v3 := by
  have key : ∀ p : Addr, p.block ≠ g2 → (((W.setCell ⟨g2, 0, none⟩ y0).setCell ⟨g2, 1, none⟩ y1).setCell ⟨g2, 2, none⟩ y2).cell? p = W.cell? p := fun p hp =>
    ((World.cell?_setCell_other _ ⟨g2, 2, none⟩ p y2 (fun e => hp (congrArg Addr.block e).symm)).trans (World.cell?_setCell_other _ ⟨g2, 1, none⟩ p y1 (fun e => hp (congrArg Addr.block e).symm))).trans (World.cell?_setCell_other _ ⟨g2, 0, none⟩ p y0 (fun e => hp (congrArg Addr.block e).symm))
  exact ⟨⟨(key _ hg).trans h.1.1, (key _ hg).trans h.1.2.1, (key _ hg).trans h.1.2.2⟩, (key _ hb).trans h.2⟩

/-- two blocks, one behind the other -/
theorem two_made (w : World) (xs ys : Array Value) {w1 : World} (h : w1 = (w.alloc (.cells xs 48)).alloc (.cells ys 48)) : Box w1 w.heap.size 48 xs ∧ Box w1 (w.heap.size + 1) 48 ys ∧ Below w.heap.size w w1 := by
  subst h
  have h1 := Box.made (w.alloc (.cells xs 48)) 48 ys
  simp only [World.size_alloc] at h1
  exact ⟨(Box.made w 48 _).alloc _, h1, on_trans (on_alloc _ _) (on_alloc _ _)⟩

set_option maxHeartbeats 800000 in
theorem refBit_left (w : World) (A : Option Addr) (n c : Nat) (l : List Int) (s : St) (b off cl : Nat) (hI : Il w (some ⟨b, off, none⟩) s.c cl (dig s.v s.c)) (hc : 0 < s.c) (hv : s.v < 2 ^ s.c) :
    Calls Try.prog 32 #[refV A n c s (some ⟨b, off, none⟩) cl] w (RefGot w A n c (bitF l s)) := by
  rw [bitF_full hc]
  have hI2 := hI
  rw [dig_head s.v s.c hc hv] at hI2
  obtain ⟨k, hk⟩ : ∃ k, s.c = k + 1 := ⟨s.c - 1, by omega⟩
  have hcap := hI.cap
  have hmx := hI.max
  unfold maxLen at hmx
  rw [hk] at hcap
  rw [hk, Nat.add_sub_cancel] at hI2 ⊢
  obtain ⟨hT, h0⟩ := il_tail hI2
  obtain ⟨x, hx⟩ : ∃ x, x = s.v / 2 ^ k := ⟨_, rfl⟩
  rw [← hx] at h0 ⊢
  have lb : b < w.heap.size := World.block_lt_of_cell? w ⟨b, off, none⟩ h0
  obtain ⟨a, ha⟩ : ∃ a, a = s.at_ := ⟨_, rfl⟩
  have eV : refV A n c s (some ⟨b, off, none⟩) cl = .agg #[.slice A n c, .int .i64 (a : Int), .slice (some ⟨b, off, none⟩) (k + 1) cl] := by rw [refV, ← ha, hk]
  rw [eV, ← ha]
  obtain ⟨w1, hw1⟩ : ∃ w1, w1 = (w.alloc (.cells #[.slice A n c, .int .i64 (a : Int), .slice (some ⟨b, off, none⟩) (k + 1) cl] 48)).alloc (.cells #[.slice none 0 0, .int .i64 0, .slice none 0 0] 48) := ⟨_, rfl⟩
  obtain ⟨g1, hg1⟩ : ∃ g1, g1 = w.heap.size := ⟨_, rfl⟩
  obtain ⟨h1, h2, bel⟩ := two_made w _ _ hw1
  have h0' := (bel.cell (p := ⟨b, off, none⟩) lb).trans h0
  rw [← hg1] at h1 h2 lb
  have hbg : b ≠ g1 + 1 := by omega
  have c1 : 1 ≤ cl := by omega
  have hS : ((w1.drew.cell? ⟨g1, 0, none⟩ = some (.slice A n c) ∧ w1.drew.cell? ⟨g1, 1, none⟩ = some (.int .i64 (a : Int)) ∧ w1.drew.cell? ⟨g1, 2, none⟩ = some (.slice (some ⟨b, off, none⟩) (k + 1) cl)) ∧ w1.drew.cell? ⟨b, off, none⟩ = some (.int .i64 (x : Int))) := ⟨⟨h1.cell 0, h1.cell 1, h1.cell 2⟩, h0'⟩
  have f0 : w1.frozen? ⟨g1 + 1, 0, none⟩ = false := h2.free 0
  have f1 : w1.frozen? ⟨g1 + 1, 1, none⟩ = false := h2.free 1
  have f2 : w1.frozen? ⟨g1 + 1, 2, none⟩ = false := h2.free 2
  have e0 : w1.cell? ⟨g1 + 1, 0, none⟩ = some (.slice none 0 0) := h2.cell 0
  have e1 : w1.cell? ⟨g1 + 1, 1, none⟩ = some (.int .i64 0) := h2.cell 1
  have e2 : w1.cell? ⟨g1 + 1, 2, none⟩ = some (.slice none 0 0) := h2.cell 2
  have HH := Lib.hid (And.intro hT (And.intro bel (And.intro hw1 (And.intro hg1 hS))))
  clear hI hI2 hT hx eV ha bel hw1 hg1 hk hc hv h1 h2 h0 h0' lb hS
  have G2 : w.heap.size ≤ g1 + 1 := by have := HH.out.2.2.2.1; omega
  by_cases h1 : cl = 1
  · subst h1
    obtain rfl : k = 0 := by omega
    go_enter Try.func32, Try.ntmps32
    go_wp2_with fail
    rw [← HH.out.2.2.1, ← HH.out.2.2.2.1]
    have K1 := HH.out.2.2.2.2
    go_region_held (fun w' => (w'.cell? ⟨g1, 0, none⟩ = some (.slice A n c) ∧ w'.cell? ⟨g1, 1, none⟩ = some (.int .i64 (a : Int)) ∧ w'.cell? ⟨g1, 2, none⟩ = some (.slice (some ⟨b, off, none⟩) 1 1)) ∧ w'.cell? ⟨b, off, none⟩ = some (.int .i64 (x : Int)))
      (first | exact K1 | exact keepS K1 (by omega) hbg _ _ _) (fail)
    all_goals
      (clear K1
       go_wp2
       refine bodyPost_ret (v := .tuple #[.agg #[.slice A n c, .int .i64 (a : Int), .slice (some ⟨b, off, none⟩) 0 0], .int .i64 (x : Int), .int .i64 0]) (by simp [results, Try.results32, go_sem, e0, e1, e2]) rfl ?_
       have hT := HH.out.1
       exact ⟨some ⟨b, off, none⟩, 0, rfl, hT.on ((threeSet HH.out.2.1 G2 _ _ _).drew), (threeSet HH.out.2.1 G2 _ _ _).drew⟩)
  · have hc1 : ¬ ((cl : Int) = 1) := by omega
    go_enter Try.func32, Try.ntmps32
    go_wp2_with fail
    rw [← HH.out.2.2.1, ← HH.out.2.2.2.1]
    have K1 := HH.out.2.2.2.2
    go_region_held (fun w' => (w'.cell? ⟨g1, 0, none⟩ = some (.slice A n c) ∧ w'.cell? ⟨g1, 1, none⟩ = some (.int .i64 (a : Int)) ∧ w'.cell? ⟨g1, 2, none⟩ = some (.slice (some ⟨b, off, none⟩) (k + 1) cl)) ∧ w'.cell? ⟨b, off, none⟩ = some (.int .i64 (x : Int)))
      (first | exact K1 | exact keepS K1 (by omega) hbg _ _ _) (fail)
    all_goals
      (clear K1
       go_wp2
       refine bodyPost_ret (v := .tuple #[.agg #[.slice A n c, .int .i64 (a : Int), .slice (some ⟨b, off + 1, none⟩) k (cl - 1)], .int .i64 (x : Int), .int .i64 0]) (by simp [results, Try.results32, go_sem, e0, e1, e2]) rfl ?_
       have hT := HH.out.1
       rw [if_neg h1] at hT
       exact ⟨some ⟨b, off + 1, none⟩, cl - 1, rfl, hT.on ((threeSet HH.out.2.1 G2 _ _ _).drew), (threeSet HH.out.2.1 G2 _ _ _).drew⟩)

/-- the answer where there is no bit -/
theorem refGot_not {w w1 : World} {A : Option Addr} {n c cl : Nat} {l : List Int} {s : St} {Al : Option Addr} {E : Int} (h0 : s.c = 0) (hE : beginE l s.at_ = E) (hne : E ≠ 0) (hI : Il w Al s.c cl (dig s.v s.c)) (hb : Below w.heap.size w w1) :
    RefGot w A n c (bitF l s) (.returned (.tuple #[.agg #[.slice A n c, .int .i64 (s.at_ : Int), .slice Al s.c cl], .int .i64 0, .int .i64 E])) w1 := by
  rw [bitF_none h0 (by rw [hE]; exact hne), hE]
  exact ⟨Al, cl, rfl, hI.on hb, hb⟩

set_option maxHeartbeats 800000 in
theorem refBit_over (w : World) (A : Option Addr) (n c : Nat) (l : List Int) (s : St) (Al : Option Addr) (cl : Nat) (hI : Il w Al s.c cl (dig s.v s.c)) (hc : s.c = 0) (hn : l.length = n) (ha : n ≤ s.at_) :
    Calls Try.prog 32 #[refV A n c s Al cl] w (RefGot w A n c (bitF l s)) := by
  have hE : beginE l s.at_ = 3 := by rw [beginE, if_neg (by omega)]
  have HN := Lib.hid (fun w1 => refGot_not (w1 := w1) (A := A) (n := n) (c := c) hc hE (by decide) hI)
  rw [hc] at HN
  obtain ⟨a, haa⟩ : ∃ a, a = s.at_ := ⟨_, rfl⟩
  have eV : refV A n c s Al cl = .agg #[.slice A n c, .int .i64 (a : Int), .slice Al 0 cl] := by rw [refV, ← haa, hc]
  rw [eV]
  rw [← haa] at ha HN
  have ha2 : (n : Int) ≤ a := by omega
  clear hI hc hE eV haa hn
  go_enter Try.func32, Try.ntmps32
  go_wp2
  refine bodyPost_ret (v := .tuple #[.agg #[.slice A n c, .int .i64 (a : Int), .slice Al 0 cl], .int .i64 0, .int .i64 3]) (by simp [results, Try.results32, go_sem]) rfl ?_
  exact HN.out _ (on_trans (on_alloc _ _) (on_alloc _ _))
end Go.Proofs.Ytgnkbopnkllgaaa
