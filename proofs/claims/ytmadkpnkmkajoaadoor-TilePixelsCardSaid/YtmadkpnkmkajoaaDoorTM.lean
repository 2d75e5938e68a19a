/-
  The pixels of a tile: mathematics, no code.
-/
import Derived.Test.YtmadkpnkmkajoaaDoorP9A
import Derived.Test.YtmadkpnkmkajoaaDoorP12B
import Derived.Test.YtmadkpnkmkajoaaDoorTC
namespace Go.Proofs.YtmadkpnkmkajoaaDoor
open Go.RowKit

/-- is a part halved across, down? -/
def aH (K : Int) (p : Nat) : Bool := decide (0 < p ∧ 2 ≤ K)
def dH (K : Int) (p : Nat) : Bool := decide (0 < p ∧ K = 3)
def sideN (T : Nat) (b : Bool) : Nat := if b then T / 2 else T
/-- a part's blocks as samples -/
def shownL (Q : Int) (p : Nat) (bl : List (List Int)) : List (List Int) := bl.map fun b => invL (upL b (stQ Q p))
/-- a part's samples for all pixels -/
def planeQ (K : Int) (T : Nat) (Q : Int) (p : Nat) (bl : List (List Int)) : List Int :=
  growL (joinL (shownL Q p bl) (sideN T (aH K p)) (sideN T (dH K p))) (sideN T (aH K p)) (sideN T (dH K p)) (aH K p) (dH K p) T T
/-- sample k of pixel j -/
def smp (K : Int) (T : Nat) (Q : Int) (tl : List (List (List Int))) (j k : Nat) : Int := if k < nP K then (planeQ K T Q k (tl.getD k [])).getD j 0 else 128
def pixQ (K : Int) (T : Nat) (Q : Int) (tl : List (List (List Int))) (j : Nat) : Int × Int × Int := (pixF (smp K T Q tl j 0) (smp K T Q tl j 1) (smp K T Q tl j 2)).1
def pixL (K : Int) (T : Nat) (Q : Int) (tl : List (List (List Int))) : List (Int × Int × Int) := (List.range (T * T)).map (pixQ K T Q tl)

theorem stQ_len (Q : Int) (p : Nat) : (stQ Q p).length = 64 := stepsL_len _ _
theorem stQ_wi (Q : Int) (p : Nat) : Wi (stQ Q p) 1 255 := fun k hk => by
  unfold stQ
  rw [stepsL_at _ _ hk]
  unfold stepOf held
  split
  · omega
  · split <;> omega
theorem RightB.wi {b : List Int} (h : RightB b) : Wi b (-1023) 1023 := fun k hk => h k hk
theorem up_ok {b : List Int} (h : RightB b) (Q : Int) (p : Nat) : upF b (stQ Q p) = (upL b (stQ Q p), 0) := by
  unfold upF
  rw [if_pos (checkF_yes (stQ_wi Q p) h.wi)]
theorem up_wi {b : List Int} (h : RightB b) (Q : Int) (p : Nat) : Wi (upL b (stQ Q p)) (-1048576) 1048576 := fun k hk => by
  have a1 := stQ_wi Q p k hk
  have a2 := h.wi k hk
  unfold upL
  rw [tab_at _ hk]
  have := mul_small a2.1 a2.2 a1.1 a1.2
  omega
theorem inv_ok {b : List Int} (h : RightB b) (Q : Int) (p : Nat) : invF (upL b (stQ Q p)) = (invL (upL b (stQ Q p)), 0) := by
  unfold invF
  rw [if_pos (up_wi h Q p)]
theorem side_small {T : Nat} (hT : T = 16 ∨ T = 32) (b : Bool) : 1 ≤ sideN T b ∧ sideN T b ≤ 128 := by
  unfold sideN
  split <;> omega
section
variable {T : Nat} {K : Int} {p : Nat}
theorem part_wide (hT : T = 16 ∨ T = 32) (h0 : 0 ≤ K) (h3 : K ≤ 3) (hp : p < nP K) : uW (T : Int) K * uA K p = nb (sideN T (aH K p)) ∧ uH (T : Int) K * uD K p = nb (sideN T (dH K p)) := by
  have hp3 : p < 3 := by unfold nP at hp; split at hp <;> omega
  rcases (show K = 0 ∨ K = 1 ∨ K = 2 ∨ K = 3 by omega) with rfl | rfl | rfl | rfl <;> rcases (show p = 0 ∨ p = 1 ∨ p = 2 by omega) with rfl | rfl | rfl <;> rcases hT with rfl | rfl <;> first | decide | exact absurd hp (by decide)
theorem shown_len (Q : Int) (p : Nat) (bl : List (List Int)) : (shownL Q p bl).length = bl.length := List.length_map _
theorem join_ok (hT : T = 16 ∨ T = 32) (h0 : 0 ≤ K) (h3 : K ≤ 3) (hp : p < nP K) {bl : List (List Int)} (hl : bl.length = (uW (T : Int) K * uA K p) * (uH (T : Int) K * uD K p)) (Q : Int) :
    joinF (shownL Q p bl) ((sideN T (aH K p) : Nat) : Int) ((sideN T (dH K p) : Nat) : Int) = (((sideN T (aH K p) : Nat) : Int), ((sideN T (dH K p) : Nat) : Int), joinL (shownL Q p bl) (sideN T (aH K p)) (sideN T (dH K p)), 0) := by
  obtain ⟨e1, e2⟩ := part_wide hT h0 h3 hp
  have a := side_small hT (aH K p)
  have b := side_small hT (dH K p)
  unfold joinF
  rw [if_pos (by omega), Int.toNat_natCast, Int.toNat_natCast, if_pos (by rw [shown_len, hl, e1, e2])]
theorem joined_right (hT : T = 16 ∨ T = 32) (K : Int) (Q : Int) (p : Nat) (bl : List (List Int)) : RightP (joinL (shownL Q p bl) (sideN T (aH K p)) (sideN T (dH K p))) (sideN T (aH K p)) (sideN T (dH K p)) := by
  have a := side_small hT (aH K p)
  have b := side_small hT (dH K p)
  exact join_right _ a.1 a.2 b.1 b.2
theorem grow_ok (hT : T = 16 ∨ T = 32) (K : Int) (Q : Int) (p : Nat) (bl : List (List Int)) :
    growF ((sideN T (aH K p) : Nat) : Int) ((sideN T (dH K p) : Nat) : Int) (joinL (shownL Q p bl) (sideN T (aH K p)) (sideN T (dH K p))) (aH K p) (dH K p) (T : Int) (T : Int) = ((T : Int), (T : Int), planeQ K T Q p bl, 0) := by
  unfold growF
  rw [if_pos (joined_right hT K Q p bl).int, if_pos (by omega), Int.toNat_natCast, Int.toNat_natCast, Int.toNat_natCast]
  rfl
theorem plane_right (hT : T = 16 ∨ T = 32) (K : Int) (Q : Int) (p : Nat) (bl : List (List Int)) : RightP (planeQ K T Q p bl) T T := by
  have hs : 1 ≤ T ∧ T ≤ 128 := by omega
  exact grow_right (joined_right hT K Q p bl) _ _ hs.1 hs.2 hs.1 hs.2
theorem plane_len (hT : T = 16 ∨ T = 32) (K : Int) (Q : Int) (p : Nat) (bl : List (List Int)) : (planeQ K T Q p bl).length = T * T := (plane_right hT K Q p bl).len
theorem smp_in (hT : T = 16 ∨ T = 32) (K : Int) (Q : Int) (tl : List (List (List Int))) {j : Nat} (hj : j < T * T) (k : Nat) : In8 (smp K T Q tl j k) := by
  unfold smp
  split
  · exact (plane_right hT K Q k _).all j hj
  · decide
theorem pix_ok (hT : T = 16 ∨ T = 32) (K : Int) (Q : Int) (tl : List (List (List Int))) {j : Nat} (hj : j < T * T) : pixF (smp K T Q tl j 0) (smp K T Q tl j 1) (smp K T Q tl j 2) = (pixQ K T Q tl j, 0) := by
  have h := pixF_ok (show In3 (smp K T Q tl j 0) (smp K T Q tl j 1) (smp K T Q tl j 2) from ⟨smp_in hT K Q tl hj 0, smp_in hT K Q tl hj 1, smp_in hT K Q tl hj 2⟩)
  exact Prod.ext rfl h
end
end Go.Proofs.YtmadkpnkmkajoaaDoor
