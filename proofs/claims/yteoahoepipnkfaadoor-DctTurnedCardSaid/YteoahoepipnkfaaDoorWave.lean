/-
  The contracts of Wave, and of the reference's Waves, sum and all.
-/
import Derived.Test.YteoahoepipnkfaaDoorFwd
namespace Go.Proofs.YteoahoepipnkfaaDoor
open Go.RowKit

/-- what Wave answers -/
def waveF (u x : Int) : Int := if 0 ≤ u ∧ u < 8 ∧ 0 ≤ x ∧ x < 8 then wz.getD (8 * u + x).toNat 0 else 0
def Waved (w : World) (u x : Int) (e : Ending) (w' : World) : Prop := e = .returned (.int .i64 (waveF u x)) ∧ w = w'
set_option maxHeartbeats 800000 in
theorem wave_any (w : World) (u x : Int) (hT : Tab w) (hu : isInt u) (hx : isInt x) : Calls Tryd.prog 12 #[.int .i64 u, .int .i64 x] w (Waved w u x) := by
  by_cases h : 0 ≤ u ∧ u < 8 ∧ 0 ≤ x ∧ x < 8
  · have e : waveF u x = wz.getD (8 * u + x).toNat 0 := if_pos h
    obtain ⟨a, rfl⟩ := Int.eq_ofNat_of_zero_le h.1
    obtain ⟨c, rfl⟩ := Int.eq_ofNat_of_zero_le h.2.2.1
    have ha : a < 8 := by omega
    have hc : c < 8 := by omega
    have hcell := hT.cell (k := 8 * a + c) (by omega)
    rw [show (8 * (a : Int) + (c : Int)).toNat = 8 * a + c by omega] at e
    obtain ⟨z, hz⟩ : ∃ z, z = wz.getD (8 * a + c) 0 := ⟨_, rfl⟩
    rw [← hz] at e hcell
    have E := Lib.hid e
    clear e h hu hx hz hT
    go_enter Tryd.func12, Tryd.ntmps12
    go_wp2_with fail
    go_ret
    exact ⟨by rw [E.out]; rfl, rfl⟩
  · have e : waveF u x = 0 := if_neg h
    have E := Lib.hid e
    have hh : u < 0 ∨ 8 ≤ u ∨ (0 ≤ u ∧ u < 8 ∧ x < 0) ∨ (0 ≤ u ∧ u < 8 ∧ 0 ≤ x ∧ 8 ≤ x) := by omega
    obtain ⟨u0, u1⟩ := hu
    obtain ⟨x0, x1⟩ := hx
    clear e h
    rcases hh with h | h | ⟨h, h2, h3⟩ | ⟨h, h2, h3, h4⟩
    all_goals
      go_enter Tryd.func12, Tryd.ntmps12
      go_wp2_with fail
      all_goals (go_ret; exact ⟨by rw [E.out]; rfl, rfl⟩)

/-- what Waves tells -/
def Waves (w : World) (e : Ending) (w' : World) : Prop := ∃ A n, e = .returned (.slice A 64 n) ∧ Il w' A 64 n wz ∧ (∀ b off, A = some ⟨b, off, none⟩ → w.heap.size ≤ b) ∧ Below w.heap.size w w'
theorem il_of_box {w : World} {b n : Nat} {l : List Int} (h : Box w b 3 (cellsI l).toArray) (hl : l.length = n) (hm : n ≤ maxLen) : Il w (some ⟨b, 0, none⟩) n n l := by
  refine ⟨hl, Nat.le_refl _, hm, (fun e => by cases e), (fun b off e => by cases e; exact ⟨_, _, h⟩), fun _ => ⟨b, 0, rfl, h.lt, fun i hi => ?_⟩⟩
  rw [Nat.zero_add, h.cell i]
  simp [cellsI, List.getD_eq_getElem?_getD, List.getElem?_eq_getElem (show i < l.length by omega)]

set_option maxRecDepth 10000 in
set_option maxHeartbeats 3200000 in
theorem waves_any (w : World) : Calls Tryd.prog 11 #[] w (Waves w) := by
  have hb := il_of_box (w := w.alloc (.cells (cellsI wz).toArray 3)) (n := 64) (Box.made w 3 (cellsI wz).toArray) rfl (by decide)
  have H := Lib.hid hb
  clear hb
  go_enter Tryd.func11, Tryd.ntmps11
  go_wp2_with fail
  go_ret
  exact ⟨_, _, rfl, H.out, fun b off e => by cases e; exact Nat.le_refl _, on_alloc _ _⟩

/-- a term of the reference's sum -/
def trm (k' : Bool) (b : List Int) (i k p q : Nat) : Int := (if k' then wv p i * wv q k else wv i p * wv k q) * b.getD (8 * p + q) 0
/-- the first terms: those of the rows ahead, and q of row p -/
def rowT (k' : Bool) (b : List Int) (i k p q : Nat) : Int := su (fun q => trm k' b i k p q) q
def sumT (k' : Bool) (b : List Int) (i k p : Nat) : Int := su (fun p => rowT k' b i k p 8) p
def refL (k' : Bool) (b : List Int) : List Int := if k' then invL b else fwdL b
theorem refL_len (k' : Bool) (b : List Int) : (refL k' b).length = 64 := by cases k'; exact fwdL_len b; exact invL_len b
theorem sumT_is (k' : Bool) (b : List Int) {i k : Nat} (hi : i < 8) (hk : k < 8) : (refL k' b).getD (8 * i + k) 0 = rnd (sumT k' b i k 8) 67108864 := by
  cases k'
  · exact fwdL_at b hi hk
  · exact invL_at b hi hk
theorem rowT_more (k' : Bool) (b : List Int) (i k p q : Nat) : rowT k' b i k p (q + 1) = rowT k' b i k p q + trm k' b i k p q := rfl
theorem sumT_more (k' : Bool) (b : List Int) (i k p : Nat) : sumT k' b i k (p + 1) = sumT k' b i k p + rowT k' b i k p 8 := rfl
theorem su_bound {f : Nat → Int} {V : Int} : ∀ {n : Nat}, (∀ i, i < n → -V ≤ f i ∧ f i ≤ V) → -(V * n) ≤ su f n ∧ su f n ≤ V * n
  | 0, _ => by rw [su_zero]; omega
  | n + 1, h => by
    have ih := su_bound (n := n) (fun i hi => h i (by omega))
    have := h n (by omega)
    rw [su_succ, show V * ((n + 1 : Nat) : Int) = V * n + V by rw [Int.natCast_add, Int.mul_add]; omega]
    omega
theorem prod_small {x y : Int} (x0 : -4017 ≤ x) (x1 : x ≤ 4017) (y0 : -4017 ≤ y) (y1 : y ≤ 4017) : -16136289 ≤ x * y ∧ x * y ≤ 16136289 := by
  have := term_small x0 x1 y0 y1
  omega
theorem prod3_small {v z : Int} (v0 : -16136289 ≤ v) (v1 : v ≤ 16136289) (z0 : -1048576 ≤ z) (z1 : z ≤ 1048576) : -16920125374464 ≤ v * z ∧ v * z ≤ 16920125374464 := by
  have a := mul_abs (c := v) z0 z1
  have h : (v.natAbs : Int) * 1048576 ≤ 16136289 * 1048576 := Int.mul_le_mul_of_nonneg_right (by omega) (by omega)
  omega
end Go.Proofs.YteoahoepipnkfaaDoor
