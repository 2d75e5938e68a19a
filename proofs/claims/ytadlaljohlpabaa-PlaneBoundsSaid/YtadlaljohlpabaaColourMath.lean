/-
  Layer 11's mathematics: tones and colours, greys, bounds, which of two is brighter. No code.
-/
import Derived.Test.YtadlaljohlpabaaTabs
namespace Go.Proofs.Ytadlaljohlpabaa
open Go.RowKit

/-- a number limited to 0 to 255 -/
def cut8 (z : Int) : Int := held z 0 255
/-- may a part be? -/
def In8 (n : Int) : Prop := 0 ≤ n ∧ n ≤ 255
instance (n : Int) : Decidable (In8 n) := by unfold In8; infer_instance
theorem cut8_in (z : Int) : In8 (cut8 z) := by
  unfold cut8 held In8
  split
  · omega
  · split <;> omega
theorem cut8_same {z : Int} (h : In8 z) : cut8 z = z := by
  unfold In8 at h
  unfold cut8 held
  rw [if_neg (by omega), if_neg (by omega)]
theorem cut8_mono {x y : Int} (h : x ≤ y) : cut8 x ≤ cut8 y := by
  unfold cut8 held
  by_cases a : x < 0 <;> by_cases b : y < 0 <;> by_cases c : 255 < x <;> by_cases d : 255 < y <;> simp [a, b, c, d] <;> omega
/-- the parts of a colour's tone -/
def toneY (r g b : Int) : Int := cut8 (rnd (19595 * r + 38470 * g + 7471 * b) 65536)
def toneB (r g b : Int) : Int := cut8 (128 + rnd (32768 * b - 11059 * r - 21709 * g) 65536)
def toneR (r g b : Int) : Int := cut8 (128 + rnd (32768 * r - 27439 * g - 5329 * b) 65536)
/-- the parts of a tone's colour -/
def pixR (y _cb cr : Int) : Int := cut8 (y + rnd (91881 * (cr - 128)) 65536)
def pixG (y cb cr : Int) : Int := cut8 (y - rnd (22554 * (cb - 128) + 46802 * (cr - 128)) 65536)
def pixB (y cb _cr : Int) : Int := cut8 (y + rnd (116130 * (cb - 128)) 65536)
/-- may all three be? -/
def In3 (a b c : Int) : Prop := In8 a ∧ In8 b ∧ In8 c
instance (a b c : Int) : Decidable (In3 a b c) := by unfold In3; infer_instance
/-- what Of tells, and Pixel: three parts and an error -/
def ofF (r g b : Int) : (Int × Int × Int) × Int := if In3 r g b then ((toneY r g b, toneB r g b, toneR r g b), 0) else ((0, 0, 0), 2)
def pixF (y cb cr : Int) : (Int × Int × Int) × Int := if In3 y cb cr then ((pixR y cb cr, pixG y cb cr, pixB y cb cr), 0) else ((0, 0, 0), 2)
theorem ofF_red : ofF 255 0 0 = ((76, 85, 255), 0) := by decide +kernel
theorem rnd_mult {q d : Int} (hd : 1 ≤ d ∧ d ≤ 65536) (hq : 0 ≤ q ∧ q ≤ 1000000) : rnd (q * d) d = q := by
  have hm : q * d ≤ 1000000 * 65536 := Int.mul_le_mul hq.2 hd.2 (by omega) (by omega)
  have hn : 0 ≤ q * d := Int.mul_nonneg hq.1 (by omega)
  rw [rnd_pos (by unfold Frac; omega) hn, Int.mul_comm, Int.add_comm, Int.add_mul_ediv_left _ _ (by omega), Int.ediv_eq_zero_of_lt (by omega) (by omega), Int.zero_add]
theorem rnd_zero (d : Int) (h : 1 ≤ d ∧ d ≤ 65536) : rnd 0 d = 0 := by
  have := rnd_mult (q := 0) h (by omega)
  rwa [Int.zero_mul] at this
/-- a grey colour has tints of 128 -/
theorem of_grey {n : Int} (h : In8 n) : ofF n n n = ((n, 128, 128), 0) := by
  have hh := h
  unfold In8 at hh
  unfold ofF
  rw [if_pos ⟨h, h, h⟩]
  unfold toneY toneB toneR
  rw [show 19595 * n + 38470 * n + 7471 * n = n * 65536 by omega, show 32768 * n - 11059 * n - 21709 * n = 0 by omega, show 32768 * n - 27439 * n - 5329 * n = 0 by omega,
    rnd_mult (by omega) (by omega), rnd_zero _ (by omega), cut8_same h, cut8_same (by unfold In8; omega)]
  rfl
/-- and is itself again -/
theorem pix_grey {n : Int} (h : In8 n) : pixF n 128 128 = ((n, n, n), 0) := by
  unfold pixF
  rw [if_pos ⟨h, by unfold In8; omega, by unfold In8; omega⟩]
  unfold pixR pixG pixB
  rw [show (91881 : Int) * (128 - 128) = 0 by omega, show (22554 : Int) * (128 - 128) + 46802 * (128 - 128) = 0 by omega, show (116130 : Int) * (128 - 128) = 0 by omega, rnd_zero _ (by omega), Int.add_zero, Int.sub_zero, cut8_same h]
theorem ofF_bounds (r g b : Int) : In3 (ofF r g b).1.1 (ofF r g b).1.2.1 (ofF r g b).1.2.2 := by
  unfold ofF
  split
  · exact ⟨cut8_in _, cut8_in _, cut8_in _⟩
  · exact ⟨by decide, by decide, by decide⟩
theorem pixF_bounds (y cb cr : Int) : In3 (pixF y cb cr).1.1 (pixF y cb cr).1.2.1 (pixF y cb cr).1.2.2 := by
  unfold pixF
  split
  · exact ⟨cut8_in _, cut8_in _, cut8_in _⟩
  · exact ⟨by decide, by decide, by decide⟩
theorem ofF_ok {r g b : Int} (h : In3 r g b) : (ofF r g b).2 = 0 := by unfold ofF; rw [if_pos h]
theorem pixF_ok {y cb cr : Int} (h : In3 y cb cr) : (pixF y cb cr).2 = 0 := by unfold pixF; rw [if_pos h]
theorem ofF_err (r g b : Int) : (ofF r g b).2 = 0 ∨ ofF r g b = ((0, 0, 0), 2) := by
  unfold ofF
  split
  · exact .inl rfl
  · exact .inr rfl
theorem pixF_err (y cb cr : Int) : (pixF y cb cr).2 = 0 ∨ pixF y cb cr = ((0, 0, 0), 2) := by
  unfold pixF
  split
  · exact .inl rfl
  · exact .inr rfl
theorem ofF_in {r g b : Int} (h : (ofF r g b).2 = 0) : In3 r g b := by
  unfold ofF at h
  split at h
  · assumption
  · cases h
/-- a greater fraction is no less, rounded -/
theorem rnd_mono {n m d : Int} (hn : Frac n d) (hm : Frac m d) (h : n ≤ m) : rnd n d ≤ rnd m d := by
  have hd := hn.1
  by_cases h0 : 0 ≤ n
  · rw [rnd_pos hn h0, rnd_pos hm (by omega)]
    exact Int.ediv_le_ediv (by omega) (by omega)
  · by_cases h1 : 0 ≤ m
    · have a : 0 ≤ rnd m d := by rw [rnd_pos hm h1]; exact Int.ediv_nonneg (by omega) (by omega)
      have b : 0 ≤ rnd (-n) d := by rw [rnd_pos hn.neg (by omega)]; exact Int.ediv_nonneg (by omega) (by omega)
      rw [rnd_neg] at b
      omega
    · have a : rnd (-m) d ≤ rnd (-n) d := by
        rw [rnd_pos hn.neg (by omega), rnd_pos hm.neg (by omega)]
        exact Int.ediv_le_ediv (by omega) (by omega)
      rw [rnd_neg, rnd_neg] at a
      omega
/-- a colour no part of which is less has no lesser brightness -/
theorem brighter {r g b r' g' b' : Int} (h : In3 r g b) (h' : In3 r' g' b') (hr : r ≤ r') (hg : g ≤ g') (hb : b ≤ b') : (ofF r g b).1.1 ≤ (ofF r' g' b').1.1 := by
  unfold ofF
  rw [if_pos h, if_pos h']
  obtain ⟨⟨a0, a1⟩, ⟨a2, a3⟩, a4, a5⟩ := h
  obtain ⟨⟨c0, c1⟩, ⟨c2, c3⟩, c4, c5⟩ := h'
  refine cut8_mono (rnd_mono ?_ ?_ ?_)
  · unfold Frac; omega
  · unfold Frac; omega
  · omega
/-- amounts, for the calls -/
theorem tone_sums {r g b : Int} (h : In3 r g b) : (0 ≤ 19595 * r + 38470 * g + 7471 * b ∧ 19595 * r + 38470 * g + 7471 * b ≤ 16711680) ∧ (-8355840 ≤ 32768 * b - 11059 * r - 21709 * g ∧ 32768 * b - 11059 * r - 21709 * g ≤ 8355840) ∧ -8355840 ≤ 32768 * r - 27439 * g - 5329 * b ∧ 32768 * r - 27439 * g - 5329 * b ≤ 8355840 := by
  obtain ⟨⟨a0, a1⟩, ⟨a2, a3⟩, a4, a5⟩ := h
  omega
theorem pix_sums {y cb cr : Int} (h : In3 y cb cr) : (-11760768 ≤ 91881 * (cr - 128) ∧ 91881 * (cr - 128) ≤ 11760768) ∧ (-8877568 ≤ 22554 * (cb - 128) + 46802 * (cr - 128) ∧ 22554 * (cb - 128) + 46802 * (cr - 128) ≤ 8877568) ∧ -14864640 ≤ 116130 * (cb - 128) ∧ 116130 * (cb - 128) ≤ 14864640 := by
  obtain ⟨⟨a0, a1⟩, ⟨a2, a3⟩, a4, a5⟩ := h
  omega
/-- a small fraction, rounded, is small -/
theorem rnd_small {n : Int} (h0 : -16777216 ≤ n) (h1 : n ≤ 16777216) : -256 ≤ rnd n 65536 ∧ rnd n 65536 ≤ 256 := by
  have a := rnd_mono (n := n) (m := 16777216) (d := 65536) (by unfold Frac; omega) (by unfold Frac; omega) h1
  have b := rnd_mono (n := -16777216) (m := n) (d := 65536) (by unfold Frac; omega) (by unfold Frac; omega) h0
  have e := rnd_mult (q := 256) (d := 65536) (by omega) (by omega)
  rw [show (256 : Int) * 65536 = 16777216 by omega] at e
  rw [rnd_neg, e] at b
  omega
end Go.Proofs.Ytadlaljohlpabaa
