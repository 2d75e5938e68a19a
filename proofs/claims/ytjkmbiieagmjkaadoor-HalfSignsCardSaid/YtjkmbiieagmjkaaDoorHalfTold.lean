/-
  Layer 10's mathematics, second part: four blocks told by steps as one; four alike. No code.
-/
import Derived.Test.YtjkmbiieagmjkaaDoorHalfMath
namespace Go.Proofs.YtjkmbiieagmjkaaDoor
open Go.RowKit

/-- what four blocks told by steps are -/
def up4 (f s : List Int) : List Int := (List.range 256).map fun j => f.getD j 0 * s.getD (j % 64) 0
theorem up4_len (f s : List Int) : (up4 f s).length = 256 := by simp [up4]
theorem up4_at (f s : List Int) {m j : Nat} (hm : m < 4) (hj : j < 64) : fo (up4 f s) m j = fo f m j * s.getD j 0 := by
  have e : fo (up4 f s) m j = f.getD (64 * m + j) 0 * s.getD ((64 * m + j) % 64) 0 := by
    conv => lhs; unfold fo up4
    rw [List.getD_eq_getElem?_getD, List.getElem?_map, List.getElem?_range (by omega)]
    rfl
  rw [e, show (64 * m + j) % 64 = j by omega]
  rfl
/-- what Told tells -/
def toldF (f s : List Int) : List Int × Int := if Wi s 1 255 then (if W4 f (-1023) 1023 then (downL (mrgL (up4 f s)) s, 0) else (zeros64, 2)) else (zeros64, 1)
theorem toldF_len (f s : List Int) : (toldF f s).1.length = 64 := by
  unfold toldF
  split
  · split
    · exact downL_len _ _
    · exact zeros_len
  · exact zeros_len
theorem w4_up {f s : List Int} (hs : Wi s 1 255) (h : W4 f (-1023) 1023) : W4 (up4 f s) (-260865) 260865 := fun m hm j hj => by
  have a1 := h m hm j hj
  have a2 := hs j hj
  rw [up4_at f s hm hj]
  exact mul_small a1.1 a1.2 a2.1 a2.2
/-- what goes up may be merged -/
theorem told_merge {f s : List Int} (hs : Wi s 1 255) (h : W4 f (-1023) 1023) : mrgF (up4 f s) = (mrgL (up4 f s), 0) := by
  unfold mrgF
  rw [if_pos (show W4 (up4 f s) (-1048576) 1048576 from fun m hm j hj => by have := w4_up hs h m hm j hj; omega)]
/-- what is merged may be told -/
theorem told_down {f s : List Int} (hs : Wi s 1 255) (h : W4 f (-1023) 1023) : downF (mrgL (up4 f s)) s = (downL (mrgL (up4 f s)) s, 0) := by
  have hw : Wi (mrgL (up4 f s)) (-16777216) 16777216 := fun k hk => by
    have a := mrgL_at (up4 f s) (u := k / 8) (v := k % 8) (by omega) (by omega)
    rw [show 8 * (k / 8) + k % 8 = k by omega] at a
    rw [a]
    have t := mrgT_small (w4_up hs h) (by omega) (u := k / 8) (v := k % 8) (by omega) (by omega)
    have r := rnd_off (n := mrgT (up4 f s) (k / 8) (k % 8)) (d := 33554432) (by unfold Frac; omega)
    omega
  unfold downF
  rw [if_pos (checkF_yes hs hw)]

/-- what is nearer to a whole number than half a part is that number, rounded -/
theorem rnd_close {y d n : Int} (hf : Frac y d) (h0 : -d < 2 * (y - n * d)) (h1 : 2 * (y - n * d) < d) : rnd y d = n := by
  have r := rnd_off hf
  have hd := hf.1
  obtain ⟨z, hz⟩ : ∃ z, z = rnd y d := ⟨_, rfl⟩
  rw [← hz] at r ⊢
  have e : z * d - n * d = (z - n) * d := by rw [Int.sub_mul]
  rcases Int.lt_trichotomy z n with h | h | h
  · have := Int.mul_le_mul_of_nonneg_right (show z - n ≤ -1 by omega) (show 0 ≤ d by omega)
    omega
  · exact h
  · have := Int.mul_le_mul_of_nonneg_right (show 1 ≤ z - n by omega) (show 0 ≤ d by omega)
    omega

/-- four blocks of noughts but for the number at 0, which is alike -/
def Alike (f : List Int) (n : Int) : Prop := ∀ m, m < 4 → ∀ j, j < 64 → fo f m j = if j = 0 then n else 0
theorem hv_first : ∀ p, p < 2 → hv p 0 0 = 2896 := by decide
theorem mrgT_alike {f : List Int} {X : Int} (h : Alike f X) : mrgT f 0 0 = 33547264 * X := by
  have h1 : ∀ p, p < 2 → ∀ q, q < 2 → su (fun i => su (fun k => hv p 0 i * hv q 0 k * fo f (2 * p + q) (8 * i + k)) 4) 4 = 8386816 * X := by
    intro p hp q hq
    have h2 : ∀ i, i < 4 → su (fun k => hv p 0 i * hv q 0 k * fo f (2 * p + q) (8 * i + k)) 4 = if i = 0 then hv p 0 i * hv q 0 0 * X else 0 := by
      intro i hi
      by_cases e : i = 0
      · rw [if_pos e, ← su_only (fun k => hv p 0 i * hv q 0 k * X) 0 4 (by omega)]
        refine su_congr fun k hk => ?_
        rw [h (2 * p + q) (by omega) (8 * i + k) (by omega)]
        by_cases e' : k = 0
        · rw [if_pos e', if_pos (by omega)]
        · rw [if_neg e', if_neg (by omega), Int.mul_zero]
      · rw [if_neg e, su_congr (g := fun _ => 0) (fun k hk => ?_), su_none]
        rw [h (2 * p + q) (by omega) (8 * i + k) (by omega), if_neg (by omega), Int.mul_zero]
    rw [su_congr h2, su_only (fun i => hv p 0 i * hv q 0 0 * X) 0 4 (by omega), hv_first p hp, hv_first q hq]
    rfl
  unfold mrgT
  rw [su_congr (g := fun _ => 16773632 * X) (fun p hp => ?_)]
  · show 0 + 16773632 * X + 16773632 * X = 33547264 * X
    omega
  · rw [su_congr (g := fun _ => 8386816 * X) (fun q hq => h1 p hp q hq)]
    show 0 + 8386816 * X + 8386816 * X = 16773632 * X
    omega
/-- four alike make one whose number at 0 is that -/
theorem told_flat {f s : List Int} {n : Int} (hs : Wi s 1 255) (hn : -1023 ≤ n ∧ n ≤ 1023) (h : Alike f n) : (toldF f s).2 = 0 ∧ (toldF f s).1.getD 0 0 = n := by
  have hw : W4 f (-1023) 1023 := fun m hm j hj => by
    rw [h m hm j hj]
    split <;> omega
  have hs0 := hs 0 (by omega)
  obtain ⟨d, hd⟩ : ∃ d, d = s.getD 0 0 := ⟨_, rfl⟩
  rw [← hd] at hs0
  have ha : Alike (up4 f s) (n * d) := fun m hm j hj => by
    rw [up4_at f s hm hj, h m hm j hj]
    by_cases e : j = 0
    · rw [if_pos e, if_pos e, e, ← hd]
    · rw [if_neg e, if_neg e, Int.zero_mul]
  unfold toldF
  rw [if_pos hs, if_pos hw]
  refine ⟨rfl, ?_⟩
  show (downL (mrgL (up4 f s)) s).getD 0 0 = n
  unfold downL
  rw [tab_at _ (by omega), ← hd]
  have a := mrgL_at (up4 f s) (u := 0) (v := 0) (by omega) (by omega)
  rw [mrgT_alike ha] at a
  rw [show (mrgL (up4 f s)).getD 0 0 = (mrgL (up4 f s)).getD (8 * 0 + 0) 0 from rfl, a]
  have hb := mul_small hn.1 hn.2 hs0.1 hs0.2
  have hx : n * d ≤ 1023 * d ∧ -1023 * d ≤ n * d := ⟨Int.mul_le_mul_of_nonneg_right hn.2 (by omega), Int.mul_le_mul_of_nonneg_right hn.1 (by omega)⟩
  have r := rnd_off (n := 33547264 * (n * d)) (d := 33554432) (by unfold Frac; omega)
  obtain ⟨y, hy⟩ : ∃ y, y = rnd (33547264 * (n * d)) 33554432 := ⟨_, rfl⟩
  rw [← hy] at r ⊢
  have e : rnd y d = n := by
    by_cases h1 : d = 1
    · refine rnd_close (by unfold Frac; omega) ?_ ?_
      · subst h1; omega
      · subst h1; omega
    · exact rnd_close (by unfold Frac; omega) (by omega) (by omega)
  unfold dnOf
  rw [e, held_in hn]
end Go.Proofs.YtjkmbiieagmjkaaDoor
