/-
  How many samples the planes have that are told; loads that are guarded.
-/
import Derived.Test.YtadlaljohlpabaaPLaw
namespace Go.Proofs.Ytadlaljohlpabaa
open Go.RowKit

theorem grid_small {w h : Nat} {f : Nat → Nat → Int} (hw : w ≤ 128) (hh : h ≤ 128) : (gridL w h f).length ≤ 1000000 := by
  rw [gridL_len]
  have : w * h ≤ 128 * 128 := Nat.mul_le_mul hw hh
  omega
theorem halveF_len (W H : Int) (xs : List Int) (a d : Bool) : (halveF W H xs a d).2.2.1.length ≤ 1000000 := by
  unfold halveF
  split
  · next hr =>
    obtain ⟨w, h, rfl, rfl, hp⟩ := hr.plane
    exact grid_small (Nat.le_trans (halfN_le _ _) hp.w1) (Nat.le_trans (halfN_le _ _) hp.h1)
  · exact Nat.zero_le _
theorem growF_len (W H : Int) (xs : List Int) (a d : Bool) (u v : Int) : (growF W H xs a d u v).2.2.1.length ≤ 1000000 := by
  unfold growF
  split
  · split
    · dsimp only
      first | unfold growL | unfold cropL | unfold joinL
      exact grid_small (by omega) (by omega)
    · exact Nat.zero_le _
  · exact Nat.zero_le _
theorem cropF_len (W H : Int) (xs : List Int) (x y u v : Int) : (cropF W H xs x y u v).2.2.1.length ≤ 1000000 := by
  unfold cropF
  split
  · split
    · dsimp only
      first | unfold growL | unfold cropL | unfold joinL
      exact grid_small (by omega) (by omega)
    · exact Nat.zero_le _
  · exact Nat.zero_le _
theorem joinF_len (bl : List (List Int)) (u v : Int) : (joinF bl u v).2.2.1.length ≤ 1000000 := by
  unfold joinF
  split
  · split
    · dsimp only
      first | unfold growL | unfold cropL | unfold joinL
      exact grid_small (by omega) (by omega)
    · exact Nat.zero_le _
  · exact Nat.zero_le _
theorem cropF_in (W H : Int) (xs : List Int) (x y u v : Int) : ∀ j, In8 ((cropF W H xs x y u v).2.2.1.getD j 0) := by
  intro j
  have z : In8 (([] : List Int).getD j 0) := by unfold In8; simp
  unfold cropF
  split
  · next hr =>
    obtain ⟨w, h, rfl, rfl, hp⟩ := hr.plane
    split
    · next hc =>
      have hq := crop_right hp x.toNat y.toNat (w' := u.toNat) (h' := v.toNat) (by omega) (by omega) (by omega) (by omega)
      dsimp only
      rw [Int.toNat_natCast, Int.toNat_natCast]
      by_cases hj : j < u.toNat * v.toNat
      · exact hq.all j hj
      · rw [List.getD_eq_getElem?_getD, List.getElem?_eq_none (by rw [hq.len]; omega)]
        exact ⟨by decide, by decide⟩
    · exact z
  · exact z
end Go.Proofs.Ytadlaljohlpabaa
