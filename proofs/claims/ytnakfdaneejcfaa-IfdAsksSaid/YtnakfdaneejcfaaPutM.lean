/-
  A directory's bytes.
-/
import Derived.Test.YtnakfdaneejcfaaApp
namespace Go.Proofs.Ytnakfdaneejcfaa
open Go.RowKit

/-- how many bytes a field's values have -/
def mN (f : Fd) (big : Bool) : Nat := f.xs.length * tyN f.k big
/-- an entry: its values, or where they lie -/
def outN (f : Fd) (src : Int) (big : Bool) : List Int := entB f.t f.k f.xs.length big ++ (if wordN big < mN f big then told (max src 0) (wordN big) false else padL (valB f.xs (tyN f.k big)) (wordN big))
def behL (f : Fd) (big : Bool) : List Int := if wordN big < mN f big then padL (valB f.xs (tyN f.k big)) (evenN (mN f big)) else []
def outB (l : List Fd) (big : Bool) (src : Int) : Nat → List Int
  | 0 => []
  | j + 1 => outB l big src j ++ outN (l.getD j fd0) (src + (sumB (l.take j) big : Nat)) big
def behB (l : List Fd) (big : Bool) : Nat → List Int
  | 0 => []
  | j + 1 => behB l big j ++ behL (l.getD j fd0) big
def dirB (l : List Fd) (big : Bool) (at_ next : Int) : List Int := told (max (l.length : Int) 0) (countN big) false ++ outB l big (at_ + (fixedN big l.length : Nat)) l.length ++ told (max next 0) (wordN big) false ++ behB l big l.length
theorem evenN_ge (n : Nat) : n ≤ evenN n := by unfold evenN; omega
theorem outN_len (f : Fd) (src : Int) (big : Bool) : (outN f src big).length = entryN big := by
  unfold outN
  rw [List.length_append, entB_len]
  have e : entryN big = 4 + wordN big + wordN big := by cases big <;> rfl
  rw [e]
  congr 1
  split
  · exact told_len _ _ _
  · next h => exact padL_len (by rw [valB_len]; unfold mN at h; omega)
theorem behL_len (f : Fd) (big : Bool) : (behL f big).length = behN f big := by
  unfold behL behN mN
  split
  · exact padL_len (by rw [valB_len]; exact evenN_ge _)
  · rfl
theorem outB_len (l : List Fd) (big : Bool) (src : Int) : ∀ j, (outB l big src j).length = j * entryN big
  | 0 => by simp [outB]
  | j + 1 => by rw [outB, List.length_append, outB_len l big src j, outN_len, Nat.add_mul, Nat.one_mul]
theorem behB_len (l : List Fd) (big : Bool) : ∀ j, j ≤ l.length → (behB l big j).length = sumB (l.take j) big
  | 0, _ => by simp [behB, sumB]
  | j + 1, h => by rw [behB, List.length_append, behB_len l big j (by omega), behL_len, sumB_more l big j (by omega)]
theorem padL_fit {l : List Int} (h : Fit l) (m : Nat) : Fit (padL l m) := h.app (fit_zeros _)
theorem outN_fit (f : Fd) (src : Int) (big : Bool) : Fit (outN f src big) := by
  unfold outN
  refine (entB_fit _ _ _ _).app ?_
  split
  · exact told_fit _ _ _
  · exact padL_fit (valB_fit _ _) _
theorem behL_fit (f : Fd) (big : Bool) : Fit (behL f big) := by
  unfold behL
  split
  · exact padL_fit (valB_fit _ _) _
  · exact fun z hz => by cases hz
theorem dirB_len (l : List Fd) (big : Bool) (at_ next : Int) : (dirB l big at_ next).length = sizeN l big := by
  unfold dirB sizeN fixedN
  rw [List.length_append, List.length_append, List.length_append, told_len, told_len, outB_len, behB_len l big l.length (Nat.le_refl _), List.take_length]
end Go.Proofs.Ytnakfdaneejcfaa
