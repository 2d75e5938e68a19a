/-
  Reading a block: mathematics, no code.
-/
import Derived.Test.YthfpdebpepbejaaDoorHBackMath
import Derived.Test.YthfpdebpepbejaaDoorSymMath
namespace Go.Proofs.YthfpdebpepbejaaDoor
open Go.RowKit

/-- the number that so many bits are -/
def ext (v k : Nat) : Int := if 2 * v < 2 ^ k then (v : Int) - ((2 ^ k : Nat) - 1 : Int) else (v : Int)
/-- a number of so many bits: where the reader stands then, the number, the error -/
def numF (l : List Int) (s : St) (k : Nat) : St × Int × Int :=
  if (getF l s k).2.2 = 0 then ((getF l s k).1, ext (getF l s k).2.1 k, 0) else ((getF l s k).1, 0, (getF l s k).2.2)
/-- the difference with which a block begins -/
def firstF (L : List En) (l : List Int) (s : St) : St × Int × Int :=
  if (getsF L l 16 s 0 0).2.2 = 0 then
    (if 11 < (getsF L l 16 s 0 0).2.1 then ((getsF L l 16 s 0 0).1, 0, 4) else numF l (getsF L l 16 s 0 0).1 (getsF L l 16 s 0 0).2.1.toNat)
  else ((getsF L l 16 s 0 0).1, 0, (getsF L l 16 s 0 0).2.2)
/-- a symbol may not be, at place i -/
def badSym (v i : Nat) : Prop := 10 < v % 16 ∨ (v % 16 = 0 ∧ v ≠ 240) ∨ 64 ≤ i + v / 16
instance (v i : Nat) : Decidable (badSym v i) := by unfold badSym; infer_instance
/-- the numbers from place i on -/
def othersG (L : List En) (l : List Int) : Nat → Nat → St → List Int → St × List Int × Int
  | 0, _, s, b => (s, b, 0)
  | f + 1, i, s, b =>
    if 64 ≤ i then (s, b, 0) else
    if (getsF L l 16 s 0 0).2.2 ≠ 0 then ((getsF L l 16 s 0 0).1, b, (getsF L l 16 s 0 0).2.2) else
    if (getsF L l 16 s 0 0).2.1 = 0 then ((getsF L l 16 s 0 0).1, b, 0) else
    if badSym (getsF L l 16 s 0 0).2.1.toNat i then ((getsF L l 16 s 0 0).1, b, 4) else
    if (numF l (getsF L l 16 s 0 0).1 ((getsF L l 16 s 0 0).2.1.toNat % 16)).2.2 ≠ 0 then ((numF l (getsF L l 16 s 0 0).1 ((getsF L l 16 s 0 0).2.1.toNat % 16)).1, b, (numF l (getsF L l 16 s 0 0).1 ((getsF L l 16 s 0 0).2.1.toNat % 16)).2.2) else
    othersG L l f (i + (getsF L l 16 s 0 0).2.1.toNat / 16 + 1) (numF l (getsF L l 16 s 0 0).1 ((getsF L l 16 s 0 0).2.1.toNat % 16)).1
      (b.set (zn (i + (getsF L l 16 s 0 0).2.1.toNat / 16)) (numF l (getsF L l 16 s 0 0).1 ((getsF L l 16 s 0 0).2.1.toNat % 16)).2.1)
def zeros64 : List Int := List.replicate 64 0
/-- a block -/
def blockF (Ld La : List En) (l : List Int) (s : St) (prev : Int) : St × List Int × Int :=
  if In prev then
    (if (firstF Ld l s).2.2 = 0 then
      (if (othersG La l 63 1 (firstF Ld l s).1 ((prev + (firstF Ld l s).2.1) :: List.replicate 63 0)).2.2 = 0 then
        (if RightB (othersG La l 63 1 (firstF Ld l s).1 ((prev + (firstF Ld l s).2.1) :: List.replicate 63 0)).2.1 then
          ((othersG La l 63 1 (firstF Ld l s).1 ((prev + (firstF Ld l s).2.1) :: List.replicate 63 0)).1, (othersG La l 63 1 (firstF Ld l s).1 ((prev + (firstF Ld l s).2.1) :: List.replicate 63 0)).2.1, 0)
        else ((othersG La l 63 1 (firstF Ld l s).1 ((prev + (firstF Ld l s).2.1) :: List.replicate 63 0)).1, zeros64, 4))
      else ((othersG La l 63 1 (firstF Ld l s).1 ((prev + (firstF Ld l s).2.1) :: List.replicate 63 0)).1, zeros64, (othersG La l 63 1 (firstF Ld l s).1 ((prev + (firstF Ld l s).2.1) :: List.replicate 63 0)).2.2))
    else ((firstF Ld l s).1, zeros64, (firstF Ld l s).2.2))
  else (s, zeros64, 2)

section
variable {L : List En} {l : List Int} {f i : Nat} {s : St} {b : List Int} {R N : St × Int × Int}
theorem othersG_end (h : 64 ≤ i) : othersG L l f i s b = (s, b, 0) := by
  cases f with
  | zero => rfl
  | succ f => rw [othersG, if_pos h]
theorem othersG_err (hR : R = getsF L l 16 s 0 0) (h : i < 64) (he : R.2.2 ≠ 0) : othersG L l (f + 1) i s b = (R.1, b, R.2.2) := by
  rw [othersG, if_neg (by omega), ← hR, if_pos he]
theorem othersG_stop (hR : R = getsF L l 16 s 0 0) (h : i < 64) (he : R.2.2 = 0) (h0 : R.2.1 = 0) : othersG L l (f + 1) i s b = (R.1, b, 0) := by
  rw [othersG, if_neg (by omega), ← hR, if_neg (by omega), if_pos h0]
theorem othersG_form (hR : R = getsF L l 16 s 0 0) (h : i < 64) (he : R.2.2 = 0) (h0 : R.2.1 ≠ 0) (hb : badSym R.2.1.toNat i) : othersG L l (f + 1) i s b = (R.1, b, 4) := by
  rw [othersG, if_neg (by omega), ← hR, if_neg (by omega), if_neg h0, if_pos hb]
theorem othersG_num (hR : R = getsF L l 16 s 0 0) (hN : N = numF l R.1 (R.2.1.toNat % 16)) (h : i < 64) (he : R.2.2 = 0) (h0 : R.2.1 ≠ 0) (hb : ¬ badSym R.2.1.toNat i) (hn : N.2.2 ≠ 0) : othersG L l (f + 1) i s b = (N.1, b, N.2.2) := by
  rw [othersG, if_neg (by omega), ← hR, if_neg (by omega), if_neg h0, if_neg hb, ← hN, if_pos hn]
theorem othersG_next (hR : R = getsF L l 16 s 0 0) (hN : N = numF l R.1 (R.2.1.toNat % 16)) (h : i < 64) (he : R.2.2 = 0) (h0 : R.2.1 ≠ 0) (hb : ¬ badSym R.2.1.toNat i) (hn : N.2.2 = 0) :
    othersG L l (f + 1) i s b = othersG L l f (i + R.2.1.toNat / 16 + 1) N.1 (b.set (zn (i + R.2.1.toNat / 16)) N.2.1) := by
  rw [othersG, if_neg (by omega), ← hR, if_neg (by omega), if_neg h0, if_neg hb, ← hN, if_neg (by omega)]
end

/-- so many bits are a number of so many bits -/
theorem goF_lt {l : List Int} (hf : Fit l) : ∀ (k : Nat) (s0 s : St) (m p : Nat), s.ok l.length → m < p → (goF l s0 k s m).2.1 < p * 2 ^ k
  | 0, _, _, m, p, _, h => by simpa [goF] using h
  | k + 1, s0, s, m, p, h, hm => by
    unfold goF
    split
    · have hb := bitF_bit hf h
      have := goF_lt hf k s0 (bitF l s).1 (2 * m + (bitF l s).2.1) (2 * p) (bitF_ok hf h) (by omega)
      rw [Nat.pow_succ]
      rw [Nat.mul_comm (2 ^ k) 2, ← Nat.mul_assoc, Nat.mul_comm p 2]
      exact this
    · have := pow_pos' (k + 1)
      show 0 < p * 2 ^ (k + 1)
      exact Nat.mul_pos (by omega) this
theorem getF_lt {l : List Int} (hf : Fit l) {s : St} (h : s.ok l.length) (k : Nat) : (getF l s k).2.1 < 2 ^ k := by
  unfold getF
  split
  · exact pow_pos' k
  · have := goF_lt hf k s s 0 1 h (by omega)
    rw [Int.toNat_natCast]
    omega
theorem ext_small {v k : Nat} (h : v < 2 ^ k) (hk : k ≤ 11) : -2047 ≤ ext v k ∧ ext v k ≤ 2047 := by
  have hp : 2 ^ k ≤ 2048 := Nat.le_trans (Nat.pow_le_pow_right (by omega) hk) (by decide)
  unfold ext
  split <;> omega
theorem numF_small {l : List Int} (hf : Fit l) {s : St} (h : s.ok l.length) {k : Nat} (hk : k ≤ 11) : -2047 ≤ (numF l s k).2.1 ∧ (numF l s k).2.1 ≤ 2047 := by
  unfold numF
  split
  · exact ext_small (getF_lt hf h k) hk
  · dsimp only; omega
theorem numF_ok {l : List Int} (hf : Fit l) {s : St} (h : s.ok l.length) (k : Nat) : (numF l s k).1.ok l.length := by
  unfold numF
  split <;> exact getF_ok hf h _
/-- a value that is got is one of the codes' -/
theorem getsF_val {L : List En} {l : List Int} (hL : ∀ e ∈ L, 0 ≤ e.1 ∧ e.1 ≤ 255) : ∀ (k : Nat) (s : St) (m z : Nat), 0 ≤ (getsF L l k s m z).2.1 ∧ (getsF L l k s m z).2.1 ≤ 255
  | 0, s, m, z => by unfold getsF; dsimp only; omega
  | k + 1, s, m, z => by
    unfold getsF
    split
    · split
      · next e he => exact hL e (get_some he).1
      · exact getsF_val hL k _ _ _
    · dsimp only; omega
theorem getsF_ok {L : List En} {l : List Int} (hf : Fit l) : ∀ (k : Nat) (s : St) (m z : Nat), s.ok l.length → (getsF L l k s m z).1.ok l.length
  | 0, s, m, z, h => h
  | k + 1, s, m, z, h => by
    unfold getsF
    split
    · split
      · exact bitF_ok hf h
      · exact getsF_ok hf k _ _ _ (bitF_ok hf h)
    · exact h
end Go.Proofs.YthfpdebpepbejaaDoor
