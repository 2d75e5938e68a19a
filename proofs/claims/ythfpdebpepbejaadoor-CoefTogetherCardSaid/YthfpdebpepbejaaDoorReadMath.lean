/-
  A reader: mathematics, no code.
-/
import Derived.Test.YthfpdebpepbejaaDoorMath
namespace Go.Proofs.YthfpdebpepbejaaDoor
open Go.RowKit

/-- where a reader stands: how many bytes lie ahead, and what is left of the last one of them -/
structure St where
  at_ : Nat
  v : Nat
  c : Nat
/-- a place that a reader of n bytes can stand at -/
structure St.ok (s : St) (n : Nat) : Prop where
  at_ : s.at_ ≤ n
  c : s.c ≤ 8
  v : s.v < 2 ^ s.c
/-- why the next byte can't be begun: 0 if it can -/
def beginE (l : List Int) (a : Nat) : Int :=
  if a < l.length then (if l.getD a 0 = 255 then (if a + 1 < l.length then (if l.getD (a + 1) 0 = 0 then 0 else 7) else 3) else 0) else 3
/-- how many bytes the next one takes -/
def beginS (l : List Int) (a : Nat) : Nat := if l.getD a 0 = 255 then 2 else 1
/-- behind the beginning of a byte -/
def begun (l : List Int) (a : Nat) : St := ⟨a + beginS l a, (l.getD a 0).toNat, 8⟩
/-- the next bit: where the reader stands then, the bit, the error -/
def bitF (l : List Int) (s : St) : St × Nat × Int :=
  if 0 < s.c then (⟨s.at_, s.v % 2 ^ (s.c - 1), s.c - 1⟩, s.v / 2 ^ (s.c - 1), 0)
  else if beginE l s.at_ = 0 then (⟨s.at_ + beginS l s.at_, (l.getD s.at_ 0).toNat % 128, 7⟩, (l.getD s.at_ 0).toNat / 128, 0)
  else (s, 0, beginE l s.at_)
/-- k bits more, behind a number m; on an error the reader is at s0 -/
def goF (l : List Int) (s0 : St) : Nat → St → Nat → St × Nat × Int
  | 0, s, m => (s, m, 0)
  | k + 1, s, m => if (bitF l s).2.2 = 0 then goF l s0 k (bitF l s).1 (2 * m + (bitF l s).2.1) else (s0, 0, (bitF l s).2.2)
/-- so many bits -/
def getF (l : List Int) (s : St) (count : Int) : St × Nat × Int :=
  if count < 0 ∨ 24 < count then (s, 0, 2) else goF l s count.toNat s 0
/-- past the byte -/
def skipF (s : St) : St := ⟨s.at_, 0, 0⟩
/-- why there is no marker -/
def markE (l : List Int) (a : Nat) : Int :=
  if l.length < a + 2 then 3 else if l.getD a 0 = 255 ∧ l.getD (a + 1) 0 ≠ 255 ∧ l.getD (a + 1) 0 ≠ 0 then 0 else 4
def markF (l : List Int) (s : St) : St × Nat × Int :=
  if markE l s.at_ = 0 then (⟨s.at_ + 2, 0, 0⟩, (l.getD (s.at_ + 1) 0).toNat, 0) else (s, 0, markE l s.at_)

theorem beginE_some {l : List Int} {a : Nat} (h : beginE l a = 0) : a + beginS l a ≤ l.length := by
  unfold beginE at h
  unfold beginS
  split at h
  · split at h
    · next h2 =>
      rw [if_pos h2]
      split at h
      · omega
      · cases h
    · next h2 => rw [if_neg h2]; omega
  · cases h
theorem bitF_full {l : List Int} {s : St} (h : 0 < s.c) : bitF l s = (⟨s.at_, s.v % 2 ^ (s.c - 1), s.c - 1⟩, s.v / 2 ^ (s.c - 1), 0) := by rw [bitF, if_pos h]
/-- a byte is begun ahead of its first bit -/
theorem bitF_begun {l : List Int} {s : St} (h : s.c = 0) (h0 : beginE l s.at_ = 0) : bitF l s = bitF l (begun l s.at_) := by
  rw [bitF_full (s := begun l s.at_) (by show 0 < 8; omega), bitF, if_neg (by omega), if_pos h0]
  rfl
theorem bitF_none {l : List Int} {s : St} (h : s.c = 0) (h0 : beginE l s.at_ ≠ 0) : bitF l s = (s, 0, beginE l s.at_) := by
  rw [bitF, if_neg (by omega), if_neg h0]
theorem begun_ok {l : List Int} (hf : Fit l) {a : Nat} (h : beginE l a = 0) : (begun l a).ok l.length := by
  refine ⟨beginE_some h, Nat.le_refl _, ?_⟩
  have := hf.getD a
  show (l.getD a 0).toNat < 256
  omega
theorem bitF_ok {l : List Int} (hf : Fit l) {s : St} (h : s.ok l.length) : (bitF l s).1.ok l.length := by
  by_cases hc : 0 < s.c
  · rw [bitF_full hc]
    exact ⟨h.at_, by have := h.c; show s.c - 1 ≤ 8; omega, Nat.mod_lt _ (pow_pos' _)⟩
  · by_cases h0 : beginE l s.at_ = 0
    · rw [bitF_begun (by omega) h0, bitF_full (by show 0 < 8; omega)]
      have := begun_ok hf h0
      exact ⟨this.at_, by show 7 ≤ 8; omega, Nat.mod_lt _ (pow_pos' _)⟩
    · rw [bitF_none (by omega) h0]
      exact h
theorem bitF_bit {l : List Int} (hf : Fit l) {s : St} (h : s.ok l.length) : (bitF l s).2.1 < 2 := by
  have full : ∀ s : St, 0 < s.c → s.v < 2 ^ s.c → (bitF l s).2.1 < 2 := by
    intro s hc hv
    rw [bitF_full hc]
    show s.v / 2 ^ (s.c - 1) < 2
    rw [Nat.div_lt_iff_lt_mul (pow_pos' _), ← Nat.pow_succ']
    rw [show (s.c - 1).succ = s.c by omega]
    exact hv
  by_cases hc : 0 < s.c
  · exact full s hc h.v
  · by_cases h0 : beginE l s.at_ = 0
    · rw [bitF_begun (by omega) h0]
      exact full _ (by show 0 < 8; omega) (begun_ok hf h0).v
    · rw [bitF_none (by omega) h0]
      show 0 < 2
      omega
theorem goF_ok {l : List Int} (hf : Fit l) {s0 : St} (h0 : s0.ok l.length) : ∀ (k : Nat) (s : St) (m : Nat), s.ok l.length → (goF l s0 k s m).1.ok l.length
  | 0, _, _, h => h
  | k + 1, s, m, h => by
    unfold goF
    split
    · exact goF_ok hf h0 k _ _ (bitF_ok hf h)
    · exact h0
theorem getF_ok {l : List Int} (hf : Fit l) {s : St} (h : s.ok l.length) (count : Int) : (getF l s count).1.ok l.length := by
  unfold getF
  split
  · exact h
  · exact goF_ok hf h _ _ _ h
theorem goF_begun {l : List Int} {s0 s : St} (k m : Nat) (h : s.c = 0) (h0 : beginE l s.at_ = 0) : goF l s0 (k + 1) s m = goF l s0 (k + 1) (begun l s.at_) m := by
  rw [goF, goF, bitF_begun h h0]
theorem goF_none {l : List Int} {s0 s : St} (k m : Nat) (h : s.c = 0) (h0 : beginE l s.at_ ≠ 0) : goF l s0 (k + 1) s m = (s0, 0, beginE l s.at_) := by
  rw [goF, bitF_none h h0, if_neg h0]
theorem goF_full {l : List Int} {s0 s : St} (k m : Nat) (h : 0 < s.c) : goF l s0 (k + 1) s m = goF l s0 k ⟨s.at_, s.v % 2 ^ (s.c - 1), s.c - 1⟩ (2 * m + s.v / 2 ^ (s.c - 1)) := by
  rw [goF, bitF_full h, if_pos rfl]
end Go.Proofs.YthfpdebpepbejaaDoor
