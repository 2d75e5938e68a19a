/-
  The symbols of a block: mathematics, no code.
-/
import Derived.Test.YthfpdebpepbejaaDoorBlock
namespace Go.Proofs.YthfpdebpepbejaaDoor
open Go.RowKit

/-- a symbol: which table, which value, which number's bits follow -/
abbrev Sym := Nat × Nat × Int
/-- the number in place k of the scan -/
def zig (b : List Int) (k : Nat) : Int := b.getD (zn k) 0
/-- the symbols of a number behind a run of noughts -/
def runsOf (run : Nat) (z : Int) : List Sym := List.replicate (run / 16) (1, 240, 0) ++ [(1, 16 * (run % 16) + sz z, z)]
theorem runsOf_big {run : Nat} (z : Int) (h : 15 < run) : runsOf run z = (1, 240, 0) :: runsOf (run - 16) z := by
  unfold runsOf
  rw [show run / 16 = (run - 16) / 16 + 1 by omega, show run % 16 = (run - 16) % 16 by omega]
  rfl
theorem runsOf_small {run : Nat} (z : Int) (h : run ≤ 15) : runsOf run z = [(1, 16 * run + sz z, z)] := by
  unfold runsOf
  rw [show run / 16 = 0 by omega, show run % 16 = run by omega]
  rfl
/-- the symbols of the n numbers from place i on, behind a run of noughts -/
def symsF (b : List Int) : Nat → Nat → Nat → List Sym
  | 0, _, run => if 0 < run then [(1, 0, 0)] else []
  | n + 1, i, run => if zig b i = 0 then symsF b n (i + 1) (run + 1) else runsOf run (zig b i) ++ symsF b n (i + 1) 0
/-- all symbols of a block -/
def allS (prev : Int) (b : List Int) : List Sym := (0, sz (b.getD 0 0 - prev), b.getD 0 0 - prev) :: symsF b 63 1 0

theorem symsF_zero {b : List Int} {n i run : Nat} (h : zig b i = 0) : symsF b (n + 1) i run = symsF b n (i + 1) (run + 1) := by rw [symsF, if_pos h]
theorem symsF_some {b : List Int} {n i run : Nat} (h : zig b i ≠ 0) : symsF b (n + 1) i run = runsOf run (zig b i) ++ symsF b n (i + 1) 0 := by rw [symsF, if_neg h]

theorem in_size {z : Int} (h : In z) : sz z ≤ 10 := sz_le.2 (by unfold In at h; rw [show (2 : Nat) ^ 10 = 1024 by decide]; omega)
theorem diff_size {z : Int} (h : z.natAbs ≤ 2046) : sz z ≤ 11 := sz_le.2 (by rw [show (2 : Nat) ^ 11 = 2048 by decide]; omega)
theorem RightB.zig {b : List Int} (h : RightB b) {k : Nat} (hk : k < 64) : In (zig b k) := h _ (zn_at k hk).2

/-- what symbols of blocks that may be are like -/
structure SymOk (s : Sym) : Prop where
  tab : s.1 < 2
  val : s.2.1 < 256
  num : s.2.2.natAbs ≤ 2046
theorem runsOf_ok {run : Nat} {z : Int} (hz : In z) : ∀ s ∈ runsOf run z, SymOk s ∧ s.1 = 1 := by
  intro s hs
  unfold runsOf at hs
  rcases List.mem_append.1 hs with h | h
  · rw [List.eq_of_mem_replicate h]
    exact ⟨⟨by decide, by decide, by decide⟩, rfl⟩
  · rw [List.mem_singleton.1 h]
    have := in_size hz
    unfold In at hz
    exact ⟨⟨by simp, by simp only; omega, by simp only; omega⟩, rfl⟩
theorem symsF_ok {b : List Int} (hb : RightB b) : ∀ (n i run : Nat), i + n = 64 → ∀ s ∈ symsF b n i run, SymOk s ∧ s.1 = 1
  | 0, i, run, _ => by
    intro s hs
    unfold symsF at hs
    split at hs
    · rw [List.mem_singleton.1 hs]
      exact ⟨⟨by decide, by decide, by decide⟩, rfl⟩
    · cases hs
  | n + 1, i, run, h => by
    intro s hs
    by_cases hz : zig b i = 0
    · rw [symsF_zero hz] at hs
      exact symsF_ok hb n (i + 1) _ (by omega) s hs
    · rw [symsF_some hz] at hs
      rcases List.mem_append.1 hs with h' | h'
      · exact runsOf_ok (hb.zig (by omega)) s h'
      · exact symsF_ok hb n (i + 1) _ (by omega) s h'
theorem diff_small {prev : Int} {b : List Int} (hb : RightB b) (hp : In prev) : (b.getD 0 0 - prev).natAbs ≤ 2046 := by
  have h0 := hb 0 (by omega)
  unfold In at *
  omega
theorem allS_ok {prev : Int} {b : List Int} (hb : RightB b) (hp : In prev) : ∀ s ∈ allS prev b, SymOk s := by
  intro s hs
  rcases List.mem_cons.1 hs with h | h
  · rw [h]
    have := diff_small hb hp
    have := diff_size this
    exact ⟨by simp, by simp only; omega, by simp only; omega⟩
  · exact (symsF_ok hb 63 1 0 (by omega) s h).1
theorem runsOf_len (run : Nat) (z : Int) : (runsOf run z).length = run / 16 + 1 := by simp [runsOf]
theorem symsF_len (b : List Int) : ∀ (n i run : Nat), (symsF b n i run).length ≤ n + run
  | 0, i, run => by unfold symsF; split <;> simp <;> omega
  | n + 1, i, run => by
    by_cases hz : zig b i = 0
    · rw [symsF_zero hz]
      have := symsF_len b n (i + 1) (run + 1)
      omega
    · rw [symsF_some hz, List.length_append, runsOf_len]
      have := symsF_len b n (i + 1) 0
      omega
theorem allS_len (prev : Int) (b : List Int) : (allS prev b).length ≤ 64 := by
  have := symsF_len b 63 1 0
  unfold allS
  rw [List.length_cons]
  omega
/-- the bits of a number, as a number -/
def numB (z : Int) : Nat := if z < 0 then (2 ^ sz z - 1 - z.natAbs) else z.toNat
theorem numB_lt (z : Int) : numB z < 2 ^ sz z := by
  have h := (sz_le (z := z)).1 (Nat.le_refl _)
  unfold numB
  split <;> omega
end Go.Proofs.YthfpdebpepbejaaDoor
