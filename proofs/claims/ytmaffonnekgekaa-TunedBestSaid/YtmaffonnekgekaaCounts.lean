/-
  Counts: the contracts of inRange, of the reference's Right and of slices.Max.
-/
import Derived.Test.YtmaffonnekgekaaRises
namespace Go.Proofs.Ytmaffonnekgekaa
open Go.RowKit

/-- each of the first k counts may be -/
def Rang (C : List Int) (k : Nat) : Prop := ∀ j, j < k → 0 ≤ C.getD j 0 ∧ C.getD j 0 ≤ 1099511627776
theorem Rang.more {C : List Int} {k : Nat} (h : Rang C k) (h0 : 0 ≤ C.getD k 0) (h1 : C.getD k 0 ≤ 1099511627776) : Rang C (k + 1) := fun i hi => by
  rcases Nat.lt_or_ge i k with h' | h'
  · exact h i h'
  · obtain rfl : i = k := by omega
    exact ⟨h0, h1⟩
/-- counts that may be -/
structure Good (C : List Int) : Prop where
  rang : Rang C C.length
  one : 1 ≤ C.length
  few : C.length ≤ 256
/-- one of the first k is above 0 -/
def Any (C : List Int) (k : Nat) : Prop := ∃ j, j < k ∧ 0 < C.getD j 0

/-- what inRange answers -/
def InRanged (w : World) (C : List Int) (e : Ending) (w' : World) : Prop := ∃ b, e = .returned (.bool b) ∧ (b = true ↔ Good C) ∧ Below w.heap.size w w'

set_option maxHeartbeats 800000 in
theorem inRange_any (w : World) (C : List Int) (A : Option Addr) (n c : Nat) (h : Ia w A n c C) (hn : n ≤ 300) : Calls Try.prog 19 #[.slice A n c] w (InRanged w C) := by
  have HI := Lib.hid h
  have HL := Lib.hid h.len
  clear h
  go_enter Try.func19, Try.ntmps19
  go_wp2_with fail
  go_loopw [7] (fun i wr => ∃ k : Nat, k ≤ n ∧ i = .int .i64 k ∧ Rang C k ∧ wr = w) (fun i _ => n - (intOf i).toNat)
  case atStart => exact ⟨0, Nat.zero_le _, rfl, fun j hj => absurd hj (by omega), rfl⟩
  case round =>
    obtain ⟨k, hk, rfl, hR, rfl⟩ := hrel
    by_cases hlt : k < n
    · obtain ⟨b, off, hA, _, hc⟩ := HI.out.at_ (by omega)
      have hck := hc k hlt
      obtain ⟨v, hv⟩ : ∃ v, v = C.getD k 0 := ⟨_, rfl⟩
      rw [← hv] at hck
      have HR := Lib.hid (And.intro hR hv)
      clear hc hR hv
      subst hA
      by_cases h0 : v < 0
      · go_wp2
        go_ret
        refine ⟨false, rfl, ⟨(fun e => by cases e), fun hd => ?_⟩, Below.refl _ _⟩
        have := hd.rang k (by have := HL.out; omega)
        rw [← HR.out.2] at this
        omega
      by_cases h1 : 1099511627776 < v
      · go_wp2
        go_ret
        refine ⟨false, rfl, ⟨(fun e => by cases e), fun hd => ?_⟩, Below.refl _ _⟩
        have := hd.rang k (by have := HL.out; omega)
        rw [← HR.out.2] at this
        omega
      go_wp2
      go_roundw
      case rel => exact ⟨k + 1, by omega, by go_num, HR.out.1.more (by rw [← HR.out.2]; omega) (by rw [← HR.out.2]; omega), trivial⟩
      case measure => simp [intOf]; omega
    · have ek : k = n := by omega
      have HE := Lib.hid (And.intro hR ek)
      clear hR ek
      by_cases h0 : n < 1
      · go_wp2
        go_ret
        refine ⟨false, rfl, ⟨(fun e => by cases e), fun hd => ?_⟩, Below.refl _ _⟩
        have := hd.one
        have := HL.out
        omega
      go_wp2
      go_ret
      have hl := HL.out
      obtain ⟨hR, ek⟩ := HE.out
      refine ⟨decide ((n : Int) ≤ 256), rfl, ⟨fun h => ?_, fun hg => ?_⟩, Below.refl _ _⟩
      · have h := of_decide_eq_true h
        exact ⟨by rw [hl, ← ek]; exact hR, by omega, by omega⟩
      · have := hg.few
        exact decide_eq_true (by omega)

/-- what slices.Max answers -/
def Maxed (w : World) (C : List Int) (e : Ending) (w' : World) : Prop := ∃ m, e = .returned (.int .i64 m) ∧ (∀ j, j < C.length → C.getD j 0 ≤ m) ∧ (∃ j, j < C.length ∧ m = C.getD j 0) ∧ Below w.heap.size w w'

set_option maxHeartbeats 800000 in
theorem max_any (w : World) (C : List Int) (A : Option Addr) (n c : Nat) (h : Ia w A n c C) (hn : n ≤ 300) (h1 : 1 ≤ n) : Calls Try.prog 20 #[.slice A n c] w (Maxed w C) := by
  have HI := Lib.hid h
  have HL := Lib.hid h.len
  clear h
  obtain ⟨b, off, hA, _, hc⟩ := HI.out.at_ (by omega)
  have hc0 := hc 0 (by omega)
  rw [Nat.add_zero] at hc0
  have HC := Lib.hid hc
  clear hc
  subst hA
  go_enter Try.func20, Try.ntmps20
  go_wp2_with fail
  go_loopw [4, 3] (fun i m wr => ∃ (k : Nat) (z : Int), k ≤ n ∧ i = .int .i64 k ∧ m = .int .i64 z ∧ (∀ j, j < k → C.getD j 0 ≤ z) ∧ (∃ j, j < n ∧ z = C.getD j 0) ∧ wr = w) (fun i _ _ => n - (intOf i).toNat)
  case atStart => exact ⟨1, _, h1, rfl, rfl, fun j hj => by obtain rfl : j = 0 := by omega
                                                            exact Int.le_refl _, ⟨0, by omega, rfl⟩, rfl⟩
  case round =>
    obtain ⟨k, z, hk, rfl, rfl, hR, hz, rfl⟩ := hrel
    have HR := Lib.hid (And.intro hR hz)
    clear hR hz
    by_cases hlt : k < n
    · have hck := HC.out k hlt
      obtain ⟨v, hv⟩ : ∃ v, v = C.getD k 0 := ⟨_, rfl⟩
      rw [← hv] at hck
      have HV := Lib.hid hv
      clear hv
      by_cases hvz : v ≤ z
      · have g1 : ¬ z < v := by omega
        go_wp2
        go_roundw
        case rel =>
          refine ⟨k + 1, z, by omega, by go_num, ?_, fun j hj => ?_, HR.out.2, trivial⟩
          · simp <;> omega
          · rcases Nat.lt_or_ge j k with h' | h'
            · exact HR.out.1 j h'
            · obtain rfl : j = k := by omega
              rw [← HV.out]
              exact hvz
        case measure => simp [intOf]; omega
      · have g1 : z < v := by omega
        go_wp2
        go_roundw
        case rel =>
          refine ⟨k + 1, v, by omega, by go_num, ?_, fun j hj => ?_, ⟨k, hlt, HV.out⟩, trivial⟩
          · simp <;> omega
          · rcases Nat.lt_or_ge j k with h' | h'
            · have := HR.out.1 j h'
              omega
            · obtain rfl : j = k := by omega
              rw [← HV.out]
              exact Int.le_refl _
        case measure => simp [intOf]; omega
    · have ek : k = n := by omega
      have HE := Lib.hid ek
      clear ek
      go_wp2
      go_ret
      have hl := HL.out
      exact ⟨z, rfl, fun j hj => HR.out.1 j (by have := HE.out; omega), by obtain ⟨j, hj, e⟩ := HR.out.2; exact ⟨j, by omega, e⟩, Below.refl _ _⟩

/-- what the reference's Right answers -/
def RightC (w : World) (C : List Int) (e : Ending) (w' : World) : Prop := ∃ a b, e = .returned (.tuple #[.bool a, .bool b]) ∧ (a = true ↔ Good C) ∧ (a = true → (b = true ↔ Any C C.length)) ∧ Below w.heap.size w w'

set_option maxHeartbeats 1600000 in
theorem rightC_any (w : World) (C : List Int) (A : Option Addr) (n c : Nat) (h : Ia w A n c C) (hn : n ≤ 300) : Calls Try.prog 25 #[.slice A n c] w (RightC w C) := by
  have HI := Lib.hid h
  have HL := Lib.hid h.len
  clear h
  go_enter Try.func25, Try.ntmps25
  go_wp2_with fail
  go_loopw [5, 4] (fun i s wr => ∃ (k : Nat) (d : Bool), k ≤ n ∧ i = .int .i64 k ∧ s = .bool d ∧ Rang C k ∧ (d = true ↔ Any C k) ∧ wr = w) (fun i _ _ => n - (intOf i).toNat)
  case atStart => exact ⟨0, false, Nat.zero_le _, rfl, rfl, fun j hj => absurd hj (by omega), ⟨(fun e => by cases e), fun ⟨j, hj, _⟩ => absurd hj (by omega)⟩, rfl⟩
  case round =>
    obtain ⟨k, d, hk, rfl, rfl, hR, hd, rfl⟩ := hrel
    by_cases hlt : k < n
    · obtain ⟨b, off, hA, _, hc⟩ := HI.out.at_ (by omega)
      have hck := hc k hlt
      obtain ⟨v, hv⟩ : ∃ v, v = C.getD k 0 := ⟨_, rfl⟩
      rw [← hv] at hck
      have HR := Lib.hid (And.intro hR (And.intro hd hv))
      clear hc hR hv hd
      subst hA
      by_cases h0 : v < 0
      · go_wp2
        go_ret2
        refine ⟨false, false, rfl, ⟨(fun e => by cases e), fun hd => ?_⟩, (fun e => by cases e), Below.refl _ _⟩
        have := hd.rang k (by have := HL.out; omega)
        rw [← HR.out.2.2] at this
        omega
      by_cases h1 : 1099511627776 < v
      · go_wp2
        go_ret2
        refine ⟨false, false, rfl, ⟨(fun e => by cases e), fun hd => ?_⟩, (fun e => by cases e), Below.refl _ _⟩
        have := hd.rang k (by have := HL.out; omega)
        rw [← HR.out.2.2] at this
        omega
      have hmore : Rang C (k + 1) := HR.out.1.more (by rw [← HR.out.2.2]; omega) (by rw [← HR.out.2.2]; omega)
      have hany : Any C (k + 1) ↔ (Any C k ∨ 0 < v) := by
        rw [HR.out.2.2]
        constructor
        · rintro ⟨j, hj, h⟩
          rcases Nat.lt_or_ge j k with h' | h'
          · exact .inl ⟨j, h', h⟩
          · obtain rfl : j = k := by omega
            exact .inr h
        · rintro (⟨j, hj, h⟩ | h)
          · exact ⟨j, by omega, h⟩
          · exact ⟨k, by omega, h⟩
      have HM := Lib.hid (And.intro hmore hany)
      clear hmore hany
      cases d with
      | true =>
        go_wp2
        go_roundw
        case rel => exact ⟨k + 1, true, by omega, by go_num, rfl, HM.out.1, ⟨fun _ => HM.out.2.2 (.inl (HR.out.2.1.1 rfl)), fun _ => rfl⟩, trivial⟩
        case measure => simp [intOf]; omega
      | false =>
        by_cases hv0 : 0 < v
        · go_wp2
          go_roundw
          case rel => exact ⟨k + 1, true, by omega, by go_num, by simp <;> omega, HM.out.1, ⟨fun _ => HM.out.2.2 (.inr hv0), fun _ => rfl⟩, trivial⟩
          case measure => simp [intOf]; omega
        · go_wp2
          go_roundw
          case rel =>
            refine ⟨k + 1, false, by omega, by go_num, by simp <;> omega, HM.out.1, ⟨(fun e => by cases e), fun h => ?_⟩, trivial⟩
            rcases HM.out.2.1 h with h | h
            · exact HR.out.2.1.2 h
            · exact absurd h hv0
          case measure => simp [intOf]; omega
    · have ek : k = n := by omega
      have HE := Lib.hid (And.intro hR (And.intro hd ek))
      clear hR hd ek
      by_cases h0 : n < 1
      · go_wp2
        go_ret2
        refine ⟨false, d, rfl, ⟨(fun e => by cases e), fun hd => ?_⟩, (fun e => by cases e), Below.refl _ _⟩
        have := hd.one
        have := HL.out
        omega
      go_wp2
      go_ret2
      have hl := HL.out
      obtain ⟨hR, hd, ek⟩ := HE.out
      refine ⟨decide ((n : Int) ≤ 256), d, rfl, ⟨fun h => ?_, fun hg => ?_⟩, fun _ => by rw [hl, ← ek]; exact hd, Below.refl _ _⟩
      · have h := of_decide_eq_true h
        exact ⟨by rw [hl, ← ek]; exact hR, by omega, by omega⟩
      · have := hg.few
        exact decide_eq_true (by omega)
end Go.Proofs.Ytmaffonnekgekaa
