/-
  The contract of take: the tree that goes first.
-/
import Derived.Test.YtmaffonnekgekaaArr
namespace Go.Proofs.Ytmaffonnekgekaa
open Go.RowKit

/-- of the first k sums the least that is above 0, the last of those alike, is at t -/
def TakeIs (S : List Int) (k : Nat) (t s : Int) : Prop :=
  (s = 0 ∧ t = 0 ∧ ∀ j, j < k → ¬ 0 < S.getD j 0) ∨ (∃ m : Nat, t = (m : Int) ∧ m < k ∧ S.getD m 0 = s ∧ 0 < s ∧ ∀ j, j < k → 0 < S.getD j 0 → s < S.getD j 0 ∨ (s = S.getD j 0 ∧ j ≤ m))
theorem TakeIs.yes {S : List Int} {k : Nat} {t s : Int} (h : TakeIs S k t s) (h0 : 0 < S.getD k 0) (h1 : s = 0 ∨ S.getD k 0 ≤ s) : TakeIs S (k + 1) (k : Int) (S.getD k 0) := by
  refine .inr ⟨k, rfl, by omega, rfl, h0, fun j hj hp => ?_⟩
  rcases h with ⟨_, _, hn⟩ | ⟨m, _, hm, hs, hs0, hl⟩
  · rcases Nat.lt_or_ge j k with h' | h'
    · exact absurd hp (hn j h')
    · obtain rfl : j = k := by omega
      exact .inr ⟨rfl, Nat.le_refl _⟩
  · rcases Nat.lt_or_ge j k with h' | h'
    · have := hl j h' hp
      omega
    · obtain rfl : j = k := by omega
      exact .inr ⟨rfl, Nat.le_refl _⟩
theorem TakeIs.no {S : List Int} {k : Nat} {t s : Int} (h : TakeIs S k t s) (h1 : ¬ 0 < S.getD k 0 ∨ (s ≠ 0 ∧ s < S.getD k 0)) : TakeIs S (k + 1) t s := by
  rcases h with ⟨e, et, hn⟩ | ⟨m, et, hm, hs, hs0, hl⟩
  · refine .inl ⟨e, et, fun j hj hp => ?_⟩
    rcases Nat.lt_or_ge j k with h' | h'
    · exact hn j h' hp
    · obtain rfl : j = k := by omega
      omega
  · refine .inr ⟨m, et, by omega, hs, hs0, fun j hj hp => ?_⟩
    rcases Nat.lt_or_ge j k with h' | h'
    · exact hl j h' hp
    · obtain rfl : j = k := by omega
      omega
theorem TakeIs.nat {S : List Int} {t s : Int} (h : TakeIs S 257 t s) : ∃ m : Nat, t = (m : Int) ∧ m < 257 := by
  rcases h with ⟨_, e, _⟩ | ⟨m, e, hm, _⟩
  · exact ⟨0, e, by omega⟩
  · exact ⟨m, e, hm⟩

/-- what take leaves -/
def TakenT (w : World) (g : Nat) (S T L : List Int) (e : Ending) (w' : World) : Prop :=
  ∃ (m : Nat) (s : Int), e = .returned (.tuple #[.int .i64 (m : Int), .int .i64 s]) ∧ m < 257 ∧ TakeIs S 257 (m : Int) s ∧ TreeAt w' g (S.set m 0) T L ∧ Kept (fun i => i = g) w w'

set_option maxRecDepth 20000 in
set_option maxHeartbeats 1600000 in
theorem takeT_any (w : World) (g : Nat) (S T L : List Int) (h : TreeAt w g S T L) : Calls Try.prog 37 #[.pointer (some ⟨g, 0, none⟩)] w (TakenT w g S T L) := by
  have HI := Lib.hid h
  have hg := h.box.lt
  obtain ⟨C, hC⟩ : ∃ C, C = (cellsI S).toArray := ⟨_, rfl⟩
  have HC := Lib.hid hC
  clear hC h
  go_enter Try.func37, Try.ntmps37
  go_wp2_with (first
    | (with_reducible refine wpList_load_to (op := ⟨some 11, _, _, _, _, _⟩) rfl 47 (.tmp 10) rfl (.pointer (some ⟨g, 0, none⟩)) rfl (.agg C) (by rw [HC.out]; exact load257 HI.out.rangeS HI.out.ls) ?_)
    | fail)
  go_loopw [12, 4, 5] (fun i t s wr => ∃ (k : Nat) (t0 s0 : Int), k ≤ 257 ∧ i = .int .i64 k ∧ t = .int .i64 t0 ∧ s = .int .i64 s0 ∧ TakeIs S k t0 s0 ∧ wr = w) (fun i _ _ _ => 257 - (intOf i).toNat)
  case atStart => exact ⟨0, 0, 0, Nat.zero_le _, rfl, rfl, rfl, .inl ⟨rfl, rfl, fun j hj => absurd hj (by omega)⟩, rfl⟩
  case round =>
    obtain ⟨k, t0, s0, hk, rfl, rfl, rfl, hR, rfl⟩ := hrel
    by_cases hlt : k < 257
    · have hix := index257 wr HI.out.ls hlt
      rw [← HC.out] at hix
      obtain ⟨v, hv⟩ : ∃ v, v = S.getD k 0 := ⟨_, rfl⟩
      rw [← hv] at hix
      have HR := Lib.hid (And.intro hR (And.intro hv hix))
      clear hR hix hv
      by_cases h0 : 0 < v
      · by_cases h1 : s0 = 0
        · subst h1
          go_wp2_with (first
            | (with_reducible refine wpList_index_to (op := ⟨some 15, _, _, _, _, _⟩) rfl 47 (.tmp 11) (.tmp 12) rfl (.agg C) (.int .i64 (k : Int)) rfl rfl _ HR.out.2.2 ?_)
            | fail)
          go_roundw
          case rel =>
            refine ⟨k + 1, _, _, by omega, by go_num, rfl, rfl, ?_, trivial⟩
            have := HR.out.1.yes (by rw [← HR.out.2.1]; exact h0) (.inl rfl)
            rw [← HR.out.2.1] at this
            exact this
          case measure => simp [intOf]; omega
        · have g1 : (s0 == 0) = false := by simpa using h1
          by_cases h2 : v ≤ s0
          · go_wp2_with (first
              | (with_reducible refine wpList_index_to (op := ⟨some 15, _, _, _, _, _⟩) rfl 47 (.tmp 11) (.tmp 12) rfl (.agg C) (.int .i64 (k : Int)) rfl rfl _ HR.out.2.2 ?_)
              | fail)
            go_roundw
            case rel =>
              refine ⟨k + 1, _, _, by omega, by go_num, rfl, rfl, ?_, trivial⟩
              have := HR.out.1.yes (by rw [← HR.out.2.1]; exact h0) (.inr (by rw [← HR.out.2.1]; exact h2))
              rw [← HR.out.2.1] at this
              exact this
            case measure => simp [intOf]; omega
          · go_wp2_with (first
              | (with_reducible refine wpList_index_to (op := ⟨some 15, _, _, _, _, _⟩) rfl 47 (.tmp 11) (.tmp 12) rfl (.agg C) (.int .i64 (k : Int)) rfl rfl _ HR.out.2.2 ?_)
              | fail)
            go_roundw
            case rel => exact ⟨k + 1, _, _, by omega, by go_num, rfl, rfl, HR.out.1.no (.inr ⟨h1, by rw [← HR.out.2.1]; omega⟩), trivial⟩
            case measure => simp [intOf]; omega
      · go_wp2_with (first
          | (with_reducible refine wpList_index_to (op := ⟨some 15, _, _, _, _, _⟩) rfl 47 (.tmp 11) (.tmp 12) rfl (.agg C) (.int .i64 (k : Int)) rfl rfl _ HR.out.2.2 ?_)
          | fail)
        go_roundw
        case rel => exact ⟨k + 1, _, _, by omega, by go_num, rfl, rfl, HR.out.1.no (.inl (by rw [← HR.out.2.1]; exact h0)), trivial⟩
        case measure => simp [intOf]; omega
    · have ek : k = 257 := by omega
      subst ek
      obtain ⟨m, rfl, hm⟩ := hR.nat
      have c0 := HI.out.cellS hm
      have f0 := HI.out.box.free m
      have HR := Lib.hid hR
      clear hR
      go_wp2
      go_ret2
      exact ⟨m, s0, rfl, hm, HR.out, HI.out.putS hm 0, (Kept.refl (fun i => i = g) wr).setCell (p := ⟨g, m, none⟩) (fun _ => rfl) _⟩
end Go.Proofs.Ytmaffonnekgekaa
