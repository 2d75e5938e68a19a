/-
  HuffRises: the walk. Counts: the contracts of inRange, of the reference's Right and of slices.Max. Arrays of 257 numbers, and the three of trees, in memory. The contract of take: the tree that goes first. The contract of join: two trees are one. Joining the two least: mathematics, no code. No lengths are better. A run of joins: mathematics, no code. What the lengths cost, and their share. Joining by counts, value 256 counted once: mathematics, no code. Lengths by counts are best: mathematics, no code. Limiting lengths to 16: mathematics, no code. The specification by counts: mathematics, no code. It may be. The specification by counts may be; where nothing is limited, its codes are as long as the lengths: mathematics, no code. No specification that may be costs less: mathematics, no code. Which values have codes; where no code has 16 bits nothing was limited: mathematics, no code. Trees in three arrays: mathematics, no code. How the trees stand at the start, and behind each joining: mathematics, no code. The contract of grow: the lengths ahead of limiting. The contracts of limit and drop. The contracts of drop and ordered. The specification of counts: mathematics, no code. The contract of Spec.
-/
import Derived.Test.YtdnjnbfmmgkpjaaDoorMC
import Derived.Test.YtdnjnbfmmgkpjaaDoorMA
import Derived.Deep.LoopGhost
import Derived.Test.YtdnjnbfmmgkpjaaDoorMD
import Derived.WalkMore
import Derived.Test.YtdnjnbfmmgkpjaaDoorMB
namespace Go.Proofs.YtdnjnbfmmgkpjaaDoor
open Go.RowKit

end Go.Proofs.YtdnjnbfmmgkpjaaDoor

namespace Go.Proofs.YtdnjnbfmmgkpjaaDoor
open Go.RowKit

/-- each of the first k counts may be -/
def Rang (C : List Int) (k : Nat) : Prop := ∀ j, j < k → 0 ≤ C.getD j 0 ∧ C.getD j 0 ≤ 1099511627776
theorem Rang.more {C : List Int} {k : Nat} (h : Rang C k) (h0 : 0 ≤ C.getD k 0) (h1 : C.getD k 0 ≤ 1099511627776) : Rang C (k + 1) := fun i hi => by
  rcases Nat.lt_or_ge i k with h' | h'
  · exact h i h'
  · obtain rfl : i = k := by omega
    exact ⟨h0, h1⟩
/-- counts that may be -/
structure Good (C : List Int) : Prop where
  rang : Rang C C.length
  one : 1 ≤ C.length
  few : C.length ≤ 256
/-- one of the first k is above 0 -/
def Any (C : List Int) (k : Nat) : Prop := ∃ j, j < k ∧ 0 < C.getD j 0

/-- what inRange answers -/
def InRanged (w : World) (C : List Int) (e : Ending) (w' : World) : Prop := ∃ b, e = .returned (.bool b) ∧ (b = true ↔ Good C) ∧ Below w.heap.size w w'

set_option maxHeartbeats 800000 in
theorem inRange_any6 (w : World) (C : List Int) (A : Option Addr) (n c : Nat) (h : Ia w A n c C) (hn : n ≤ 300) : Calls Tryd.prog 84 #[.slice A n c] w (InRanged w C) := by
  have HI := Lib.hid h
  have HL := Lib.hid h.len
  clear h
  go_enter Tryd.func84, Tryd.ntmps84
  go_wp2_with fail
  go_loopw [7] (fun i wr => ∃ k : Nat, k ≤ n ∧ i = .int .i64 k ∧ Rang C k ∧ wr = w) (fun i _ => n - (intOf i).toNat)
  case atStart => exact ⟨0, Nat.zero_le _, rfl, fun j hj => absurd hj (by omega), rfl⟩
  case round =>
    obtain ⟨k, hk, rfl, hR, rfl⟩ := hrel
    by_cases hlt : k < n
    · obtain ⟨b, off, hA, _, hc⟩ := HI.out.at_ (by omega)
      have hck := hc k hlt
      obtain ⟨v, hv⟩ : ∃ v, v = C.getD k 0 := ⟨_, rfl⟩
      rw [← hv] at hck
      have HR := Lib.hid (And.intro hR hv)
      clear hc hR hv
      subst hA
      by_cases h0 : v < 0
      · go_wp2
        go_ret
        refine ⟨false, rfl, ⟨(fun e => by cases e), fun hd => ?_⟩, Below.refl _ _⟩
        have := hd.rang k (by have := HL.out; omega)
        rw [← HR.out.2] at this
        omega
      by_cases h1 : 1099511627776 < v
      · go_wp2
        go_ret
        refine ⟨false, rfl, ⟨(fun e => by cases e), fun hd => ?_⟩, Below.refl _ _⟩
        have := hd.rang k (by have := HL.out; omega)
        rw [← HR.out.2] at this
        omega
      go_wp2
      go_roundw
      case rel => exact ⟨k + 1, by omega, by go_num, HR.out.1.more (by rw [← HR.out.2]; omega) (by rw [← HR.out.2]; omega), trivial⟩
      case measure => simp [intOf]; omega
    · have ek : k = n := by omega
      have HE := Lib.hid (And.intro hR ek)
      clear hR ek
      by_cases h0 : n < 1
      · go_wp2
        go_ret
        refine ⟨false, rfl, ⟨(fun e => by cases e), fun hd => ?_⟩, Below.refl _ _⟩
        have := hd.one
        have := HL.out
        omega
      go_wp2
      go_ret
      have hl := HL.out
      obtain ⟨hR, ek⟩ := HE.out
      refine ⟨decide ((n : Int) ≤ 256), rfl, ⟨fun h => ?_, fun hg => ?_⟩, Below.refl _ _⟩
      · have h := of_decide_eq_true h
        exact ⟨by rw [hl, ← ek]; exact hR, by omega, by omega⟩
      · have := hg.few
        exact decide_eq_true (by omega)

/-- what slices.Max answers -/
def Maxed (w : World) (C : List Int) (e : Ending) (w' : World) : Prop := ∃ m, e = .returned (.int .i64 m) ∧ (∀ j, j < C.length → C.getD j 0 ≤ m) ∧ (∃ j, j < C.length ∧ m = C.getD j 0) ∧ Below w.heap.size w w'

set_option maxHeartbeats 800000 in
theorem max_any (w : World) (C : List Int) (A : Option Addr) (n c : Nat) (h : Ia w A n c C) (hn : n ≤ 300) (h1 : 1 ≤ n) : Calls Tryd.prog 85 #[.slice A n c] w (Maxed w C) := by
  have HI := Lib.hid h
  have HL := Lib.hid h.len
  clear h
  obtain ⟨b, off, hA, _, hc⟩ := HI.out.at_ (by omega)
  have hc0 := hc 0 (by omega)
  rw [Nat.add_zero] at hc0
  have HC := Lib.hid hc
  clear hc
  subst hA
  go_enter Tryd.func85, Tryd.ntmps85
  go_wp2_with fail
  go_loopw [4, 3] (fun i m wr => ∃ (k : Nat) (z : Int), k ≤ n ∧ i = .int .i64 k ∧ m = .int .i64 z ∧ (∀ j, j < k → C.getD j 0 ≤ z) ∧ (∃ j, j < n ∧ z = C.getD j 0) ∧ wr = w) (fun i _ _ => n - (intOf i).toNat)
  case atStart => exact ⟨1, _, h1, rfl, rfl, fun j hj => by obtain rfl : j = 0 := by omega
                                                            exact Int.le_refl _, ⟨0, by omega, rfl⟩, rfl⟩
  case round =>
    obtain ⟨k, z, hk, rfl, rfl, hR, hz, rfl⟩ := hrel
    have HR := Lib.hid (And.intro hR hz)
    clear hR hz
    by_cases hlt : k < n
    · have hck := HC.out k hlt
      obtain ⟨v, hv⟩ : ∃ v, v = C.getD k 0 := ⟨_, rfl⟩
      rw [← hv] at hck
      have HV := Lib.hid hv
      clear hv
      by_cases hvz : v ≤ z
      · have g1 : ¬ z < v := by omega
        go_wp2
        go_roundw
        case rel =>
          refine ⟨k + 1, z, by omega, by go_num, ?_, fun j hj => ?_, HR.out.2, trivial⟩
          · simp <;> omega
          · rcases Nat.lt_or_ge j k with h' | h'
            · exact HR.out.1 j h'
            · obtain rfl : j = k := by omega
              rw [← HV.out]
              exact hvz
        case measure => simp [intOf]; omega
      · have g1 : z < v := by omega
        go_wp2
        go_roundw
        case rel =>
          refine ⟨k + 1, v, by omega, by go_num, ?_, fun j hj => ?_, ⟨k, hlt, HV.out⟩, trivial⟩
          · simp <;> omega
          · rcases Nat.lt_or_ge j k with h' | h'
            · have := HR.out.1 j h'
              omega
            · obtain rfl : j = k := by omega
              rw [← HV.out]
              exact Int.le_refl _
        case measure => simp [intOf]; omega
    · have ek : k = n := by omega
      have HE := Lib.hid ek
      clear ek
      go_wp2
      go_ret
      have hl := HL.out
      exact ⟨z, rfl, fun j hj => HR.out.1 j (by have := HE.out; omega), by obtain ⟨j, hj, e⟩ := HR.out.2; exact ⟨j, by omega, e⟩, Below.refl _ _⟩

/-- what the reference's Right answers -/
def RightC (w : World) (C : List Int) (e : Ending) (w' : World) : Prop := ∃ a b, e = .returned (.tuple #[.bool a, .bool b]) ∧ (a = true ↔ Good C) ∧ (a = true → (b = true ↔ Any C C.length)) ∧ Below w.heap.size w w'

end Go.Proofs.YtdnjnbfmmgkpjaaDoor

namespace Go.Proofs.YtdnjnbfmmgkpjaaDoor
open Go.RowKit

theorem arr257_size : (Tryd.prog.info? 171).map (·.size) = some 257 := by kernel_rfl
theorem trees_size : (Tryd.prog.info? 183).map (·.size) = some 771 := by kernel_rfl
/-- an array of numbers is indexed -/
theorem index257 (w : World) {l : List Int} (hl : l.length = 257) {k : Nat} (hk : k < 257) : (Instr.index 171 (.agg (cellsI l).toArray) (.int .i64 (k : Int))).run Tryd.prog w = .ok (.int .i64 (l.getD k 0)) w := by
  have hp : (part 3 (cellsI l).toArray k).run Tryd.prog w = .ok (.int .i64 (l.getD k 0)) w := run_part_plain w (by kernel_rfl) (by simpa using cellsI_get l k (by omega))
  simp [Instr.index, run_underlying Tryd.underlying171, asIntOf, hp, Result.andThen]
  intro h
  omega
/-- the array is read whole -/
theorem load257 {w : World} {g o : Nat} {l : List Int} (h : w.rangeAt g o (cellsI l)) (hl : l.length = 257) : (Instr.loadAt 171 (.pointer (some ⟨g, o, none⟩))).run Tryd.prog w = .ok (.agg (cellsI l).toArray) w :=
  run_loadAt_mid w g o 171 (cellsI l) _ h Tryd.underlying171 rfl (by rw [arr257_size, cellsI_len, hl])
theorem zero47 (w : World) : (zeroValue 171).run Tryd.prog w = .ok (.agg (cellsI (List.replicate 257 0)).toArray) w := by kernel_rfl
theorem zero75 (w : World) : (zeroValue 183).run Tryd.prog w = .ok (.agg (cellsI (List.replicate 257 0 ++ (List.replicate 257 0 ++ List.replicate 257 0))).toArray) w := by kernel_rfl
theorem Box.range47 {w : World} {g : Nat} {t : TypeId} {l : List Int} (h : Box w g t (cellsI l).toArray) : w.rangeAt g 0 (cellsI l) := by
  intro j u hu
  rw [Nat.zero_add, h.cell j]
  simpa using hu
/-- three arrays in a block -/
structure TreeAt (w : World) (g : Nat) (S T L : List Int) : Prop where
  box : Box w g 183 (cellsI (S ++ (T ++ L))).toArray
  ls : S.length = 257
  lt : T.length = 257
  ll : L.length = 257
section
variable {w w' : World} {g : Nat} {S T L : List Int}
theorem getD_left {a b : List Int} {k : Nat} (h : k < a.length) : (a ++ b).getD k 0 = a.getD k 0 := by
  simp only [List.getD_eq_getElem?_getD]
  rw [List.getElem?_append_left h]
theorem getD_right {a b : List Int} {k n : Nat} (h : a.length = n) : (a ++ b).getD (n + k) 0 = b.getD k 0 := by
  simp only [List.getD_eq_getElem?_getD]
  rw [List.getElem?_append_right (by omega), h, Nat.add_sub_cancel_left]
theorem TreeAt.cellS (h : TreeAt w g S T L) {k : Nat} (hk : k < 257) : w.cell? ⟨g, k, none⟩ = some (.int .i64 (S.getD k 0)) := by
  have a := h.ls
  rw [h.box.cell k]
  rw [List.getElem?_toArray, cellsI_get _ _ (by simp; omega), getD_left (by omega)]
theorem TreeAt.cellT (h : TreeAt w g S T L) {k : Nat} (hk : k < 257) : w.cell? ⟨g, 257 + k, none⟩ = some (.int .i64 (T.getD k 0)) := by
  have a := h.ls
  have b := h.lt
  rw [h.box.cell (257 + k), List.getElem?_toArray, cellsI_get _ _ (by simp; omega), getD_right a, getD_left (by omega)]
theorem TreeAt.cellL (h : TreeAt w g S T L) {k : Nat} (hk : k < 257) : w.cell? ⟨g, 514 + k, none⟩ = some (.int .i64 (L.getD k 0)) := by
  have a := h.ls
  have b := h.lt
  have c := h.ll
  rw [h.box.cell (514 + k), List.getElem?_toArray, cellsI_get _ _ (by simp; omega), show 514 + k = 257 + (257 + k) by omega, getD_right a, getD_right b]
theorem TreeAt.putS (h : TreeAt w g S T L) {k : Nat} (hk : k < 257) (z : Int) : TreeAt (w.setCell ⟨g, k, none⟩ (.int .i64 z)) g (S.set k z) T L := by
  have a := h.ls
  refine ⟨?_, by rw [List.length_set, a], h.lt, h.ll⟩
  have hb := h.box.put k (.int .i64 z)
  rw [put_cellsI, List.set_append_left _ _ (by omega)] at hb
  exact hb
theorem TreeAt.putT (h : TreeAt w g S T L) {k : Nat} (hk : k < 257) (z : Int) : TreeAt (w.setCell ⟨g, 257 + k, none⟩ (.int .i64 z)) g S (T.set k z) L := by
  have a := h.ls
  have b := h.lt
  refine ⟨?_, a, by rw [List.length_set, b], h.ll⟩
  have hb := h.box.put (257 + k) (.int .i64 z)
  rw [put_cellsI, List.set_append_right _ _ (by omega), a, Nat.add_sub_cancel_left, List.set_append_left _ _ (by omega)] at hb
  exact hb
theorem TreeAt.putL (h : TreeAt w g S T L) {k : Nat} (hk : k < 257) (z : Int) : TreeAt (w.setCell ⟨g, 514 + k, none⟩ (.int .i64 z)) g S T (L.set k z) := by
  have a := h.ls
  have b := h.lt
  refine ⟨?_, a, b, by rw [List.length_set, h.ll]⟩
  have hb := h.box.put (514 + k) (.int .i64 z)
  rw [put_cellsI, List.set_append_right _ _ (by omega), a, show 514 + k - 257 = 257 + k by omega, List.set_append_right _ _ (by omega), b, Nat.add_sub_cancel_left] at hb
  exact hb
theorem TreeAt.on (h : TreeAt w g S T L) (k : Below w.heap.size w w') : TreeAt w' g S T L := ⟨h.box.on k, h.ls, h.lt, h.ll⟩
theorem TreeAt.rangeS (h : TreeAt w g S T L) : w.rangeAt g 0 (cellsI S) := by
  intro j u hu
  have hj : j < (cellsI S).length := (List.getElem?_eq_some_iff.1 hu).1
  rw [cellsI_len, h.ls] at hj
  rw [Nat.zero_add, h.cellS hj, ← hu, cellsI_get _ _ (by rw [h.ls]; exact hj)]
theorem TreeAt.rangeT (h : TreeAt w g S T L) : w.rangeAt g 257 (cellsI T) := by
  intro j u hu
  have hj : j < (cellsI T).length := (List.getElem?_eq_some_iff.1 hu).1
  rw [cellsI_len, h.lt] at hj
  rw [h.cellT hj, ← hu, cellsI_get _ _ (by rw [h.lt]; exact hj)]
theorem TreeAt.rangeL (h : TreeAt w g S T L) : w.rangeAt g 514 (cellsI L) := by
  intro j u hu
  have hj : j < (cellsI L).length := (List.getElem?_eq_some_iff.1 hu).1
  rw [cellsI_len, h.ll] at hj
  rw [h.cellL hj, ← hu, cellsI_get _ _ (by rw [h.ll]; exact hj)]
end
end Go.Proofs.YtdnjnbfmmgkpjaaDoor

namespace Go.Proofs.YtdnjnbfmmgkpjaaDoor
open Go.RowKit

/-- of the first k sums the least that is above 0, the last of those alike, is at t -/
def TakeIs (S : List Int) (k : Nat) (t s : Int) : Prop :=
  (s = 0 ∧ t = 0 ∧ ∀ j, j < k → ¬ 0 < S.getD j 0) ∨ (∃ m : Nat, t = (m : Int) ∧ m < k ∧ S.getD m 0 = s ∧ 0 < s ∧ ∀ j, j < k → 0 < S.getD j 0 → s < S.getD j 0 ∨ (s = S.getD j 0 ∧ j ≤ m))
theorem TakeIs.yes {S : List Int} {k : Nat} {t s : Int} (h : TakeIs S k t s) (h0 : 0 < S.getD k 0) (h1 : s = 0 ∨ S.getD k 0 ≤ s) : TakeIs S (k + 1) (k : Int) (S.getD k 0) := by
  refine .inr ⟨k, rfl, by omega, rfl, h0, fun j hj hp => ?_⟩
  rcases h with ⟨_, _, hn⟩ | ⟨m, _, hm, hs, hs0, hl⟩
  · rcases Nat.lt_or_ge j k with h' | h'
    · exact absurd hp (hn j h')
    · obtain rfl : j = k := by omega
      exact .inr ⟨rfl, Nat.le_refl _⟩
  · rcases Nat.lt_or_ge j k with h' | h'
    · have := hl j h' hp
      omega
    · obtain rfl : j = k := by omega
      exact .inr ⟨rfl, Nat.le_refl _⟩
theorem TakeIs.no {S : List Int} {k : Nat} {t s : Int} (h : TakeIs S k t s) (h1 : ¬ 0 < S.getD k 0 ∨ (s ≠ 0 ∧ s < S.getD k 0)) : TakeIs S (k + 1) t s := by
  rcases h with ⟨e, et, hn⟩ | ⟨m, et, hm, hs, hs0, hl⟩
  · refine .inl ⟨e, et, fun j hj hp => ?_⟩
    rcases Nat.lt_or_ge j k with h' | h'
    · exact hn j h' hp
    · obtain rfl : j = k := by omega
      omega
  · refine .inr ⟨m, et, by omega, hs, hs0, fun j hj hp => ?_⟩
    rcases Nat.lt_or_ge j k with h' | h'
    · exact hl j h' hp
    · obtain rfl : j = k := by omega
      omega
theorem TakeIs.nat {S : List Int} {t s : Int} (h : TakeIs S 257 t s) : ∃ m : Nat, t = (m : Int) ∧ m < 257 := by
  rcases h with ⟨_, e, _⟩ | ⟨m, e, hm, _⟩
  · exact ⟨0, e, by omega⟩
  · exact ⟨m, e, hm⟩

/-- what take leaves -/
def TakenT (w : World) (g : Nat) (S T L : List Int) (e : Ending) (w' : World) : Prop :=
  ∃ (m : Nat) (s : Int), e = .returned (.tuple #[.int .i64 (m : Int), .int .i64 s]) ∧ m < 257 ∧ TakeIs S 257 (m : Int) s ∧ TreeAt w' g (S.set m 0) T L ∧ Kept (fun i => i = g) w w'

set_option maxRecDepth 20000 in
set_option maxHeartbeats 1600000 in
theorem takeT_any (w : World) (g : Nat) (S T L : List Int) (h : TreeAt w g S T L) : Calls Tryd.prog 100 #[.pointer (some ⟨g, 0, none⟩)] w (TakenT w g S T L) := by
  have HI := Lib.hid h
  have hg := h.box.lt
  obtain ⟨C, hC⟩ : ∃ C, C = (cellsI S).toArray := ⟨_, rfl⟩
  have HC := Lib.hid hC
  clear hC h
  go_enter Tryd.func100, Tryd.ntmps100
  go_wp2_with (first
    | (with_reducible refine wpList_load_to (op := ⟨some 11, _, _, _, _, _⟩) rfl 171 (.tmp 10) rfl (.pointer (some ⟨g, 0, none⟩)) rfl (.agg C) (by rw [HC.out]; exact load257 HI.out.rangeS HI.out.ls) ?_)
    | fail)
  go_loopw [12, 4, 5] (fun i t s wr => ∃ (k : Nat) (t0 s0 : Int), k ≤ 257 ∧ i = .int .i64 k ∧ t = .int .i64 t0 ∧ s = .int .i64 s0 ∧ TakeIs S k t0 s0 ∧ wr = w) (fun i _ _ _ => 257 - (intOf i).toNat)
  case atStart => exact ⟨0, 0, 0, Nat.zero_le _, rfl, rfl, rfl, .inl ⟨rfl, rfl, fun j hj => absurd hj (by omega)⟩, rfl⟩
  case round =>
    obtain ⟨k, t0, s0, hk, rfl, rfl, rfl, hR, rfl⟩ := hrel
    by_cases hlt : k < 257
    · have hix := index257 wr HI.out.ls hlt
      rw [← HC.out] at hix
      obtain ⟨v, hv⟩ : ∃ v, v = S.getD k 0 := ⟨_, rfl⟩
      rw [← hv] at hix
      have HR := Lib.hid (And.intro hR (And.intro hv hix))
      clear hR hix hv
      by_cases h0 : 0 < v
      · by_cases h1 : s0 = 0
        · subst h1
          go_wp2_with (first
            | (with_reducible refine wpList_index_to (op := ⟨some 15, _, _, _, _, _⟩) rfl 171 (.tmp 11) (.tmp 12) rfl (.agg C) (.int .i64 (k : Int)) rfl rfl _ HR.out.2.2 ?_)
            | fail)
          go_roundw
          case rel =>
            refine ⟨k + 1, _, _, by omega, by go_num, rfl, rfl, ?_, trivial⟩
            have := HR.out.1.yes (by rw [← HR.out.2.1]; exact h0) (.inl rfl)
            rw [← HR.out.2.1] at this
            exact this
          case measure => simp [intOf]; omega
        · have g1 : (s0 == 0) = false := by simpa using h1
          by_cases h2 : v ≤ s0
          · go_wp2_with (first
              | (with_reducible refine wpList_index_to (op := ⟨some 15, _, _, _, _, _⟩) rfl 171 (.tmp 11) (.tmp 12) rfl (.agg C) (.int .i64 (k : Int)) rfl rfl _ HR.out.2.2 ?_)
              | fail)
            go_roundw
            case rel =>
              refine ⟨k + 1, _, _, by omega, by go_num, rfl, rfl, ?_, trivial⟩
              have := HR.out.1.yes (by rw [← HR.out.2.1]; exact h0) (.inr (by rw [← HR.out.2.1]; exact h2))
              rw [← HR.out.2.1] at this
              exact this
            case measure => simp [intOf]; omega
          · go_wp2_with (first
              | (with_reducible refine wpList_index_to (op := ⟨some 15, _, _, _, _, _⟩) rfl 171 (.tmp 11) (.tmp 12) rfl (.agg C) (.int .i64 (k : Int)) rfl rfl _ HR.out.2.2 ?_)
              | fail)
            go_roundw
            case rel => exact ⟨k + 1, _, _, by omega, by go_num, rfl, rfl, HR.out.1.no (.inr ⟨h1, by rw [← HR.out.2.1]; omega⟩), trivial⟩
            case measure => simp [intOf]; omega
      · go_wp2_with (first
          | (with_reducible refine wpList_index_to (op := ⟨some 15, _, _, _, _, _⟩) rfl 171 (.tmp 11) (.tmp 12) rfl (.agg C) (.int .i64 (k : Int)) rfl rfl _ HR.out.2.2 ?_)
          | fail)
        go_roundw
        case rel => exact ⟨k + 1, _, _, by omega, by go_num, rfl, rfl, HR.out.1.no (.inl (by rw [← HR.out.2.1]; exact h0)), trivial⟩
        case measure => simp [intOf]; omega
    · have ek : k = 257 := by omega
      subst ek
      obtain ⟨m, rfl, hm⟩ := hR.nat
      have c0 := HI.out.cellS hm
      have f0 := HI.out.box.free m
      have HR := Lib.hid hR
      clear hR
      go_wp2
      go_ret2
      exact ⟨m, s0, rfl, hm, HR.out, HI.out.putS hm 0, (Kept.refl (fun i => i = g) wr).setCell (p := ⟨g, m, none⟩) (fun _ => rfl) _⟩
end Go.Proofs.YtdnjnbfmmgkpjaaDoor

namespace Go.Proofs.YtdnjnbfmmgkpjaaDoor
open Go.RowKit

theorem getD_set_same {l : List Int} {i : Nat} (z : Int) (h : i < l.length) : (l.set i z).getD i 0 = z := by
  simp [List.getD_eq_getElem?_getD, h]
theorem getD_set_ne {l : List Int} {i j : Nat} (z : Int) (h : i ≠ j) : (l.set i z).getD j 0 = l.getD j 0 := by
  simp [List.getD_eq_getElem?_getD, h]
/-- of the first k values those of two trees are of one, and longer by one -/
def JoinTo (T L T2 L2 : List Int) (f f2 t : Nat) (k : Nat) : Prop := ∀ j, j < 257 →
  (j < k → (T.getD j 0 = (f : Int) ∨ T.getD j 0 = (f2 : Int)) → T2.getD j 0 = (t : Int) ∧ L2.getD j 0 = L.getD j 0 + 1) ∧ (¬ (j < k ∧ (T.getD j 0 = (f : Int) ∨ T.getD j 0 = (f2 : Int))) → T2.getD j 0 = T.getD j 0 ∧ L2.getD j 0 = L.getD j 0)
theorem JoinTo.yes {T L T2 L2 : List Int} {f f2 t k : Nat} (h : JoinTo T L T2 L2 f f2 t k) (hk : k < 257) (lt : T2.length = 257) (ll : L2.length = 257) (hy : T.getD k 0 = (f : Int) ∨ T.getD k 0 = (f2 : Int)) : JoinTo T L (T2.set k (t : Int)) (L2.set k (L2.getD k 0 + 1)) f f2 t (k + 1) := by
  intro j hj
  by_cases e : k = j
  · subst e
    have hl := ((h k hj).2 (fun h => by omega)).2
    refine ⟨fun _ _ => ⟨getD_set_same _ (by omega), ?_⟩, fun hn => absurd ⟨by omega, hy⟩ hn⟩
    rw [getD_set_same _ (by omega), hl]
  · rw [getD_set_ne _ e, getD_set_ne _ e]
    exact ⟨fun h1 h2 => (h j hj).1 (by omega) h2, fun h1 => (h j hj).2 (fun ⟨h3, h4⟩ => h1 ⟨by omega, h4⟩)⟩
theorem JoinTo.no {T L T2 L2 : List Int} {f f2 t k : Nat} (h : JoinTo T L T2 L2 f f2 t k) (hn : ¬ (T.getD k 0 = (f : Int) ∨ T.getD k 0 = (f2 : Int))) : JoinTo T L T2 L2 f f2 t (k + 1) := by
  intro j hj
  refine ⟨fun h1 h2 => (h j hj).1 ?_ h2, fun h1 => (h j hj).2 (fun ⟨h3, h4⟩ => h1 ⟨by omega, h4⟩)⟩
  rcases Nat.lt_or_ge j k with h' | h'
  · exact h'
  · obtain rfl : j = k := by omega
    exact absurd h2 hn

theorem TreeAt.drewput {w : World} {g : Nat} {S T L : List Int} (h : TreeAt w g S T L) {k : Nat} (hk : k < 257) (z : Int) (n : Nat) : TreeAt ((w.drewN n).setCell ⟨g, 514 + k, none⟩ (.int .i64 z)) g S T (L.set k z) :=
  TreeAt.putL (w := w.drewN n) ⟨h.box.drewN n, h.ls, h.lt, h.ll⟩ hk z
/-- what join leaves -/
def JoinedT (w : World) (g : Nat) (S T L : List Int) (e : Ending) (w' : World) : Prop :=
  ∃ (f f2 : Nat) (s s2 : Int), f < 257 ∧ f2 < 257 ∧ TakeIs S 257 (f : Int) s ∧ TakeIs (S.set f 0) 257 (f2 : Int) s2 ∧ Kept (fun i => i = g) w w' ∧
    ((s2 = 0 ∧ e = .returned (.bool false) ∧ ∃ S', TreeAt w' g S' T L) ∨
     (s2 ≠ 0 ∧ e = .returned (.bool true) ∧ ∃ T2 L2, TreeAt w' g (((S.set f 0).set f2 0).set (max f f2) (s + s2)) T2 L2 ∧ JoinTo T L T2 L2 f f2 (max f f2) 257))
theorem max_int (f f2 : Nat) : (if f < f2 then (f2 : Int) else (f : Int)) = ((max f f2 : Nat) : Int) := by
  split <;> omega

set_option maxRecDepth 20000 in
set_option maxHeartbeats 1600000 in
theorem joinT_any (w : World) (g : Nat) (S T L : List Int) (h : TreeAt w g S T L) (hS : ∀ j, S.getD j 0 ≤ 4611686018427387900 / 2) (hL : ∀ j, 0 ≤ L.getD j 0 ∧ L.getD j 0 ≤ 1000) : Calls Tryd.prog 97 #[.pointer (some ⟨g, 0, none⟩)] w (JoinedT w g S T L) := by
  have HI := Lib.hid (And.intro h (And.intro hS hL))
  clear h hS hL
  go_enter Tryd.func97, Tryd.ntmps97
  go_wp2_with fail
  refine (takeT_any w g S T L HI.out.1).mono ?_
  rintro e w1 ⟨f, s, rfl, hf, ht, h1, k1⟩
  have H1 := Lib.hid (And.intro ht (And.intro h1 k1))
  clear ht h1 k1
  go_wp2_with fail
  refine (takeT_any w1 g (S.set f 0) T L H1.out.2.1).mono ?_
  rintro e w2 ⟨f2, s2, rfl, hf2, ht2, h2, k2⟩
  have H2 := Lib.hid (And.intro ht2 (And.intro h2 (H1.out.2.2.trans k2 (fun _ _ e => e))))
  clear ht2 h2 k2
  by_cases h0 : s2 = 0
  · subst h0
    go_wp2_with fail
    go_ret
    exact ⟨f, f2, s, 0, hf, hf2, H1.out.1, H2.out.1, H2.out.2.2, .inl ⟨rfl, rfl, _, H2.out.2.1⟩⟩
  have g0 : (s2 == 0) = false := by simpa using h0
  have hsb : 0 ≤ s ∧ s ≤ 2305843009213693950 := by
    rcases H1.out.1 with ⟨e, _, _⟩ | ⟨m, _, _, e, h, _⟩
    · omega
    · have := HI.out.2.1 m
      omega
  have hsb2 : 0 ≤ s2 ∧ s2 ≤ 2305843009213693950 := by
    rcases H2.out.1 with ⟨e, _, _⟩ | ⟨m, _, _, e, h, _⟩
    · omega
    · have := HI.out.2.1 m
      by_cases em : f = m
      · subst em
        rw [getD_set_same _ (by have := HI.out.1.ls; omega)] at e
        omega
      · rw [getD_set_ne _ em] at e
        omega
  obtain ⟨t, ht⟩ : ∃ t, t = max f f2 := ⟨_, rfl⟩
  have ht257 : t < 257 := by omega
  obtain ⟨S3, hS3⟩ : ∃ S3, S3 = ((S.set f 0).set f2 0).set t (s + s2) := ⟨_, rfl⟩
  obtain ⟨w3, hw3⟩ : ∃ w3, w3 = w2.setCell ⟨g, t, none⟩ (.int .i64 (s + s2)) := ⟨_, rfl⟩
  have h3 : TreeAt w3 g S3 T L := by rw [hw3, hS3]; exact H2.out.2.1.putS ht257 _
  have k3 : Kept (fun i => i = g) w w3 := by rw [hw3]; exact H2.out.2.2.setCell (p := ⟨g, t, none⟩) (fun _ => rfl) _
  have c0 := H2.out.2.1.cellS ht257
  have f0 := H2.out.2.1.box.free t
  have hg := H2.out.2.1.box.lt
  obtain ⟨C, hC⟩ : ∃ C, C = (cellsI T).toArray := ⟨_, rfl⟩
  have hl3 : (Instr.loadAt 171 (.pointer (some ⟨g, 257, none⟩))).run Tryd.prog w3 = .ok (.agg C) w3 := by rw [hC]; exact load257 h3.rangeT h3.lt
  have H3 := Lib.hid (And.intro h3 (And.intro k3 (And.intro hw3 (And.intro hS3 (And.intro ht (And.intro hC hl3))))))
  clear h3 k3 hw3 hS3 ht hC hl3
  have hmx : (if f < f2 then (f2 : Int) else (f : Int)) = (t : Int) := by rw [max_int, H3.out.2.2.2.2.1]
  go_wp2_with (first
    | (with_reducible refine wpList_load_to (op := ⟨some 36, _, _, _, _, _⟩) rfl 171 (.tmp 35) rfl (.pointer (some ⟨g, 257, none⟩)) rfl (.agg C) (by rw [← H3.out.2.2.1]; exact H3.out.2.2.2.2.2.2) ?_)
    | fail)
  rw [← H3.out.2.2.1]
  clear c0 hmx f0 hsb hsb2 hg
  go_loopw [37] (fun i wr => ∃ (k : Nat) (T2 L2 : List Int), k ≤ 257 ∧ i = .int .i64 k ∧ TreeAt wr g S3 T2 L2 ∧ JoinTo T L T2 L2 f f2 t k ∧ Kept (fun i => i = g) w wr) (fun i _ => 257 - (intOf i).toNat)
  case atStart => exact ⟨0, T, L, Nat.zero_le _, rfl, H3.out.1, fun j hj => ⟨fun h => absurd h (by omega), fun _ => ⟨rfl, rfl⟩⟩, H3.out.2.1⟩
  case round =>
    obtain ⟨k, T2, L2, hk, rfl, hT, hJ, hK⟩ := hrel
    by_cases hlt : k < 257
    · have hix := index257 wr HI.out.1.lt hlt
      rw [← H3.out.2.2.2.2.2.1] at hix
      obtain ⟨v, hv⟩ : ∃ v, v = T.getD k 0 := ⟨_, rfl⟩
      rw [← hv] at hix
      have c1 := hT.cellT hlt
      have c2 := hT.cellL hlt
      have f1 := hT.box.free (257 + k)
      have f2' := hT.box.free (514 + k)
      have hl2 := (hJ k hlt).2 (fun h => by omega)
      have hb := HI.out.2.2 k
      rw [hl2.2] at c2
      obtain ⟨y, hy⟩ : ∃ y, y = L.getD k 0 := ⟨_, rfl⟩
      rw [← hy] at c2 hb
      have hg := hT.box.lt
      have HR := Lib.hid (And.intro hT (And.intro hJ (And.intro hK (And.intro hv (And.intro hix (And.intro hl2 hy))))))
      clear hT hJ hK hv hix hl2 hy
      by_cases hy : v = (f : Int) ∨ v = (f2 : Int)
      · have hb2 : ∀ wx, wx = (wr.setCell ⟨g, 257 + k, none⟩ (.int .i64 (t : Int))) → wx.cell? ⟨g, 514 + k, none⟩ = some (.int .i64 y) ∧ wx.frozen? ⟨g, 514 + k, none⟩ = false := by
          rintro wx rfl
          have h1 := HR.out.1.putT hlt (t : Int)
          exact ⟨by rw [h1.cellL hlt, HR.out.2.2.2.2.2.1.2, ← HR.out.2.2.2.2.2.2], h1.box.free _⟩
        obtain ⟨d1, d2⟩ := hb2 _ rfl
        clear hb2
        have HY := Lib.hid hy
        by_cases hy1 : v = (f : Int)
        · clear hy
          subst hy1
          go_wp2_with (first
            | (with_reducible refine wpList_index_to (op := ⟨some 40, _, _, _, _, _⟩) rfl 171 (.tmp 36) (.tmp 37) rfl (.agg C) (.int .i64 (k : Int)) rfl rfl _ HR.out.2.2.2.2.1 ?_)
            | fail)
          go_region
          all_goals
            (go_wp2
             go_roundw
             case rel =>
               refine ⟨k + 1, T2.set k (t : Int), L2.set k (L2.getD k 0 + 1), by omega, by go_num, ?_, HR.out.2.1.yes hlt HR.out.1.lt HR.out.1.ll (.inl HR.out.2.2.2.1.symm), ?_⟩
               · rw [HR.out.2.2.2.2.2.1.2, ← HR.out.2.2.2.2.2.2]
                 exact (HR.out.1.putT hlt (t : Int)).drewput hlt _ _
               · exact ((HR.out.2.2.1.setCell (p := ⟨g, 257 + k, none⟩) (fun _ => rfl) _).drewN _).setCell (p := ⟨g, 514 + k, none⟩) (fun _ => rfl) _
             case measure => simp [intOf]; omega)
        · have hy2 : v = (f2 : Int) := hy.resolve_left hy1
          clear hy
          have g1 : (v == (f : Int)) = false := by simpa using hy1
          subst hy2
          go_wp2_with (first
            | (with_reducible refine wpList_index_to (op := ⟨some 40, _, _, _, _, _⟩) rfl 171 (.tmp 36) (.tmp 37) rfl (.agg C) (.int .i64 (k : Int)) rfl rfl _ HR.out.2.2.2.2.1 ?_)
            | fail)
          go_region
          all_goals
            (go_wp2
             go_roundw
             case rel =>
               refine ⟨k + 1, T2.set k (t : Int), L2.set k (L2.getD k 0 + 1), by omega, by go_num, ?_, HR.out.2.1.yes hlt HR.out.1.lt HR.out.1.ll (.inr HR.out.2.2.2.1.symm), ?_⟩
               · rw [HR.out.2.2.2.2.2.1.2, ← HR.out.2.2.2.2.2.2]
                 exact (HR.out.1.putT hlt (t : Int)).drewput hlt _ _
               · exact ((HR.out.2.2.1.setCell (p := ⟨g, 257 + k, none⟩) (fun _ => rfl) _).drewN _).setCell (p := ⟨g, 514 + k, none⟩) (fun _ => rfl) _
             case measure => simp [intOf]; omega)
      · have g1 : (v == (f : Int)) = false := by simp; exact fun e => hy (.inl e)
        have g2 : (v == (f2 : Int)) = false := by simp; exact fun e => hy (.inr e)
        have HY := Lib.hid hy
        clear hy
        go_wp2_with (first
          | (with_reducible refine wpList_index_to (op := ⟨some 40, _, _, _, _, _⟩) rfl 171 (.tmp 36) (.tmp 37) rfl (.agg C) (.int .i64 (k : Int)) rfl rfl _ HR.out.2.2.2.2.1 ?_)
          | fail)
        go_roundw
        case rel => exact ⟨k + 1, T2, L2, by omega, by go_num, HR.out.1, HR.out.2.1.no (by rw [← HR.out.2.2.2.1]; exact HY.out), HR.out.2.2.1⟩
        case measure => simp [intOf]; omega
    · have ek : k = 257 := by omega
      subst ek
      have HR := Lib.hid (And.intro hT (And.intro hJ hK))
      clear hT hJ hK
      go_wp2
      go_ret
      have e1 := H3.out.2.2.2.1
      have e2 := H3.out.2.2.2.2.1
      refine ⟨f, f2, s, s2, hf, hf2, H1.out.1, H2.out.1, HR.out.2.2, .inr ⟨h0, rfl, T2, L2, ?_, ?_⟩⟩
      · rw [← e2, ← e1]; exact HR.out.1
      · rw [← e2]; exact HR.out.2.1
end Go.Proofs.YtdnjnbfmmgkpjaaDoor

namespace Go.Proofs.YtdnjnbfmmgkpjaaDoor

/-- weights, joined by twos, the least ones first: how much that is in all -/
inductive Joins : List Nat → Nat → Prop
  | one (w : Nat) : Joins [w] 0
  | more {ws rest : List Nat} {a b h : Nat} (p : ws.Perm (a :: b :: rest)) (ab : a ≤ b) (br : ∀ x ∈ rest, b ≤ x) (j : Joins ((a + b) :: rest) h) : Joins ws (a + b + h)

/-- weights and lengths: what they cost -/
def costW (ps : List (Nat × Nat)) : Nat := (ps.map fun p => p.1 * p.2).sum
/-- the share of lengths, in parts of 2 ^ M -/
def share (M : Nat) (ls : List Nat) : Nat := (ls.map fun l => 2 ^ (M - l)).sum
theorem costW_cons (p : Nat × Nat) (ps : List (Nat × Nat)) : costW (p :: ps) = p.1 * p.2 + costW ps := by simp [costW]
theorem share_cons (M l : Nat) (ls : List Nat) : share M (l :: ls) = 2 ^ (M - l) + share M ls := by simp [share]
theorem costW_perm {a b : List (Nat × Nat)} (h : a.Perm b) : costW a = costW b := by
  unfold costW
  exact (h.map _).sum_nat
theorem share_perm {M : Nat} {a b : List Nat} (h : a.Perm b) : share M a = share M b := by
  unfold share
  exact (h.map _).sum_nat

/-- the least weight takes the greatest length -/
theorem swap_first (a : Nat) : ∀ (ps : List (Nat × Nat)) (x : Nat), (∀ p ∈ ps, a ≤ p.1) → ∃ y ps', ps'.map (·.1) = ps.map (·.1) ∧ (y :: ps'.map (·.2)).Perm (x :: ps.map (·.2)) ∧ (∀ p ∈ ps', p.2 ≤ y) ∧ a * y + costW ps' ≤ a * x + costW ps
  | [], x, _ => ⟨x, [], rfl, List.Perm.refl _, fun p hp => (by cases hp), Nat.le_refl _⟩
  | (w, z) :: ps, x, h => by
    have hw : a ≤ w := h _ (List.mem_cons_self ..)
    by_cases hz : z ≤ x
    · obtain ⟨y, ps', h1, h2, h3, h4⟩ := swap_first a ps x (fun p hp => h p (List.mem_cons_of_mem _ hp))
      refine ⟨y, (w, z) :: ps', by simp [h1], ?_, ?_, ?_⟩
      · simp only [List.map_cons]
        exact ((List.Perm.swap ..).trans (h2.cons z)).trans (List.Perm.swap ..)
      · intro p hp
        rcases List.mem_cons.1 hp with rfl | hp
        · have : x ∈ y :: ps'.map (·.2) := h2.mem_iff.2 (List.mem_cons_self ..)
          rcases List.mem_cons.1 this with h5 | h5
          · show z ≤ y
            omega
          · obtain ⟨q, hq, hq2⟩ := List.mem_map.1 h5
            have := h3 q hq
            show z ≤ y
            omega
        · exact h3 p hp
      · rw [costW_cons, costW_cons]
        omega
    · obtain ⟨y, ps', h1, h2, h3, h4⟩ := swap_first a ps z (fun p hp => h p (List.mem_cons_of_mem _ hp))
      refine ⟨y, (w, x) :: ps', by simp [h1], ?_, ?_, ?_⟩
      · simp only [List.map_cons]
        exact ((List.Perm.swap ..).trans (h2.cons x))
      · intro p hp
        rcases List.mem_cons.1 hp with rfl | hp
        · have : z ∈ y :: ps'.map (·.2) := h2.mem_iff.2 (List.mem_cons_self ..)
          rcases List.mem_cons.1 this with h5 | h5
          · show x ≤ y
            omega
          · obtain ⟨q, hq, hq2⟩ := List.mem_map.1 h5
            have := h3 q hq
            show x ≤ y
            omega
        · exact h3 p hp
      · rw [costW_cons, costW_cons]
        show a * y + (w * x + costW ps') ≤ a * x + (w * z + costW ps)
        obtain ⟨d, rfl⟩ : ∃ d, w = a + d := ⟨w - a, by omega⟩
        obtain ⟨f, rfl⟩ : ∃ f, z = x + f := ⟨z - x, by omega⟩
        rw [Nat.mul_add] at h4
        rw [Nat.add_mul, Nat.add_mul, Nat.mul_add a x f, Nat.mul_add d x f]
        omega

/-- one of the weights is taken out of a list of weights and lengths -/
theorem pick_first {a : Nat} {t : List Nat} {ps : List (Nat × Nat)} (h : (ps.map (·.1)).Perm (a :: t)) : ∃ x qs, ps.Perm ((a, x) :: qs) ∧ (qs.map (·.1)).Perm t := by
  have ha : a ∈ ps.map (·.1) := h.mem_iff.2 (List.mem_cons_self ..)
  obtain ⟨⟨a', x⟩, hp, rfl⟩ := List.mem_map.1 ha
  refine ⟨x, ps.erase (a', x), List.perm_cons_erase hp, ?_⟩
  have := (List.perm_cons_erase hp).map (·.1)
  simp only [List.map_cons] at this
  exact (this.symm.trans h).cons_inv

theorem share_div {M d : Nat} : ∀ {ls : List Nat}, (∀ l ∈ ls, l ≤ d) → d ≤ M → ∃ k, share M ls = k * 2 ^ (M - d)
  | [], _, _ => ⟨0, by simp [share]⟩
  | l :: ls, h, hd => by
    obtain ⟨k, hk⟩ := share_div (ls := ls) (fun x hx => h x (List.mem_cons_of_mem _ hx)) hd
    have hl := h l (List.mem_cons_self ..)
    refine ⟨2 ^ (d - l) + k, ?_⟩
    rw [share_cons, hk, Nat.add_mul, ← Nat.pow_add, show d - l + (M - d) = M - l by omega]

/-- no lengths whose share is one at most cost less -/
theorem joins_least {ws : List Nat} {h : Nat} (j : Joins ws h) (M : Nat) : ∀ ps : List (Nat × Nat), (ps.map (·.1)).Perm ws → (∀ p ∈ ps, p.2 ≤ M) → share M (ps.map (·.2)) ≤ 2 ^ M → h ≤ costW ps := by
  induction j with
  | one w => intro ps _ _ _; exact Nat.zero_le _
  | @more ws rest a b h p ab br j ih =>
    intro ps hp hM hs
    obtain ⟨x, q1, hx, hq1⟩ := pick_first (hp.trans p)
    obtain ⟨y, q2, hy, hq2⟩ := pick_first hq1
    have hb1 : ∀ r ∈ q1, a ≤ r.1 := by
      intro r hr
      have : r.1 ∈ b :: rest := hq1.mem_iff.1 (List.mem_map_of_mem hr)
      rcases List.mem_cons.1 this with h1 | h1
      · omega
      · exact Nat.le_trans ab (br _ h1)
    obtain ⟨L1, q3, e1, e2, e3, e4⟩ := swap_first a q1 x hb1
    have hq3 : (q3.map (·.1)).Perm (b :: rest) := by rw [e1]; exact hq1
    obtain ⟨y3, q4, hy3, hq4⟩ := pick_first hq3
    have hb2 : ∀ r ∈ q4, b ≤ r.1 := by
      intro r hr
      exact br _ (hq4.mem_iff.1 (List.mem_map_of_mem hr))
    obtain ⟨L2, q5, f1, f2, f3, f4⟩ := swap_first b q4 y3 hb2
    have hq5 : (q5.map (·.1)).Perm rest := by rw [f1]; exact hq4
    -- all lengths, and their order
    have hall : (L1 :: L2 :: q5.map (·.2)).Perm (ps.map (·.2)) := by
      have g1 := hx.map (·.2)
      have g2 := hy3.map (·.2)
      simp only [List.map_cons] at g1 g2
      exact (((f2.trans g2.symm).cons L1).trans e2).trans g1.symm
    have h21 : L2 ≤ L1 := by
      have : L2 ∈ q3.map (·.2) := by
        have g2 := hy3.map (·.2)
        simp only [List.map_cons] at g2
        exact (f2.trans g2.symm).mem_iff.1 (List.mem_cons_self ..)
      obtain ⟨r, hr, hr2⟩ := List.mem_map.1 this
      have := e3 r hr
      omega
    have hL1 : L1 ≤ M := by
      have : L1 ∈ ps.map (·.2) := hall.mem_iff.1 (List.mem_cons_self ..)
      obtain ⟨r, hr, hr2⟩ := List.mem_map.1 this
      have := hM r hr
      omega
    have hcost : a * L1 + (b * L2 + costW q5) ≤ costW ps := by
      have g1 := costW_perm hx
      have g2 := costW_perm hy3
      rw [costW_cons] at g1 g2
      dsimp only at g1 g2
      omega
    -- the share
    rw [← share_perm hall, share_cons, share_cons] at hs
    obtain ⟨k, hk⟩ := share_div (M := M) (d := L2) (ls := q5.map (·.2)) (fun l hl => by
      obtain ⟨r, hr, hr2⟩ := List.mem_map.1 hl
      have := f3 r hr
      omega) (by omega)
    obtain ⟨D, hD⟩ : ∃ D, D = 2 ^ (M - L2) := ⟨_, rfl⟩
    have hM2 : 2 ^ M = 2 ^ L2 * D := by rw [hD, ← Nat.pow_add, show L2 + (M - L2) = M by omega]
    have hpos : 0 < 2 ^ (M - L1) := Nat.pow_pos (by omega)
    rw [hk, ← hD, hM2] at hs
    have hlt : (1 + k) * D < 2 ^ L2 * D := by rw [Nat.add_mul, Nat.one_mul]; omega
    have hlt2 : 1 + k < 2 ^ L2 := Nat.lt_of_mul_lt_mul_right hlt
    have hL2 : 1 ≤ L2 := by
      rcases Nat.eq_zero_or_pos L2 with h0 | h0
      · rw [h0] at hlt2; omega
      · exact h0
    obtain ⟨L, rfl⟩ : ∃ L, L2 = L + 1 := ⟨L2 - 1, by omega⟩
    have hih := ih ((a + b, L) :: q5) (by simp only [List.map_cons]; exact hq5.cons _) (by
      intro r hr
      rcases List.mem_cons.1 hr with rfl | hr
      · show L ≤ M
        omega
      · have := f3 r hr
        omega) (by
      simp only [List.map_cons]
      rw [share_cons, hk, ← hD, hM2, show M - L = M - (L + 1) + 1 by omega, Nat.pow_succ, ← hD]
      have : (2 + k) * D ≤ 2 ^ (L + 1) * D := Nat.mul_le_mul_right D (by omega)
      rw [Nat.add_mul] at this
      omega)
    rw [costW_cons] at hih
    dsimp only at hih
    have e5 : (a + b) * L + (a + b) = a * (L + 1) + b * (L + 1) := by rw [Nat.mul_succ, Nat.mul_succ, Nat.add_mul]; omega
    have e6 : a * (L + 1) ≤ a * L1 := Nat.mul_le_mul_left a h21
    omega
end Go.Proofs.YtdnjnbfmmgkpjaaDoor

namespace Go.Proofs.YtdnjnbfmmgkpjaaDoor

/-- a tree's weight -/
def wOf (wt : Nat → Nat) (T : List Nat) : Nat := (T.map wt).sum
/-- one more for those of a list -/
def inc (T : List Nat) (out : Nat → Nat) (v : Nat) : Nat := if v ∈ T then out v + 1 else out v

/-- trees are joined by twos, the least ones first, and each value's length grows as often as it is joined -/
inductive Run (wt : Nat → Nat) : List (List Nat) → (Nat → Nat) → (Nat → Nat) → Prop
  | done (T : List Nat) (out : Nat → Nat) : Run wt [T] out out
  | join {ts rest : List (List Nat)} {A B C : List Nat} {out fin : Nat → Nat} (p : ts.Perm (A :: B :: rest)) (ab : wOf wt A ≤ wOf wt B) (br : ∀ T ∈ rest, wOf wt B ≤ wOf wt T) (c : C.Perm (A ++ B)) (r : Run wt (C :: rest) (inc C out) fin) : Run wt ts out fin

theorem sum_map_perm {α : Type} {a b : List α} (h : a.Perm b) (f : α → Nat) : (a.map f).sum = (b.map f).sum := (h.map f).sum_nat
theorem sum_map_app {α : Type} (a b : List α) (f : α → Nat) : ((a ++ b).map f).sum = (a.map f).sum + (b.map f).sum := by simp
theorem sum_map_add {α : Type} (a : List α) (f g : α → Nat) : (a.map fun x => f x + g x).sum = (a.map f).sum + (a.map g).sum := by
  induction a with
  | nil => rfl
  | cons x a ih => simp only [List.map_cons, List.sum_cons, ih]; omega
theorem sum_map_mul {α : Type} (a : List α) (c : Nat) (f : α → Nat) : (a.map fun x => c * f x).sum = c * (a.map f).sum := by
  induction a with
  | nil => rfl
  | cons x a ih => simp only [List.map_cons, List.sum_cons, ih, Nat.mul_add]
theorem sum_map_congr {α : Type} {a : List α} {f g : α → Nat} (h : ∀ x ∈ a, f x = g x) : (a.map f).sum = (a.map g).sum := by rw [List.map_congr_left h]

theorem flat_join {ts rest : List (List Nat)} {A B C : List Nat} (p : ts.Perm (A :: B :: rest)) (c : C.Perm (A ++ B)) : (C :: rest).flatten.Perm ts.flatten := by
  have h1 : ts.flatten.Perm (A :: B :: rest).flatten := p.flatten
  rw [List.flatten_cons, List.flatten_cons, ← List.append_assoc] at h1
  rw [List.flatten_cons]
  exact (c.append_right _).trans h1.symm

theorem Run.cost {wt : Nat → Nat} {ts : List (List Nat)} {out fin : Nat → Nat} (r : Run wt ts out fin) : ts.flatten.Nodup → ∃ H, Joins (ts.map (wOf wt)) H ∧ (ts.flatten.map fun v => wt v * fin v).sum = (ts.flatten.map fun v => wt v * out v).sum + H := by
  induction r with
  | done T out => intro _; exact ⟨0, .one _, rfl⟩
  | @join ts rest A B C out fin p ab br c r ih =>
    intro hn
    have hf := flat_join p c
    have hn2 : (C :: rest).flatten.Nodup := hf.nodup_iff.2 hn
    obtain ⟨H, h1, h2⟩ := ih hn2
    have hC : wOf wt C = wOf wt A + wOf wt B := by
      unfold wOf
      rw [sum_map_perm c, sum_map_app]
    refine ⟨wOf wt A + wOf wt B + H, .more (by simpa using p.map (wOf wt)) ab (fun x hx => ?_) (by simpa [hC] using h1), ?_⟩
    · obtain ⟨T, hT, rfl⟩ := List.mem_map.1 hx
      exact br T hT
    rw [← sum_map_perm hf, h2, ← sum_map_perm hf, List.flatten_cons, sum_map_app, sum_map_app]
    rw [List.flatten_cons, List.nodup_append] at hn2
    have e1 : (C.map fun v => wt v * inc C out v).sum = (C.map fun v => wt v * out v).sum + wOf wt C := by
      unfold wOf
      rw [← sum_map_add]
      exact sum_map_congr fun v hv => by rw [inc, if_pos hv, Nat.mul_succ]
    have e2 : (rest.flatten.map fun v => wt v * inc C out v).sum = (rest.flatten.map fun v => wt v * out v).sum :=
      sum_map_congr fun v hv => by rw [inc, if_neg (fun h => hn2.2.2 v h v hv rfl)]
    rw [e1, e2, hC]
    omega

/-- the share of a list of values -/
def shareOf (M : Nat) (T : List Nat) (l : Nat → Nat) : Nat := (T.map fun v => 2 ^ (M - l v)).sum
theorem Run.share {wt : Nat → Nat} (M : Nat) {ts : List (List Nat)} {out fin : Nat → Nat} (r : Run wt ts out fin) : ts.flatten.Nodup → (∀ T ∈ ts, shareOf M T out = 2 ^ M) → (∀ v ∈ ts.flatten, out v + ts.length ≤ M + 1) →
    shareOf M ts.flatten fin = 2 ^ M ∧ (∀ v ∈ ts.flatten, fin v ≤ M) ∧ ∀ v, v ∉ ts.flatten → fin v = out v := by
  induction r with
  | done T out =>
    intro _ h1 h2
    refine ⟨by simpa using h1 T (by simp), fun v hv => ?_, fun _ _ => rfl⟩
    have := h2 v hv
    simp at this
    exact this
  | @join ts rest A B C out fin p ab br c r ih =>
    intro hn h1 h2
    have hf := flat_join p c
    have hn2 : (C :: rest).flatten.Nodup := hf.nodup_iff.2 hn
    have hl : ts.length = rest.length + 2 := by rw [p.length_eq]; rfl
    have hn3 := hn2
    rw [List.flatten_cons, List.nodup_append] at hn3
    have hmem : ∀ v, v ∈ C → v ∈ ts.flatten := fun v hv => hf.mem_iff.1 (by rw [List.flatten_cons]; exact List.mem_append_left _ hv)
    have hin : ∀ v, v ∉ C → inc C out v = out v := fun v hv => by rw [inc, if_neg hv]
    obtain ⟨g1, g2, g3⟩ := ih hn2 (by
      intro T hT
      rcases List.mem_cons.1 hT with rfl | hT
      · have hA := h1 A (p.mem_iff.2 (List.mem_cons_self ..))
        have hB := h1 B (p.mem_iff.2 (List.mem_cons_of_mem _ (List.mem_cons_self ..)))
        have e1 : 2 * shareOf M T (inc T out) = shareOf M T out := by
          unfold shareOf
          rw [← sum_map_mul]
          refine sum_map_congr fun v hv => ?_
          have := h2 v (hmem v hv)
          rw [inc, if_pos hv, ← Nat.pow_succ', show (M - (out v + 1)).succ = M - out v by omega]
        have e2 : shareOf M T out = shareOf M A out + shareOf M B out := by
          unfold shareOf
          rw [sum_map_perm c, sum_map_app]
        omega
      · rw [← h1 T (p.mem_iff.2 (List.mem_cons_of_mem _ (List.mem_cons_of_mem _ hT)))]
        unfold shareOf
        refine sum_map_congr fun v hv => ?_
        rw [hin v (fun h => hn3.2.2 v h v (List.mem_flatten.2 ⟨T, hT, hv⟩) rfl)]) (by
      intro v hv
      have := h2 v (hf.mem_iff.1 hv)
      rw [List.length_cons]
      unfold inc
      split <;> omega)
    refine ⟨?_, fun v hv => g2 v (hf.mem_iff.2 hv), fun v hv => ?_⟩
    · rw [← g1]
      unfold shareOf
      exact (sum_map_perm hf _).symm
    · rw [g3 v (fun h => hv (hf.mem_iff.1 h)), hin v (fun h => hv (hmem v h))]

theorem flat_ones : ∀ vs : List Nat, (vs.map fun v => [v]).flatten = vs
  | [] => rfl
  | v :: vs => by rw [List.map_cons, List.flatten_cons, flat_ones vs]; rfl
theorem sum_zero (wt : Nat → Nat) : ∀ vs : List Nat, (vs.map fun v => wt v * (fun _ : Nat => 0) v).sum = 0
  | [] => rfl
  | v :: vs => by rw [List.map_cons, List.sum_cons, sum_zero wt vs, Nat.mul_zero]
/-- trees of one value each -/
theorem Run.single {wt : Nat → Nat} {vs : List Nat} {fin : Nat → Nat} (r : Run wt (vs.map fun v => [v]) (fun _ => 0) fin) (hn : vs.Nodup) (M : Nat) (hM : vs.length ≤ M + 1) :
    shareOf M vs fin = 2 ^ M ∧ (∀ v ∈ vs, fin v ≤ M) ∧ (∀ v, v ∉ vs → fin v = 0) ∧ ∀ l : Nat → Nat, (∀ v ∈ vs, l v ≤ M) → shareOf M vs l ≤ 2 ^ M → (vs.map fun v => wt v * fin v).sum ≤ (vs.map fun v => wt v * l v).sum := by
  have hfl := flat_ones vs
  obtain ⟨H, h1, h2⟩ := r.cost (by rw [hfl]; exact hn)
  obtain ⟨g1, g2, g3⟩ := r.share M (by rw [hfl]; exact hn) (fun T hT => by
    obtain ⟨v, _, rfl⟩ := List.mem_map.1 hT
    simp [shareOf]) (fun v _ => by rw [List.length_map]; omega)
  rw [hfl] at g1 g2 g3 h2
  refine ⟨g1, g2, g3, fun l hl hs => ?_⟩
  rw [h2]
  have h3 := joins_least h1 M (vs.map fun v => (wt v, l v)) (by
    rw [List.map_map, List.map_map]
    refine List.Perm.of_eq (List.map_congr_left fun v _ => ?_)
    simp [wOf]) (by
    intro p hp
    obtain ⟨v, hv, rfl⟩ := List.mem_map.1 hp
    exact hl v hv) (by
    rw [List.map_map]
    show ((vs.map fun v => l v).map fun l => 2 ^ (M - l)).sum ≤ 2 ^ M
    rw [List.map_map]
    exact hs)
  have e1 : costW (vs.map fun v => (wt v, l v)) = (vs.map fun v => wt v * l v).sum := by
    unfold costW
    rw [List.map_map]
    rfl
  have e2 := sum_zero wt vs
  rw [e2, Nat.zero_add, ← e1]
  exact h3
end Go.Proofs.YtdnjnbfmmgkpjaaDoor

namespace Go.Proofs.YtdnjnbfmmgkpjaaDoor

/-- the greatest value -/
def top (T : List Nat) : Nat := T.foldr max 0
theorem top_ge : ∀ {T : List Nat} {v : Nat}, v ∈ T → v ≤ top T
  | x :: T, v, h => by
    show v ≤ max x (top T)
    rcases List.mem_cons.1 h with rfl | h
    · omega
    · have := top_ge h
      omega
theorem top_mem : ∀ {T : List Nat}, T ≠ [] → top T ∈ T
  | [], h => absurd rfl h
  | [x], _ => by
    show max x 0 ∈ [x]
    rw [Nat.max_eq_left (Nat.zero_le x)]
    exact List.mem_cons_self ..
  | x :: y :: T, _ => by
    have := top_mem (T := y :: T) (by simp)
    show max x (top (y :: T)) ∈ x :: y :: T
    rcases Nat.le_total x (top (y :: T)) with h | h
    · rw [Nat.max_eq_right h]
      exact List.mem_cons_of_mem _ this
    · rw [Nat.max_eq_left h]
      exact List.mem_cons_self ..

/-- does a tree go ahead of another one? -/
def Bef (cn : Nat → Nat) (A B : List Nat) : Prop := wOf cn A < wOf cn B ∨ (wOf cn A = wOf cn B ∧ top B < top A)
/-- trees joined as the document joins them -/
inductive RunB (cn : Nat → Nat) : List (List Nat) → (Nat → Nat) → (Nat → Nat) → Prop
  | done (T : List Nat) (out : Nat → Nat) : RunB cn [T] out out
  | join {ts rest : List (List Nat)} {A B C : List Nat} {out fin : Nat → Nat} (p : ts.Perm (A :: B :: rest)) (ha : ∀ T ∈ B :: rest, ¬ Bef cn T A) (hb : ∀ T ∈ rest, ¬ Bef cn T B) (c : C.Perm (A ++ B)) (s : C.Pairwise (· < ·)) (r : RunB cn (C :: rest) (inc C out) fin) : RunB cn ts out fin

/-- counts, with value 256 counted once -/
def cn256 (cn : Nat → Nat) (v : Nat) : Nat := if v = 256 then 1 else cn v
/-- weights: K a count, and 1 for value 256 -/
def wt256 (K : Nat) (cn : Nat → Nat) (v : Nat) : Nat := if v = 256 then 1 else K * cn v
theorem w_without (K : Nat) (cn : Nat → Nat) : ∀ {T : List Nat}, 256 ∉ T → wOf (wt256 K cn) T = K * wOf (cn256 cn) T
  | [], _ => rfl
  | v :: T, h => by
    have h1 : v ≠ 256 := fun e => h (e ▸ List.mem_cons_self ..)
    have h2 := w_without K cn (T := T) (fun h' => h (List.mem_cons_of_mem _ h'))
    unfold wOf at h2 ⊢
    rw [List.map_cons, List.map_cons, List.sum_cons, List.sum_cons, h2, wt256, if_neg h1, cn256, if_neg h1, Nat.mul_add]
theorem w_with (K : Nat) (cn : Nat → Nat) : ∀ {T : List Nat}, T.Nodup → 256 ∈ T → ∃ c, wOf (cn256 cn) T = c + 1 ∧ wOf (wt256 K cn) T = K * c + 1
  | v :: T, hn, h => by
    rw [List.nodup_cons] at hn
    by_cases h1 : v = 256
    · subst h1
      have h2 := w_without K cn hn.1
      refine ⟨wOf (cn256 cn) T, ?_, ?_⟩
      · show cn256 cn 256 + wOf (cn256 cn) T = _
        rw [cn256, if_pos rfl]
        omega
      · show wt256 K cn 256 + wOf (wt256 K cn) T = _
        rw [h2, wt256, if_pos rfl]
        omega
    · obtain ⟨c, h2, h3⟩ := w_with K cn hn.2 (by
        rcases List.mem_cons.1 h with h | h
        · exact absurd h.symm h1
        · exact h)
      refine ⟨cn v + c, ?_, ?_⟩
      · show cn256 cn v + wOf (cn256 cn) T = _
        rw [h2, cn256, if_neg h1]
        omega
      · show wt256 K cn v + wOf (wt256 K cn) T = _
        rw [h3, wt256, if_neg h1, Nat.mul_add]
        omega

/-- the order by counts is one by weights -/
theorem w_le {K : Nat} (hK : 1 ≤ K) {cn : Nat → Nat} {A T : List Nat} (hA : A.Nodup) (hT : T.Nodup) (hd : ∀ v, v ∈ A → v ∉ T) (hne : A ≠ []) (h256 : ∀ v ∈ A, v ≤ 256) (h : ¬ Bef (cn256 cn) T A) : wOf (wt256 K cn) A ≤ wOf (wt256 K cn) T := by
  have h1 : wOf (cn256 cn) A ≤ wOf (cn256 cn) T := by
    rcases Nat.lt_or_ge (wOf (cn256 cn) T) (wOf (cn256 cn) A) with h' | h'
    · exact absurd (.inl h') h
    · exact h'
  by_cases hA2 : 256 ∈ A
  · have hT2 := hd _ hA2
    obtain ⟨c, e1, e2⟩ := w_with K cn hA hA2
    rw [e2, w_without K cn hT2]
    have := Nat.mul_le_mul_left K (show c + 1 ≤ wOf (cn256 cn) T by omega)
    rw [Nat.mul_add] at this
    omega
  · rw [w_without K cn hA2]
    by_cases hT2 : 256 ∈ T
    · obtain ⟨c, e1, e2⟩ := w_with K cn hT hT2
      rw [e2]
      have hlt : wOf (cn256 cn) A ≠ wOf (cn256 cn) T := by
        intro e
        have g1 := top_ge hT2
        have g2 := h256 _ (top_mem hne)
        have g3 : top A ≠ 256 := fun e => hA2 (e ▸ top_mem hne)
        exact h (.inr ⟨e.symm, by omega⟩)
      have := Nat.mul_le_mul_left K (show wOf (cn256 cn) A ≤ c by omega)
      omega
    · rw [w_without K cn hT2]
      exact Nat.mul_le_mul_left K h1

/-- what all trees of a run are -/
structure Trees (ts : List (List Nat)) : Prop where
  nodup : ts.flatten.Nodup
  some_ : ∀ T ∈ ts, T ≠ []
  few : ∀ v ∈ ts.flatten, v ≤ 256
theorem Trees.perm {ts ts' : List (List Nat)} (h : Trees ts) (p : ts.Perm ts') : Trees ts' :=
  ⟨p.flatten.nodup_iff.1 h.nodup, fun T hT => h.some_ T (p.mem_iff.2 hT), fun v hv => h.few v (p.flatten.mem_iff.2 hv)⟩
theorem Trees.join {ts rest : List (List Nat)} {A B C : List Nat} (h : Trees ts) (p : ts.Perm (A :: B :: rest)) (c : C.Perm (A ++ B)) : Trees (C :: rest) := by
  have hf := flat_join p c
  refine ⟨hf.nodup_iff.2 h.nodup, fun T hT => ?_, fun v hv => h.few v (hf.mem_iff.1 hv)⟩
  rcases List.mem_cons.1 hT with rfl | hT
  · intro e
    rw [e] at c
    have hA := h.some_ A (p.mem_iff.2 (List.mem_cons_self ..))
    have := c.length_eq
    simp at this
    exact hA (List.eq_nil_of_length_eq_zero (by omega))
  · exact h.some_ T (p.mem_iff.2 (List.mem_cons_of_mem _ (List.mem_cons_of_mem _ hT)))
theorem nodup_in {ts : List (List Nat)} (h : ts.flatten.Nodup) {T : List Nat} (hT : T ∈ ts) : T.Nodup := by
  rw [List.Nodup, List.pairwise_flatten] at h
  exact h.1 T hT

theorem RunB.run {K : Nat} (hK : 1 ≤ K) {cn : Nat → Nat} {ts : List (List Nat)} {out fin : Nat → Nat} (r : RunB (cn256 cn) ts out fin) : Trees ts → Run (wt256 K cn) ts out fin := by
  induction r with
  | done T out => intro _; exact .done T out
  | @join ts rest A B C out fin p ha hb c s r ih =>
    intro ht
    have ht2 := ht.perm p
    have hn := ht2.nodup
    rw [List.flatten_cons, List.nodup_append] at hn
    have hn2 := hn.2.1
    rw [List.flatten_cons, List.nodup_append] at hn2
    refine .join p ?_ (fun T hT => ?_) c (ih (ht.join p c))
    · exact w_le hK hn.1 hn2.1 (fun v hv hv2 => hn.2.2 v hv v (List.mem_flatten.2 ⟨B, List.mem_cons_self .., hv2⟩) rfl) (ht2.some_ A (List.mem_cons_self ..)) (fun v hv => ht2.few v (List.mem_flatten.2 ⟨A, List.mem_cons_self .., hv⟩)) (ha B (List.mem_cons_self ..))
    · exact w_le hK hn2.1 (nodup_in ht2.nodup (List.mem_cons_of_mem _ (List.mem_cons_of_mem _ hT))) (fun v hv hv2 => hn2.2.2 v hv v (List.mem_flatten.2 ⟨T, hT, hv2⟩) rfl) (ht2.some_ B (List.mem_cons_of_mem _ (List.mem_cons_self ..))) (fun v hv => ht2.few v (List.mem_flatten.2 ⟨B, List.mem_cons_of_mem _ (List.mem_cons_self ..), hv⟩)) (hb T hT)

/-- trees with a value in common are one -/
theorem same_tree {ts : List (List Nat)} (h : ts.flatten.Nodup) {A B : List Nat} (hA : A ∈ ts) (hB : B ∈ ts) {v : Nat} (ha : v ∈ A) (hb : v ∈ B) : A = B := by
  rw [List.Nodup, List.pairwise_flatten] at h
  obtain ⟨i, hi, rfl⟩ := List.getElem_of_mem hA
  obtain ⟨j, hj, rfl⟩ := List.getElem_of_mem hB
  rcases Nat.lt_trichotomy i j with h1 | h1 | h1
  · exact absurd rfl (List.pairwise_iff_getElem.1 h.2 i j hi hj h1 v ha v hb)
  · subst h1; rfl
  · exact absurd rfl (List.pairwise_iff_getElem.1 h.2 j i hj hi h1 v hb v ha)
/-- one goes first, no other one -/
theorem first_one {cn : Nat → Nat} {ts : List (List Nat)} (h : Trees ts) {A B : List Nat} (hA : A ∈ ts) (hB : B ∈ ts) (h1 : ¬ Bef cn A B) (h2 : ¬ Bef cn B A) : A = B := by
  unfold Bef at h1 h2
  have hc : wOf cn A = wOf cn B := by omega
  have ht : top A = top B := by omega
  exact same_tree h.nodup hA hB (top_mem (h.some_ A hA)) (ht ▸ top_mem (h.some_ B hB))

theorem sorted_one : ∀ {A B : List Nat}, A.Perm B → A.Pairwise (· < ·) → B.Pairwise (· < ·) → A = B
  | [], B, p, _, _ => by rw [List.nil_perm.1 p]
  | a :: A, [], p, _, _ => by have := p.length_eq; simp at this
  | a :: A, b :: B, p, hA, hB => by
    rw [List.pairwise_cons] at hA hB
    have e : a = b := by
      rcases List.mem_cons.1 (p.mem_iff.1 (List.mem_cons_self ..)) with h | h
      · exact h
      · rcases List.mem_cons.1 (p.mem_iff.2 (List.mem_cons_self (a := b) (l := B))) with h2 | h2
        · exact h2.symm
        · have := hB.1 a h
          have := hA.1 b h2
          omega
    subst e
    rw [sorted_one p.cons_inv hA.2 hB.2]

/-- the lengths are told by the counts alone -/
theorem RunB.only {cn : Nat → Nat} {ts : List (List Nat)} {out fin : Nat → Nat} (r : RunB cn ts out fin) : Trees ts → ∀ {ts' : List (List Nat)} {fin' : Nat → Nat}, ts.Perm ts' → RunB cn ts' out fin' → fin = fin' := by
  induction r with
  | done T out =>
    intro _ ts' fin' p r'
    cases r' with
    | done T' _ => rfl
    | join p' =>
      have h1 := p.length_eq
      have h2 := p'.length_eq
      simp at h1 h2
      omega
  | @join ts rest A B C out fin p ha hb c s r ih =>
    intro ht ts' fin' pp r'
    cases r' with
    | done T' _ =>
      have h1 := pp.length_eq
      have h2 := p.length_eq
      simp at h1 h2
      omega
    | @join _ rest' A' B' C' _ _ p' ha' hb' c' s' r' =>
      have q : (A :: B :: rest).Perm (A' :: B' :: rest') := (p.symm.trans pp).trans p'
      have ht2 := ht.perm p
      have hself : ∀ X : List Nat, ¬ Bef cn X X := fun X h => by unfold Bef at h; omega
      have eA : A = A' := first_one ht2 (List.mem_cons_self ..) (q.mem_iff.2 (List.mem_cons_self ..)) (by
        rcases List.mem_cons.1 (q.mem_iff.1 (List.mem_cons_self (a := A) (l := B :: rest))) with h | h
        · rw [h]; exact hself _
        · exact ha' A h) (by
        rcases List.mem_cons.1 (q.mem_iff.2 (List.mem_cons_self (a := A') (l := B' :: rest'))) with h | h
        · rw [h]; exact hself _
        · exact ha A' h)
      subst eA
      have q2 := q.cons_inv
      have eB : B = B' := first_one ht2 (List.mem_cons_of_mem _ (List.mem_cons_self ..)) (List.mem_cons_of_mem _ (q2.mem_iff.2 (List.mem_cons_self ..))) (by
        rcases List.mem_cons.1 (q2.mem_iff.1 (List.mem_cons_self (a := B) (l := rest))) with h | h
        · rw [h]; exact hself _
        · exact hb' B h) (by
        rcases List.mem_cons.1 (q2.mem_iff.2 (List.mem_cons_self (a := B') (l := rest'))) with h | h
        · rw [h]; exact hself _
        · exact hb B' h)
      subst eB
      have eC : C = C' := sorted_one (c.trans c'.symm) s s'
      subst eC
      exact ih (ht.join p c) (q2.cons_inv.cons C) r'
end Go.Proofs.YtdnjnbfmmgkpjaaDoor

namespace Go.Proofs.YtdnjnbfmmgkpjaaDoor

theorem two_first {vs : List Nat} {u v : Nat} (hu : u ∈ vs) (hv : v ∈ vs) (h : u ≠ v) : ∃ rest, vs.Perm (u :: v :: rest) := by
  have h1 := List.perm_cons_erase hu
  have h2 : v ∈ vs.erase u := by
    rcases List.mem_cons.1 (h1.mem_iff.1 hv) with e | e
    · exact absurd e.symm h
    · exact e
  exact ⟨_, h1.trans ((List.perm_cons_erase h2).cons u)⟩

/-- the greater weight has no greater length -/
theorem Run.mono {wt : Nat → Nat} {vs : List Nat} {fin : Nat → Nat} (r : Run wt (vs.map fun v => [v]) (fun _ => 0) fin) (hn : vs.Nodup) {u v : Nat} (hu : u ∈ vs) (hv : v ∈ vs) (hw : wt u < wt v) : fin v ≤ fin u := by
  have huv : u ≠ v := fun e => by rw [e] at hw; omega
  obtain ⟨h1, h2, _, h4⟩ := r.single hn vs.length (by omega)
  obtain ⟨rest, p⟩ := two_first hu hv huv
  have hn2 := p.nodup_iff.1 hn
  rw [List.nodup_cons, List.nodup_cons] at hn2
  obtain ⟨n1, n2, _⟩ := hn2
  rcases Nat.lt_or_ge (fin u) (fin v) with hlt | hge
  · exfalso
    obtain ⟨l, hl⟩ : ∃ l : Nat → Nat, l = fun x => if x = u then fin v else if x = v then fin u else fin x := ⟨_, rfl⟩
    have lu : l u = fin v := by rw [hl]; simp
    have lv : l v = fin u := by rw [hl]; simp [huv.symm]
    have lx : ∀ x ∈ rest, l x = fin x := fun x hx => by
      have a1 : x ≠ u := fun e => n1 (e ▸ List.mem_cons_of_mem _ hx)
      have a2 : x ≠ v := fun e => n2 (e ▸ hx)
      rw [hl]
      simp [a1, a2]
    have key := h4 l (fun x hx => by
      rcases List.mem_cons.1 (p.mem_iff.1 hx) with rfl | hx
      · rw [lu]; exact h2 v hv
      · rcases List.mem_cons.1 hx with rfl | hx
        · rw [lv]; exact h2 u hu
        · rw [lx x hx]
          exact h2 x (p.mem_iff.2 (List.mem_cons_of_mem _ (List.mem_cons_of_mem _ hx)))) (by
      have e : shareOf vs.length vs l = shareOf vs.length vs fin := by
        unfold shareOf
        rw [sum_map_perm p, sum_map_perm p]
        simp only [List.map_cons, List.sum_cons]
        rw [lu, lv, sum_map_congr (g := fun x => 2 ^ (vs.length - fin x)) (fun x hx => by rw [lx x hx])]
        omega
      rw [e, h1]
      exact Nat.le_refl _)
    rw [sum_map_perm p, sum_map_perm p] at key
    simp only [List.map_cons, List.sum_cons] at key
    rw [lu, lv, sum_map_congr (f := fun x => wt x * l x) (g := fun x => wt x * fin x) (fun x hx => by rw [lx x hx])] at key
    obtain ⟨d, hd⟩ : ∃ d, wt v = wt u + d := ⟨wt v - wt u, by omega⟩
    obtain ⟨f, hf⟩ : ∃ f, fin v = fin u + f := ⟨fin v - fin u, by omega⟩
    have hdf : 0 < d * f := Nat.mul_pos (by omega) (by omega)
    rw [hd, hf] at key
    simp only [Nat.mul_add, Nat.add_mul] at key
    omega
  · exact hge

/-- what is counted, and 256 -/
structure Counted (cn : Nat → Nat) (us : List Nat) : Prop where
  nodup : us.Nodup
  few : ∀ v ∈ us, v < 256
  pos : ∀ v ∈ us, 1 ≤ cn v
theorem Counted.all {cn : Nat → Nat} {us : List Nat} (h : Counted cn us) : (us ++ [256]).Nodup := by
  rw [List.nodup_append]
  refine ⟨h.nodup, by simp, fun a ha b hb e => ?_⟩
  have := h.few a ha
  simp at hb
  omega
theorem Counted.trees {cn : Nat → Nat} {us : List Nat} (h : Counted cn us) : Trees ((us ++ [256]).map fun v => [v]) := by
  refine ⟨by rw [flat_ones]; exact h.all, fun T hT => ?_, fun v hv => ?_⟩
  · obtain ⟨v, _, rfl⟩ := List.mem_map.1 hT
    simp
  · rw [flat_ones] at hv
    rcases List.mem_append.1 hv with h1 | h1
    · have := h.few v h1
      omega
    · simp at h1
      omega

/-- lengths by counts -/
def LengthsOf (cn : Nat → Nat) (us : List Nat) (fin : Nat → Nat) : Prop := RunB (cn256 cn) ((us ++ [256]).map fun v => [v]) (fun _ => 0) fin

theorem wt_us (K : Nat) (cn : Nat → Nat) {us : List Nat} (h : ∀ v ∈ us, v < 256) (l : Nat → Nat) : ((us ++ [256]).map fun v => wt256 K cn v * l v).sum = K * (us.map fun v => cn v * l v).sum + l 256 := by
  rw [sum_map_app, ← sum_map_mul]
  have e1 : (us.map fun v => wt256 K cn v * l v).sum = (us.map fun v => K * (cn v * l v)).sum := sum_map_congr fun v hv => by
    have := h v hv
    rw [wt256, if_neg (by omega), Nat.mul_assoc]
  rw [e1]
  simp [wt256]

section
variable {cn : Nat → Nat} {us : List Nat} {fin : Nat → Nat}
theorem LengthsOf.run (h : LengthsOf cn us fin) (hc : Counted cn us) {K : Nat} (hK : 1 ≤ K) : Run (wt256 K cn) ((us ++ [256]).map fun v => [v]) (fun _ => 0) fin := RunB.run hK h hc.trees
theorem LengthsOf.only (h : LengthsOf cn us fin) (hc : Counted cn us) {fin' : Nat → Nat} (h' : LengthsOf cn us fin') : fin = fin' := RunB.only h hc.trees (List.Perm.refl _) h'
theorem LengthsOf.share (h : LengthsOf cn us fin) (hc : Counted cn us) {M : Nat} (hM : us.length ≤ M) : shareOf M (us ++ [256]) fin = 2 ^ M ∧ (∀ v ∈ us ++ [256], fin v ≤ M) ∧ ∀ v, v ∉ us ++ [256] → fin v = 0 := by
  obtain ⟨h1, h2, h3, _⟩ := (h.run hc (Nat.le_refl 1)).single hc.all M (by simp; omega)
  exact ⟨h1, h2, h3⟩
/-- value 256 has the greatest length -/
theorem LengthsOf.last (h : LengthsOf cn us fin) (hc : Counted cn us) {v : Nat} (hv : v ∈ us) : fin v ≤ fin 256 := by
  refine (h.run hc (K := 2) (by omega)).mono hc.all (u := 256) (v := v) (by simp) (List.mem_append_left _ hv) ?_
  have h1 := hc.few v hv
  have h2 := hc.pos v hv
  rw [wt256, if_pos rfl, wt256, if_neg (by omega)]
  omega
/-- what is counted more often has no greater length -/
theorem LengthsOf.order (h : LengthsOf cn us fin) (hc : Counted cn us) {u v : Nat} (hu : u ∈ us) (hv : v ∈ us) (hw : cn u < cn v) : fin v ≤ fin u := by
  refine (h.run hc (K := 1) (by omega)).mono hc.all (u := u) (v := v) (List.mem_append_left _ hu) (List.mem_append_left _ hv) ?_
  have h1 := hc.few v hv
  have h2 := hc.few u hu
  rw [wt256, if_neg (by omega), wt256, if_neg (by omega)]
  omega
/-- no lengths that leave room for one of 16 bits cost less -/
theorem LengthsOf.best (h : LengthsOf cn us fin) (hc : Counted cn us) {M : Nat} (hM : us.length ≤ M) (h16 : 16 ≤ M) (l : Nat → Nat) (hl : ∀ v ∈ us, l v ≤ M) (hs : shareOf M us l + 2 ^ (M - 16) ≤ 2 ^ M) :
    (us.map fun v => cn v * fin v).sum ≤ (us.map fun v => cn v * l v).sum := by
  obtain ⟨_, _, _, h4⟩ := (h.run hc (K := 17) (by omega)).single hc.all M (by simp; omega)
  obtain ⟨l', hl'⟩ : ∃ l' : Nat → Nat, l' = fun v => if v = 256 then 16 else l v := ⟨_, rfl⟩
  have l256 : l' 256 = 16 := by rw [hl']; simp
  have lv : ∀ v ∈ us, l' v = l v := fun v hv => by
    have := hc.few v hv
    rw [hl']
    simp
    intro e
    omega
  have key := h4 l' (fun v hv => by
    rcases List.mem_append.1 hv with h1 | h1
    · rw [lv v h1]; exact hl v h1
    · simp at h1
      subst h1
      rw [l256]
      exact h16) (by
    unfold shareOf at hs ⊢
    rw [sum_map_app, sum_map_congr (g := fun v => 2 ^ (M - l v)) (fun v hv => by rw [lv v hv])]
    simp only [List.map_cons, List.map_nil, List.sum_cons, List.sum_nil, l256]
    omega)
  rw [wt_us 17 cn hc.few, wt_us 17 cn hc.few, l256, sum_map_congr (f := fun v => cn v * l' v) (g := fun v => cn v * l v) (fun v hv => by rw [lv v hv])] at key
  omega
end
end Go.Proofs.YtdnjnbfmmgkpjaaDoor

namespace Go.Proofs.YtdnjnbfmmgkpjaaDoor

/-- one number is another one -/
def upd (n : Nat → Nat) (i x : Nat) (s : Nat) : Nat := if s = i then x else n s
theorem upd_same (n : Nat → Nat) (i x : Nat) : upd n i x i = x := by simp [upd]
theorem upd_other (n : Nat → Nat) {i s : Nat} (x : Nat) (h : s ≠ i) : upd n i x s = n s := by simp [upd, h]
/-- a sum of numbers, each with its weight -/
def sumW (w : Nat → Nat) (n : Nat → Nat) : Nat → Nat
  | 0 => 0
  | k + 1 => sumW w n k + n k * w k
theorem sumW_out (w n : Nat → Nat) (i x : Nat) : ∀ k, k ≤ i → sumW w (upd n i x) k = sumW w n k
  | 0, _ => rfl
  | k + 1, h => by rw [sumW, sumW, sumW_out w n i x k (by omega), upd_other n x (by omega)]
theorem sumW_upd (w n : Nat → Nat) (i x : Nat) : ∀ k, i < k → sumW w (upd n i x) k + n i * w i = sumW w n k + x * w i
  | 0, h => absurd h (by omega)
  | k + 1, h => by
    rw [sumW, sumW]
    by_cases e : i = k
    · subst e
      rw [sumW_out w n i x i (Nat.le_refl _), upd_same]
      omega
    · have := sumW_upd w n i x k (by omega)
      rw [upd_other n x (by omega)]
      omega
theorem sumW_zero (w n : Nat → Nat) : ∀ k, (∀ s, s < k → n s = 0) → sumW w n k = 0
  | 0, _ => rfl
  | k + 1, h => by rw [sumW, sumW_zero w n k (fun s hs => h s (by omega)), h k (by omega), Nat.zero_mul]
theorem sumW_more (w n : Nat → Nat) (k : Nat) : ∀ m, (∀ s, k ≤ s → s < k + m → n s = 0) → sumW w n (k + m) = sumW w n k
  | 0, _ => rfl
  | m + 1, h => by
    rw [← Nat.add_assoc, sumW, sumW_more w n k m (fun s h1 h2 => h s h1 (by omega)), h (k + m) (by omega) (by omega), Nat.zero_mul, Nat.add_zero]

/-- the greatest length at most k that there is -/
def jof (n : Nat → Nat) : Nat → Nat
  | 0 => 0
  | k + 1 => if n (k + 1) = 0 then jof n k else k + 1
theorem jof_le (n : Nat → Nat) : ∀ k, jof n k ≤ k
  | 0 => Nat.le_refl _
  | k + 1 => by
    rw [jof]
    split
    · exact Nat.le_succ_of_le (jof_le n k)
    · exact Nat.le_refl _
theorem jof_none (n : Nat → Nat) : ∀ k, n (jof n k) = 0 → ∀ s, s ≤ k → n s = 0
  | 0, h, s, hs => by
    obtain rfl : s = 0 := by omega
    exact h
  | k + 1, h, s, hs => by
    rw [jof] at h
    split at h
    · next h1 =>
      by_cases e : s = k + 1
      · rw [e]; exact h1
      · exact jof_none n k h s (by omega)
    · next h1 => exact absurd h h1
theorem jof_above (n : Nat → Nat) : ∀ k s, jof n k < s → s ≤ k → n s = 0
  | 0, s, h, hs => absurd h (by omega)
  | k + 1, s, h, hs => by
    rw [jof] at h
    split at h
    · next h1 =>
      by_cases e : s = k + 1
      · rw [e]; exact h1
      · exact jof_above n k s h (by omega)
    · omega

/-- two lengths of i are cut down -/
def lstep (n : Nat → Nat) (i j : Nat) : Nat → Nat :=
  let n1 := upd n i (n i - 2)
  let n2 := upd n1 (i - 1) (n1 (i - 1) + 1)
  let n3 := upd n2 (j + 1) (n2 (j + 1) + 2)
  upd n3 j (n3 j - 1)
/-- limiting: from length i down -/
inductive Lim : (Nat → Nat) → Nat → (Nat → Nat) → Prop
  | stop (n : Nat → Nat) : Lim n 16 n
  | down {n m : Nat → Nat} {i : Nat} (hi : 16 ≤ i) (h : n (i + 1) = 0) (r : Lim n i m) : Lim n (i + 1) m
  | step {n m : Nat → Nat} {i : Nat} (hi : 17 ≤ i) (h : n i ≠ 0) (r : Lim (lstep n i (jof n (i - 2))) i m) : Lim n i m
theorem Lim.only {n m : Nat → Nat} {i : Nat} (h : Lim n i m) : ∀ {m' : Nat → Nat}, Lim n i m' → m = m' := by
  induction h with
  | stop n =>
    intro m' h'
    generalize hi : 16 = i at h'
    cases h' with
    | stop => rfl
    | down h1 => omega
    | step h1 => omega
  | @down n m i hi h r ih =>
    intro m' h'
    generalize hk : i + 1 = k at h'
    cases h' with
    | stop => omega
    | @down _ _ i' _ _ r' =>
      obtain rfl : i = i' := by omega
      exact ih r'
    | step _ h2 => subst hk; exact absurd h h2
  | @step n m i hi h r ih =>
    intro m' h'
    cases h' with
    | stop => omega
    | down _ h2 => exact absurd h2 h
    | step _ _ r' => exact ih r'

/-- the share of a length, in parts of 2 ^ 300 -/
def wS (s : Nat) : Nat := 2 ^ (300 - s)
theorem wS_half {s : Nat} (h : s < 300) : wS s = 2 * wS (s + 1) := by
  unfold wS
  rw [show 300 - s = (300 - (s + 1)) + 1 by omega, Nat.pow_succ]
  omega
/-- counts of lengths up to i that fill the room -/
structure Full (n : Nat → Nat) (i N : Nat) : Prop where
  zero : n 0 = 0
  above : ∀ s, i < s → n s = 0
  room : sumW wS n 300 = 2 ^ 300
  all : sumW (fun _ => 1) n 300 = N
  few : N ≤ 257

theorem wS_mul {s i : Nat} (h : s < i) (hi : i ≤ 300) : ∃ k, wS s = k * (2 * wS i) := by
  refine ⟨2 ^ (i - s - 1), ?_⟩
  unfold wS
  rw [Nat.mul_left_comm, ← Nat.pow_add, ← Nat.pow_succ']
  congr 1
  omega
theorem sumW_even (n : Nat → Nat) {i : Nat} (hi : i ≤ 300) : ∀ k, k ≤ i → ∃ q, sumW wS n k = q * (2 * wS i)
  | 0, _ => ⟨0, by rw [Nat.zero_mul]; rfl⟩
  | k + 1, h => by
    obtain ⟨q, hq⟩ := sumW_even n hi k (by omega)
    obtain ⟨r, hr⟩ := wS_mul (show k < i by omega) hi
    refine ⟨q + n k * r, ?_⟩
    rw [sumW, hq, hr, Nat.add_mul, Nat.mul_assoc]
theorem wS_pos (s : Nat) : 0 < wS s := Nat.pow_pos (by omega)

/-- as many as are of the greatest length are even -/
theorem Full.even {n : Nat → Nat} {i N : Nat} (h : Full n i N) (h1 : 1 ≤ i) (h2 : i < 300) : n i % 2 = 0 := by
  obtain ⟨q, hq⟩ := sumW_even n (show i ≤ 300 by omega) i (Nat.le_refl _)
  have hs : sumW wS n 300 = sumW wS n (i + 1) := by
    have := sumW_more wS n (i + 1) (300 - (i + 1)) (fun s h3 _ => h.above s (by omega))
    rw [show i + 1 + (300 - (i + 1)) = 300 by omega] at this
    exact this
  have hr := h.room
  rw [hs, sumW, hq] at hr
  have e : (2 : Nat) ^ 300 = 2 ^ (i - 1) * (2 * wS i) := by
    unfold wS
    rw [← Nat.pow_succ', ← Nat.pow_add]
    congr 1
    omega
  rw [e] at hr
  have hp := wS_pos i
  have e2 : (2 * q + n i) * wS i = (2 * 2 ^ (i - 1)) * wS i := by
    rw [Nat.add_mul, Nat.mul_comm 2 q, Nat.mul_assoc, hr, ← Nat.mul_assoc, Nat.mul_comm (2 ^ (i - 1)) 2]
  have e3 := Nat.eq_of_mul_eq_mul_right hp e2
  omega
/-- there is a shorter one -/
theorem Full.shorter {n : Nat → Nat} {i N : Nat} (h : Full n i N) (h1 : 17 ≤ i) (h2 : i < 300) : n (jof n (i - 2)) ≠ 0 := by
  intro h0
  have hz := jof_none n (i - 2) h0
  have hs : ∀ w, sumW w n 300 = n (i - 1) * w (i - 1) + n i * w i := by
    intro w
    have := sumW_more w n (i + 1) (300 - (i + 1)) (fun s h3 _ => h.above s (by omega))
    rw [show i + 1 + (300 - (i + 1)) = 300 by omega] at this
    rw [this, sumW, show i = i - 1 + 1 by omega, sumW, sumW_zero w n (i - 1) (fun s hs => hz s (by omega)), Nat.zero_add]
    rfl
  have h3 := hs wS
  have h4 := hs (fun _ => 1)
  rw [h.room] at h3
  rw [h.all] at h4
  have hf := h.few
  have hw : wS i ≤ wS (i - 1) := by unfold wS; exact Nat.pow_le_pow_right (by omega) (by omega)
  obtain ⟨e, he⟩ : ∃ e : Nat, e = 284 := ⟨_, rfl⟩
  obtain ⟨P, hP⟩ : ∃ P : Nat, P = 2 ^ e := ⟨_, rfl⟩
  have hw2 : wS (i - 1) ≤ P := by
    rw [hP]
    unfold wS
    exact Nat.pow_le_pow_right (by omega) (by omega)
  have h8 : (2 : Nat) ^ (16 + e) = 2 ^ 16 * P := by rw [hP, Nat.pow_add]
  rw [show (300 : Nat) = 16 + e by omega, h8] at h3
  have hP0 : 0 < P := by rw [hP]; exact Nat.pow_pos (by omega)
  clear hP
  have h5 : n (i - 1) * wS (i - 1) + n i * wS i ≤ (n (i - 1) + n i) * P := by
    rw [Nat.add_mul]
    exact Nat.add_le_add (Nat.mul_le_mul_left _ hw2) (Nat.mul_le_mul_left _ (Nat.le_trans hw hw2))
  have h6 : (n (i - 1) + n i) * P ≤ 257 * P := Nat.mul_le_mul_right _ (by omega)
  omega

theorem Full.step {n : Nat → Nat} {i N : Nat} (h : Full n i N) (h1 : 17 ≤ i) (h2 : i < 300) (hn : n i ≠ 0) : Full (lstep n i (jof n (i - 2))) i N ∧ (lstep n i (jof n (i - 2))) i + 2 = n i ∧ (lstep n i (jof n (i - 2))) (i - 1) ≠ 0 := by
  have he := h.even (by omega) h2
  have hj := h.shorter h1 h2
  obtain ⟨j, hjj⟩ : ∃ j, j = jof n (i - 2) := ⟨_, rfl⟩
  have hjl := jof_le n (i - 2)
  rw [← hjj] at hj hjl ⊢
  have hj1 : 1 ≤ j := by
    rcases Nat.eq_zero_or_pos j with e | e
    · rw [e, h.zero] at hj; exact absurd rfl hj
    · exact e
  obtain ⟨n1, e1⟩ : ∃ n1, n1 = upd n i (n i - 2) := ⟨_, rfl⟩
  obtain ⟨n2, e2⟩ : ∃ n2, n2 = upd n1 (i - 1) (n1 (i - 1) + 1) := ⟨_, rfl⟩
  obtain ⟨n3, e3⟩ : ∃ n3, n3 = upd n2 (j + 1) (n2 (j + 1) + 2) := ⟨_, rfl⟩
  have e4 : lstep n i j = upd n3 j (n3 j - 1) := by rw [e3, e2, e1]; rfl
  rw [e4]
  have a3 : n3 j = n j := by rw [e3, upd_other _ _ (by omega), e2, upd_other _ _ (by omega), e1, upd_other _ _ (by omega)]
  have sums : ∀ w : Nat → Nat, sumW w (upd n3 j (n3 j - 1)) 300 + w j + 2 * w i = sumW w n 300 + w (i - 1) + 2 * w (j + 1) := by
    intro w
    have s1 := sumW_upd w n i (n i - 2) 300 h2
    have s2 := sumW_upd w n1 (i - 1) (n1 (i - 1) + 1) 300 (by omega)
    have s3 := sumW_upd w n2 (j + 1) (n2 (j + 1) + 2) 300 (by omega)
    have s4 := sumW_upd w n3 j (n3 j - 1) 300 (by omega)
    rw [← e1] at s1
    rw [← e2] at s2
    rw [← e3] at s3
    obtain ⟨x, hx⟩ : ∃ x, n i = x + 2 := ⟨n i - 2, by omega⟩
    obtain ⟨y, hy⟩ : ∃ y, n3 j = y + 1 := ⟨n3 j - 1, by omega⟩
    rw [hx, Nat.add_sub_cancel, Nat.add_mul] at s1
    rw [Nat.add_mul] at s2 s3
    rw [hy, Nat.add_sub_cancel, Nat.add_mul] at s4
    rw [hy, Nat.add_sub_cancel]
    omega
  refine ⟨⟨?_, fun s hs => ?_, ?_, ?_, h.few⟩, ?_, ?_⟩
  · rw [upd_other _ _ (by omega), e3, upd_other _ _ (by omega), e2, upd_other _ _ (by omega), e1, upd_other _ _ (by omega)]
    exact h.zero
  · rw [upd_other _ _ (by omega), e3, upd_other _ _ (by omega), e2, upd_other _ _ (by omega), e1, upd_other _ _ (by omega)]
    exact h.above s hs
  · have := sums wS
    have w1 := wS_half (s := i - 1) (by omega)
    rw [show i - 1 + 1 = i by omega] at w1
    have w2 := wS_half (s := j) (by omega)
    rw [h.room] at this
    omega
  · have := sums (fun _ => 1)
    rw [h.all] at this
    omega
  · rw [upd_other _ _ (by omega), e3, upd_other _ _ (by omega), e2, upd_other _ _ (by omega), e1, upd_same]
    omega
  · rw [upd_other _ _ (by omega), e3]
    by_cases e : i - 1 = j + 1
    · rw [e, upd_same]
      omega
    · rw [upd_other _ _ e, e2, upd_same]
      omega
theorem Full.down {n : Nat → Nat} {i N : Nat} (h : Full n (i + 1) N) (h0 : n (i + 1) = 0) : Full n i N :=
  ⟨h.zero, fun s hs => by
    by_cases e : s = i + 1
    · rw [e]; exact h0
    · exact h.above s (by omega), h.room, h.all, h.few⟩

theorem Lim.full {n m : Nat → Nat} {i N : Nat} (r : Lim n i m) : i < 300 → Full n i N → Full m 16 N := by
  induction r with
  | stop n => intro _ h; exact h
  | down hi h0 r ih => intro h2 h; exact ih (by omega) (h.down h0)
  | step hi h0 r ih => intro h2 h; exact ih h2 (h.step hi h2 h0).1
/-- where a length is 16 or more, there is one of 16 at the end -/
theorem Lim.sixteen {n m : Nat → Nat} {i N : Nat} (r : Lim n i m) : i < 300 → Full n i N → (∃ s, 16 ≤ s ∧ s ≤ i ∧ n s ≠ 0) → m 16 ≠ 0 := by
  induction r with
  | stop n =>
    intro _ _ ⟨s, h1, h2, h3⟩
    obtain rfl : s = 16 := by omega
    exact h3
  | @down n m i hi h0 r ih =>
    intro h2 h ⟨s, g1, g2, g3⟩
    have : s ≠ i + 1 := fun e => g3 (e ▸ h0)
    exact ih (by omega) (h.down h0) ⟨s, g1, by omega, g3⟩
  | @step n m i hi h0 r ih =>
    intro h2 h _
    obtain ⟨f1, _, f3⟩ := h.step hi h2 h0
    exact ih h2 f1 ⟨i - 1, by omega, by omega, f3⟩
/-- where no length is above 16, nothing is limited -/
theorem Lim.none_ {n m : Nat → Nat} {i : Nat} (r : Lim n i m) : (∀ s, 16 < s → n s = 0) → m = n := by
  induction r with
  | stop n => intro _; rfl
  | down hi h0 r ih => intro h; exact ih h
  | step hi h0 r ih => intro h; exact absurd (h _ (by omega)) h0
end Go.Proofs.YtdnjnbfmmgkpjaaDoor

namespace Go.Proofs.YtdnjnbfmmgkpjaaDoor

/-- the values of a length -/
def seg (fin : Nat → Nat) (s : Nat) : List Nat := (List.range 256).filter fun v => fin v == s
/-- the values of lengths 1 to k -/
def valsTo (fin : Nat → Nat) : Nat → List Nat
  | 0 => []
  | k + 1 => valsTo fin k ++ seg fin (k + 1)
theorem mem_seg {fin : Nat → Nat} {s v : Nat} : v ∈ seg fin s ↔ v < 256 ∧ fin v = s := by simp [seg]
theorem mem_valsTo {fin : Nat → Nat} {v : Nat} : ∀ {k : Nat}, v ∈ valsTo fin k ↔ v < 256 ∧ 1 ≤ fin v ∧ fin v ≤ k
  | 0 => by simp [valsTo]; omega
  | k + 1 => by
    rw [valsTo, List.mem_append, mem_valsTo, mem_seg]
    omega
theorem seg_nodup (fin : Nat → Nat) (s : Nat) : (seg fin s).Nodup := List.Pairwise.filter _ List.nodup_range
theorem valsTo_nodup (fin : Nat → Nat) : ∀ k, (valsTo fin k).Nodup
  | 0 => by simp [valsTo]
  | k + 1 => by
    rw [valsTo, List.nodup_append]
    refine ⟨valsTo_nodup fin k, seg_nodup fin _, fun a ha b hb e => ?_⟩
    have h1 := mem_valsTo.1 ha
    have h2 := mem_seg.1 hb
    rw [e] at h1
    omega

/-- how many have each length -/
def cntOf (fin : Nat → Nat) (vs : List Nat) (s : Nat) : Nat := vs.countP fun v => fin v == s
theorem sumW_one (w n : Nat → Nat) (i : Nat) : ∀ k, sumW w (fun s => n s + if i = s then 1 else 0) k = sumW w n k + if i < k then w i else 0
  | 0 => by simp [sumW]
  | k + 1 => by
    rw [sumW, sumW, sumW_one w n i k, Nat.add_mul]
    by_cases h1 : i = k
    · subst h1
      simp
      omega
    · by_cases h2 : i < k
      · simp [h1, h2, show i < k + 1 by omega]
        omega
      · simp [h1, h2, show ¬ i < k + 1 by omega]
theorem sumW_cnt (w fin : Nat → Nat) : ∀ vs : List Nat, (∀ v ∈ vs, fin v < 300) → sumW w (cntOf fin vs) 300 = (vs.map fun v => w (fin v)).sum
  | [], _ => sumW_zero _ _ _ (fun _ _ => rfl)
  | v :: vs, h => by
    have e : cntOf fin (v :: vs) = fun s => cntOf fin vs s + if fin v = s then 1 else 0 := by
      funext s
      simp [cntOf, List.countP_cons]
    rw [e, sumW_one, if_pos (h v (List.mem_cons_self ..)), sumW_cnt w fin vs (fun x hx => h x (List.mem_cons_of_mem _ hx)), List.map_cons, List.sum_cons]
    omega

theorem few_us {us : List Nat} (hn : us.Nodup) (hf : ∀ v ∈ us, v < 256) : us.length ≤ 256 := by
  have := nodup_few 256 (us.map Int.ofNat) (by
    rw [List.Nodup, List.pairwise_map]
    exact hn.imp (fun h e => h (Int.ofNat.inj e))) (fun v hv => by
    obtain ⟨x, hx, rfl⟩ := List.mem_map.1 hv
    have := hf x hx
    exact ⟨Int.natCast_nonneg x, by show (x : Int) < ((256 : Nat) : Int); omega⟩)
  simpa using this
theorem sum_ones : ∀ l : List Nat, (l.map fun _ => 1).sum = l.length
  | [] => rfl
  | x :: l => by rw [List.map_cons, List.sum_cons, sum_ones l, List.length_cons, Nat.add_comm]

theorem le_sum {α : Type} (f : α → Nat) : ∀ {l : List α} {x : α}, x ∈ l → f x ≤ (l.map f).sum
  | y :: l, x, h => by
    rw [List.map_cons, List.sum_cons]
    rcases List.mem_cons.1 h with rfl | h
    · omega
    · have := le_sum f h
      omega

section
variable {cn : Nat → Nat} {us : List Nat} {fin : Nat → Nat}
theorem LengthsOf.pos (h : LengthsOf cn us fin) (hc : Counted cn us) (hne : us ≠ []) {v : Nat} (hv : v ∈ us ++ [256]) : 1 ≤ fin v := by
  obtain ⟨h1, h2, _⟩ := h.share hc (M := us.length) (Nat.le_refl _)
  obtain ⟨M, hM⟩ : ∃ M, M = us.length := ⟨_, rfl⟩
  rw [← hM] at h1 h2
  rcases Nat.eq_zero_or_pos (fin v) with h0 | h0
  · exfalso
    obtain ⟨u, hu, huv⟩ : ∃ u, u ∈ us ++ [256] ∧ v ≠ u := by
      rcases List.mem_append.1 hv with h3 | h3
      · exact ⟨256, by simp, fun e => by have := hc.few v h3; omega⟩
      · obtain ⟨u, hu⟩ := List.exists_mem_of_ne_nil _ hne
        simp at h3
        exact ⟨u, List.mem_append_left _ hu, fun e => by have := hc.few u hu; omega⟩
    obtain ⟨rest, p⟩ := two_first hv hu huv
    unfold shareOf at h1
    rw [sum_map_perm p] at h1
    simp only [List.map_cons, List.sum_cons] at h1
    rw [h0, Nat.sub_zero] at h1
    have : 0 < 2 ^ (M - fin u) := Nat.pow_pos (by omega)
    omega
  · exact h0
theorem LengthsOf.le (h : LengthsOf cn us fin) (hc : Counted cn us) {v : Nat} (hv : v ∈ us ++ [256]) : fin v ≤ 256 := by
  have := (h.share hc (M := us.length) (Nat.le_refl _)).2.1 v hv
  have := few_us hc.nodup hc.few
  omega
theorem LengthsOf.full (h : LengthsOf cn us fin) (hc : Counted cn us) (hne : us ≠ []) : Full (cntOf fin (us ++ [256])) 299 (us.length + 1) := by
  have hl := few_us hc.nodup hc.few
  obtain ⟨h1, _, _⟩ := h.share hc (M := 300) (by omega)
  have hlt : ∀ v ∈ us ++ [256], fin v < 300 := fun v hv => by have := h.le hc hv; omega
  refine ⟨?_, fun s hs => ?_, ?_, ?_, by omega⟩
  · unfold cntOf
    rw [List.countP_eq_zero]
    intro v hv
    have := h.pos hc hne hv
    simp
    omega
  · unfold cntOf
    rw [List.countP_eq_zero]
    intro v hv
    have := hlt v hv
    simp
    omega
  · rw [sumW_cnt wS fin _ hlt, ← h1]
    rfl
  · rw [sumW_cnt _ fin _ hlt, sum_ones]
    simp
theorem LengthsOf.mem (h : LengthsOf cn us fin) (hc : Counted cn us) (hne : us ≠ []) {v : Nat} (hv : v < 256) : v ∈ us ↔ 1 ≤ fin v := by
  refine ⟨fun hu => h.pos hc hne (List.mem_append_left _ hu), fun h1 => ?_⟩
  have h3 := (h.share hc (M := us.length) (Nat.le_refl _)).2.2 v
  by_cases hu : v ∈ us
  · exact hu
  · have := h3 (fun e => by
      rcases List.mem_append.1 e with e | e
      · exact hu e
      · simp at e
        omega)
    omega
theorem LengthsOf.vals (h : LengthsOf cn us fin) (hc : Counted cn us) (hne : us ≠ []) {k : Nat} (hk : 256 ≤ k) : (valsTo fin k).Perm us := by
  refine (List.perm_ext_iff_of_nodup (valsTo_nodup fin k) hc.nodup).2 fun v => ?_
  rw [mem_valsTo]
  constructor
  · rintro ⟨h1, h2, _⟩
    exact (h.mem hc hne h1).2 h2
  · intro hv
    have h1 := hc.few v hv
    exact ⟨h1, (h.mem hc hne h1).1 hv, Nat.le_trans (h.le hc (List.mem_append_left _ hv)) hk⟩
/-- as many values of a length as there are, but for 256 -/
theorem LengthsOf.seg_len (h : LengthsOf cn us fin) (hc : Counted cn us) (hne : us ≠ []) {s : Nat} (hs : 1 ≤ s) : cntOf fin (us ++ [256]) s = (seg fin s).length + if fin 256 = s then 1 else 0 := by
  have p : (us.filter fun v => fin v == s).Perm (seg fin s) := by
    refine (List.perm_ext_iff_of_nodup (List.Pairwise.filter _ hc.nodup) (seg_nodup fin s)).2 fun v => ?_
    rw [mem_seg, List.mem_filter]
    constructor
    · rintro ⟨h1, h2⟩
      exact ⟨hc.few v h1, by simpa using h2⟩
    · rintro ⟨h1, h2⟩
      exact ⟨(h.mem hc hne h1).2 (by omega), by simpa using h2⟩
  unfold cntOf
  rw [List.countP_append, List.countP_eq_length_filter, p.length_eq, List.countP_cons, List.countP_nil]
  simp
end
end Go.Proofs.YtdnjnbfmmgkpjaaDoor

namespace Go.Proofs.YtdnjnbfmmgkpjaaDoor

/-- the share of a length, in parts of 2 ^ 16 -/
def w16 (s : Nat) : Nat := 2 ^ (16 - s)
theorem sumW_scale {w w' : Nat → Nat} {P : Nat} (n : Nat → Nat) : ∀ k, (∀ s, s < k → w s = w' s * P) → sumW w n k = sumW w' n k * P
  | 0, _ => by simp [sumW]
  | k + 1, h => by rw [sumW, sumW, sumW_scale n k (fun s hs => h s (by omega)), h k (by omega), Nat.add_mul, Nat.mul_assoc]
theorem Full.sum17 {m : Nat → Nat} {N : Nat} (h : Full m 16 N) (w : Nat → Nat) : sumW w m 300 = sumW w m 17 := sumW_more w m 17 283 (fun s h1 _ => h.above s (by omega))
theorem Full.room16 {m : Nat → Nat} {N : Nat} (h : Full m 16 N) : sumW w16 m 17 = 65536 := by
  obtain ⟨e, he⟩ : ∃ e : Nat, e = 284 := ⟨_, rfl⟩
  obtain ⟨P, hP⟩ : ∃ P : Nat, P = 2 ^ e := ⟨_, rfl⟩
  have h1 := h.room
  rw [h.sum17, show (300 : Nat) = 16 + e by omega, Nat.pow_add, ← hP, sumW_scale (w' := w16) (P := P) m 17 (fun s hs => by
    unfold wS w16
    rw [hP, ← Nat.pow_add, show 16 - s + e = 300 - s by omega])] at h1
  have hp : 0 < P := by rw [hP]; exact Nat.pow_pos (by omega)
  exact Nat.eq_of_mul_eq_mul_right hp h1
theorem Full.last {m : Nat → Nat} {N : Nat} (h : Full m 16 N) : m (jof m 16) ≠ 0 := by
  intro h0
  have := sumW_zero w16 m 17 (fun s hs => jof_none m 16 h0 s (by omega))
  rw [h.room16] at this
  omega
/-- one of the greatest length is left out -/
def lessOne (m : Nat → Nat) : Nat → Nat := upd m (jof m 16) (m (jof m 16) - 1)
theorem Full.less {m : Nat → Nat} {N : Nat} (h : Full m 16 N) : (∀ w, sumW w (lessOne m) 17 + w (jof m 16) = sumW w m 17) ∧ lessOne m 0 = 0 ∧ 1 ≤ jof m 16 := by
  have hl := h.last
  have hj := jof_le m 16
  have h1 : 1 ≤ jof m 16 := by
    rcases Nat.eq_zero_or_pos (jof m 16) with e | e
    · rw [e, h.zero] at hl; exact absurd rfl hl
    · exact e
  refine ⟨fun w => ?_, ?_, h1⟩
  · have := sumW_upd w m (jof m 16) (m (jof m 16) - 1) 17 (by omega)
    unfold lessOne
    obtain ⟨x, hx⟩ : ∃ x, m (jof m 16) = x + 1 := ⟨m (jof m 16) - 1, by omega⟩
    rw [hx, Nat.add_sub_cancel, Nat.add_mul] at this
    rw [hx, Nat.add_sub_cancel]
    omega
  · unfold lessOne
    rw [upd_other _ _ (by omega), h.zero]

theorem nx_room {c n : Nat → Nat} (h0 : n 0 = 0) : ∀ i, i ≤ 16 → (∀ k, k < i → c k = n (k + 1)) → nx c i * 2 ^ (16 - i) = sumW w16 n (i + 1)
  | 0, _, _ => by simp [nx, sumW, h0]
  | i + 1, h, hc => by
    have ih := nx_room (c := c) h0 i (by omega) (fun k hk => hc k (by omega))
    rw [sumW, ← ih, nx, ← hc i (by omega), Nat.add_mul]
    unfold w16
    rw [show 16 - i = 16 - (i + 1) + 1 by omega, Nat.pow_succ, Nat.mul_comm 2 (nx c i), Nat.mul_assoc, Nat.mul_comm 2]
theorem sm_all {c n : Nat → Nat} (h0 : n 0 = 0) : ∀ i, (∀ k, k < i → c k = n (k + 1)) → sm c i = sumW (fun _ => 1) n (i + 1)
  | 0, _ => by simp [sm, sumW, h0]
  | i + 1, hc => by rw [sumW, sm, sm_all h0 i (fun k hk => hc k (by omega)), hc i (by omega), Nat.mul_one]
theorem sumW_mono (w n : Nat → Nat) {i j : Nat} (h : i ≤ j) : sumW w n i ≤ sumW w n j := by
  induction j with
  | zero => obtain rfl : i = 0 := by omega
            exact Nat.le_refl _
  | succ j ih =>
    rcases Nat.lt_or_ge i (j + 1) with h1 | h1
    · have := ih (by omega)
      rw [sumW]
      omega
    · obtain rfl : i = j + 1 := by omega
      exact Nat.le_refl _

/-- the counts of a specification are those of the lengths, limited, but for one -/
def BitsOf (B : List Int) (m : Nat → Nat) : Prop := ∀ i, i < 16 → B.getD i 0 = (lessOne m (i + 1) : Int)
theorem BitsOf.cnt {B : List Int} {m : Nat → Nat} (h : BitsOf B m) {i : Nat} (hi : i < 16) : cnt B i = lessOne m (i + 1) := by
  unfold Go.Proofs.YtdnjnbfmmgkpjaaDoor.cnt
  rw [h i hi]
  simp

section
variable {cn : Nat → Nat} {us : List Nat} {fin m : Nat → Nat} {B : List Int}
theorem LengthsOf.valid (h : LengthsOf cn us fin) (hc : Counted cn us) (hne : us ≠ []) (hm : Lim (cntOf fin (us ++ [256])) 299 m) (hB : BitsOf B m) : Valid B ((valsTo fin 299).map Int.ofNat) := by
  have hf := hm.full (by omega) (h.full hc hne)
  obtain ⟨h1, h2, h3⟩ := hf.less
  have hp := h.vals hc hne (show 256 ≤ 299 by omega)
  have hlen : ((valsTo fin 299).map Int.ofNat).length = us.length := by rw [List.length_map, hp.length_eq]
  have hus : 0 < us.length := List.length_pos_iff.2 hne
  have hu := few_us hc.nodup hc.few
  have hsum := hf.all
  rw [hf.sum17] at hsum
  have hone := h1 (fun _ => 1)
  have hroom := h1 w16
  rw [hf.room16] at hroom
  have hw : 0 < w16 (jof m 16) := Nat.pow_pos (by omega)
  refine ⟨fun i hi => ?_, ?_, by omega, by omega, fun v hv => ?_, ?_, fun i hi => ?_⟩
  · rw [hB i hi]
    exact Int.natCast_nonneg _
  · rw [sm_all (n := lessOne m) h2 16 (fun k hk => hB.cnt hk), hlen]
    show sumW (fun _ => 1) (lessOne m) 17 = us.length
    omega
  · obtain ⟨x, hx, rfl⟩ := List.mem_map.1 hv
    have := (mem_valsTo.1 hx).1
    refine ⟨Int.natCast_nonneg x, ?_⟩
    show (x : Int) ≤ 255
    omega
  · rw [List.Nodup, List.pairwise_map]
    exact (valsTo_nodup fin 299).imp (fun h e => h (Int.ofNat.inj e))
  · have e := nx_room (c := Go.Proofs.YtdnjnbfmmgkpjaaDoor.cnt B) (n := lessOne m) h2 (i + 1) (by omega) (fun k hk => hB.cnt (by omega))
    have hle := sumW_mono w16 (lessOne m) (show i + 1 + 1 ≤ 17 by omega)
    have hlt : nx (Go.Proofs.YtdnjnbfmmgkpjaaDoor.cnt B) (i + 1) * 2 ^ (16 - (i + 1)) < 2 ^ (i + 1) * 2 ^ (16 - (i + 1)) := by
      rw [e, ← Nat.pow_add, show i + 1 + (16 - (i + 1)) = 16 by omega]
      omega
    exact Nat.lt_of_mul_lt_mul_right hlt

/-- where no length is above 16, as many codes have a length as values do -/
theorem LengthsOf.plain (h : LengthsOf cn us fin) (hc : Counted cn us) (hne : us ≠ []) (hm : Lim (cntOf fin (us ++ [256])) 299 m) (h16 : ∀ v ∈ us ++ [256], fin v ≤ 16) {s : Nat} (hs : 1 ≤ s) (hs2 : s ≤ 16) : lessOne m s = (seg fin s).length := by
  have e : m = cntOf fin (us ++ [256]) := hm.none_ (fun s hs => by
    unfold cntOf
    rw [List.countP_eq_zero]
    intro v hv
    have := h16 v hv
    simp
    omega)
  have h256 := h16 256 (by simp)
  have hm256 : m (fin 256) ≠ 0 := by
    rw [e]
    unfold cntOf
    intro h0
    rw [List.countP_eq_zero] at h0
    exact h0 256 (by simp) (by simp)
  have hj : jof m 16 = fin 256 := by
    rcases Nat.lt_trichotomy (jof m 16) (fin 256) with g | g | g
    · exact absurd (jof_above m 16 _ g h256) hm256
    · exact g
    · exfalso
      have hf := hm.full (by omega) (h.full hc hne)
      apply hf.last
      obtain ⟨J, hJ⟩ : ∃ J, J = jof m 16 := ⟨_, rfl⟩
      rw [← hJ] at g ⊢
      rw [e]
      unfold cntOf
      rw [List.countP_eq_zero]
      intro v hv
      have : fin v ≤ fin 256 := by
        rcases List.mem_append.1 hv with h1 | h1
        · exact h.last hc h1
        · simp at h1
          rw [h1]
          exact Nat.le_refl _
      simp
      omega
  have hseg := h.seg_len hc hne hs
  unfold lessOne
  rw [hj]
  by_cases g : s = fin 256
  · subst g
    rw [upd_same, e, hseg, if_pos rfl]
    omega
  · rw [upd_other _ _ g, e, hseg, if_neg (fun g' => g g'.symm)]
    omega
end

theorem zip_sized {fin c : Nat → Nat} : ∀ i, (∀ k, k < i → c k = (seg fin (k + 1)).length) → (valsTo fin i).length = (pre c i).length ∧ ∀ p ∈ (valsTo fin i).zip (pre c i), p.2.2 = fin p.1
  | 0, _ => ⟨rfl, fun p hp => by simp [valsTo] at hp⟩
  | i + 1, h => by
    obtain ⟨h1, h2⟩ := zip_sized (c := c) i (fun k hk => h k (by omega))
    have hr : (seg fin (i + 1)).length = (row c i (c i)).length := by rw [row_len, h i (by omega)]
    rw [valsTo, pre]
    refine ⟨by rw [List.length_append, List.length_append, h1, hr], fun p hp => ?_⟩
    rw [List.zip_append h1] at hp
    rcases List.mem_append.1 hp with hp | hp
    · exact h2 p hp
    · have g := List.of_mem_zip (a := p.1) (b := p.2) hp
      obtain ⟨k, _, g2⟩ := mem_row g.2
      rw [(mem_seg.1 g.1).2, g2]
theorem valsTo_rest {fin : Nat → Nat} (h : ∀ s, 16 < s → seg fin s = []) : ∀ k, valsTo fin (16 + k) = valsTo fin 16
  | 0 => rfl
  | k + 1 => by rw [← Nat.add_assoc, valsTo, valsTo_rest h k, h _ (by omega), List.append_nil]

section
variable {cn : Nat → Nat} {us : List Nat} {fin m : Nat → Nat} {B : List Int}
/-- where no length is above 16, each code is as long as its value's length -/
theorem LengthsOf.sized (h : LengthsOf cn us fin) (hc : Counted cn us) (hne : us ≠ []) (hm : Lim (cntOf fin (us ++ [256])) 299 m) (hB : BitsOf B m) (h16 : ∀ v ∈ us ++ [256], fin v ≤ 16) {v : Nat} (hv : v ∈ us) :
    (codeOf (codes B ((valsTo fin 299).map Int.ofNat)) (v : Int)).2 = fin v := by
  obtain ⟨hz1, hz2⟩ := zip_sized (fin := fin) (c := Go.Proofs.YtdnjnbfmmgkpjaaDoor.cnt B) 16 (fun k hk => by rw [hB.cnt hk, h.plain hc hne hm h16 (by omega) (by omega)])
  have he : valsTo fin 299 = valsTo fin 16 := valsTo_rest (fin := fin) (fun s hs => by
    rw [List.eq_nil_iff_forall_not_mem]
    intro x hx
    obtain ⟨g1, g2⟩ := mem_seg.1 hx
    have hx2 := (h.mem hc hne g1).2 (by omega)
    have := h16 x (List.mem_append_left _ hx2)
    omega) 283
  rw [he]
  have hvv : v ∈ valsTo fin 16 := by rw [← he]; exact (h.vals hc hne (by omega)).mem_iff.2 hv
  obtain ⟨i, hi, hi2⟩ := List.getElem_of_mem hvv
  obtain ⟨x, hx⟩ : ∃ x, (pre (Go.Proofs.YtdnjnbfmmgkpjaaDoor.cnt B) 16)[i]? = some x := ⟨_, List.getElem?_eq_getElem (by omega)⟩
  have hmem : ((v : Int), x) ∈ codes B ((valsTo fin 16).map Int.ofNat) := by
    refine List.mem_of_getElem? (i := i) (ents_at.2 ⟨?_, hx⟩)
    rw [List.getElem?_map, List.getElem?_eq_getElem hi, hi2]
    rfl
  unfold codeOf
  cases ho : fnd (codes B ((valsTo fin 16).map Int.ofNat)) (v : Int) with
  | none =>
    exfalso
    unfold fnd at ho
    have := (List.find?_eq_none.1 ho) _ hmem
    simp at this
  | some e =>
    obtain ⟨g1, g2⟩ := fnd_some ho
    unfold codes ents at g1
    rw [List.zip_map_left] at g1
    obtain ⟨p, hp, rfl⟩ := List.mem_map.1 g1
    have := hz2 p hp
    have e1 : p.1 = v := Int.ofNat.inj g2
    show p.2.2 = fin v
    rw [this, e1]
end
end Go.Proofs.YtdnjnbfmmgkpjaaDoor

namespace Go.Proofs.YtdnjnbfmmgkpjaaDoor

theorem pre_share (c : Nat → Nat) : ∀ i, ((pre c i).map fun x => 2 ^ (i - x.2)).sum = nx c i
  | 0 => rfl
  | i + 1 => by
    rw [pre, sum_map_app, nx]
    have e1 : ((pre c i).map fun x => 2 ^ (i + 1 - x.2)).sum = 2 * nx c i := by
      rw [← pre_share c i, ← sum_map_mul]
      refine sum_map_congr fun x hx => ?_
      have := (mem_pre hx).2.1
      rw [← Nat.pow_succ', show (i - x.2).succ = i + 1 - x.2 by omega]
    have e2 : ((row c i (c i)).map fun x => 2 ^ (i + 1 - x.2)).sum = c i := by
      rw [sum_map_congr (g := fun _ => 1) (fun x hx => by
        obtain ⟨k, _, rfl⟩ := mem_row hx
        simp)]
      have : ∀ l : List (Nat × Nat), (l.map fun _ => 1).sum = l.length := by
        intro l
        induction l with
        | nil => rfl
        | cons x l ih => rw [List.map_cons, List.sum_cons, ih, List.length_cons, Nat.add_comm]
      rw [this, row_len]
    rw [e1, e2]
theorem zip_snd_sum {α β : Type} (f : β → Nat) : ∀ (a : List α) (b : List β), a.length = b.length → ((a.zip b).map fun p => f p.2).sum = (b.map f).sum
  | [], [], _ => rfl
  | [], _ :: _, h => by simp at h
  | _ :: _, [], h => by simp at h
  | x :: a, y :: b, h => by
    rw [List.zip_cons_cons, List.map_cons, List.map_cons, List.sum_cons, List.sum_cons, zip_snd_sum f a b (by simpa using h)]
/-- the codes of a specification leave room for one of 16 bits -/
theorem Valid.room {B V : List Int} (h : Valid B V) : ((codes B V).map fun e => 2 ^ (16 - e.2.2)).sum < 65536 := by
  unfold codes ents
  rw [zip_snd_sum (fun x : Nat × Nat => 2 ^ (16 - x.2)) V _ (by rw [h.lens]), pre_share]
  exact h.fits 15 (by omega)

theorem sum_at (x : Int) (k : Nat) : ∀ us : List Nat, us.Nodup → (us.map fun (v : Nat) => if x = (v : Int) then k else 0).sum ≤ k
  | [], _ => Nat.zero_le _
  | v :: us, h => by
    rw [List.nodup_cons] at h
    rw [List.map_cons, List.sum_cons]
    by_cases e : x = (v : Int)
    · have : (us.map fun (v : Nat) => if x = (v : Int) then k else 0).sum = (us.map fun _ => 0).sum := sum_map_congr fun u hu => by
        rw [if_neg (fun e' => h.1 (by
          have : u = v := by omega
          exact this ▸ hu))]
      rw [this, if_pos e]
      have hz : ∀ l : List Nat, (l.map fun _ => 0).sum = 0 := by
        intro l
        induction l with
        | nil => rfl
        | cons y l ih => rw [List.map_cons, List.sum_cons, ih]
      rw [hz]
      omega
    · rw [if_neg e]
      have := sum_at x k us h.2
      omega
/-- values that differ have codes that differ -/
theorem found_sum (f : En → Nat) (us : List Nat) (hn : us.Nodup) : ∀ L : List En, (us.map fun (v : Nat) => ((fnd L (v : Int)).map f).getD 0).sum ≤ (L.map f).sum
  | [] => by
    have hz : ∀ l : List Nat, (l.map fun (v : Nat) => ((fnd [] (v : Int)).map f).getD 0).sum = 0 := by
      intro l
      induction l with
      | nil => rfl
      | cons y l ih => rw [List.map_cons, List.sum_cons, ih]; rfl
    rw [hz]
    exact Nat.zero_le _
  | e :: L => by
    have ih := found_sum f us hn L
    have h1 := sum_at e.1 (f e) us hn
    rw [List.map_cons, List.sum_cons]
    have h2 : ∀ l : List Nat, (l.map fun (v : Nat) => ((fnd (e :: L) (v : Int)).map f).getD 0).sum ≤ (l.map fun (v : Nat) => if e.1 = (v : Int) then f e else 0).sum + (l.map fun (v : Nat) => ((fnd L (v : Int)).map f).getD 0).sum := by
      intro l
      induction l with
      | nil => exact Nat.le_refl _
      | cons v l ih2 =>
        simp only [List.map_cons, List.sum_cons]
        have h3 : ((fnd (e :: L) (v : Int)).map f).getD 0 ≤ (if e.1 = (v : Int) then f e else 0) + ((fnd L (v : Int)).map f).getD 0 := by
          unfold fnd
          rw [List.find?_cons]
          by_cases g : e.1 = (v : Int)
          · simp [g]
          · have g2 : (e.1 == (v : Int)) = false := by simpa using g
            rw [g2, if_neg g, Nat.zero_add]
            exact Nat.le_refl _
        omega
    have := h2 us
    omega

section
variable {cn : Nat → Nat} {us : List Nat} {fin m : Nat → Nat} {B : List Int}
/-- no other specification that may be, and has codes for what is counted, costs less -/
theorem LengthsOf.least (h : LengthsOf cn us fin) (hc : Counted cn us) {B2 V2 : List Int} (hv : Valid B2 V2) (hall : ∀ v ∈ us, fnd (codes B2 V2) (v : Int) ≠ none) :
    (us.map fun v => cn v * fin v).sum ≤ (us.map fun (v : Nat) => cn v * (codeOf (codes B2 V2) (v : Int)).2).sum := by
  have hu := few_us hc.nodup hc.few
  have key : ∀ v ∈ us, ∃ e, fnd (codes B2 V2) (v : Int) = some e ∧ (codeOf (codes B2 V2) (v : Int)).2 = e.2.2 ∧ e.2.2 ≤ 16 := by
    intro v hv2
    cases ho : fnd (codes B2 V2) (v : Int) with
    | none => exact absurd ho (hall v hv2)
    | some e =>
      refine ⟨e, rfl, ?_, (hv.code (fnd_some ho).1).2.1⟩
      unfold codeOf
      rw [ho]
      rfl
  refine h.best hc (M := 256) hu (by omega) (fun v => (codeOf (codes B2 V2) (v : Int)).2) (fun v hv2 => ?_) ?_
  · obtain ⟨e, _, h2, h3⟩ := key v hv2
    omega
  · have h1 := found_sum (fun e => 2 ^ (16 - e.2.2)) us hc.nodup (codes B2 V2)
    have h2 := hv.room
    obtain ⟨S, hS⟩ : ∃ S, S = (us.map fun (v : Nat) => ((fnd (codes B2 V2) (v : Int)).map fun e => 2 ^ (16 - e.2.2)).getD 0).sum := ⟨_, rfl⟩
    rw [← hS] at h1
    obtain ⟨k, hk⟩ : ∃ k : Nat, k = 240 := ⟨_, rfl⟩
    have e1 : shareOf 256 us (fun v => (codeOf (codes B2 V2) (v : Int)).2) = 2 ^ k * S := by
      rw [hS, ← sum_map_mul]
      unfold shareOf
      refine sum_map_congr fun v hv2 => ?_
      obtain ⟨e, g1, g2, g3⟩ := key v hv2
      show 2 ^ (256 - (codeOf (codes B2 V2) (v : Int)).2) = _
      rw [g1, g2]
      show 2 ^ (256 - e.2.2) = 2 ^ k * 2 ^ (16 - e.2.2)
      rw [← Nat.pow_add, show k + (16 - e.2.2) = 256 - e.2.2 by omega]
    rw [e1, show (256 : Nat) = k + 16 by omega, Nat.add_sub_cancel, Nat.pow_add, ← Nat.mul_succ]
    exact Nat.mul_le_mul_left _ (by omega)
end
end Go.Proofs.YtdnjnbfmmgkpjaaDoor

namespace Go.Proofs.YtdnjnbfmmgkpjaaDoor

section
variable {cn : Nat → Nat} {us : List Nat} {fin m : Nat → Nat} {B : List Int}
theorem LengthsOf.short (h : LengthsOf cn us fin) (hc : Counted cn us) (hne : us ≠ []) (hm : Lim (cntOf fin (us ++ [256])) 299 m) (h0 : lessOne m 16 = 0) {v : Nat} (hv : v ∈ us ++ [256]) : fin v ≤ 15 := by
  rcases Nat.lt_or_ge 15 (fin v) with h1 | h1
  · exfalso
    have hle := h.le hc hv
    have hf := hm.full (by omega) (h.full hc hne)
    have h16 := hm.sixteen (N := us.length + 1) (by omega) (h.full hc hne) ⟨fin v, by omega, by omega, by
      unfold cntOf
      intro e
      rw [List.countP_eq_zero] at e
      exact e v hv (by simp)⟩
    have hev := hf.even (by omega) (by omega)
    unfold lessOne at h0
    by_cases g : 16 = jof m 16
    · rw [← g, upd_same] at h0
      omega
    · rw [upd_other _ _ g] at h0
      exact h16 h0
  · exact h1
/-- just what is counted has a code -/
theorem LengthsOf.found (h : LengthsOf cn us fin) (hc : Counted cn us) (hne : us ≠ []) (hm : Lim (cntOf fin (us ++ [256])) 299 m) (hB : BitsOf B m) (v : Int) : fnd (codes B ((valsTo fin 299).map Int.ofNat)) v ≠ none ↔ ∃ u ∈ us, v = (u : Int) := by
  have hv := h.valid hc hne hm hB
  have hp := h.vals hc hne (show 256 ≤ 299 by omega)
  constructor
  · intro hs
    cases ho : fnd (codes B ((valsTo fin 299).map Int.ofNat)) v with
    | none => exact absurd ho hs
    | some e =>
      obtain ⟨g1, g2⟩ := fnd_some ho
      obtain ⟨u, hu, hu2⟩ := List.mem_map.1 (mem_ents g1).1
      exact ⟨u, hp.mem_iff.1 hu, by rw [← g2, ← hu2]; rfl⟩
  · rintro ⟨u, hu, rfl⟩ ho
    have huv := hp.mem_iff.2 hu
    obtain ⟨i, hi, hi2⟩ := List.getElem_of_mem huv
    have hl := hv.lens
    rw [List.length_map] at hl
    obtain ⟨x, hx⟩ : ∃ x, (pre (Go.Proofs.YtdnjnbfmmgkpjaaDoor.cnt B) 16)[i]? = some x := ⟨_, List.getElem?_eq_getElem (by omega)⟩
    have hmem : ((u : Int), x) ∈ codes B ((valsTo fin 299).map Int.ofNat) := by
      refine List.mem_of_getElem? (i := i) (ents_at.2 ⟨?_, hx⟩)
      rw [List.getElem?_map, List.getElem?_eq_getElem hi, hi2]
      rfl
    unfold fnd at ho
    have := (List.find?_eq_none.1 ho) _ hmem
    simp at this
end
end Go.Proofs.YtdnjnbfmmgkpjaaDoor

namespace Go.Proofs.YtdnjnbfmmgkpjaaDoor

/-- what is counted -/
def cnF (C : List Int) (v : Nat) : Nat := (C.getD v 0).toNat
def usF (C : List Int) : List Nat := (List.range C.length).filter fun v => decide (0 < C.getD v 0)
theorem mem_usF {C : List Int} {v : Nat} : v ∈ usF C ↔ v < C.length ∧ 0 < C.getD v 0 := by simp [usF]
theorem usF_nodup (C : List Int) : (usF C).Nodup := List.Pairwise.filter _ List.nodup_range
theorem Good.counted {C : List Int} (h : Good C) : Counted (cnF C) (usF C) := by
  refine ⟨usF_nodup C, fun v hv => ?_, fun v hv => ?_⟩
  · have := (mem_usF.1 hv).1
    have := h.few
    omega
  · have := (mem_usF.1 hv).2
    unfold cnF
    omega
theorem usF_ne {C : List Int} (h : Any C C.length) : usF C ≠ [] := by
  obtain ⟨j, hj, hp⟩ := h
  exact List.ne_nil_of_mem (mem_usF.2 ⟨hj, hp⟩)

/-- the trees' sums in an array: at each tree's greatest value -/
structure Sums (cn : Nat → Nat) (ts : List (List Nat)) (S : List Int) : Prop where
  sum : ∀ A ∈ ts, S.getD (top A) 0 = (wOf cn A : Int)
  pos : ∀ A ∈ ts, 0 < wOf cn A
  none_ : ∀ v, (∀ A ∈ ts, v ≠ top A) → S.getD v 0 = 0
theorem Sums.perm {cn : Nat → Nat} {ts ts' : List (List Nat)} {S : List Int} (h : Sums cn ts S) (p : ts.Perm ts') : Sums cn ts' S :=
  ⟨fun A hA => h.sum A (p.mem_iff.2 hA), fun A hA => h.pos A (p.mem_iff.2 hA), fun v hv => h.none_ v (fun A hA => hv A (p.mem_iff.1 hA))⟩
theorem Trees.tops {ts : List (List Nat)} (h : Trees ts) {A : List Nat} (hA : A ∈ ts) : top A ≤ 256 := h.few _ (List.mem_flatten.2 ⟨A, hA, top_mem (h.some_ A hA)⟩)
theorem Trees.same {ts : List (List Nat)} (h : Trees ts) {A B : List Nat} (hA : A ∈ ts) (hB : B ∈ ts) (e : top A = top B) : A = B :=
  same_tree h.nodup hA hB (top_mem (h.some_ A hA)) (e ▸ top_mem (h.some_ B hB))
theorem Trees.rest {A : List Nat} {ts : List (List Nat)} (h : Trees (A :: ts)) : Trees ts := by
  have hn := h.nodup
  rw [List.flatten_cons, List.nodup_append] at hn
  exact ⟨hn.2.1, fun T hT => h.some_ T (List.mem_cons_of_mem _ hT), fun v hv => h.few v (by rw [List.flatten_cons]; exact List.mem_append_right _ hv)⟩
theorem Trees.apart {A : List Nat} {ts : List (List Nat)} (h : Trees (A :: ts)) {B : List Nat} (hB : B ∈ ts) : top B ≠ top A := by
  intro e
  have hn := h.nodup
  rw [List.flatten_cons, List.nodup_append] at hn
  exact hn.2.2 (top A) (top_mem (h.some_ A (List.mem_cons_self ..))) (top A) (List.mem_flatten.2 ⟨B, hB, e ▸ top_mem (h.some_ B (List.mem_cons_of_mem _ hB))⟩) rfl

/-- what is taken is the tree that goes first -/
theorem Sums.take {cn : Nat → Nat} {ts : List (List Nat)} {S : List Int} (h : Sums cn ts S) (ht : Trees ts) (hl : S.length = 257) {f : Nat} {s : Int} (hk : TakeIs S 257 (f : Int) s) :
    (ts = [] ∧ s = 0) ∨ ∃ A rest, ts.Perm (A :: rest) ∧ f = top A ∧ s = (wOf cn A : Int) ∧ 0 < s ∧ (∀ B ∈ rest, ¬ Bef cn B A) ∧ Sums cn rest (S.set f 0) := by
  by_cases he : ts = []
  · subst he
    rcases hk with ⟨e, _, _⟩ | ⟨m, _, hm, hs, h0, _⟩
    · exact .inl ⟨rfl, e⟩
    · have := h.none_ m (fun A hA => by cases hA)
      omega
  · obtain ⟨A0, hA0⟩ := List.exists_mem_of_ne_nil _ he
    rcases hk with ⟨_, _, hn⟩ | ⟨m, em, hm, hs, h0, hall⟩
    · have h1 := h.sum A0 hA0
      have h2 := h.pos A0 hA0
      have h3 := ht.tops hA0
      exact absurd (by rw [h1]; omega) (hn (top A0) (by omega))
    · obtain rfl : f = m := by omega
      have hA : ∃ A, A ∈ ts ∧ f = top A := by
        by_cases hx : ∃ A, A ∈ ts ∧ f = top A
        · exact hx
        · have := h.none_ f (fun A hA e => hx ⟨A, hA, e⟩)
          omega
      obtain ⟨A, hA, rfl⟩ := hA
      have p := List.perm_cons_erase hA
      have ht2 := ht.perm p
      have h2 := h.perm p
      refine .inr ⟨A, ts.erase A, p, rfl, by rw [← hs]; exact h.sum A hA, h0, fun B hB hb => ?_, fun B hB => ?_, fun B hB => h2.pos B (List.mem_cons_of_mem _ hB), fun v hv => ?_⟩
      · have hB2 := p.mem_iff.2 (List.mem_cons_of_mem _ hB)
        have h3 := h.sum B hB2
        have h4 := h.pos B hB2
        have h5 := ht.tops hB2
        have h6 := hall (top B) (by omega) (by rw [h3]; omega)
        have h7 := h.sum A hA
        rw [h3] at h6
        rw [h7] at hs
        unfold Bef at hb
        omega
      · rw [getD_set_ne _ (ht2.apart hB).symm]
        exact h2.sum B (List.mem_cons_of_mem _ hB)
      · by_cases e : top A = v
        · subst e
          rw [getD_set_same _ (by have := ht.tops hA; omega)]
        · rw [getD_set_ne _ e]
          exact h2.none_ v (fun B hB => by
            rcases List.mem_cons.1 hB with rfl | hB
            · exact fun e' => e e'.symm
            · exact hv B hB)

/-- two rising lists as one -/
def both (A B : List Nat) : List Nat := (List.range 257).filter fun v => decide (v ∈ A ++ B)
theorem mem_both {A B : List Nat} (hA : ∀ v ∈ A, v ≤ 256) (hB : ∀ v ∈ B, v ≤ 256) {v : Nat} : v ∈ both A B ↔ v ∈ A ++ B := by
  unfold both
  rw [List.mem_filter, List.mem_range]
  refine ⟨fun h => by simpa using h.2, fun h => ⟨?_, by simpa using h⟩⟩
  rcases List.mem_append.1 h with h | h
  · have := hA v h
    omega
  · have := hB v h
    omega
theorem both_rises (A B : List Nat) : (both A B).Pairwise (· < ·) := List.Pairwise.filter _ List.pairwise_lt_range
theorem both_perm {A B : List Nat} (hA : ∀ v ∈ A, v ≤ 256) (hB : ∀ v ∈ B, v ≤ 256) (hn : (A ++ B).Nodup) : (both A B).Perm (A ++ B) :=
  (List.perm_ext_iff_of_nodup (List.Pairwise.filter _ List.nodup_range) hn).2 fun _ => mem_both hA hB
theorem top_one (v : Nat) : top [v] = v := by simp [top]
theorem top_eq {T : List Nat} {m : Nat} (h1 : m ∈ T) (h2 : ∀ v ∈ T, v ≤ m) : top T = m := by
  have h3 := top_ge h1
  have h4 := h2 _ (top_mem (List.ne_nil_of_mem h1))
  omega
theorem top_perm {C A B : List Nat} (hA : A ≠ []) (hB : B ≠ []) (p : C.Perm (A ++ B)) : top C = max (top A) (top B) := by
  refine top_eq (p.mem_iff.2 ?_) (fun v hv => ?_)
  · rcases Nat.le_total (top A) (top B) with h | h
    · rw [Nat.max_eq_right h]; exact List.mem_append_right _ (top_mem hB)
    · rw [Nat.max_eq_left h]; exact List.mem_append_left _ (top_mem hA)
  · rcases List.mem_append.1 (p.mem_iff.1 hv) with h | h
    · have := top_ge h; omega
    · have := top_ge h; omega
theorem wOf_perm {cn : Nat → Nat} {C A B : List Nat} (p : C.Perm (A ++ B)) : wOf cn C = wOf cn A + wOf cn B := by
  unfold wOf
  rw [sum_map_perm p, sum_map_app]
theorem wOf_le {cn : Nat → Nat} : ∀ {ts : List (List Nat)} {A : List Nat}, A ∈ ts → wOf cn A ≤ wOf cn ts.flatten
  | B :: ts, A, h => by
    have e : wOf cn (B :: ts).flatten = wOf cn B + wOf cn ts.flatten := by
      unfold wOf
      rw [List.flatten_cons, sum_map_app]
    rw [e]
    rcases List.mem_cons.1 h with rfl | h
    · omega
    · have := wOf_le (cn := cn) h
      omega

/-- how the trees stand: all but the sums -/
structure Tops (ts : List (List Nat)) (T L : List Int) (out : Nat → Nat) : Prop where
  tops : ∀ A ∈ ts, ∀ v ∈ A, T.getD v 0 = (top A : Int)
  alone : ∀ v, v < 257 → v ∉ ts.flatten → T.getD v 0 = (v : Int)
  lens : ∀ v, v < 257 → L.getD v 0 = (out v : Int)
  few : ∀ v, out v + ts.length ≤ 257
theorem Tops.is {ts : List (List Nat)} {T L : List Int} {out : Nat → Nat} (h : Tops ts T L out) (ht : Trees ts) {A : List Nat} (hA : A ∈ ts) {v : Nat} (hv : v < 257) : T.getD v 0 = (top A : Int) ↔ v ∈ A := by
  refine ⟨fun e => ?_, fun hm => h.tops A hA v hm⟩
  by_cases hf : v ∈ ts.flatten
  · obtain ⟨D, hD, hd⟩ := List.mem_flatten.1 hf
    have h1 := h.tops D hD v hd
    have h2 : D = A := ht.same hD hA (by omega)
    exact h2 ▸ hd
  · have h1 := h.alone v hv hf
    have h2 : v = top A := by omega
    exact absurd (List.mem_flatten.2 ⟨A, hA, h2 ▸ top_mem (ht.some_ A hA)⟩) hf
theorem Tops.join {ts rest : List (List Nat)} {A B C : List Nat} {T L T2 L2 : List Int} {out : Nat → Nat} (h : Tops ts T L out) (ht : Trees ts) (p : ts.Perm (A :: B :: rest)) (c : C.Perm (A ++ B)) (hj : JoinTo T L T2 L2 (top A) (top B) (max (top A) (top B)) 257) : Tops (C :: rest) T2 L2 (inc C out) := by
  have hA : A ∈ ts := p.mem_iff.2 (List.mem_cons_self ..)
  have hB : B ∈ ts := p.mem_iff.2 (List.mem_cons_of_mem _ (List.mem_cons_self ..))
  have ht2 := ht.perm p
  have ht3 := ht2.join (List.Perm.refl _) c
  have hC := top_perm (ht.some_ A hA) (ht.some_ B hB) c
  have key : ∀ v, v < 257 → ((T.getD v 0 = (top A : Int) ∨ T.getD v 0 = (top B : Int)) ↔ v ∈ C) := fun v hv => by
    rw [h.is ht hA hv, h.is ht hB hv, c.mem_iff, List.mem_append]
  have hfl : ∀ v, v ∈ (C :: rest).flatten ↔ v ∈ ts.flatten := fun v => (flat_join p c).mem_iff
  refine ⟨fun D hD v hv => ?_, fun v hv hn => ?_, fun v hv => ?_, fun v => ?_⟩
  · have hv2 : v < 257 := by have := ht3.few v (List.mem_flatten.2 ⟨D, hD, hv⟩); omega
    rcases List.mem_cons.1 hD with rfl | hD
    · rw [((hj v hv2).1 (by omega) ((key v hv2).2 hv)).1, hC]
    · have hn : v ∉ C := fun hc => by
        have hn := ht3.nodup
        rw [List.flatten_cons, List.nodup_append] at hn
        exact hn.2.2 v hc v (List.mem_flatten.2 ⟨D, hD, hv⟩) rfl
      rw [((hj v hv2).2 (fun h => hn ((key v hv2).1 h.2))).1]
      exact h.tops D (p.mem_iff.2 (List.mem_cons_of_mem _ (List.mem_cons_of_mem _ hD))) v hv
  · have hn2 : v ∉ ts.flatten := fun h => hn ((hfl v).2 h)
    have hc : v ∉ C := fun hc => hn (by rw [List.flatten_cons]; exact List.mem_append_left _ hc)
    rw [((hj v hv).2 (fun h => hc ((key v hv).1 h.2))).1]
    exact h.alone v hv hn2
  · by_cases hc : v ∈ C
    · rw [((hj v hv).1 (by omega) ((key v hv).2 hc)).2, h.lens v hv, inc, if_pos hc]
      omega
    · rw [((hj v hv).2 (fun h => hc ((key v hv).1 h.2))).2, h.lens v hv, inc, if_neg hc]
  · have h1 := h.few v
    have h2 := p.length_eq
    rw [List.length_cons, List.length_cons] at h2
    rw [List.length_cons]
    unfold inc
    split <;> omega

/-- how the trees stand -/
structure Stand (C : List Int) (ts : List (List Nat)) (S T L : List Int) (out : Nat → Nat) : Prop where
  trees : Trees ts
  sums : Sums (cn256 (cnF C)) ts S
  tops : Tops ts T L out
  flat : ts.flatten.Perm (usF C ++ [256])
  goes : ∀ fin, RunB (cn256 (cnF C)) ts out fin → LengthsOf (cnF C) (usF C) fin
theorem sum_bound (f : Nat → Nat) (M : Nat) : ∀ l : List Nat, (∀ v ∈ l, f v ≤ M) → (l.map f).sum ≤ l.length * M
  | [], _ => Nat.zero_le _
  | v :: l, h => by
    have h1 := sum_bound f M l (fun x hx => h x (List.mem_cons_of_mem _ hx))
    have h2 := h v (List.mem_cons_self ..)
    rw [List.map_cons, List.sum_cons, List.length_cons, Nat.add_mul]
    omega
theorem Good.total {C : List Int} (h : Good C) : wOf (cn256 (cnF C)) (usF C ++ [256]) ≤ 282574488338432 := by
  have h1 := few_us h.counted.nodup h.counted.few
  have h2 := sum_bound (cn256 (cnF C)) 1099511627776 (usF C ++ [256]) (fun v hv => by
    unfold cn256
    split
    · omega
    · rcases List.mem_append.1 hv with h' | h'
      · have := h.rang v (mem_usF.1 h').1
        unfold cnF
        omega
      · simp at h'
        omega)
  have h3 : (usF C ++ [256]).length ≤ 257 := by simp; omega
  have h4 := Nat.mul_le_mul_right 1099511627776 h3
  unfold wOf
  omega
end Go.Proofs.YtdnjnbfmmgkpjaaDoor

namespace Go.Proofs.YtdnjnbfmmgkpjaaDoor

theorem getD_out {l : List Int} {i : Nat} (h : l.length ≤ i) : l.getD i 0 = 0 := by
  simp [List.getD_eq_getElem?_getD, List.getElem?_eq_none h]
theorem Stand.bound {C : List Int} {ts : List (List Nat)} {S T L : List Int} {out : Nat → Nat} (h : Stand C ts S T L out) (hg : Good C) (j : Nat) : S.getD j 0 ≤ 282574488338432 := by
  by_cases hx : ∃ A, A ∈ ts ∧ j = top A
  · obtain ⟨A, hA, rfl⟩ := hx
    rw [h.sums.sum A hA]
    have h1 := wOf_le (cn := cn256 (cnF C)) hA
    have h2 := hg.total
    have h3 : wOf (cn256 (cnF C)) ts.flatten = wOf (cn256 (cnF C)) (usF C ++ [256]) := sum_map_perm h.flat _
    omega
  · rw [h.sums.none_ j (fun A hA e => hx ⟨A, hA, e⟩)]
    omega
theorem Stand.small {C : List Int} {ts : List (List Nat)} {S T L : List Int} {out : Nat → Nat} (h : Stand C ts S T L out) (hl : L.length = 257) (j : Nat) : 0 ≤ L.getD j 0 ∧ L.getD j 0 ≤ 1000 := by
  rcases Nat.lt_or_ge j 257 with hj | hj
  · rw [h.tops.lens j hj]
    have := h.tops.few j
    omega
  · rw [getD_out (by omega)]
    omega
theorem Stand.ne {C : List Int} {ts : List (List Nat)} {S T L : List Int} {out : Nat → Nat} (h : Stand C ts S T L out) : ts ≠ [] := by
  rintro rfl
  have := h.flat.length_eq
  simp at this

section
variable {C : List Int} {ts : List (List Nat)} {S T L : List Int} {out : Nat → Nat} {f f2 : Nat} {s s2 : Int}
/-- where no second one is taken there is one tree -/
theorem Stand.ends (h : Stand C ts S T L out) (hl : S.length = 257) (k1 : TakeIs S 257 (f : Int) s) (k2 : TakeIs (S.set f 0) 257 (f2 : Int) s2) (h0 : s2 = 0) : LengthsOf (cnF C) (usF C) out := by
  rcases h.sums.take h.trees hl k1 with ⟨e, _⟩ | ⟨A, rest, p, rfl, _, _, _, hs⟩
  · exact absurd e h.ne
  · have ht := h.trees.perm p
    rcases hs.take ht.rest (by rw [List.length_set]; exact hl) k2 with ⟨rfl, _⟩ | ⟨B, rest2, p2, _, _, h3, _⟩
    · have e : ts = [A] := List.perm_singleton.1 p
      subst e
      exact h.goes out (.done A out)
    · omega
theorem Stand.joins (h : Stand C ts S T L out) (hl : S.length = 257) (k1 : TakeIs S 257 (f : Int) s) (k2 : TakeIs (S.set f 0) 257 (f2 : Int) s2) (h0 : s2 ≠ 0) {T2 L2 : List Int} (hj : JoinTo T L T2 L2 f f2 (max f f2) 257) :
    ∃ ts2 out2, Stand C ts2 (((S.set f 0).set f2 0).set (max f f2) (s + s2)) T2 L2 out2 ∧ ts2.length < ts.length := by
  rcases h.sums.take h.trees hl k1 with ⟨e, _⟩ | ⟨A, rest, p, rfl, es, _, hA, hs⟩
  · exact absurd e h.ne
  · have ht := h.trees.perm p
    rcases hs.take ht.rest (by rw [List.length_set]; exact hl) k2 with ⟨_, e⟩ | ⟨B, rest2, p2, rfl, es2, _, hB, hs2⟩
    · exact absurd e h0
    · have pp : ts.Perm (A :: B :: rest2) := p.trans (p2.cons A)
      have ht2 := h.trees.perm pp
      have hAm : A ∈ ts := pp.mem_iff.2 (List.mem_cons_self ..)
      have hBm : B ∈ ts := pp.mem_iff.2 (List.mem_cons_of_mem _ (List.mem_cons_self ..))
      have fA : ∀ v ∈ A, v ≤ 256 := fun v hv => h.trees.few v (List.mem_flatten.2 ⟨A, hAm, hv⟩)
      have fB : ∀ v ∈ B, v ≤ 256 := fun v hv => h.trees.few v (List.mem_flatten.2 ⟨B, hBm, hv⟩)
      have hn : (A ++ B).Nodup := by
        have hn := ht2.nodup
        rw [List.flatten_cons, List.flatten_cons, ← List.append_assoc, List.nodup_append] at hn
        exact hn.1
      have c := both_perm fA fB hn
      have hC := top_perm (h.trees.some_ A hAm) (h.trees.some_ B hBm) c
      have ht3 := ht2.join (List.Perm.refl _) c
      have hw : wOf (cn256 (cnF C)) (both A B) = wOf (cn256 (cnF C)) A + wOf (cn256 (cnF C)) B := wOf_perm c
      refine ⟨both A B :: rest2, inc (both A B) out, ⟨ht3, ⟨fun D hD => ?_, fun D hD => ?_, fun v hv => ?_⟩, h.tops.join h.trees pp c hj, (flat_join pp c).trans h.flat, fun fin r => h.goes fin (.join pp ?_ hB c (both_rises A B) r)⟩, ?_⟩
      · rw [← hC]
        rcases List.mem_cons.1 hD with rfl | hD
        · have := ht3.tops (List.mem_cons_self (a := both A B) (l := rest2))
          rw [getD_set_same _ (by simp; omega), es, es2, hw]
          omega
        · rw [getD_set_ne _ (fun e => ht3.apart hD e.symm)]
          exact hs2.sum D hD
      · rcases List.mem_cons.1 hD with rfl | hD
        · have := h.sums.pos A hAm
          omega
        · exact hs2.pos D hD
      · rw [← hC, getD_set_ne _ (fun e => hv (both A B) (List.mem_cons_self ..) e.symm)]
        exact hs2.none_ v (fun D hD => hv D (List.mem_cons_of_mem _ hD))
      · intro D hD
        exact hA D (p2.mem_iff.2 hD)
      · have := pp.length_eq
        simp only [List.length_cons] at this ⊢
        omega
end

/-- at the start -/
theorem stand_start {C S T L : List Int} (hg : Good C) (h256 : S.getD 256 0 = 1) (hS : ∀ j, j ≠ 256 → S.getD j 0 = C.getD j 0) (hT : ∀ v, v < 257 → T.getD v 0 = (v : Int)) (hL : ∀ v, v < 257 → L.getD v 0 = 0) :
    Stand C ((usF C ++ [256]).map fun v => [v]) S T L (fun _ => 0) := by
  have hc := hg.counted
  have hl := few_us hc.nodup hc.few
  have hw : ∀ v, wOf (cn256 (cnF C)) [v] = cn256 (cnF C) v := fun v => by simp [wOf]
  have hr : ∀ v, 0 ≤ C.getD v 0 := fun v => by
    rcases Nat.lt_or_ge v C.length with h | h
    · exact (hg.rang v h).1
    · rw [getD_out h]; omega
  refine ⟨hc.trees, ⟨fun A hA => ?_, fun A hA => ?_, fun v hv => ?_⟩, ⟨fun A hA v hv => ?_, fun v hv _ => hT v hv, fun v hv => by rw [hL v hv]; rfl, fun v => ?_⟩, by rw [flat_ones], fun fin r => r⟩
  · obtain ⟨v, hv, rfl⟩ := List.mem_map.1 hA
    rw [top_one, hw]
    unfold cn256
    split
    · next e => rw [e, h256]; rfl
    · next e =>
      rw [hS v e]
      have := hr v
      unfold cnF
      omega
  · obtain ⟨v, hv, rfl⟩ := List.mem_map.1 hA
    rw [hw]
    unfold cn256
    split
    · omega
    · next e =>
      rcases List.mem_append.1 hv with h | h
      · exact hc.pos v h
      · simp at h
        exact absurd h e
  · have h1 : v ≠ 256 := fun e => hv [256] (List.mem_map.2 ⟨256, by simp, rfl⟩) (by rw [top_one]; exact e)
    rw [hS v h1]
    have h2 : v ∉ usF C := fun h => hv [v] (List.mem_map.2 ⟨v, List.mem_append_left _ h, rfl⟩) (by rw [top_one])
    have h3 := hr v
    rcases Nat.lt_or_ge v C.length with h | h
    · have h4 : ¬ 0 < C.getD v 0 := fun h5 => h2 (mem_usF.2 ⟨h, h5⟩)
      omega
    · exact getD_out h
  · obtain ⟨u, hu, rfl⟩ := List.mem_map.1 hA
    simp at hv
    subst hv
    rw [top_one]
    refine hT v ?_
    rcases List.mem_append.1 hu with h | h
    · have := hc.few v h
      omega
    · simp at h
      omega
  · simp
    omega
end Go.Proofs.YtdnjnbfmmgkpjaaDoor

namespace Go.Proofs.YtdnjnbfmmgkpjaaDoor
open Go.RowKit

/-- lengths in an array -/
structure LensOf (C L : List Int) (fin : Nat → Nat) : Prop where
  len : L.length = 257
  at_ : ∀ v, v < 257 → L.getD v 0 = (fin v : Int)
  fin : LengthsOf (cnF C) (usF C) fin
/-- what grow answers -/
def GrewT (w : World) (C : List Int) (e : Ending) (w' : World) : Prop := ∃ fin L, e = .returned (.agg (cellsI L).toArray) ∧ LensOf C L fin ∧ Below w.heap.size w w'
/-- how grow stands -/
structure Growing (w wr : World) (r g : Nat) (Z S T L : List Int) : Prop where
  tree : TreeAt wr g S T L
  res : Box wr r 171 (cellsI Z).toArray
  bel : Below w.heap.size w wr
  ord : w.heap.size ≤ r ∧ r < g
  zl : Z.length = 257
theorem Growing.kept {w wr w' : World} {r g : Nat} {Z S T L S2 T2 L2 : List Int} (h : Growing w wr r g Z S T L) (ht : TreeAt w' g S2 T2 L2) (k : Kept (fun i => i = g) wr w') : Growing w w' r g Z S2 T2 L2 := by
  have := h.ord
  exact ⟨ht, k.box h.res (by omega), h.bel.trans (k.below h.bel.size (fun i hi e => by omega)), h.ord, h.zl⟩
theorem splice_cells6 (Z C : List Int) (R : List Int) (h : C.length ≤ Z.length) : splice (cellsI (Z ++ R)) 0 (cellsI C) = cellsI ((C ++ Z.drop C.length) ++ R) := by
  unfold splice
  rw [List.take_zero, List.nil_append, Nat.zero_add, cellsI_len]
  simp only [cellsI, List.map_append, List.map_drop]
  rw [List.drop_append_of_le_length (by simpa using h), List.append_assoc]
theorem growing_copied {w w1 w3 : World} {r g : Nat} {Z C : List Int} (h : Growing w w1 r g Z Z Z Z) (hc : C.length ≤ 256) (hb : w3.heap[g]? = some (.cells (splice (cellsI (Z ++ (Z ++ Z))) 0 (cellsI C)).toArray 183 (0, 0))) (k : Below g w1 w3) : Growing w w3 r g Z (C ++ Z.drop C.length) Z Z := by
  have ho := h.ord
  have hz := h.zl
  rw [splice_cells6 Z C (Z ++ Z) (by omega)] at hb
  refine ⟨⟨hb, by rw [List.length_append, List.length_drop]; omega, hz, hz⟩, h.res.bel k (by omega), h.bel.trans (k.mono (by omega)), ho, hz⟩
theorem arrC_size {l : List Int} (h : l.length = 257) : (cellsI l).toArray.size = 257 := by rw [List.size_toArray, cellsI_len, h]
theorem arrC_one (l : List Int) : (cellsI l).toArray.all (·.oneCell') = true := all_oneCell_toArray (cellsI_one l)
/-- an array is stored whole -/
theorem wpList_store_arr {ops : Array Oper} {rest : List Oper} {o : Oper} {a : Act} {w : World} {Q : Exit → Act → World → Prop} (hgd : o.guard = none) (x y : Operand) (ho : o.op = .store 171 x y) (hd : o.dst = none)
    (g : Nat) (l : List Int) (u : Value) (hu : u = .agg (cellsI l).toArray) (hx : a.eval x = .pointer (some ⟨g, 0, none⟩)) (hy : a.eval y = u) (old : Array Value) (hg : Box w g 171 old) (hold : old.size = 257) (hl : l.length = 257)
    (h : ∀ w', Box w' g 171 (cellsI l).toArray → Kept (fun i => i = g) w w' → wpList Tryd.prog ops Q rest a w') : wpList Tryd.prog ops Q (o :: rest) a w :=
  wpList_plain hgd fun _ hK => by
    refine wp_store_row 171 x y ho g (cellsI l).toArray hx (hy.trans hu) 171 old hg (by rw [arr257_size, arrC_size hl]) (by rw [hold, arrC_size hl]) (arrC_one l) ?_
    rw [hd]
    exact hK _ _ (h _ (setRow_heap w g old _ 171 _ hg) ⟨rfl, rfl, rfl, by simp, fun k _ hk => setRow_other w g k _ hk⟩)
theorem zeros_at6 (k j : Nat) : (List.replicate k (0 : Int)).getD j 0 = 0 := by
  simp [List.getD_eq_getElem?_getD, List.getElem?_replicate]
  split <;> rfl
set_option maxRecDepth 10000
/-- the sums at the start -/
def sumsAt (C Z : List Int) : List Int := (C ++ Z.drop C.length).set 256 1
theorem sumsAt_at {C Z : List Int} (hZ : Z = List.replicate 257 0) (hC : C.length ≤ 256) : (sumsAt C Z).length = 257 ∧ (sumsAt C Z).getD 256 0 = 1 ∧ ∀ j, j ≠ 256 → (sumsAt C Z).getD j 0 = C.getD j 0 := by
  subst hZ
  have hl : (C ++ (List.replicate 257 (0 : Int)).drop C.length).length = 257 := by rw [List.length_append, List.length_drop, List.length_replicate]; omega
  refine ⟨by unfold sumsAt; rw [List.length_set, hl], by unfold sumsAt; rw [getD_set_same _ (by rw [hl]; omega)], fun j hj => ?_⟩
  unfold sumsAt
  rw [getD_set_ne _ (fun e => hj e.symm)]
  rcases Nat.lt_or_ge j C.length with h | h
  · exact getD_left h
  · obtain ⟨i, rfl⟩ : ∃ i, j = C.length + i := ⟨j - C.length, by omega⟩
    rw [getD_right rfl, getD_out (l := C) (by omega), List.drop_replicate]
    exact zeros_at6 _ _

set_option maxRecDepth 20000 in
set_option maxHeartbeats 1600000 in
theorem grow_any (w : World) (C : List Int) (A : Option Addr) (n c : Nat) (h : Ia w A n c C) (hg : Good C) : Calls Tryd.prog 86 #[.slice A n c] w (GrewT w C) := by
  have hz1 := zero47
  have hz2 := zero75
  obtain ⟨Z, hZ⟩ : ∃ Z : List Int, Z = List.replicate 257 0 := ⟨_, rfl⟩
  rw [← hZ] at hz1 hz2
  obtain ⟨Z1, hZ1⟩ : ∃ Z1, Z1 = (cellsI Z).toArray := ⟨_, rfl⟩
  obtain ⟨Z2, hZ2⟩ : ∃ Z2, Z2 = (cellsI (Z ++ (Z ++ Z))).toArray := ⟨_, rfl⟩
  rw [← hZ1] at hz1
  rw [← hZ2] at hz2
  obtain ⟨w1, hw1⟩ : ∃ w1, w1 = (w.alloc (.cells Z1 171)).alloc (.cells Z2 183) := ⟨_, rfl⟩
  have hZl : Z.length = 257 := by rw [hZ]; simp
  have hG1 : Growing w w1 w.heap.size (w.heap.size + 1) Z Z Z Z := by
    refine ⟨⟨?_, hZl, hZl, hZl⟩, ?_, by rw [hw1]; exact on_trans (on_alloc _ _) (on_alloc _ _), ⟨Nat.le_refl _, by omega⟩, hZl⟩
    · rw [hw1, ← hZ2]; have := Box.made (w.alloc (.cells Z1 171)) 183 Z2; simpa using this
    · rw [hw1, ← hZ1]; exact (Box.made w 171 Z1).alloc _
  have hs1 : w1.heap.size = w.heap.size + 1 + 1 := by rw [hw1]; simp
  have hi := h.on (show Below w.heap.size w w1 from hG1.bel)
  obtain ⟨g, hgg⟩ : ∃ g, g = w.heap.size + 1 := ⟨_, rfl⟩
  have HF := Lib.hid (And.intro hG1 (And.intro hw1 (And.intro hi (And.intro hs1 (And.intro hg (And.intro hZ hgg))))))
  have hlen := h.len
  have hn256 : n ≤ 256 := by have := hg.few; omega
  clear hG1 hw1 hi hs1 hg hZ hZ1 hZ2 h hgg hZl
  go_enter Tryd.func86, Tryd.ntmps86
  go_wp2_with (first
    | ((refine wpList_copy_splice (o := ⟨some 8, _, _, _, _, _⟩) rfl (.tmp 6) (.tmp 7) 28 28 rfl 3 Tryd.underlying28 int_size (some ⟨w.heap.size + 1, 0, none⟩) A 257 257 n c rfl rfl (w.heap.size + 1) 0 (cellsI (Z ++ (Z ++ Z))) 183 ?hg (cellsI C) ?hn ?hpos ?hfit (cellsI_one _) (w.heap.size + 1) ?w0 ?hb ?hgg ?_)
       case hb => exact Below.refl _ _
       case hg => rw [← HF.out.2.1]; exact HF.out.1.tree.box
       case hn => rw [cellsI_len, hlen]; exact (Nat.min_eq_left (by omega)).symm
       case hpos => rw [← HF.out.2.1]; exact fun h0 => ⟨rfl, ia_copy HF.out.2.2.1 h0⟩
       case hfit => have := HF.out.1.zl; rw [cellsI_len, cellsI_len, List.length_append]; omega
       case hgg => exact Nat.le_refl _
       intro w3 hb3 hbel
       have hT3 := growing_copied HF.out.1 (by rw [hlen]; exact hn256) hb3.out (by rw [HF.out.2.1]; exact hbel)
       have c256 := hT3.tree.cellS (show 256 < 257 by omega)
       have f256 := hT3.tree.box.free 256
       have g3 := hT3.tree.box.lt
       have H3 := Lib.hid hT3
       clear hb3 hbel hT3)
    | fail)
  clear c256 f256 g3
  have hn := HF.out.2.2.2.2.2.1
  obtain ⟨s1, s2, s3⟩ := sumsAt_at (C := C) (Z := Z) HF.out.2.2.2.2.2.1 (by omega)
  obtain ⟨w4, hw4⟩ : ∃ w4, w4 = w3.setCell ⟨w.heap.size + 1, 256, none⟩ (.int .i64 1) := ⟨_, rfl⟩
  have h4 : Growing w w4 w.heap.size (w.heap.size + 1) Z (sumsAt C Z) Z Z := by
    rw [hw4]
    exact H3.out.kept (H3.out.tree.putS (by omega) 1) ((Kept.refl (fun i => i = w.heap.size + 1) w3).setCell (p := ⟨w.heap.size + 1, 256, none⟩) (fun _ => rfl) _)
  rw [← hw4]
  have H4 := Lib.hid (And.intro h4 (And.intro s1 (And.intro s2 s3)))
  clear h4 hw4 s1 s2 s3 H3 hn
  obtain ⟨r, hr⟩ : ∃ r, r = w.heap.size := ⟨_, rfl⟩
  obtain ⟨g, hg⟩ : ∃ g, g = w.heap.size + 1 := ⟨_, rfl⟩
  rw [← hg]
  rw [← hg] at H4
  obtain ⟨w5, hw5⟩ : ∃ w5, w5 = w4 := ⟨_, rfl⟩
  rw [← hw5]
  rw [← hw5] at H4
  have HG := Lib.hid hg
  clear hw5 hg hr
  go_loopw [11] (fun i wr => ∃ (k : Nat) (T : List Int), k ≤ 257 ∧ i = .int .i64 k ∧ Growing w wr w.heap.size g Z (sumsAt C Z) T Z ∧ ∀ j, j < k → T.getD j 0 = (j : Int)) (fun i _ => 257 - (intOf i).toNat)
  case atStart => exact ⟨0, Z, Nat.zero_le _, rfl, H4.out.1, fun j hj => absurd hj (by omega)⟩
  case round =>
    obtain ⟨k, T, hk, rfl, hT, hJ⟩ := hrel
    by_cases hlt : k < 257
    · have c1 := hT.tree.cellT hlt
      have f1 := hT.tree.box.free (257 + k)
      have HR := Lib.hid (And.intro hT hJ)
      clear hT hJ
      go_wp2
      go_roundw
      case rel =>
        refine ⟨k + 1, T.set k (k : Int), by omega, by go_num, HR.out.1.kept (HR.out.1.tree.putT hlt _) ((Kept.refl (fun i => i = g) wr).setCell (p := ⟨g, 257 + k, none⟩) (fun _ => rfl) _), fun j hj => ?_⟩
        have hl := HR.out.1.tree.lt
        by_cases e : k = j
        · subst e
          exact getD_set_same _ (by omega)
        · rw [getD_set_ne _ e]
          exact HR.out.2 j (by omega)
      case measure => simp [intOf]; omega
    · have ek : k = 257 := by omega
      subst ek
      have hst := stand_start (C := C) (S := sumsAt C Z) (T := T) (L := Z) HF.out.2.2.2.2.1 H4.out.2.2.1 H4.out.2.2.2 hJ (fun v _ => by rw [HF.out.2.2.2.2.2.1]; exact zeros_at6 _ _)
      have HR := Lib.hid (And.intro hT hst)
      clear hT hJ hst
      go_wp2_with fail
      go_loopg [19] ((usF C ++ [256]).map fun v => [v]).length (fun q u wr => ∃ (ts : List (List Nat)) (S T L : List Int) (out : Nat → Nat), Growing w wr w.heap.size g Z S T L ∧ Stand C ts S T L out ∧ q = ts.length)
      case atStart => exact ⟨_, _, _, _, _, HR.out.1, HR.out.2, rfl⟩
      case round =>
        obtain ⟨ts, S, T1, L, out, hT, hS, hq⟩ := hrel
        have HQ := Lib.hid (And.intro hT (And.intro hS hq))
        have hb := fun j => (hS.bound HF.out.2.2.2.2.1 j)
        have hm := hS.small hT.tree.ll
        have HJ := Lib.hid (joinT_any wr g S T1 L hT.tree (fun j => by have := hb j; omega) hm)
        clear hT hS hq hb hm
        go_wp2_with fail
        refine HJ.out.mono ?_
        rintro e w6 ⟨f, f2, s, s2, hf, hf2, k1, k2, k6, ⟨h0, rfl, S', ht⟩ | ⟨h0, rfl, T2, L2, ht, hj⟩⟩
        · have HE := Lib.hid (And.intro (HQ.out.1.kept ht k6) (And.intro (HQ.out.2.1.ends HQ.out.1.tree.ls k1 k2 h0) HQ.out.2.1.tops.lens))
          clear k1 k2 k6 ht h0
          obtain ⟨CL, hCL⟩ : ∃ CL, CL = (cellsI L).toArray := ⟨_, rfl⟩
          have HC := Lib.hid hCL
          clear hCL
          go_wp2_with (first
            | (with_reducible refine wpList_load_to (op := ⟨some 21, _, _, _, _, _⟩) rfl 171 (.tmp 20) rfl (.pointer (some ⟨g, 514, none⟩)) rfl (.agg CL) (by rw [HC.out]; exact load257 HE.out.1.tree.rangeL HE.out.1.tree.ll) ?_)
            | ((with_reducible refine wpList_store_arr (o := ⟨none, _, _, _, _, _⟩) rfl (.tmp 2) (.tmp 21) rfl rfl w.heap.size L (.agg CL) (by rw [HC.out]) rfl rfl _ HE.out.1.res (arrC_size HE.out.1.zl) HE.out.1.tree.ll ?_)
               intro w7 b7 k7
               have H7 := Lib.hid (And.intro b7 k7)
               clear b7 k7)
            | fail)
          refine bodyPost_ret (v := .agg (cellsI L).toArray) (results_cell_row (fn := Tryd.f86) Tryd.results86 _ _ w.heap.size 171 _ (0, 0) _ rfl H7.out.1 Tryd.underlying171 rfl (by rw [arr257_size, arrC_size HE.out.1.tree.ll])) rfl ?_
          exact ⟨out, L, rfl, ⟨HE.out.1.tree.ll, HE.out.2.2, HE.out.2.1⟩, HE.out.1.bel.trans (H7.out.2.below HE.out.1.bel.size (fun i hi e => by omega))⟩
        · obtain ⟨ts2, out2, hS2, hl2⟩ := HQ.out.2.1.joins HQ.out.1.tree.ls k1 k2 h0 hj
          have HE := Lib.hid (And.intro (HQ.out.1.kept ht k6) (And.intro hS2 hl2))
          clear k1 k2 k6 ht h0 hj hS2 hl2
          go_wp2
          go_roundg ts2.length
          case rel => exact ⟨ts2, _, _, _, out2, HE.out.1, HE.out.2.1, rfl⟩
          case measure => rw [HQ.out.2.2]; exact HE.out.2.2
end Go.Proofs.YtdnjnbfmmgkpjaaDoor

namespace Go.Proofs.YtdnjnbfmmgkpjaaDoor
open Go.RowKit

/-- how many have each length, from lo on, in an array -/
structure Nums (w : World) (g lo : Nat) (N : List Int) (n : Nat → Nat) : Prop where
  box : Box w g 171 (cellsI N).toArray
  len : N.length = 257
  at_ : ∀ s, lo ≤ s → s < 257 → N.getD s 0 = (n s : Int)
theorem Nums.cell {w : World} {g lo : Nat} {N : List Int} {n : Nat → Nat} (h : Nums w g lo N n) {s : Nat} (hl : lo ≤ s) (hs : s < 257) : w.cell? ⟨g, s, none⟩ = some (.int .i64 (n s : Int)) := by
  have a := h.len
  rw [h.box.cell s, List.getElem?_toArray, cellsI_get _ _ (by omega), h.at_ s hl hs]
theorem Nums.put {w : World} {g lo : Nat} {N : List Int} {n : Nat → Nat} (h : Nums w g lo N n) {s : Nat} (hs : s < 257) (x : Nat) (z : Int) (hz : z = (x : Int)) (k : Nat) : Nums ((w.drewN k).setCell ⟨g, s, none⟩ (.int .i64 z)) g lo (N.set s (x : Int)) (upd n s x) := by
  subst hz
  have a := h.len
  refine ⟨?_, by rw [List.length_set, a], fun j hlj hj => ?_⟩
  · have hb := (h.box.drewN k).put s (.int .i64 (x : Int))
    rw [put_cellsI] at hb
    exact hb
  · by_cases e : s = j
    · subst e
      rw [getD_set_same _ (by omega), upd_same]
    · rw [getD_set_ne _ e, upd_other n x (fun e' => e e'.symm)]
      exact h.at_ j hlj hj
theorem Nums.putd {w w1 : World} {g lo : Nat} {N : List Int} {n : Nat → Nat} (h : Nums w g lo N n) {s : Nat} (hs : s < 257) (x : Nat) {z : Int} (hz : z = (x : Int)) (hw : w1 = (w.setCell ⟨g, s, none⟩ (.int .i64 z)).drew) : Nums w1 g lo (N.set s (x : Int)) (upd n s x) ∧ Kept (fun i => i = g) w w1 := by
  subst hw
  have h1 := h.put hs x z hz 0
  exact ⟨⟨h1.box, h1.len, h1.at_⟩, ((Kept.refl (fun i => i = g) w).setCell (p := ⟨g, s, none⟩) (fun _ => rfl) _).drew⟩
theorem kept_drew_put (w : World) (g s k : Nat) (u : Value) : Kept (fun i => i = g) w ((w.drewN k).setCell ⟨g, s, none⟩ u) := ((Kept.refl (fun i => i = g) w).drewN k).setCell (p := ⟨g, s, none⟩) (fun _ => rfl) u
theorem jof_is {n : Nat → Nat} {k j : Nat} (hj : j ≤ k) (h0 : n j ≠ 0) (ha : ∀ s, j < s → s ≤ k → n s = 0) : jof n k = j := by
  rcases Nat.lt_trichotomy (jof n k) j with h | h | h
  · exact absurd (jof_above n k j h hj) h0
  · exact h
  · have h1 := ha _ h (jof_le n k)
    exact absurd (jof_none n k h1 j hj) h0
theorem sumW_le (n : Nat → Nat) {s : Nat} : ∀ {k : Nat}, s < k → n s ≤ sumW (fun _ => 1) n k
  | 0, h => absurd h (by omega)
  | k + 1, h => by
    rw [sumW]
    by_cases e : s = k
    · subst e; omega
    · have := sumW_le n (s := s) (k := k) (by omega)
      omega
theorem Full.le {n : Nat → Nat} {i N : Nat} (h : Full n i N) (hi : i < 300) (s : Nat) : n s ≤ 257 := by
  have h1 := h.few
  rcases Nat.lt_or_ge s 300 with hs | hs
  · have := sumW_le n hs
    rw [h.all] at this
    omega
  · rw [h.above s (by omega)]
    omega

/-- how limiting stands -/
structure Lims (w wr : World) (g : Nat) (n : Nat → Nat) (K : Nat) (i : Nat) (N' : List Int) (n' : Nat → Nat) : Prop where
  nums : Nums wr g 1 N' n'
  full : Full n' i K
  goes : ∀ m, Lim n' i m → Lim n 256 m
  kept : Kept (fun i => i = g) w wr
  lo : 16 ≤ i
  hi : i ≤ 256
theorem Lims.down {w wr : World} {g : Nat} {n : Nat → Nat} {K i : Nat} {N' : List Int} {n' : Nat → Nat} (h : Lims w wr g n K (i + 1) N' n') (h16 : 16 ≤ i) (h0 : n' (i + 1) = 0) : Lims w wr g n K i N' n' :=
  ⟨h.nums, h.full.down h0, fun m r => h.goes m (.down h16 h0 r), h.kept, h16, by have := h.hi; omega⟩
theorem Lims.step {w wr w4 : World} {g : Nat} {n : Nat → Nat} {K i j : Nat} {N' N4 : List Int} {n' : Nat → Nat} (h : Lims w wr g n K i N' n') (h17 : 17 ≤ i) (hn : n' i ≠ 0) (hj : jof n' (i - 2) = j) (h4 : Nums w4 g 1 N4 (lstep n' i j)) (k4 : Kept (fun i => i = g) wr w4) :
    Lims w w4 g n K i N4 (lstep n' i j) ∧ lstep n' i j i + 2 = n' i := by
  have h1 := h.hi
  have hs := h.full.step h17 (by omega) hn
  rw [hj] at hs
  exact ⟨⟨h4, hs.1, fun m r => h.goes m (.step h17 hn (by rw [hj]; exact r)), h.kept.trans k4 (fun _ _ e => e), h.lo, h.hi⟩, hs.2.1⟩
/-- what limit leaves -/
def Limited (w : World) (g : Nat) (n : Nat → Nat) (K : Nat) (e : Ending) (w' : World) : Prop := ∃ M m, e = .returned (.tuple #[]) ∧ Nums w' g 1 M m ∧ Lim n 256 m ∧ Full m 16 K ∧ Kept (fun i => i = g) w w'

set_option maxRecDepth 20000 in
set_option maxHeartbeats 3200000 in
theorem limit_any (w : World) (g : Nat) (N : List Int) (n : Nat → Nat) (K : Nat) (h : Nums w g 1 N n) (hF : Full n 256 K) : Calls Tryd.prog 87 #[.pointer (some ⟨g, 0, none⟩)] w (Limited w g n K) := by
  have HI := Lib.hid (show Lims w w g n K 256 N n from ⟨h, hF, fun _ h => h, Kept.refl _ _, by omega, Nat.le_refl _⟩)
  clear h hF
  go_enter Tryd.func87, Tryd.ntmps87
  go_wp2
  go_step3
  go_wp2
  go_step3
  go_wp2
  go_loopg [2] (256 * 300 + n 256) (fun q u2 wr => ∃ i N' n', u2 = .int .i64 ((i : Nat) : Int) ∧ Lims w wr g n K i N' n' ∧ q = i * 300 + n' i)
  case atStart => exact ⟨256, N, n, rfl, HI.out, rfl⟩
  case round =>
    obtain ⟨i, N', n', rfl, hL, hq⟩ := hrel
    have hlo := hL.lo
    have hhi := hL.hi
    by_cases h16 : i = 16
    · subst h16
      have HR := Lib.hid hL
      clear hL hq
      go_wp2
      go_end0
      exact ⟨N', n', rfl, HR.out.nums, HR.out.goes n' (.stop n'), HR.out.full, HR.out.kept⟩
    have h17 : 16 < i := by omega
    have h17i : (16 : Int) < (i : Int) := by omega
    have HR := Lib.hid (And.intro hL hq)
    clear hL hq h16
    obtain ⟨p, hp⟩ : ∃ p, i = p + 2 := ⟨i - 2, by omega⟩
    have hp2 : (i : Int) - 2 = (p : Int) := by omega
    have HP := Lib.hid hp
    clear hp
    go_wp2
    go_loopg [3] p (fun q u3 w2 => ∃ j, u3 = .int .i64 ((j : Nat) : Int) ∧ j ≤ p ∧ (∀ s, j < s → s ≤ p → n' s = 0) ∧ w2 = wr ∧ q = j)
    case atStart => exact ⟨p, rfl, Nat.le_refl _, fun s h1 h2 => absurd h1 (by omega), rfl, rfl⟩
    case round =>
      obtain ⟨j, rfl, hj, hz, rfl, hq⟩ := hrel
      have HZ := Lib.hid (And.intro hz hq)
      clear hz hq
      have hL := HR.out.1
      have fi := hL.nums.box.free i
      have hle := hL.full.le (by omega) i
      have hj1 : 0 < j := by
        rcases Nat.eq_zero_or_pos j with e | e
        · exfalso
          have h1 := hL.full.shorter (by omega) (by omega)
          have h2 := jof_le n' (i - 2)
          have hp := HP.out
          rcases Nat.eq_zero_or_pos (jof n' (i - 2)) with h3 | h3
          · rw [h3] at h1
            exact h1 hL.full.zero
          · exact h1 (HZ.out.1 _ (by omega) (by omega))
        · exact e
      have ci := hL.nums.cell (by omega) (show i < 257 by omega)
      have cj := hL.nums.cell (by omega) (show j < 257 by omega)
      obtain ⟨x, hx⟩ : ∃ x, x = n' i := ⟨_, rfl⟩
      rw [← hx] at ci hle
      have HX := Lib.hid hx
      have hg := hL.nums.box.lt
      clear hL hx
      by_cases hx0 : x = 0
      · subst hx0
        go_wp2
        have hp := HP.out
        go_roundg ((p + 1) * 300 + n' (p + 1))
        case rel =>
          refine ⟨p + 1, N', n', ?_, ?_, rfl⟩
          · have : (i : Int) - 1 = ((p + 1 : Nat) : Int) := by omega
            rw [this]
          · subst hp
            exact HR.out.1.down (by omega) HX.out.symm
        case measure =>
          have h1 := HR.out.2
          have h2 := HR.out.1.full.le (by omega) (p + 1)
          rw [h1, ← HX.out]
          omega
      · have hx1 : 0 < x := by omega
        obtain ⟨y, hy⟩ : ∃ y, y = n' j := ⟨_, rfl⟩
        rw [← hy] at cj
        have HY := Lib.hid hy
        clear hy
        by_cases hy0 : y = 0
        · subst hy0
          go_wp2
          obtain ⟨j2, rfl⟩ : ∃ j2, j = j2 + 1 := ⟨j - 1, by omega⟩
          go_roundg j2
          case rel =>
            refine ⟨j2, by go_num, by omega, fun s h1 h2 => ?_, rfl, rfl⟩
            by_cases e : s = j2 + 1
            · subst e; exact HY.out.symm
            · exact HZ.out.1 s (by omega) h2
          case measure => rw [HZ.out.2]; omega
        · have hy1 : 0 < y := by omega
          have hp := HP.out
          obtain ⟨q, hq⟩ : ∃ q, q = p + 1 := ⟨_, rfl⟩
          obtain ⟨j2, hj2⟩ : ∃ j2, j2 = j + 1 := ⟨_, rfl⟩
          obtain ⟨x2, hx2⟩ : ∃ x2, x = x2 + 2 := by
            have h1 := HR.out.1.full.even (by omega) (by omega)
            rw [← HX.out] at h1
            exact ⟨x - 2, by omega⟩
          have e1 : (i : Int) - 1 = (q : Int) := by omega
          have e2 : (j : Int) + 1 = (j2 : Int) := by omega
          have e3 : (x : Int) - 2 = (x2 : Int) := by omega
          have hq257 : q < 257 := by omega
          have hq1 : 1 ≤ q := by omega
          have hj21 : 1 ≤ j2 := by omega
          have hj257 : j2 < 257 := by omega
          have hle' := HR.out.1.full.le (by omega)
          obtain ⟨n1, hn1⟩ : ∃ n1, n1 = upd n' i x2 := ⟨_, rfl⟩
          obtain ⟨n2, hn2⟩ : ∃ n2, n2 = upd n1 q (n1 q + 1) := ⟨_, rfl⟩
          obtain ⟨n3, hn3⟩ : ∃ n3, n3 = upd n2 j2 (n2 j2 + 2) := ⟨_, rfl⟩
          have hn4 : lstep n' i j = upd n3 j (n3 j - 1) := by
            rw [hn3, hn2, hn1, hj2, show q = i - 1 by omega, show x2 = n' i - 2 by rw [← HX.out]; omega]
            rfl
          have b1 : n1 q ≤ 1000 := by rw [hn1, upd_other _ _ (by omega)]; have := hle' q; omega
          have b2 : n2 j2 ≤ 2000 := by
            rw [hn2]
            unfold upd
            split
            · omega
            · rw [hn1]
              unfold upd
              split
              · omega
              · have := hle' j2; omega
          have b3 : n3 j = y := by
            rw [hn3, upd_other _ _ (by omega), hn2, upd_other _ _ (by omega), hn1, upd_other _ _ (by omega)]
            exact HY.out.symm
          have by1 : y ≤ 257 := by rw [HY.out]; exact hle' j
          have hjf : jof n' (i - 2) = j := jof_is (by omega) (by rw [← HY.out]; exact hy0) (fun s h1 h2 => HZ.out.1 s h1 (by omega))
          have HN := Lib.hid (And.intro hn1 (And.intro hn2 (And.intro hn3 (And.intro hn4 (And.intro b3 (And.intro hjf (And.intro hx2 (And.intro hq hj2))))))))
          clear hn1 hn2 hn3 hn4 b3 hjf hle' hx2 hq hj2 hp
          go_wp2
          go_region
          obtain ⟨w1, hw1⟩ : ∃ w1, w1 = (wr.setCell ⟨g, i, none⟩ (.int .i64 (x2 : Int))).drew := ⟨_, rfl⟩
          rw [← hw1]
          obtain ⟨h1, k1⟩ := HR.out.1.nums.putd (show i < 257 by omega) x2 rfl hw1
          rw [← HN.out.1] at h1
          have c1 := h1.cell (by omega) hq257
          have f1 := h1.box.free q
          have g1 := h1.box.lt
          obtain ⟨a, ha⟩ : ∃ a, a = n1 q := ⟨_, rfl⟩
          rw [← ha] at c1 b1
          have H1 := Lib.hid (And.intro h1 (And.intro k1 ha))
          clear h1 k1 ha hw1 ci cj fi hg
          go_wp2
          go_region
          obtain ⟨w2, hw2⟩ : ∃ w2, w2 = (w1.setCell ⟨g, q, none⟩ (.int .i64 ((a : Int) + 1))).drew := ⟨_, rfl⟩
          rw [← hw2]
          obtain ⟨h2, k2⟩ := H1.out.1.putd hq257 (a + 1) (by omega) hw2
          rw [H1.out.2.2, ← HN.out.2.1] at h2
          have c2 := h2.cell (by omega) hj257
          have f2 := h2.box.free j2
          have g2 := h2.box.lt
          obtain ⟨b, hb⟩ : ∃ b, b = n2 j2 := ⟨_, rfl⟩
          rw [← hb] at c2 b2
          have H2 := Lib.hid (And.intro h2 (And.intro (H1.out.2.1.trans k2 (fun _ _ e => e)) hb))
          clear h2 k2 hb hw2 c1 f1 g1
          go_wp2
          go_region
          obtain ⟨w3, hw3⟩ : ∃ w3, w3 = (w2.setCell ⟨g, j2, none⟩ (.int .i64 ((b : Int) + 2))).drew := ⟨_, rfl⟩
          rw [← hw3]
          obtain ⟨h3, k3⟩ := H2.out.1.putd hj257 (b + 2) (by omega) hw3
          rw [H2.out.2.2, ← HN.out.2.2.1] at h3
          have c3 := h3.cell (by omega) (show j < 257 by omega)
          rw [HN.out.2.2.2.2.1] at c3
          have f3 := h3.box.free j
          have g3 := h3.box.lt
          have H3 := Lib.hid (And.intro h3 (H2.out.2.1.trans k3 (fun _ _ e => e)))
          clear h3 k3 hw3 c2 f2 g2
          go_wp2
          go_region
          obtain ⟨w4, hw4⟩ : ∃ w4, w4 = (w3.setCell ⟨g, j, none⟩ (.int .i64 ((y : Int) - 1))).drew := ⟨_, rfl⟩
          rw [← hw4]
          obtain ⟨h4, k4⟩ := H3.out.1.putd (show j < 257 by omega) (y - 1) (by omega) hw4
          have e5 : upd n3 j (y - 1) = lstep n' i j := by rw [HN.out.2.2.2.1, HN.out.2.2.2.2.1]
          rw [e5] at h4
          have hS := HR.out.1.step (by omega) (by rw [← HX.out]; exact hx0) HN.out.2.2.2.2.2.1 h4 (H3.out.2.trans k4 (fun _ _ e => e))
          have H4 := Lib.hid hS
          clear h4 k4 hw4 c3 f3 g3 hS e5
          go_wp2
          go_roundg (i * 300 + lstep n' i j i)
          case rel => exact ⟨i, _, _, rfl, H4.out.1, rfl⟩
          case measure => rw [HR.out.2]; have := H4.out.2; omega
end Go.Proofs.YtdnjnbfmmgkpjaaDoor

namespace Go.Proofs.YtdnjnbfmmgkpjaaDoor
open Go.RowKit

/-- what drop leaves -/
def Dropped (w : World) (g : Nat) (m : Nat → Nat) (e : Ending) (w' : World) : Prop := ∃ M, e = .returned (.tuple #[]) ∧ Nums w' g 1 M (lessOne m) ∧ Kept (fun i => i = g) w w'

set_option maxRecDepth 20000 in
set_option maxHeartbeats 1600000 in
theorem drop_any (w : World) (g : Nat) (M : List Int) (m : Nat → Nat) (K : Nat) (h : Nums w g 1 M m) (hF : Full m 16 K) : Calls Tryd.prog 88 #[.pointer (some ⟨g, 0, none⟩)] w (Dropped w g m) := by
  have HI := Lib.hid (And.intro h hF)
  have hg := h.box.lt
  clear h hF
  go_enter Tryd.func88, Tryd.ntmps88
  go_wp2
  go_loopw [2] (fun i wr => ∃ k : Nat, 1 ≤ k ∧ k ≤ 256 ∧ i = .int .i64 k ∧ (∀ s, k < s → s ≤ 256 → m s = 0) ∧ wr = w) (fun i _ => (intOf i).toNat)
  case atStart => exact ⟨256, by omega, Nat.le_refl _, rfl, fun s h1 h2 => absurd h1 (by omega), rfl⟩
  case round =>
    obtain ⟨k, hk1, hk, rfl, hz, rfl⟩ := hrel
    have ck := HI.out.1.cell hk1 (show k < 257 by omega)
    have fk := HI.out.1.box.free k
    have hle := HI.out.2.le (by omega) k
    obtain ⟨x, hx⟩ : ∃ x, x = m k := ⟨_, rfl⟩
    rw [← hx] at ck hle
    have HX := Lib.hid (And.intro hx hz)
    clear hx hz
    by_cases hx0 : x = 0
    · subst hx0
      have hk0 : 1 < k := by
        rcases Nat.lt_or_ge 1 k with e | e
        · exact e
        · exfalso
          have h1 := HI.out.2.last
          rcases Nat.eq_zero_or_pos (jof m 16) with h3 | h3
          · rw [h3] at h1
            exact h1 HI.out.2.zero
          · by_cases e2 : jof m 16 = k
            · exact h1 (by rw [e2]; exact HX.out.1.symm)
            · exact h1 (HX.out.2 _ (by omega) (by have := jof_le m 16; omega))
      obtain ⟨k2, rfl⟩ : ∃ k2, k = k2 + 1 := ⟨k - 1, by omega⟩
      go_wp2
      go_roundw
      case rel =>
        refine ⟨k2, by omega, by omega, by go_num, fun s h1 h2 => ?_, trivial⟩
        by_cases e : s = k2 + 1
        · subst e; exact HX.out.1.symm
        · exact HX.out.2 s (by omega) h2
      case measure => simp [intOf]
    · have g0 : ¬ (x : Int) = 0 := by omega
      go_wp2
      go_region
      obtain ⟨w1, hw1⟩ : ∃ w1, w1 = (wr.setCell ⟨g, k, none⟩ (.int .i64 ((x : Int) - 1))).drew := ⟨_, rfl⟩
      rw [← hw1]
      obtain ⟨h1, k1⟩ := HI.out.1.putd (show k < 257 by omega) (x - 1) (by omega) hw1
      have hk16 : k ≤ 16 := by
        rcases Nat.lt_or_ge 16 k with h' | h'
        · exact absurd (HI.out.2.above k h') (by rw [← HX.out.1]; exact hx0)
        · exact h'
      have hj : jof m 16 = k := jof_is hk16 (by rw [← HX.out.1]; exact hx0) (fun s h1 h2 => HX.out.2 s h1 (by omega))
      have e : upd m k (x - 1) = lessOne m := by unfold lessOne; rw [hj, HX.out.1]
      rw [e] at h1
      have H1 := Lib.hid (And.intro h1 k1)
      clear h1 k1 hw1 e hj ck fk
      go_wp2
      go_end0
      exact ⟨_, rfl, H1.out.1, H1.out.2⟩

theorem il_one6 (w : World) (z : Int) : Il (w.alloc (.cells #[.int .i64 z] 3)) (some ⟨w.heap.size, 0, none⟩) 1 1 [z] := il_of_box (l := [z]) (Box.made w 3 _) rfl (by unfold maxLen; omega)
/-- the first j values that are of a length -/
def segTo (fin : Nat → Nat) (s j : Nat) : List Nat := (List.range j).filter fun v => fin v == s
theorem segTo_more (fin : Nat → Nat) (s j : Nat) : segTo fin s (j + 1) = segTo fin s j ++ if fin j = s then [j] else [] := by
  unfold segTo
  rw [List.range_succ, List.filter_append]
  congr 1
  by_cases h : fin j = s <;> simp [h]
theorem segTo_len (fin : Nat → Nat) (s j : Nat) : (segTo fin s j).length ≤ j := by
  have := List.length_filter_le (fun v => fin v == s) (List.range j)
  rw [List.length_range] at this
  exact this
theorem valsTo_few (fin : Nat → Nat) (k : Nat) : (valsTo fin k).length ≤ 256 := few_us (valsTo_nodup fin k) (fun _ hv => (mem_valsTo.1 hv).1)
/-- numbers as integers -/
def ints (l : List Nat) : List Int := l.map Int.ofNat
theorem ints_app (a b : List Nat) : ints (a ++ b) = ints a ++ ints b := by simp [ints]
theorem ints_len (a : List Nat) : (ints a).length = a.length := by simp [ints]
/-- how a list of numbers of one's own grows -/
structure Row6 (w0 wr : World) (v : Value) (l : List Nat) : Prop where
  own : wr.ownsRow w0.heap.size 3 1 v l.length (cellsI (ints l))
  bel : Below w0.heap.size w0 wr

/-- what ordered tells -/
def OrderedT (w : World) (V : List Int) (e : Ending) (w' : World) : Prop := ∃ A n c, e = .returned (.slice A n c) ∧ Il w' A n c V ∧ (∀ b off, A = some ⟨b, off, none⟩ → w.heap.size ≤ b) ∧ Below w.heap.size w w'

set_option maxRecDepth 20000 in
set_option maxHeartbeats 1600000 in
theorem ordered_any (w : World) (L : List Int) (fin : Nat → Nat) (hl : L.length = 257) (h : ∀ v, v < 257 → L.getD v 0 = (fin v : Int)) : Calls Tryd.prog 89 #[.agg (cellsI L).toArray] w (OrderedT w (ints (valsTo fin 256))) := by
  obtain ⟨C, hC⟩ : ∃ C, C = (cellsI L).toArray := ⟨_, rfl⟩
  rw [← hC]
  obtain ⟨w1, hw1⟩ : ∃ w1, w1 = w.alloc (.cells C 171) := ⟨_, rfl⟩
  obtain ⟨g, hg⟩ : ∃ g, g = w.heap.size := ⟨_, rfl⟩
  have hN : Nums w1 g 0 L fin := ⟨by rw [hw1, hg, hC]; exact Box.made _ _ _, hl, fun v _ hv => h v hv⟩
  have HI := Lib.hid (And.intro hN (And.intro hw1 (And.intro hg (show Below w.heap.size w w1 by rw [hw1]; exact on_alloc _ _))))
  clear hN hw1 hg hC h hl
  go_enter Tryd.func89, Tryd.ntmps89
  go_wp2
  rw [← HI.out.2.1, ← HI.out.2.2.1]
  go_loopw [6, 3] (fun i v wr => ∃ k : Nat, k ≤ 256 ∧ i = .int .i64 k ∧ Row6 w1 wr v (valsTo fin k)) (fun i _ _ => 256 - (intOf i).toNat)
  case atStart => exact ⟨0, Nat.zero_le _, rfl, ⟨⟨rfl, .inl ⟨rfl, rfl⟩⟩, Below.refl _ _⟩⟩
  case round =>
    obtain ⟨k, hk, rfl, hR⟩ := hrel
    have HR := Lib.hid hR
    clear hR
    by_cases hlt : k < 256
    · have hlti : (k : Int) < 256 := by omega
      go_wp2
      go_loopw [9, 3] (fun i v w2 => ∃ j : Nat, j ≤ 256 ∧ i = .int .i64 j ∧ Row6 w1 w2 v (valsTo fin k ++ segTo fin (k + 1) j)) (fun i _ _ => 256 - (intOf i).toNat)
      case atStart => exact ⟨0, Nat.zero_le _, rfl, by rw [show segTo fin (k + 1) 0 = [] from rfl, List.append_nil]; exact HR.out⟩
      case round =>
        obtain ⟨j, hj, rfl, hR⟩ := hrel
        have hb : Nums wr g 0 L fin := ⟨HI.out.1.box.bel hR.bel HI.out.1.box.lt, HI.out.1.len, HI.out.1.at_⟩
        have HQ := Lib.hid (And.intro hR hb)
        by_cases hjl : j < 256
        · have hjli : (j : Int) < 256 := by omega
          have cj := hb.cell (Nat.zero_le _) (show j < 257 by omega)
          have hg := hb.box.lt
          obtain ⟨x, hx⟩ : ∃ x, x = fin j := ⟨_, rfl⟩
          rw [← hx] at cj
          have HX := Lib.hid hx
          obtain ⟨Av, cv, hv⟩ := own_slice hR.own
          clear hx hR hb
          by_cases he : x = k + 1
          · subst he
            have hl1 := valsTo_few fin k
            have hl2 := segTo_len fin (k + 1) j
            have hll : (valsTo fin k ++ segTo fin (k + 1) j).length ≤ 512 := by rw [List.length_append]; omega
            clear hl1 hl2
            subst hv
            go_wp2_with (first
              | (at_builtin; refine wpList_append_il rfl (.tmp 18) (.tmp 20) rfl w1.heap.size _ _ (ints (valsTo fin k ++ segTo fin (k + 1) j)) rfl (HQ.out.1.own.alloc _) (some ⟨wr.heap.size, 0, none⟩) 1 1 [(j : Int)] rfl (il_one6 wr j) (by omega) (by have := HQ.out.1.bel.size; simp; omega) ?_; intro v9 w9 hown9 b9; have H9 := Lib.hid (And.intro hown9 ((HQ.out.1.bel.trans ((on_alloc _ _).mono HQ.out.1.bel.size)).trans b9)); clear hown9 b9)
              | fail)
            go_roundw
            case rel =>
              refine ⟨j + 1, by omega, by go_num, ⟨?_, H9.out.2⟩⟩
              have h9 := H9.out.1
              rw [segTo_more, if_pos HX.out.symm, ← List.append_assoc, ints_app, List.length_append]
              exact h9
            case measure => simp [intOf]; omega
          · have g0 : ¬ (x : Int) = (k : Int) + 1 := by omega
            have g1 : ((x : Int) == (k : Int) + 1) = false := by simpa using g0
            go_wp2
            go_roundw
            case rel =>
              refine ⟨j + 1, by omega, by go_num, ?_⟩
              rw [segTo_more, if_neg (fun e => he (HX.out.trans e)), List.append_nil]
              exact HQ.out.1
            case measure => simp [intOf]; omega
        · have ej : j = 256 := by omega
          have HE := Lib.hid ej
          clear ej hR hb
          go_wp2
          go_roundw
          case rel =>
            refine ⟨k + 1, by omega, by go_num, ?_⟩
            have := HQ.out.1
            rw [HE.out] at this
            exact this
          case measure => simp [intOf]; omega
    · have ek : k = 256 := by omega
      have HE := Lib.hid ek
      clear ek
      have hown := HR.out.own
      rw [HE.out] at hown
      obtain ⟨A2, c2, hv, hi, hlo⟩ := il_of_own hown
      have HA := Lib.hid (And.intro hi hlo)
      clear hown hi hlo
      subst hv
      go_wp2
      go_ret
      refine ⟨A2, _, c2, rfl, HA.out.1, fun b off e => Nat.le_trans HI.out.2.2.2.size (HA.out.2 b off e), HI.out.2.2.2.trans (HR.out.bel.mono HI.out.2.2.2.size)⟩
end Go.Proofs.YtdnjnbfmmgkpjaaDoor

namespace Go.Proofs.YtdnjnbfmmgkpjaaDoor
open Go.RowKit

/-- the specification of counts -/
def SpecOf (C B V : List Int) : Prop := ∃ fin m, LengthsOf (cnF C) (usF C) fin ∧ Lim (cntOf fin (usF C ++ [256])) 299 m ∧ BitsOf B m ∧ B.length = 16 ∧ V = ints (valsTo fin 299)
theorem list_ext16 {B B' : List Int} (hB : B.length = 16) (hB' : B'.length = 16) (h : ∀ i, i < 16 → B.getD i 0 = B'.getD i 0) : B = B' := by
  apply List.ext_getElem (by omega)
  intro i h1 h2
  have := h i (by omega)
  simpa [List.getD_eq_getElem?_getD, List.getElem?_eq_getElem h1, List.getElem?_eq_getElem h2] using this
theorem SpecOf.only {C B V B' V' : List Int} (hg : Good C) (h : SpecOf C B V) (h' : SpecOf C B' V') : B = B' ∧ V = V' := by
  obtain ⟨fin, m, h1, h2, h3, h4, h5⟩ := h
  obtain ⟨fin', m', k1, k2, k3, k4, k5⟩ := h'
  obtain rfl := h1.only hg.counted k1
  obtain rfl := h2.only k2
  exact ⟨list_ext16 h4 k4 (fun i hi => by rw [h3 i hi, k3 i hi]), by rw [h5, k5]⟩

theorem Lim.downs {n m : Nat → Nat} {i : Nat} (h16 : 16 ≤ i) : ∀ k, (∀ s, i < s → n s = 0) → Lim n i m → Lim n (i + k) m
  | 0, _, r => r
  | k + 1, hz, r => by
    rw [← Nat.add_assoc]
    exact .down (by omega) (hz _ (by omega)) (Lim.downs h16 k hz r)
theorem cntOf_app (fin : Nat → Nat) (a b : List Nat) (s : Nat) : cntOf fin (a ++ b) s = cntOf fin a s + cntOf fin b s := by unfold cntOf; rw [List.countP_append]
theorem cntOf_one (fin : Nat → Nat) (v s : Nat) : cntOf fin [v] s = if fin v = s then 1 else 0 := by
  unfold cntOf
  by_cases h : fin v = s <;> simp [h]
theorem cntOf_more (fin : Nat → Nat) (k s : Nat) : cntOf fin (List.range (k + 1)) s = cntOf fin (List.range k) s + if fin k = s then 1 else 0 := by
  rw [List.range_succ, cntOf_app, cntOf_one]
theorem cntOf_le (fin : Nat → Nat) (vs : List Nat) (s : Nat) : cntOf fin vs s ≤ vs.length := List.countP_le_length
section
variable {C : List Int} {fin : Nat → Nat}
theorem LensOf.few {L : List Int} (h : LensOf C L fin) (hg : Good C) (v : Nat) : fin v ≤ 256 := by
  by_cases hv : v ∈ usF C ++ [256]
  · exact h.fin.le hg.counted hv
  · rw [(h.fin.share hg.counted (M := (usF C).length) (Nat.le_refl _)).2.2 v hv]
    omega
/-- of a length above 0 are as many of all values as of those that are counted -/
theorem cnt_all (h : LengthsOf (cnF C) (usF C) fin) (hg : Good C) (hne : usF C ≠ []) {s : Nat} (hs : 1 ≤ s) : cntOf fin (List.range 257) s = cntOf fin (usF C ++ [256]) s := by
  rw [h.seg_len hg.counted hne hs, cntOf_more]
  congr 1
  unfold cntOf seg
  rw [List.countP_eq_length_filter]
theorem full256 (h : LengthsOf (cnF C) (usF C) fin) (hg : Good C) (hne : usF C ≠ []) : Full (cntOf fin (usF C ++ [256])) 256 ((usF C).length + 1) := by
  have hf := h.full hg.counted hne
  refine ⟨hf.zero, fun s hs => ?_, hf.room, hf.all, hf.few⟩
  unfold cntOf
  rw [List.countP_eq_zero]
  intro v hv
  have := h.le hg.counted hv
  simp
  omega
theorem lim299 (h : LengthsOf (cnF C) (usF C) fin) (hg : Good C) (hne : usF C ≠ []) {m : Nat → Nat} (r : Lim (cntOf fin (usF C ++ [256])) 256 m) : Lim (cntOf fin (usF C ++ [256])) 299 m :=
  Lim.downs (i := 256) (by omega) 43 (full256 h hg hne).above r
theorem valsTo_256 (h : ∀ v, fin v ≤ 256) : ∀ k, valsTo fin (256 + k) = valsTo fin 256
  | 0 => rfl
  | k + 1 => by
    rw [← Nat.add_assoc, valsTo, valsTo_256 h k]
    have : seg fin (256 + k + 1) = [] := by
      rw [List.eq_nil_iff_forall_not_mem]
      intro v hv
      have h1 := (mem_seg.1 hv).2
      have h2 := h v
      omega
    rw [this, List.append_nil]
theorem specOf_made {L B V : List Int} {m : Nat → Nat} (h : LensOf C L fin) (hg : Good C) (hne : usF C ≠ []) (r : Lim (cntOf fin (usF C ++ [256])) 256 m) (hB : B.length = 16) (hb : BitsOf B m) (hV : V = ints (valsTo fin 256)) : SpecOf C B V := by
  refine ⟨fin, m, h.fin, lim299 h.fin hg hne r, hb, hB, ?_⟩
  rw [hV, ← valsTo_256 (h.few hg) 43]
end

/-- what Spec tells -/
def SpecGot (w : World) (C : List Int) (e : Ending) (w' : World) : Prop := Below w.heap.size w w' ∧
  ((¬ (Good C ∧ Any C C.length) ∧ e = .returned (.tuple #[specV (List.replicate 16 0) (.slice none 0 0), .int .i64 2])) ∨
   (Good C ∧ Any C C.length ∧ ∃ B V A n c, e = .returned (.tuple #[specV B (.slice A n c), .int .i64 0]) ∧ Il w' A n c V ∧ SpecOf C B V ∧ n ≤ 256 ∧ B.length = 16))
/-- results of a specification and an error -/
theorem results_spec {fn : Func} (h : fn.results = #[.cell 2 30, .tmp 3]) (tmps : Array Value) (w : World) (g : Nat) (B : List Int) (v e : Value) (hp : tmps.getD 2 undef = .pointer (some ⟨g, 0, none⟩)) (he : tmps.getD 3 undef = e) (hb : Box w g 30 (specC B v)) (hB : B.length = 16) :
    (results fn tmps).run Tryd.prog w = .ok (.tuple #[specV B v, e]) w := by
  have hp' : tmps[2]?.getD undef = .pointer (some ⟨g, 0, none⟩) := by simpa using hp
  have he' : tmps[3]?.getD undef = e := by simpa using he
  have hl := run_loadVar_row (P := Tryd.prog) w g 30 30 (specC B v) (0, 0) _ hb Tryd.underlying30 rfl (by rw [spec_size, specC_size hB])
  simp [results, h, hp', he', asAddr, hl, specV]
end Go.Proofs.YtdnjnbfmmgkpjaaDoor

namespace Go.Proofs.YtdnjnbfmmgkpjaaDoor
open Go.RowKit

/-- what Spec holds on to: its result, and the lengths -/
structure Mid (w wr : World) (r a : Nat) (L : List Int) : Prop where
  res : Box wr r 30 zeroC
  arr : Box wr a 171 (cellsI L).toArray
  bel : Below w.heap.size w wr
  ord : w.heap.size ≤ r ∧ r < a
theorem Mid.kept {w wr w' : World} {r a : Nat} {L : List Int} (h : Mid w wr r a L) {S : Nat → Prop} (k : Kept S wr w') (hS : ∀ i, i ≤ a → ¬ S i) : Mid w w' r a L := by
  have ho := h.ord
  exact ⟨k.box h.res (hS _ (by omega)), k.box h.arr (hS _ (Nat.le_refl _)), h.bel.trans (k.below h.bel.size (fun i hi => hS i (by omega))), h.ord⟩
theorem Mid.on {w wr w' : World} {r a : Nat} {L : List Int} (h : Mid w wr r a L) (k : Below wr.heap.size wr w') : Mid w w' r a L := h.kept (Kept.of_below k (fun _ => False)) (fun _ _ h => h)
theorem specC_put {B : List Int} {v : Value} (h : B.length = 16) {k : Nat} (hk : k < 16) (z : Int) : (specC B v).setIfInBounds k (.int .i64 z) = specC (B.set k z) v := by
  unfold specC
  rw [List.setIfInBounds_toArray, List.set_append_left _ _ (by rw [cellsI_len, h]; exact hk)]
  simp [cellsI, List.map_set]
theorem specC_put16 {B : List Int} {v u : Value} (h : B.length = 16) : (specC B v).setIfInBounds 16 u = specC B u := by
  unfold specC
  rw [List.setIfInBounds_toArray, List.set_append_right _ _ (by rw [cellsI_len, h]; omega), cellsI_len, h]
  rfl
theorem zeroC_size : zeroC.size = 17 := rfl
theorem any_max {C : List Int} {m : Int} (hg : Good C) (h1 : ∀ j, j < C.length → C.getD j 0 ≤ m) (h2 : ∃ j, j < C.length ∧ m = C.getD j 0) : m = 0 ↔ ¬ Any C C.length := by
  obtain ⟨j, hj, e⟩ := h2
  have h0 := (hg.rang j hj).1
  constructor
  · rintro rfl ⟨i, hi, hp⟩
    have := h1 i hi
    omega
  · intro h
    by_cases e0 : m = 0
    · exact e0
    · exact absurd ⟨j, hj, by omega⟩ h
theorem zeros_cnt (fin : Nat → Nat) (Z : List Int) (hZ : Z = List.replicate 257 0) (s : Nat) : Z.getD s 0 = (cntOf fin (List.range 0) s : Int) := by
  rw [hZ, zeros_at6]
  rfl

set_option maxRecDepth 20000 in
set_option maxHeartbeats 3200000 in
theorem spec_anyT (w : World) (C : List Int) (A : Option Addr) (n c : Nat) (h : Ia w A n c C) (hn : n ≤ 300) : Calls Tryd.prog 69 #[.slice A n c] w (SpecGot w C) := by
  have hz := zero25
  obtain ⟨ZC, hZC⟩ : ∃ ZC, ZC = zeroC := ⟨_, rfl⟩
  have hz26 : ∀ w, (zeroValue 30).run Tryd.prog w = .ok (.agg ZC) w := by rw [hZC]; exact hz
  clear hz
  obtain ⟨r, hr⟩ : ∃ r, r = w.heap.size := ⟨_, rfl⟩
  obtain ⟨w1, hw1⟩ : ∃ w1, w1 = w.alloc (.cells ZC 30) := ⟨_, rfl⟩
  have hb1 : Box w1 r 30 zeroC := by rw [hw1, hr, hZC]; exact Box.made _ _ _
  have bel1 : Below w.heap.size w w1 := by rw [hw1]; exact on_alloc _ _
  have H1 := Lib.hid (And.intro hb1 (And.intro bel1 (And.intro (h.on bel1) (And.intro hw1 (And.intro hr h.len)))))
  have HZ := Lib.hid hZC
  clear hb1 bel1 hw1 hr h hZC
  go_enter Tryd.func69, Tryd.ntmps69
  go_wp2_with fail
  rw [← H1.out.2.2.2.1, ← H1.out.2.2.2.2.1]
  refine (inRange_any6 w1 C A n c H1.out.2.2.1 hn).mono ?_
  rintro e w2 ⟨b, rfl, hb, b2⟩
  have H2 := Lib.hid (And.intro hb (And.intro (H1.out.1.on b2) (And.intro (on_trans H1.out.2.1 b2) (H1.out.2.2.1.on b2))))
  clear hb b2
  cases b with
  | false =>
    go_wp2_with (first
      | (with_reducible refine wpList_build_to (op := ⟨some 18, _, _, _, _, _⟩) rfl 30 _ rfl (specV (List.replicate 16 0) (.slice none 0 0)) #[] (by simp) (build_zero _) ?_)
      | ((with_reducible refine wpList_store_spec (o := ⟨none, _, _, _, _, _⟩) rfl (.tmp 2) (.tmp 18) rfl rfl r (List.replicate 16 0) (.slice none 0 0) rfl rfl zeroC H2.out.2.1 rfl rfl rfl ?_)
         intro w4 b4 k4
         have H4 := Lib.hid (And.intro b4 k4)
         clear b4 k4)
      | fail)
    refine bodyPost_ret (v := .tuple #[specV (List.replicate 16 0) (.slice none 0 0), .int .i64 2]) (results_spec Tryd.results69 _ _ r _ _ _ rfl rfl H4.out.1 rfl) rfl ?_
    exact ⟨H2.out.2.2.1.trans (H4.out.2.below H2.out.2.2.1.size (fun i hi e => by have := H1.out.2.2.2.2.1; omega)), .inl ⟨fun hg => absurd (H2.out.1.2 hg.1) (by simp), rfl⟩⟩
  | true =>
    have HG := Lib.hid (H2.out.1.1 rfl)
    go_wp2_with fail
    refine (max_any w2 C A n c H2.out.2.2.2 hn (by have := HG.out.one; have := H1.out.2.2.2.2.2; omega)).mono ?_
    rintro e w3 ⟨m, rfl, hm1, hm2, b3⟩
    have hmx := any_max HG.out hm1 hm2
    have H3 := Lib.hid (And.intro hmx (And.intro (H2.out.2.1.on b3) (And.intro (on_trans H2.out.2.2.1 b3) (H2.out.2.2.2.on b3))))
    clear hm1 hm2 hmx b3
    by_cases hm0 : m = 0
    · subst hm0
      go_wp2_with (first
        | (with_reducible refine wpList_build_to (op := ⟨some 18, _, _, _, _, _⟩) rfl 30 _ rfl (specV (List.replicate 16 0) (.slice none 0 0)) #[] (by simp) (build_zero _) ?_)
        | ((with_reducible refine wpList_store_spec (o := ⟨none, _, _, _, _, _⟩) rfl (.tmp 2) (.tmp 18) rfl rfl r (List.replicate 16 0) (.slice none 0 0) rfl rfl zeroC H3.out.2.1 rfl rfl rfl ?_)
           intro w4 b4 k4
           have H4 := Lib.hid (And.intro b4 k4)
           clear b4 k4)
        | fail)
      refine bodyPost_ret (v := .tuple #[specV (List.replicate 16 0) (.slice none 0 0), .int .i64 2]) (results_spec Tryd.results69 _ _ r _ _ _ rfl rfl H4.out.1 rfl) rfl ?_
      exact ⟨H3.out.2.2.1.trans (H4.out.2.below H3.out.2.2.1.size (fun i hi e => by have := H1.out.2.2.2.2.1; omega)), .inl ⟨fun hg => H3.out.1.1 trivial hg.2, rfl⟩⟩
    · have g0 : (m == 0) = false := by simpa using hm0
      have hany : Any C C.length := by
        by_cases ha : Any C C.length
        · exact ha
        · exact absurd (H3.out.1.2 ha) hm0
      have HA := Lib.hid hany
      clear hany
      go_wp2_with fail
      refine (grow_any w3 C A n c H3.out.2.2.2 HG.out).mono ?_
      rintro e w4 ⟨fin, L, rfl, hL, b4⟩
      have hz1 := zero47
      obtain ⟨Z, hZ⟩ : ∃ Z : List Int, Z = List.replicate 257 0 := ⟨_, rfl⟩
      rw [← hZ] at hz1
      obtain ⟨Z1, hZ1⟩ : ∃ Z1, Z1 = (cellsI Z).toArray := ⟨_, rfl⟩
      rw [← hZ1] at hz1
      obtain ⟨CL, hCL⟩ : ∃ CL, CL = (cellsI L).toArray := ⟨_, rfl⟩
      rw [← hCL]
      have hZl : Z.length = 257 := by rw [hZ, List.length_replicate]
      have H4 := Lib.hid (And.intro hL (And.intro (H3.out.2.1.on b4) (And.intro (on_trans H3.out.2.2.1 b4) (And.intro hZ (And.intro hZ1 (And.intro hCL hZl))))))
      clear hL b4 hZ hZ1 hCL hZl
      have ha0 : Box (w4.alloc (.cells Z1 171)) w4.heap.size 171 Z1 := Box.made _ _ _
      have HB0 := Lib.hid ha0
      clear ha0
      go_wp2_with (first
        | ((with_reducible refine wpList_store_arr (o := ⟨none, _, _, _, _, _⟩) rfl (.tmp 4) (.tmp 20) rfl rfl w4.heap.size L (.agg CL) (by rw [H4.out.2.2.2.2.2.1]) rfl rfl Z1 HB0.out (by rw [H4.out.2.2.2.2.1]; exact arrC_size H4.out.2.2.2.2.2.2) H4.out.1.len ?_)
           intro w5 b5 k5
           have hM : Mid w w5 r w4.heap.size L := by
             have hr := H1.out.2.2.2.2.1
             have hlt := H4.out.2.1.lt
             have kk := (Kept.refl (fun i => i = w4.heap.size) w4).alloc (.cells Z1 171) |>.trans k5 (fun _ _ e => e)
             exact ⟨kk.box H4.out.2.1 (by omega), b5, H4.out.2.2.1.trans (kk.below H4.out.2.2.1.size (fun i hi e => by have := H4.out.2.2.1.size; omega)), ⟨by omega, hlt⟩⟩
           have H5 := Lib.hid (And.intro hM (load257 hM.arr.range47 H4.out.1.len))
           clear b5 k5 hM)
        | (with_reducible refine wpList_load_to (op := ⟨some 21, _, _, _, _, _⟩) rfl 171 (.tmp 4) rfl (.pointer (some ⟨w4.heap.size, 0, none⟩)) rfl (.agg CL) (by rw [H4.out.2.2.2.2.2.1]; exact load257 (H5.out.1.on (on_alloc _ _)).arr.range47 H4.out.1.len) ?_)
        | fail)
      obtain ⟨a, ha⟩ : ∃ a, a = w4.heap.size := ⟨_, rfl⟩
      obtain ⟨b, hb⟩ : ∃ b, b = w5.heap.size := ⟨_, rfl⟩
      obtain ⟨w6, hw6⟩ : ∃ w6, w6 = w5.alloc (.cells Z1 171) := ⟨_, rfl⟩
      have h6 : Mid w w6 r a L ∧ Nums w6 b 0 Z (cntOf fin (List.range 0)) ∧ a < b := by
        rw [hw6, ha, hb]
        refine ⟨H5.out.1.on (on_alloc _ _), ⟨?_, H4.out.2.2.2.2.2.2, fun s _ _ => zeros_cnt fin Z H4.out.2.2.2.1 s⟩, H5.out.1.arr.lt⟩
        rw [← H4.out.2.2.2.2.1]
        exact Box.made _ _ _
      rw [← ha, ← hb, ← hw6]
      have H6 := Lib.hid h6
      clear h6 HB0 H5 ha hb hw6
      go_loopw [22] (fun i wr => ∃ (k : Nat) (N : List Int), k ≤ 257 ∧ i = .int .i64 k ∧ Nums wr b 0 N (cntOf fin (List.range k)) ∧ Kept (fun i => i = b) w6 wr) (fun i _ => 257 - (intOf i).toNat)
      case atStart => exact ⟨0, Z, Nat.zero_le _, rfl, H6.out.2.1, Kept.refl _ _⟩
      case round =>
        obtain ⟨k, N, hk, rfl, hN, hK⟩ := hrel
        by_cases hlt : k < 257
        · have hlti : (k : Int) < 257 := by omega
          have hix := index257 wr H4.out.1.len hlt
          rw [← H4.out.2.2.2.2.2.1, H4.out.1.at_ k hlt] at hix
          obtain ⟨x, hx⟩ : ∃ x, x = fin k := ⟨_, rfl⟩
          rw [← hx] at hix
          have hx257 : x < 257 := by have := H4.out.1.few HG.out k; omega
          have c1 := hN.cell (Nat.zero_le _) hx257
          have f1 := hN.box.free x
          have g1 := hN.box.lt
          have hcl := cntOf_le fin (List.range k) x
          rw [List.length_range] at hcl
          obtain ⟨y, hy⟩ : ∃ y, y = cntOf fin (List.range k) x := ⟨_, rfl⟩
          rw [← hy] at c1 hcl
          have HR := Lib.hid (And.intro hN (And.intro hK (And.intro hix (And.intro hx hy))))
          clear hN hK hix hx hy
          go_wp2_with (first
            | (with_reducible refine wpList_index_to (op := ⟨some 24, _, _, _, _, _⟩) rfl 171 (.tmp 21) (.tmp 22) rfl (.agg CL) (.int .i64 (k : Int)) rfl rfl _ HR.out.2.2.1 ?_)
            | fail)
          go_roundw
          case rel =>
            have hp := HR.out.1.put hx257 (y + 1) ((y : Int) + 1) (by omega) 0
            have e : upd (cntOf fin (List.range k)) x (y + 1) = cntOf fin (List.range (k + 1)) := by
              funext s
              rw [cntOf_more, ← HR.out.2.2.2.1]
              unfold upd
              by_cases h : s = x
              · subst h; rw [if_pos rfl, if_pos rfl, HR.out.2.2.2.2]
              · rw [if_neg h, if_neg (fun e => h e.symm), Nat.add_zero]
            rw [e] at hp
            exact ⟨k + 1, _, by omega, by go_num, ⟨hp.box, hp.len, hp.at_⟩, HR.out.2.1.setCell (p := ⟨b, x, none⟩) (fun _ => rfl) _⟩
          case measure => simp [intOf]; omega
        · have ek : k = 257 := by omega
          subst ek
          have hne := usF_ne HA.out
          have hN1 : Nums wr b 1 N (cntOf fin (usF C ++ [256])) := ⟨hN.box, hN.len, fun s h1 h2 => by rw [hN.at_ s (Nat.zero_le _) h2, cnt_all H4.out.1.fin HG.out hne h1]⟩
          have HR := Lib.hid (And.intro hN1 (And.intro (H6.out.1.kept hK (fun i hi e => by have := H6.out.2.2; omega)) hne))
          clear hN hK hN1 hne
          go_wp2_with fail
          refine (limit_any wr b N _ _ HR.out.1 (full256 H4.out.1.fin HG.out HR.out.2.2)).mono ?_
          rintro e w8 ⟨M, m8, rfl, hM, hlim, hfull, k8⟩
          have H8 := Lib.hid (And.intro hM (And.intro hlim (And.intro hfull (HR.out.2.1.kept k8 (fun i hi e => by have := H6.out.2.2; omega)))))
          clear hM hlim hfull k8
          go_wp2_with fail
          refine (drop_any w8 b M m8 _ H8.out.1 H8.out.2.2.1).mono ?_
          rintro e w9 ⟨M2, rfl, hM2, k9⟩
          have H9 := Lib.hid (And.intro hM2 (H8.out.2.2.2.kept k9 (fun i hi e => by have := H6.out.2.2; omega)))
          clear hM2 k9
          go_wp2_with fail
          obtain ⟨d, hd⟩ : ∃ d, d = w9.heap.size := ⟨_, rfl⟩
          obtain ⟨w10, hw10⟩ : ∃ w10, w10 = w9.alloc (.cells ZC 30) := ⟨_, rfl⟩
          rw [← hd, ← hw10]
          have h10 : Box w10 d 30 (specC (List.replicate 16 0) (.slice none 0 0)) ∧ Nums w10 b 1 M2 (lessOne m8) ∧ Mid w w10 r a L ∧ b < d := by
            have hb := H9.out.1.box
            rw [hw10, hd]
            refine ⟨?_, ⟨hb.alloc _, H9.out.1.len, H9.out.1.at_⟩, H9.out.2.on (on_alloc _ _), hb.lt⟩
            rw [HZ.out]
            exact Box.made _ _ _
          have H10 := Lib.hid h10
          clear h10 hd hw10
          go_loopw [33] (fun i wr => ∃ (k : Nat) (Bk : List Int), k ≤ 16 ∧ i = .int .i64 k ∧ Box wr d 30 (specC Bk (.slice none 0 0)) ∧ Bk.length = 16 ∧ (∀ i, i < k → Bk.getD i 0 = (lessOne m8 (i + 1) : Int)) ∧ Kept (fun i => i = d) w10 wr) (fun i _ => 16 - (intOf i).toNat)
          case atStart => exact ⟨0, List.replicate 16 0, Nat.zero_le _, rfl, H10.out.1, rfl, fun i hi => absurd hi (by omega), Kept.refl _ _⟩
          case round =>
            obtain ⟨k, Bk, hk, rfl, hB, hBl, hBk, hK⟩ := hrel
            have hnb : Box wr b 171 (cellsI M2).toArray := hK.box H10.out.2.1.box (by have := H10.out.2.2.2; omega)
            have hNb : Nums wr b 1 M2 (lessOne m8) := ⟨hnb, H10.out.2.1.len, H10.out.2.1.at_⟩
            by_cases hlt : k < 16
            · have hlti : (k : Int) < 16 := by omega
              have c1 := hNb.cell (show 1 ≤ k + 1 by omega) (show k + 1 < 257 by omega)
              obtain ⟨k2, hk2⟩ : ∃ k2, k2 = k + 1 := ⟨_, rfl⟩
              rw [← hk2] at c1
              have e1 : (k : Int) + 1 = (k2 : Int) := by omega
              have hk17 : k2 < 257 := by omega
              have c2 := (hB.cell k).trans (specC_at hBl hlt)
              have f2 := hB.free k
              have g1 := hnb.lt
              have g2 := hB.lt
              obtain ⟨x, hx⟩ : ∃ x, x = lessOne m8 k2 := ⟨_, rfl⟩
              rw [← hx] at c1
              have HR := Lib.hid (And.intro hB (And.intro hBl (And.intro hBk (And.intro hK (And.intro hx hk2)))))
              clear hB hBl hBk hK hx hnb hNb hk2
              go_wp2
              go_roundw
              case rel =>
                have hp := HR.out.1.put k (.int .i64 (x : Int))
                rw [specC_put HR.out.2.1 hlt] at hp
                refine ⟨k + 1, _, by omega, by have := HR.out.2.2.2.2.2; go_num, hp, by rw [List.length_set]; exact HR.out.2.1, fun i hi => ?_, HR.out.2.2.2.1.setCell (p := ⟨d, k, none⟩) (fun _ => rfl) _⟩
                by_cases e : k = i
                · subst e
                  rw [getD_set_same _ (by have := HR.out.2.1; omega), HR.out.2.2.2.2.1, HR.out.2.2.2.2.2]
                · rw [getD_set_ne _ e]
                  exact HR.out.2.2.1 i (by omega)
              case measure => simp [intOf]; omega
            · have ek : k = 16 := by omega
              subst ek
              have hm : Mid w wr r a L := H10.out.2.2.1.kept hK (fun i hi e => by have := H10.out.2.2.2; have := H6.out.2.2; omega)
              have hda : r < a ∧ a < d := ⟨hm.ord.2, by have := H10.out.2.2.2; have := H6.out.2.2; omega⟩
              have HR := Lib.hid (And.intro hB (And.intro hBl (And.intro hBk (And.intro hm hda))))
              clear hB hBl hBk hK hnb hNb hm hda
              go_wp2_with (first
                | (with_reducible refine wpList_load_to (op := ⟨some 44, _, _, _, _, _⟩) rfl 171 (.tmp 4) rfl (.pointer (some ⟨a, 0, none⟩)) rfl (.agg CL) (by rw [H4.out.2.2.2.2.2.1]; exact load257 HR.out.2.2.2.1.arr.range47 H4.out.1.len) ?_)
                | fail)
              have HO := Lib.hid (ordered_any wr L fin H4.out.1.len H4.out.1.at_)
              rw [H4.out.2.2.2.2.2.1]
              refine HO.out.mono ?_
              rintro e w12 ⟨A2, n2, c2, rfl, hi2, hlo2, b12⟩
              have hB12 := HR.out.1.on b12
              have d16 := (hB12.cell 16).trans (specC_last HR.out.2.1)
              have e16 := hB12.free 16
              have g16 := hB12.lt
              obtain ⟨w13, hw13⟩ : ∃ w13, w13 = w12.setCell ⟨d, 16, none⟩ (.slice A2 n2 c2) := ⟨_, rfl⟩
              have k13 : Kept (fun i => i = d) w12 w13 := by rw [hw13]; exact (Kept.refl (fun i => i = d) w12).setCell (p := ⟨d, 16, none⟩) (fun _ => rfl) _
              have h13 : Box w13 d 30 (specC Bk (.slice A2 n2 c2)) := by
                have := hB12.put 16 (.slice A2 n2 c2)
                rw [specC_put16 HR.out.2.1] at this
                rw [hw13]
                exact this
              have hdw : d < wr.heap.size := HR.out.1.lt
              have hm13 : Mid w w13 r a L := (HR.out.2.2.2.1.on b12).kept k13 (fun i hi e => by have := HR.out.2.2.2.2; omega)
              have hi13 : Il w13 A2 n2 c2 (ints (valsTo fin 256)) := hi2.kept k13 (fun b off e e2 => by have := hlo2 b off e; omega)
              have H13 := Lib.hid (And.intro h13 (And.intro hm13 (And.intro hi13 (And.intro hw13 (fun b off e => by have := hlo2 b off e; show d < b; omega : ∀ b off, A2 = some ⟨b, off, none⟩ → d < b)))))
              clear hi2 hlo2 b12 hB12 k13 h13 hm13 hi13 hw13
              rw [← H4.out.2.2.2.2.2.1]
              go_wp2_with (first
                | (refine wpList_load_to (op := ⟨some 47, _, _, _, _, _⟩) rfl 30 (.tmp 8) rfl (.pointer (some ⟨d, 0, none⟩)) rfl (specV Bk (.slice A2 n2 c2)) (by rw [← H13.out.2.2.2.1]; exact load_spec H13.out.1 HR.out.2.1) ?_)
                | ((refine wpList_store_spec (o := ⟨none, _, _, _, _, _⟩) rfl (.tmp 2) (.tmp 47) rfl rfl r Bk (.slice A2 n2 c2) rfl rfl zeroC (by rw [← H13.out.2.2.2.1]; exact H13.out.2.1.res) rfl HR.out.2.1 rfl ?_)
                   intro w14 b14 k14
                   have H14 := Lib.hid (And.intro b14 k14)
                   clear b14 k14)
                | fail)
              refine bodyPost_ret (v := .tuple #[specV Bk (.slice A2 n2 c2), .int .i64 0]) (results_spec Tryd.results69 _ _ r _ _ _ rfl rfl H14.out.1 HR.out.2.1) rfl ?_
              have k14 : Kept (fun i => i = r) w13 w14 := by rw [H13.out.2.2.2.1]; exact H14.out.2
              refine ⟨H13.out.2.1.bel.trans (k14.below H13.out.2.1.bel.size (fun i hi e => by have := H13.out.2.1.ord; omega)), .inr ⟨HG.out, HA.out, Bk, ints (valsTo fin 256), A2, n2, c2, rfl, H13.out.2.2.1.kept k14 (fun b off e e2 => by have := H13.out.2.2.2.2 b off e; have := HR.out.2.2.2.2; omega), specOf_made H4.out.1 HG.out (usF_ne HA.out) H8.out.2.1 HR.out.2.1 (fun i hi => HR.out.2.2.1 i hi) rfl, ?_, HR.out.2.1⟩⟩
              have h1 := H13.out.2.2.1.len
              rw [ints_len] at h1
              have h2 := valsTo_few fin 256
              omega
end Go.Proofs.YtdnjnbfmmgkpjaaDoor
