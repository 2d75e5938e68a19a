/-
  Tally: the contracts of copied, of the closure that counts, and of Tally itself.
-/
import Derived.Test.YthfpdebpepbejaaDoorEach
namespace Go.Proofs.YthfpdebpepbejaaDoor
open Go.RowKit

theorem ia_copy {w : World} {A : Option Addr} {n c : Nat} {l : List Int} (h : Ia w A n c l) (h0 : 0 < (cellsI l).length) : ∃ ad, A = some ad ∧ ∀ j v, (cellsI l)[j]? = some v → w.cell? (ad.add j) = some v := by
  obtain ⟨b, off, e, _⟩ := h.at_ (by have := h.len; rw [cellsI_len] at h0; omega)
  subst e
  exact ⟨_, rfl, h.read⟩

/-- numbers of one's own, just so many -/
def CopiedC (w : World) (n : Nat) (xs : List Int) (e : Ending) (w' : World) : Prop :=
  e = .returned (.slice (some ⟨w.heap.size, 0, none⟩) n n) ∧ Box w' w.heap.size 3 (cellsI xs).toArray ∧ Below w.heap.size w w'

set_option maxRecDepth 20000 in
set_option maxHeartbeats 1600000 in
theorem copiedC_any (w : World) (A : Option Addr) (n c : Nat) (xs : List Int) (h : Ia w A n c xs) (hn : n ≤ 300) :
    Calls Tryd.prog 33 #[.slice A n c] w (CopiedC w n xs) := by
  have hmk := run_make_row' (P := Tryd.prog) 24 3 (.int .i64 0) 8 Tryd.underlying24 int_info rfl .i64 .i64 n (by omega) (by omega)
  obtain ⟨M, hM⟩ : ∃ M, M = madeCells #[.int .i64 0] n := ⟨_, rfl⟩
  rw [← hM] at hmk
  have hM2 : M = (cellsI (List.replicate n 0)).toArray := by
    apply Array.toList_inj.1
    rw [hM, toList_madeCells_one]
    simp [cellsI]
  rw [hM2] at hmk
  clear hM hM2
  obtain ⟨Z, hZ⟩ : ∃ Z, Z = List.replicate n (0 : Int) := ⟨_, rfl⟩
  rw [← hZ] at hmk
  have hZl : Z.length = n := by rw [hZ, List.length_replicate]
  have HF := Lib.hid (And.intro (h.alloc (.cells (cellsI Z).toArray 3)) (And.intro (Box.made w 3 (cellsI Z).toArray) hZl))
  clear hZ hZl h
  go_enter Tryd.func33, Tryd.ntmps33
  go_wp2_with (first
    | ((with_reducible refine wpList_copy_splice (o := ⟨some 9, _, _, _, _, _⟩) rfl (.tmp 7) (.tmp 8) 24 24 rfl 3 Tryd.underlying24 int_size (some ⟨w.heap.size, 0, none⟩) A n n n c rfl rfl w.heap.size 0 (cellsI Z) 3 ?hg (cellsI xs) ?hn ?hpos ?hfit (cellsI_one _) w.heap.size ?w0 ?hb ?hgg ?_)
       case hb => exact on_alloc _ _
       case hg => exact HF.out.2.1
       case hn => have := HF.out.1.len; rw [cellsI_len]; simp [this]
       case hpos => exact fun h0 => ⟨rfl, ia_copy HF.out.1 h0⟩
       case hfit => have := HF.out.1.len; have := HF.out.2.2; rw [cellsI_len, cellsI_len]; omega
       case hgg => exact Nat.le_refl _
       intro w3 hb3 hbel
       have H3 := Lib.hid (And.intro hb3 hbel)
       clear hb3 hbel)
    | fail)
  go_ret
  obtain ⟨hb3, hbel⟩ := H3.out
  have hb := hb3.out
  have hl := HF.out.1.len
  rw [splice_all _ _ (by rw [cellsI_len, cellsI_len, hl, HF.out.2.2]; exact Nat.le_refl _)] at hb
  exact ⟨rfl, hb, hbel⟩
end Go.Proofs.YthfpdebpepbejaaDoor
