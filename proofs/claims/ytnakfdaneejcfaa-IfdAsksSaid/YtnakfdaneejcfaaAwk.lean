/-
  A directory that the document fixes.
-/
import Derived.Test.YtnakfdaneejcfaaPutD
namespace Go.Proofs.Ytnakfdaneejcfaa
open Go.RowKit

def fdA (h : Nat) : Fd := ⟨256, 3, some ⟨h, 0, none⟩, 1, 1, [7]⟩
theorem dirOk_A (h : Nat) : DirOk [fdA h] false := by
  refine ⟨by simp, fun i hi => ?_⟩
  obtain rfl : i = 0 := by simpa using hi
  refine ⟨?_, fun h => by omega⟩
  show FieldOk 256 3 [7] false
  decide
theorem size_A (h : Nat) : sizeN [fdA h] false = 18 := rfl
theorem bytes_A (h : Nat) : dirB [fdA h] false 8 0 = [1, 0, 0, 1, 3, 0, 1, 0, 0, 0, 7, 0, 0, 0, 0, 0, 0, 0] := by
  show dirB [⟨256, 3, none, 1, 1, [7]⟩] false 8 0 = _
  decide
theorem putOk_A (h : Nat) : PutOk [fdA h] false 8 0 := ⟨by decide, by decide, by rw [size_A]; decide⟩
theorem putNo_A (h : Nat) : ¬ PutOk [fdA h] false 9 0 := fun k => absurd k.1 (by decide)
set_option maxHeartbeats 1600000 in
theorem awake_any (w : World) : Calls Try.prog 8 #[] w fun r w' => r = .returned (.bool true) ∧ Below w.heap.size w w' := by
  obtain ⟨w2, hw2⟩ : ∃ w2, (w.alloc (.cells #[.int .i64 7] 3)).alloc (.cells #[.int .i64 256, .int .i64 3, .slice (some ⟨w.heap.size, 0, none⟩) 1 1] 48) = w2 := ⟨_, rfl⟩
  have k2 : Below w.heap.size w w2 := by rw [← hw2]; exact on_trans (on_alloc _ _) (on_alloc _ _)
  have hz2 : w2.heap.size = w.heap.size + 2 := by rw [← hw2]; simp
  have b1 : Box w2 w.heap.size 3 #[.int .i64 7] := by rw [← hw2]; exact (Box.made _ _ _).on (on_alloc _ _)
  have b2 : Box w2 (w.heap.size + 1) 48 #[.int .i64 256, .int .i64 3, .slice (some ⟨w.heap.size, 0, none⟩) 1 1] := by
    have := Box.made (w.alloc (.cells #[.int .i64 7] 3)) 48 #[.int .i64 256, .int .i64 3, .slice (some ⟨w.heap.size, 0, none⟩) 1 1]
    rw [hw2] at this
    simpa using this
  have hil : Il w2 (some ⟨w.heap.size, 0, none⟩) 1 1 [7] := by
    refine ⟨rfl, Nat.le_refl _, by decide, (fun e => by cases e), fun _ => ⟨w.heap.size, 0, rfl, b1.lt, fun i hi => ?_⟩⟩
    obtain rfl : i = 0 := by omega
    exact b1.cell 0
  have hfl : Fl w2 (some ⟨w.heap.size + 1, 0, none⟩) 1 1 [fdA w.heap.size] := by
    refine ⟨rfl, Nat.le_refl _, by decide, fun i hi => ?_⟩
    obtain rfl : i = 0 := by omega
    exact ⟨w.heap.size + 1, 0, rfl, b2.lt, b2.cell 0, b2.cell 1, b2.cell 2, hil⟩
  have HP8 := Lib.hid ((putDir_any _ 1 1 _ false 8 0 w2 hfl (by omega)).mono (R' := fun r w' => (∃ A c, r = .returned (.tuple #[.slice A 18 c, .int .i64 0]) ∧ Sl w' (fun b => w2.heap.size ≤ b) A 18 c [1, 0, 0, 1, 3, 0, 1, 0, 0, 0, 7, 0, 0, 0, 0, 0, 0, 0]) ∧ Below w2.heap.size w2 w') (fun r w' h => ⟨by
    rcases h.1 with h | h | h
    · exact absurd (dirOk_A _) h.1
    · exact absurd (putOk_A _) h.2.1
    · have h3 := h.2.2
      rw [size_A, bytes_A] at h3
      exact h3, h.2⟩))
  have H2 := Lib.hid (And.intro k2 hfl)
  have HN := Lib.hid (fun (wq : World) (hb : Below w2.heap.size w2 wq) => (putDir_any _ 1 1 _ false 9 0 wq (H2.out.2.on hb) (by omega)).mono (R' := fun r w' => r = .returned (.tuple #[.slice none 0 0, .int .i64 2]) ∧ Below wq.heap.size wq w') (fun r w' h => ⟨by
    rcases h.1 with h | h | h
    · exact absurd (dirOk_A _) h.1
    · exact h.2.2
    · exact absurd h.2.1 (putNo_A _), h.2⟩))
  clear k2 hz2 b1 b2 hil hfl
  go_enter Try.func8, Try.ntmps8
  go_wp2_with fail
  refine HP8.out.mono ?_
  rintro e w3 ⟨⟨A3, c3, rfl, hx3⟩, b3⟩
  have hc3 := hx3.max
  have hc4 := hx3.cap
  unfold maxLen at hc3
  have H3 := Lib.hid (And.intro hx3 b3)
  clear hx3 b3
  go_wp2_with fail
  refine (HN.out w3 H3.out.2).mono ?_
  rintro e w4 ⟨rfl, b4⟩
  obtain ⟨b, off, rfl, hb, _, hc⟩ := (H3.out.1.on b4).bts.at_ (by decide)
  have d10 := hc 10 (by decide)
  have H4 := Lib.hid b4
  simp at d10
  clear hc b4
  go_wp2_with fail
  go_ret
  exact ⟨rfl, on_trans (on_trans H2.out.1 H3.out.2) H4.out⟩
end Go.Proofs.Ytnakfdaneejcfaa
