/-
  The contract of awake.
-/
import Derived.Test.YtdoelehfeiegeaaBytes
namespace Go.Proofs.Ytdoelehfeiegeaa
open Go.RowKit

/-- what awake answers -/
def Awake (w : World) (e : Ending) (w' : World) : Prop := e = .returned (.bool true) ∧ Below w.heap.size w w'

theorem awake_scan {l : List Int} (h : Scan (putL (putL [] 255 8) 0 1) l) : strOfNums l = ⟨#[255, 0, 127]⟩ := by
  have h2 : Scan (putL (putL [] 255 8) 0 1) [255, 0, 127] := ⟨[255], 0, 1, (fun z hz => by simp at hz; omega), by omega, by omega, by decide, by decide⟩
  rw [h.same h2]
  rfl

set_option maxHeartbeats 800000 in
theorem awake_any (w : World) : Calls Try.prog 10 #[] w (Awake w) := by
  have e1 : putE 255 8 = 0 := by decide
  have e2 : putE 0 1 = 0 := by decide
  have e3 : putE 2 1 = 2 := by decide
  have l1 : (putL [] 255 8).length = 8 := by decide
  have l2 : (putL (putL [] 255 8) 0 1).length = 9 := by decide
  have l3 : putL (putL (putL [] 255 8) 0 1) 2 1 = putL (putL [] 255 8) 0 1 := by decide
  have HE := Lib.hid (And.intro e1 (And.intro e2 (And.intro e3 (And.intro l1 (And.intro l2 l3)))))
  clear e1 e2 e3 l1 l2 l3
  obtain ⟨L0, hL0⟩ : ∃ L0 : List Int, L0 = putL [] 255 8 := ⟨_, rfl⟩
  obtain ⟨L1, hL1⟩ : ∃ L1 : List Int, L1 = putL L0 0 1 := ⟨_, rfl⟩
  have HS := Lib.hid (fun l (h : Scan L1 l) => awake_scan (l := l) (by rw [← hL0, ← hL1]; exact h))
  rw [← hL0, ← hL1] at HE
  have HL := Lib.hid (And.intro hL0 hL1)
  clear hL0 hL1
  go_enter Try.func10, Try.ntmps10
  go_wp2_with fail
  refine (newWriter_wr w).mono ?_
  rintro e w1 ⟨d, rfl, hd, hw1, b1⟩
  have H1 := Lib.hid (And.intro hw1 (And.intro hd b1))
  clear hw1 hd b1
  go_wp2_with fail
  refine (put_any w1 d [] 255 8 H1.out.1 (by simp)).mono ?_
  rw [HE.out.1, ← HL.out.1]
  rintro e w2 ⟨rfl, hw2, k2⟩
  have H2 := Lib.hid (And.intro hw2 ((H1.out.2.2).trans (k2.below H1.out.2.2.size (fun i hi e => by have := H1.out.2.1; omega))))
  clear hw2 k2
  go_wp2_with fail
  refine (put_any w2 d L0 0 1 H2.out.1 (by rw [HE.out.2.2.2.1]; omega)).mono ?_
  rw [HE.out.2.1, ← HL.out.2]
  rintro e w3 ⟨rfl, hw3, k3⟩
  have H3 := Lib.hid (And.intro hw3 ((H2.out.2).trans (k3.below H2.out.2.size (fun i hi e => by have := H1.out.2.1; omega))))
  clear hw3 k3
  go_wp2_with fail
  refine (put_any w3 d L1 2 1 H3.out.1 (by rw [HE.out.2.2.2.2.1]; omega)).mono ?_
  rw [HE.out.2.2.1, HE.out.2.2.2.2.2]
  rintro e w4 ⟨rfl, hw4, k4⟩
  have H4 := Lib.hid (And.intro hw4 ((H3.out.2).trans (k4.below H3.out.2.size (fun i hi e => by have := H1.out.2.1; omega))))
  clear hw4 k4
  go_wp2_with fail
  refine (bytes_any w4 d L1 H4.out.1).mono ?_
  rintro e w5 ⟨A, m, c, l, rfl, hs, hsl, b5⟩
  have hstr := sl_str hsl
  rw [HS.out l hs] at hstr
  have H5 := Lib.hid (And.intro (H4.out.1.on b5) (on_trans H4.out.2 b5))
  clear hs hsl b5
  go_wp2_with fail
  refine (count_wr w5 d L1 H5.out.1).mono ?_
  rw [HE.out.2.2.2.2.1]
  rintro e w6 ⟨rfl, b6⟩
  have H6 := Lib.hid (on_trans H5.out.2 b6)
  clear b6
  go_wp2
  go_ret
  exact ⟨rfl, H6.out⟩
end Go.Proofs.Ytdoelehfeiegeaa
