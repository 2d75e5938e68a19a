/-
  The contract of the laws' own awake.
-/
import Derived.Test.YtambeekkgbbfnaaDoorSteps
namespace Go.Proofs.YtambeekkgbbfnaaDoor
open Go.RowKit

theorem woke_first : (stepsL false 50).getD 0 0 = 16 := by decide
theorem woke_last : (stepsL false 50).getD 63 0 = 99 := by decide
theorem rnd_m3 : rnd (-3) 2 = -2 := by decide
theorem stepsF_50 : stepsF false 50 = (stepsL false 50, 0) := rfl
theorem stepsF_0 : stepsF true 0 = (zeros64, 2) := rfl
/-- what awake answers -/
def Woke (w : World) (e : Ending) (w' : World) : Prop := e = .returned (.bool true) ∧ Below w.heap.size w w'

/-- a block that a call told is laid in new memory -/
theorem laid_new {w w' w2 : World} {b : List Int} {Z : Array Value} (bel : Below w.heap.size w w') (hb : Blk w2 w'.heap.size b) (k : Kept (fun i => i = w'.heap.size) (w'.alloc (.cells Z 26)) w2) : Blk w2 w'.heap.size b ∧ Below w'.heap.size w' w2 ∧ Below w.heap.size w w2 := by
  have h := (on_alloc w' (.cells Z 26)).trans (k.below (B := w'.heap.size) (by simp) (fun i hi e => by omega))
  exact ⟨hb, h, on_trans bel h⟩

set_option maxRecDepth 10000 in
set_option maxHeartbeats 3200000 in
theorem awake_any (w : World) (hT : Tab w) : Calls Tryd.prog 11 #[] w (Woke w) := by
  obtain ⟨Z, hZ⟩ : ∃ Z, Z = (cellsI zeros64).toArray := ⟨_, rfl⟩
  have hz : ∀ w, (zeroValue 26).run Tryd.prog w = .ok (.agg Z) w := fun w => by rw [hZ]; exact zero26 w
  have hZs : Z.size = 64 := by rw [hZ]; rfl
  have H := Lib.hid (And.intro hT hZs)
  have HS := Lib.hid (steps_any w false 50 hT)
  clear hT hZ hZs
  rw [stepsF_50] at HS
  obtain ⟨S, hS⟩ : ∃ S, S = stepsL false 50 := ⟨_, rfl⟩
  rw [← hS] at HS
  have c0 := woke_first
  have c1 := woke_last
  rw [← hS] at c0 c1
  have HSS := Lib.hid (And.intro c0 (And.intro c1 (show S.length = 64 by rw [hS]; exact stepsL_len _ _)))
  clear c0 c1 hS
  go_enter Tryd.func11, Tryd.ntmps11
  go_wp2_with fail
  refine HS.out.mono ?_
  rintro e w2 ⟨rfl, b2⟩
  have H2 := Lib.hid (And.intro (H.out.1.on b2) b2)
  dsimp only
  clear b2
  go_wp2_with (first
    | ((with_reducible refine wpList_store_blk (o := ⟨none, _, _, _, _, _⟩) rfl (.tmp 1) (.tmp 7) rfl rfl w2.heap.size S rfl rfl Z (Box.made _ _ _) H.out.2 HSS.out.2.2 ?_)
       intro w3 b3 k3
       have H3 := Lib.hid (laid_new H2.out.2 b3 k3)
       clear b3 k3)
    | fail)
  have HS2 := steps_any w3 true 0 (H2.out.1.on H3.out.2.1)
  rw [stepsF_0] at HS2
  refine HS2.mono ?_
  rintro e w4 ⟨rfl, b4⟩
  have H4 := Lib.hid (And.intro (on_trans H3.out.2.2 b4) (H3.out.1.on b4))
  dsimp only
  clear b4 HS2
  obtain ⟨g1, hg1⟩ : ∃ g1, g1 = w2.heap.size := ⟨_, rfl⟩
  rw [← hg1] at H4 ⊢
  have HG := Lib.hid hg1
  clear hg1
  go_wp2_with (first
    | ((with_reducible refine wpList_store_blk (o := ⟨none, _, _, _, _, _⟩) rfl (.tmp 3) (.tmp 11) rfl rfl w4.heap.size zeros64 rfl rfl Z (Box.made _ _ _) H.out.2 zeros_len ?_)
       intro w5 b5 k5
       have H5 := Lib.hid (laid_new H4.out.1 b5 k5)
       have d0 := (H4.out.2.on H5.out.2.1).cell (k := 0) (by omega)
       have d1 := (H4.out.2.on H5.out.2.1).cell (k := 63) (by omega)
       rw [HSS.out.1] at d0
       rw [HSS.out.2.1] at d1
       clear b5 k5)
    | fail)
  refine (round_any w5 (-3) 2 (by unfold isInt; omega) (by unfold isInt; omega)).mono ?_
  rintro e w6 ⟨rfl, rfl⟩
  rw [rnd_m3]
  go_wp2
  go_ret
  exact ⟨rfl, H5.out.2.2⟩
end Go.Proofs.YtambeekkgbbfnaaDoor
