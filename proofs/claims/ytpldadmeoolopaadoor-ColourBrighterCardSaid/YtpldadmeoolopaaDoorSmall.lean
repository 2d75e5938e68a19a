/-
  The contracts of the reference's In, cut and by.
-/
import Derived.Test.YtpldadmeoolopaaDoorColourMath
namespace Go.Proofs.YtpldadmeoolopaaDoor
open Go.RowKit

/-- what In answers -/
def Ind (w : World) (z : Int) (e : Ending) (w' : World) : Prop := e = .returned (.bool (decide (In8 z))) ∧ w = w'
set_option maxHeartbeats 800000 in
theorem in_any (w : World) (z : Int) : Calls Tryd.prog 11 #[.int .i64 z] w (Ind w z) := by
  by_cases h : In8 z
  · have e := decide_eq_true h
    have E := Lib.hid e
    obtain ⟨h0, h1⟩ := h
    clear e
    go_enter Tryd.func11, Tryd.ntmps11
    go_wp2_with fail
    go_ret
    exact ⟨by rw [E.out]; rfl, rfl⟩
  · have e := decide_eq_false h
    have E := Lib.hid e
    clear e
    have h' : z < 0 ∨ (0 ≤ z ∧ 255 < z) := by unfold In8 at h; omega
    clear h
    rcases h' with a | ⟨a, b⟩
    · go_enter Tryd.func11, Tryd.ntmps11
      go_wp2_with fail
      go_ret
      exact ⟨by rw [E.out]; rfl, rfl⟩
    · have hd : decide (z ≤ 255) = false := decide_eq_false (by omega)
      go_enter Tryd.func11, Tryd.ntmps11
      go_wp2_with fail
      go_ret
      exact ⟨by rw [E.out, ← hd]; rfl, rfl⟩
/-- what cut answers -/
def Cutd (w : World) (z : Int) (e : Ending) (w' : World) : Prop := e = .returned (.int .i64 (cut8 z)) ∧ w = w'
set_option maxHeartbeats 800000 in
theorem cut_any (w : World) (z : Int) : Calls Tryd.prog 14 #[.int .i64 z] w (Cutd w z) := by
  have h' : (z < 0 ∧ cut8 z = 0) ∨ (0 ≤ z ∧ 255 < z ∧ cut8 z = 255) ∨ (0 ≤ z ∧ z ≤ 255 ∧ cut8 z = z) := by
    unfold cut8 held
    by_cases a : z < 0
    · exact .inl ⟨a, if_pos a⟩
    · by_cases b : 255 < z
      · exact .inr (.inl ⟨by omega, b, by rw [if_neg a, if_pos b]⟩)
      · exact .inr (.inr ⟨by omega, by omega, by rw [if_neg a, if_neg b]⟩)
  rcases h' with ⟨a, e⟩ | ⟨a, b, e⟩ | ⟨a, b, e⟩
  all_goals
    have E := Lib.hid e
    clear e
    go_enter Tryd.func14, Tryd.ntmps14
    go_wp2_with fail
    go_ret
    exact ⟨by rw [E.out]; rfl, rfl⟩
/-- what by answers -/
def Byd (w : World) (n : Int) (e : Ending) (w' : World) : Prop := e = .returned (.int .i64 (rnd n 65536)) ∧ w = w'
set_option maxHeartbeats 800000 in
theorem by_any (w : World) (n : Int) (hn : isInt n) : Calls Tryd.prog 15 #[.int .i64 n] w (Byd w n) := by
  have HC := Lib.hid (refRound_any w n 65536 hn (by unfold isInt; omega))
  obtain ⟨r, hr⟩ : ∃ r, r = rnd n 65536 := ⟨_, rfl⟩
  unfold Rounded at HC
  rw [← hr] at HC
  have HR := Lib.hid hr
  clear hr hn
  go_enter Tryd.func15, Tryd.ntmps15
  go_wp2_with fail
  refine HC.out.mono ?_
  rintro e w2 ⟨rfl, rfl⟩
  go_wp2
  go_ret
  exact ⟨by rw [← HR.out]; rfl, rfl⟩
end Go.Proofs.YtpldadmeoolopaaDoor
