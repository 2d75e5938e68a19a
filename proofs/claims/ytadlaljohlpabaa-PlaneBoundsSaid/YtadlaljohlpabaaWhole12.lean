/-
  The contracts of the program's functions, as the laws of layer 12 ask them.
-/
import Derived.Test.YtadlaljohlpabaaQCut2
namespace Go.Proofs.Ytadlaljohlpabaa
open Go.RowKit

set_option maxHeartbeats 1600000 in
theorem cut_any (w0 : World) (W H : Int) (A : Option Addr) (n c : Nat) (xs : List Int) (hI : Ia w0 A n c xs) (hn : n ≤ 1000000) :
    Calls Try.prog 23 #[.agg #[.int .i64 W, .int .i64 H, .slice A n c]] w0 (BTells w0 (cutF W H xs).1 (cutF W H xs).2) := by
  by_cases hr : RightI W H xs
  · have e : cutF W H xs = (cutL xs W.toNat H.toNat, 0) := by unfold cutF; rw [if_pos hr]
    rw [e]
    obtain ⟨W', H', rfl, rfl, hp⟩ := hr.plane
    exact cut_good w0 W' H' A n c xs hI hp
  · have e : cutF W H xs = ([], 1) := by unfold cutF; rw [if_neg hr]
    rw [e]
    have HR := Lib.hid (fun w1 (k : Below w0.heap.size w0 w1) => right_any w1 W H A n c xs (hI.on k) hn)
    unfold Righted at HR
    rw [decide_eq_false hr] at HR
    obtain ⟨w1, hw1⟩ : ∃ w1, w0.alloc (.cells #[.int .i64 W, .int .i64 H, .slice A n c] 24) = w1 := ⟨_, rfl⟩
    have k1 : Below w0.heap.size w0 w1 := by rw [← hw1]; exact on_alloc _ _
    have HW := Lib.hid (And.intro hw1 k1)
    clear hr e hI hw1 k1
    go_enter Try.func23, Try.ntmps23
    go_wp2_with fail
    rw [HW.out.1]
    refine Calls.mono (HR.out w1 HW.out.2) ?_
    rintro e w4 ⟨rfl, b4⟩
    have H4 := Lib.hid (on_trans HW.out.2 b4)
    clear b4
    go_wp2_with fail
    go_ret2
    exact ⟨none, 0, 0, rfl, ⟨rfl, (fun x hx => by cases hx), fun h => absurd h (by omega)⟩, (fun b off e => by cases e), H4.out⟩

theorem prog12 : Prog12 where
  right := right_any
  at_ := at_any
  crop := crop_any
  halve := halve_any
  grow := fun w W H u v a d A n c xs hI hn => grow_any w W H u v a d A n c xs hI hn
  cut := cut_any
  join := join_any
end Go.Proofs.Ytadlaljohlpabaa
