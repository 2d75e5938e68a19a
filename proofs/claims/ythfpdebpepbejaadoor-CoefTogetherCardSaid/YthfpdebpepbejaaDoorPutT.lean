/-
  The contract of the table's Put.
-/
import Derived.Test.YthfpdebpepbejaaDoorHBackMath
import Derived.Test.YthfpdebpepbejaaDoorCode
import Derived.Test.YthfpdebpepbejaaDoorAwake5
namespace Go.Proofs.YthfpdebpepbejaaDoor
open Go.RowKit

/-- what Put tells -/
def PutT (w : World) (d : Nat) (L : List En) (v : Int) (bs : List Int) (e : Ending) (w' : World) : Prop :=
  e = .returned (.int .i64 (if (fnd L v).isSome then 0 else 6)) ∧ Wr w' d (bs ++ dig (codeOf L v).1 (codeOf L v).2) ∧ Kept (fun i => i = d) w w'

theorem may_code {B V : List Int} (hv : Valid B V) {en : En} (he : en ∈ codes B V) : mayPut (en.2.1 : Int) (en.2.2 : Int) := by
  obtain ⟨h1, h2, h3, _⟩ := hv.code he
  unfold mayPut
  rw [Int.toNat_natCast]
  have e : ((2 : Int) ^ en.2.2) = ((2 ^ en.2.2 : Nat) : Int) := by simp
  rw [e]
  omega

set_option maxHeartbeats 800000 in
theorem putT_any (w : World) (lo hi t d : Nat) (B V bs : List Int) (v : Int) (h : Tb w lo hi t B V (codes B V)) (hv : Valid B V) (hw : Wr w d bs) (hl : bs.length ≤ 1976) :
    Calls Tryd.prog 58 #[.pointer (some ⟨t, 0, none⟩), .pointer (some ⟨d, 0, none⟩), .int .i64 v] w (PutT w d (codes B V) v bs) := by
  unfold PutT
  obtain ⟨L, hL⟩ : ∃ L, L = codes B V := ⟨_, rfl⟩
  have hcode := code_any w lo hi t B V L v (by rw [hL]; exact h) (by rw [hL]; exact valid_vals hv)
  rw [← hL]
  cases ho : fnd L v with
  | none =>
    have hc : codeOf L v = (0, 0) := by unfold codeOf; rw [ho]; rfl
    rw [hc] at hcode ⊢
    have HC := Lib.hid hcode
    have HW := Lib.hid hw
    clear h hL hcode hw hl hv ho hc
    go_enter Tryd.func58, Tryd.ntmps58
    go_wp2_with fail
    refine HC.out.mono ?_
    rintro e w1 ⟨rfl, b1⟩
    have H1 := Lib.hid b1
    clear b1
    go_wp2
    go_ret
    exact ⟨rfl, by simpa [dig] using HW.out.on H1.out, Kept.of_below H1.out _⟩
  | some en =>
    have hc : codeOf L v = en.2 := by unfold codeOf; rw [ho]; rfl
    have hm := may_code hv (en := en) (by rw [← hL]; exact (fnd_some ho).1)
    have hz : 1 ≤ en.2.2 := (hv.code (by rw [← hL]; exact (fnd_some ho).1)).1
    rw [hc] at hcode ⊢
    have HC := Lib.hid hcode
    have HW := Lib.hid hw
    have HM := Lib.hid (And.intro hm hl)
    obtain ⟨z, x, y⟩ := en
    dsimp only at hz
    have hpos : 0 < y := hz
    clear h hL hcode hw hl hv ho hc hm hz
    go_enter Tryd.func58, Tryd.ntmps58
    go_wp2_with fail
    refine HC.out.mono ?_
    rintro e w1 ⟨rfl, b1⟩
    have H1 := Lib.hid b1
    clear b1
    go_wp2_with fail
    refine (put_any w1 d bs (x : Int) (y : Int) (HW.out.on H1.out) HM.out.2).mono ?_
    rintro e w2 ⟨rfl, hw2, k2⟩
    have H2 := Lib.hid (And.intro hw2 k2)
    clear hw2 k2
    go_wp2
    go_ret
    have h2 := H2.out.1
    rw [putL, if_pos HM.out.1, Int.toNat_natCast, Int.toNat_natCast] at h2
    refine ⟨?_, h2, (Kept.of_below H1.out _).trans H2.out.2 (fun _ _ e => e)⟩
    rw [putE, if_pos HM.out.1]
    rfl
end Go.Proofs.YthfpdebpepbejaaDoor
