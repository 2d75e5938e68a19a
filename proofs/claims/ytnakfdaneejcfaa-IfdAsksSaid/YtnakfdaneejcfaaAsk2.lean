/-
  The reference's Values; One, the program's and the reference's; few.
-/
import Derived.Test.YtnakfdaneejcfaaAsk
namespace Go.Proofs.Ytnakfdaneejcfaa
open Go.RowKit

def RefVals (f : Fd) (w : World) (r : Ending) (w' : World) : Prop := r = .returned (.tuple #[.slice f.A f.n f.c, .int .i64 0]) ∧ Below w.heap.size w w'
/-- the only value, or why there is none -/
def oneV (xs : List Int) : Int × Int := if xs.length = 1 then (xs.getD 0 0, 0) else (0, 20)
def OneY (p : Int × Int) (w : World) (r : Ending) (w' : World) : Prop := r = .returned (.tuple #[.int .i64 p.1, .int .i64 p.2]) ∧ Below w.heap.size w w'
section
variable (A : Option Addr) (n c : Nat) (l : List Fd) (tag : Int) (w : World) (hx : Fl w A n c l)
include hx
set_option maxHeartbeats 1600000 in
theorem refVals_none (hN : Lacks l tag) : Calls Try.prog 10 #[.slice A n c, .int .i64 tag] w (ValsNone w) := by
  have hmax := hx.max
  have hcap := hx.cap
  unfold maxLen at hmax
  have H0 := Lib.hid (And.intro hx (And.intro hx.len hN))
  clear hx hN
  go_enter Try.func10, Try.ntmps10
  go_wp2_with fail
  go_loopw [6] (fun i wr => ∃ j : Nat, j ≤ n ∧ i = .int .i64 (j : Int) ∧ Below w.heap.size w wr) (fun i _ => n - (intOf i).toNat)
  case atStart => exact ⟨0, by omega, rfl, Below.refl _ _⟩
  case round =>
    obtain ⟨j, hj, rfl, hb⟩ := hrel
    have HB := Lib.hid hb
    clear hb
    by_cases hjn : j < n
    · obtain ⟨b, off, rfl, hbs, d0, d1, d2, -⟩ := (H0.out.1.on HB.out).at_ j hjn
      obtain ⟨t, k, fA, fn, fc, fx, hf⟩ : ∃ t k fA fn fc fx, l.getD j fd0 = ⟨t, k, fA, fn, fc, fx⟩ := ⟨_, _, _, _, _, _, rfl⟩
      have hne := H0.out.2.2 j (by rw [H0.out.2.1]; exact hjn)
      rw [hf] at d0 d1 d2 hne
      simp only at d0 d1 d2 hne
      clear hf
      go_wp2_with fail
      go_roundw
      case rel => exact ⟨j + 1, by omega, by go_num, HB.out⟩
      case measure => simp [intOf]; omega
    · go_wp2_with fail
      exact bodyPost_ret (v := .tuple #[.slice none 0 0, .int .i64 15]) (by simp [results, Try.results10, go_sem]) rfl ⟨rfl, HB.out⟩
set_option maxHeartbeats 1600000 in
theorem refVals_some (i0 : Nat) (hF : Found l tag i0) : Calls Try.prog 10 #[.slice A n c, .int .i64 tag] w (RefVals (l.getD i0 fd0) w) := by
  have hmax := hx.max
  have hcap := hx.cap
  unfold maxLen at hmax
  have hi0 : i0 < n := by rw [← hx.len]; exact hF.1
  have H0 := Lib.hid (And.intro hx hF)
  clear hx hF
  go_enter Try.func10, Try.ntmps10
  go_wp2_with fail
  go_loopw [6] (fun i wr => ∃ j : Nat, j ≤ i0 ∧ i = .int .i64 (j : Int) ∧ Below w.heap.size w wr) (fun i _ => n - (intOf i).toNat)
  case atStart => exact ⟨0, by omega, rfl, Below.refl _ _⟩
  case round =>
    obtain ⟨j, hj, rfl, hb⟩ := hrel
    have HB := Lib.hid hb
    clear hb
    have hjn : j < n := by omega
    obtain ⟨b, off, rfl, hbs, d0, d1, d2, -⟩ := (H0.out.1.on HB.out).at_ j hjn
    obtain ⟨t, k, fA, fn, fc, fx, hf⟩ : ∃ t k fA fn fc fx, l.getD j fd0 = ⟨t, k, fA, fn, fc, fx⟩ := ⟨_, _, _, _, _, _, rfl⟩
    rw [hf] at d0 d1 d2
    simp only at d0 d1 d2
    by_cases hji : j < i0
    · have hne := H0.out.2.2.2 j hji
      rw [hf] at hne
      simp only at hne
      clear hf
      go_wp2_with fail
      go_roundw
      case rel => exact ⟨j + 1, by omega, by go_num, HB.out⟩
      case measure => simp [intOf]; omega
    · obtain rfl : j = i0 := by omega
      have heq := H0.out.2.2.1
      rw [hf] at heq
      simp only at heq
      subst heq
      have HF := Lib.hid hf
      clear hf
      go_wp2_with fail
      exact bodyPost_ret (v := .tuple #[.slice fA fn fc, .int .i64 0]) (by simp [results, Try.results10, go_sem]) rfl ⟨by rw [HF.out], HB.out⟩
theorem one_none (hN : Lacks l tag) : Calls Try.prog 11 #[.slice A n c, .int .i64 tag] w (OneY (0, 15) w) := by
  have HV := Lib.hid (vals_none A n c l tag w hx hN)
  clear hx hN
  go_enter Try.func11, Try.ntmps11
  go_wp2_with fail
  refine HV.out.mono ?_
  rintro e w1 ⟨rfl, b1⟩
  have H1 := Lib.hid b1
  clear b1
  go_wp2_with fail
  exact bodyPost_ret (v := .tuple #[.int .i64 0, .int .i64 15]) (by simp [results, Try.results11, go_sem]) rfl ⟨rfl, H1.out⟩
theorem refOne_none (hN : Lacks l tag) : Calls Try.prog 12 #[.slice A n c, .int .i64 tag] w (OneY (0, 15) w) := by
  have HV := Lib.hid (refVals_none A n c l tag w hx hN)
  clear hx hN
  go_enter Try.func12, Try.ntmps12
  go_wp2_with fail
  refine HV.out.mono ?_
  rintro e w1 ⟨rfl, b1⟩
  have H1 := Lib.hid b1
  clear b1
  go_wp2_with fail
  exact bodyPost_ret (v := .tuple #[.int .i64 0, .int .i64 15]) (by simp [results, Try.results12, go_sem]) rfl ⟨rfl, H1.out⟩
theorem one_some (i0 : Nat) (hF : Found l tag i0) (hn6 : (l.getD i0 fd0).n ≤ 10000) : Calls Try.prog 11 #[.slice A n c, .int .i64 tag] w (OneY (oneV (l.getD i0 fd0).xs) w) := by
  have HV := Lib.hid (vals_some A n c l tag w hx i0 hF hn6)
  obtain ⟨xs, hxs⟩ : ∃ xs, (l.getD i0 fd0).xs = xs := ⟨_, rfl⟩
  rw [hxs] at HV ⊢
  clear hx hF hn6 hxs
  obtain ⟨m, hm⟩ : ∃ m, xs.length = m := ⟨_, rfl⟩
  by_cases h1 : m = 1
  · obtain ⟨v, hv⟩ : ∃ v, xs.getD 0 0 = v := ⟨_, rfl⟩
    have h9 : oneV xs = (v, 0) := by unfold oneV; rw [hm, if_pos h1, hv]
    rw [h9]
    have HM := Lib.hid (And.intro hm hv)
    subst h1
    clear hm hv h9
    go_enter Try.func11, Try.ntmps11
    go_wp2_with fail
    refine HV.out.mono ?_
    rintro e w1 ⟨A1, c1, rfl, hown, b1⟩
    rw [HM.out.1] at hown ⊢
    obtain ⟨g, cg, hvg, _, _⟩ := hown.form (by omega)
    obtain ⟨rfl, _, rfl⟩ := Value.slice.inj hvg
    have d0 : w1.cell? ⟨g, 0, none⟩ = some (.int .i64 v) := by
      rw [hown.cellAt 0 (by omega)]
      have hl := HM.out.1
      have hv := HM.out.2
      rw [← hv]
      simp [cellsI, List.getD_eq_getElem?_getD, List.getElem?_eq_getElem (show 0 < xs.length by omega)]
    have H1 := Lib.hid b1
    have hc1 : 1 ≤ c1 := by obtain ⟨A', c', hv', hr⟩ := rd_of_own hown; obtain ⟨_, _, rfl⟩ := Value.slice.inj hv'; exact hr.cap
    clear b1 hown hvg
    go_wp2_with fail
    exact bodyPost_ret (v := .tuple #[.int .i64 v, .int .i64 0]) (by simp [results, Try.results11, go_sem]) rfl ⟨rfl, H1.out⟩
  · have h9 : oneV xs = (0, 20) := by unfold oneV; rw [hm, if_neg h1]
    rw [h9]
    have HM := Lib.hid hm
    clear hm h9
    go_enter Try.func11, Try.ntmps11
    go_wp2_with fail
    refine HV.out.mono ?_
    rintro e w1 ⟨A1, c1, rfl, hown, b1⟩
    rw [HM.out] at hown ⊢
    have H1 := Lib.hid b1
    clear b1 hown
    go_wp2_with fail
    exact bodyPost_ret (v := .tuple #[.int .i64 0, .int .i64 20]) (by simp [results, Try.results11, go_sem]) rfl ⟨rfl, H1.out⟩
theorem refOne_some (i0 : Nat) (hF : Found l tag i0) : Calls Try.prog 12 #[.slice A n c, .int .i64 tag] w (OneY (oneV (l.getD i0 fd0).xs) w) := by
  have HV := Lib.hid (refVals_some A n c l tag w hx i0 hF)
  obtain ⟨b, off, rfl, hbs, _, _, _, hil⟩ := hx.at_ i0 (by rw [← hx.len]; exact hF.1)
  obtain ⟨t, k, fA, fn, fc, fx, hf⟩ : ∃ t k fA fn fc fx, l.getD i0 fd0 = ⟨t, k, fA, fn, fc, fx⟩ := ⟨_, _, _, _, _, _, rfl⟩
  rw [hf] at HV hil ⊢
  simp only at hil ⊢
  unfold RefVals at HV
  simp only at HV
  have hcap := hil.cap
  have hmx := hil.max
  unfold maxLen at hmx
  have HI := Lib.hid hil
  clear hx hF hf hil
  by_cases h1 : fn = 1
  · obtain ⟨v, hv⟩ : ∃ v, fx.getD 0 0 = v := ⟨_, rfl⟩
    have h9 : oneV fx = (v, 0) := by unfold oneV; rw [HI.out.len, if_pos h1, hv]
    rw [h9]
    have HM := Lib.hid hv
    subst h1
    clear hv h9
    go_enter Try.func12, Try.ntmps12
    go_wp2_with fail
    refine HV.out.mono ?_
    rintro e w1 ⟨rfl, b1⟩
    obtain ⟨bf, of, rfl, _, hc⟩ := (HI.out.on b1).at_ (by omega)
    have d0 := hc 0 (by omega)
    rw [HM.out, Nat.add_zero] at d0
    have H1 := Lib.hid b1
    clear b1 hc
    go_wp2_with fail
    exact bodyPost_ret (v := .tuple #[.int .i64 v, .int .i64 0]) (by simp [results, Try.results12, go_sem]) rfl ⟨rfl, H1.out⟩
  · have h9 : oneV fx = (0, 20) := by unfold oneV; rw [HI.out.len, if_neg h1]
    rw [h9]
    clear h9
    go_enter Try.func12, Try.ntmps12
    go_wp2_with fail
    refine HV.out.mono ?_
    rintro e w1 ⟨rfl, b1⟩
    have H1 := Lib.hid b1
    clear b1
    go_wp2_with fail
    exact bodyPost_ret (v := .tuple #[.int .i64 0, .int .i64 20]) (by simp [results, Try.results12, go_sem]) rfl ⟨rfl, H1.out⟩
end
end Go.Proofs.Ytnakfdaneejcfaa
