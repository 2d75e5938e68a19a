/-
  The contracts of a cursor's Number.
-/
import Derived.Test.YtnakfdaneejcfaaCNum
import Derived.Deep.RegionWith
import Derived.RegionDies
namespace Go.Proofs.Ytnakfdaneejcfaa
open Go.RowKit

theorem number_val (big : Bool) (A : Option Addr) (K : Nat → Prop) (l : List Int) (v : Int) (m c : Nat) (w : World) (hm : m ≤ 8) (h0 : 0 < m) (el : l.length = m) (ev : val big l = v) (h : Bts w K A l) :
    Calls Try.prog 50 #[.slice A m c, .bool big] w fun r w' => r = .returned (.int .u64 v) ∧ w = w' := by
  subst el
  subst ev
  obtain ⟨b, off, rfl, _, _, hc⟩ := h.at_ h0
  cases big
  · exact number_little b off c l w hm h.fit hc
  · exact number_big b off c l w hm h.fit hc

section
variable (w : World) (g s : Nat) (A : Option Addr) (n c : Nat) (big : Bool) (at_ : Nat)

set_option maxHeartbeats 400000 in
theorem number_arg (m : Int) (h : Cur w g s A n c big at_) (hm : decide (m = 1 ∨ m = 2 ∨ m = 4 ∨ m = 8) = false) :
    Calls Try.prog 31 #[.pointer (some ⟨g, 0, none⟩), .int .i64 m] w fun r w' => r = .panicked (gaveUp s 1) ∧ w = w' := by
  have H := Lib.hid h
  have c0 := h.c0
  have s2 := h.s2
  have HI := Lib.hid (isSize_any m w)
  have HM := Lib.hid hm
  clear h hm
  go_enter Try.func31, Try.ntmps31
  go_wp2_with (first
    | (go_at_call 48; refine (reads_is g s true _ c0 s2).mono ?_; rintro r w' ⟨rfl, rfl⟩)
    | (go_at_call 43; refine HI.out.mono ?_; rw [HM.out]; rintro r w' ⟨rfl, rfl⟩)
    | (go_at_call 47; refine (fail_up _ g s A n c big at_ _ H.out (by decide)).mono ?_; rintro r w' ⟨rfl, rfl⟩))
  exact ⟨rfl, rfl, rfl⟩

set_option maxHeartbeats 400000 in
theorem number_short (m : Int) (h : Cur w g s A n c big at_) (hm : decide (m = 1 ∨ m = 2 ∨ m = 4 ∨ m = 8) = true) (hat : at_ ≤ n) (hn : n ≤ 9223372036854775807) (hs : ((n - at_ : Nat) : Int) < m) :
    Calls Try.prog 31 #[.pointer (some ⟨g, 0, none⟩), .int .i64 m] w fun r w' => r = .panicked (gaveUp s 3) ∧ ∃ k, w' = w.drewN k := by
  have H := Lib.hid h
  have c0 := h.c0
  have s1 := h.s1
  have s2 := h.s2
  have HI := Lib.hid (isSize_any m w)
  have HM := Lib.hid hm
  clear h hm
  go_enter Try.func31, Try.ntmps31
  go_wp2_with (first
    | (go_at_call 48; refine (reads_is g s true _ c0 s2).mono ?_; rintro r w' ⟨rfl, rfl⟩)
    | (go_at_call 43; refine HI.out.mono ?_; rw [HM.out]; rintro r w' ⟨rfl, rfl⟩))
  go_region_dies
  all_goals
    refine (next_up _ g s A n c big at_ m ?_ hat hn hs).mono ?_
    · exact ⟨H.out.own, H.out.src⟩
    rintro r w' ⟨rfl, k, rfl⟩
    exact ⟨rfl, rfl, ⟨_, drew_drewN w k⟩⟩

set_option maxHeartbeats 400000 in
theorem number_ok (m : Nat) (l : List Int) (K : Nat → Prop) (v : Int) (h : Cur w g s A n c big at_) (hm : decide ((m : Int) = 1 ∨ (m : Int) = 2 ∨ (m : Int) = 4 ∨ (m : Int) = 8) = true) (hat : at_ + m ≤ n) (hc : n ≤ c) (hn : c ≤ 9223372036854775807)
    (hl : l.length = n) (hb : Bts w K A l) (ev : val big ((l.drop at_).take m) = v) (hv : v ≤ 9223372036854775807) :
    Calls Try.prog 31 #[.pointer (some ⟨g, 0, none⟩), .int .i64 m] w fun r w' => r = .returned (.int .i64 v) ∧ ∃ k, w' = (w.drewN k).setCell ⟨g, 1, none⟩ (.int .i64 ((at_ + m : Nat) : Int)) := by
  have H := Lib.hid h
  have c0 := h.c0
  have s1 := h.s1
  have s2 := h.s2
  have HI := Lib.hid (isSize_any m w)
  have HM := Lib.hid hm
  have c1 := h.c1
  have f1 := h.own.free 1
  have v0 : 0 ≤ v := by rw [← ev]; exact (val_bounds big _ ((hb.fit.drop at_).take m)).1
  have HV := Lib.hid ev
  have HL := Lib.hid hl
  have HB := Lib.hid hb
  have hm8 : m ≤ 8 := by have := of_decide_eq_true hm; omega
  have hm0 : 0 < m := by have := of_decide_eq_true hm; omega
  clear h hm ev hl hb
  go_enter Try.func31, Try.ntmps31
  go_wp2_with (first
    | (go_at_call 48; refine (reads_is g s true _ c0 s2).mono ?_; rintro r w' ⟨rfl, rfl⟩)
    | (go_at_call 43; refine HI.out.mono ?_; rw [HM.out]; rintro r w' ⟨rfl, rfl⟩))
  go_quiet ((first
    | (go_at_call 49; refine Calls.quiet_of (next_is _ g s A n c big at_ m ?_ hat hc hn); exact ⟨H.out.own, H.out.src⟩)
    | (go_at_call 50; refine Calls.quiet_of_same ((number_val big _ K ((l.drop at_).take m) v m _ _ hm8 hm0 ?_ HV.out ?_).mono (fun _ _ h => ⟨h.1, h.2.symm⟩)); (rw [List.length_take, List.length_drop]; have := HL.out; omega); exact (HB.out.drewN _).cut (by rw [HL.out]; exact hat) (by rw [HL.out]; exact hc))))
  go_wp2
  go_ret
  exact ⟨rfl, ⟨_, rfl⟩⟩

set_option maxHeartbeats 400000 in
theorem number_range (m : Nat) (l : List Int) (K : Nat → Prop) (v : Int) (h : Cur w g s A n c big at_) (hm : decide ((m : Int) = 1 ∨ (m : Int) = 2 ∨ (m : Int) = 4 ∨ (m : Int) = 8) = true) (hat : at_ + m ≤ n) (hc : n ≤ c) (hn : c ≤ 9223372036854775807)
    (hl : l.length = n) (hb : Bts w K A l) (ev : val big ((l.drop at_).take m) = v) (hv : 9223372036854775807 < v) :
    Calls Try.prog 31 #[.pointer (some ⟨g, 0, none⟩), .int .i64 m] w fun r w' => r = .panicked (gaveUp s 2) ∧ ∃ k, w' = w.drewN k := by
  have H := Lib.hid h
  have c0 := h.c0
  have s1 := h.s1
  have s2 := h.s2
  have HI := Lib.hid (isSize_any m w)
  have HM := Lib.hid hm
  have HV := Lib.hid ev
  have HL := Lib.hid hl
  have HB := Lib.hid hb
  have hm8 : m ≤ 8 := by have := of_decide_eq_true hm; omega
  have hm0 : 0 < m := by have := of_decide_eq_true hm; omega
  clear h hm ev hl hb
  go_enter Try.func31, Try.ntmps31
  go_wp2_with (first
    | (go_at_call 48; refine (reads_is g s true _ c0 s2).mono ?_; rintro r w' ⟨rfl, rfl⟩)
    | (go_at_call 43; refine HI.out.mono ?_; rw [HM.out]; rintro r w' ⟨rfl, rfl⟩))
  go_quiet ((first
    | (go_at_call 49; refine Calls.quiet_of (next_is _ g s A n c big at_ m ?_ hat hc hn); exact ⟨H.out.own, H.out.src⟩)
    | (go_at_call 50; refine Calls.quiet_of_same ((number_val big _ K ((l.drop at_).take m) v m _ _ hm8 hm0 ?_ HV.out ?_).mono (fun _ _ h => ⟨h.1, h.2.symm⟩)); (rw [List.length_take, List.length_drop]; have := HL.out; omega); exact (HB.out.drewN _).cut (by rw [HL.out]; exact hat) (by rw [HL.out]; exact hc))))
  go_wp2_with (go_at_call 47; refine (fail_up _ g s A n c big at_ _ (H.out.drewN _) (by decide)).mono ?_; rintro r w' ⟨rfl, rfl⟩)
  exact ⟨rfl, rfl, ⟨_, rfl⟩⟩

end

end Go.Proofs.Ytnakfdaneejcfaa
