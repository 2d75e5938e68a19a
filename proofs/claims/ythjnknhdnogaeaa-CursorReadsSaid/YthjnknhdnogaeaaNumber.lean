/-
  The contracts of a cursor's Number.
-/
import Derived.Test.YthjnknhdnogaeaaNum
import Derived.Deep.RegionWith
import Derived.RegionDies
namespace Go.Proofs.Ythjnknhdnogaeaa
open Go.RowKit

/-- a slice's address A leads to the bytes l; their block is one of K's -/
structure Bts (w : World) (K : Nat → Prop) (A : Option Addr) (l : List Int) : Prop where
  fit : Fit l
  at_ : 0 < l.length → ∃ b off, A = some ⟨b, off, none⟩ ∧ b < w.heap.size ∧ K b ∧ ∀ i, i < l.length → w.cell? ⟨b, off + i, none⟩ = some (.int .u8 (l.getD i 0))

theorem Bts.drewN {w : World} {K : Nat → Prop} {A : Option Addr} {l : List Int} (h : Bts w K A l) (n : Nat) : Bts (w.drewN n) K A l := ⟨h.fit, h.at_⟩
theorem Bts.kept {S : Nat → Prop} {w w' : World} {K : Nat → Prop} {A : Option Addr} {l : List Int} (h : Bts w K A l) (k : Kept S w w') (hS : ∀ b, K b → ¬ S b) : Bts w' K A l :=
  ⟨h.fit, fun h0 => by
    obtain ⟨b, off, e, hb, hk, hc⟩ := h.at_ h0
    exact ⟨b, off, e, Nat.lt_of_lt_of_le hb k.size, hk, fun i hi => (k.cell (p := ⟨b, off + i, none⟩) hb (hS b hk)).trans (hc i hi)⟩⟩
theorem Bts.cut {w : World} {K : Nat → Prop} {A : Option Addr} {l : List Int} {c k m : Nat} (h : Bts w K A l) (hk : k + m ≤ l.length) (hc : l.length ≤ c) : Bts w K (cutAt A c k) ((l.drop k).take m) := by
  refine ⟨(h.fit.drop k).take m, fun h0 => ?_⟩
  rw [List.length_take, List.length_drop] at h0
  obtain ⟨b, off, e, hb, hK, hcell⟩ := h.at_ (by omega)
  subst e
  refine ⟨b, off + k, ?_, hb, hK, fun i hi => ?_⟩
  · unfold cutAt
    rw [if_neg (by omega)]
    simp [Addr.add]
  · rw [List.length_take, List.length_drop] at hi
    rw [Nat.add_assoc, hcell (k + i) (by omega)]
    congr 2
    simp only [List.getD_eq_getElem?_getD]
    rw [List.getElem?_take_of_lt (by omega), List.getElem?_drop]

theorem drew_drewN (w : World) (k : Nat) : w.drew.drewN k = w.drewN (1 + k) := by rw [← World.drewN_drewN]; rfl

theorem number_val (big : Bool) (A : Option Addr) (K : Nat → Prop) (l : List Int) (v : Int) (m c : Nat) (w : World) (hm : m ≤ 8) (h0 : 0 < m) (el : l.length = m) (ev : val big l = v) (h : Bts w K A l) :
    Calls Try.prog 47 #[.slice A m c, .bool big] w fun r w' => r = .returned (.int .u64 v) ∧ w = w' := by
  subst el
  subst ev
  obtain ⟨b, off, rfl, _, _, hc⟩ := h.at_ h0
  cases big
  · exact number_little b off c l w hm h.fit hc
  · exact number_big b off c l w hm h.fit hc

section
variable (w : World) (g s : Nat) (A : Option Addr) (n c : Nat) (big : Bool) (at_ : Nat)

set_option maxHeartbeats 400000 in
theorem number_arg (m : Int) (h : Cur w g s A n c big at_) (hm : decide (m = 1 ∨ m = 2 ∨ m = 4 ∨ m = 8) = false) :
    Calls Try.prog 24 #[.pointer (some ⟨g, 0, none⟩), .int .i64 m] w fun r w' => r = .panicked (gaveUp s 1) ∧ w = w' := by
  have H := Lib.hid h
  have c0 := h.c0
  have s2 := h.s2
  have HI := Lib.hid (isSize_any m w)
  have HM := Lib.hid hm
  clear h hm
  go_enter Try.func24, Try.ntmps24
  go_wp2_with (first
    | (go_at_call 45; refine (reads_is g s true _ c0 s2).mono ?_; rintro r w' ⟨rfl, rfl⟩)
    | (go_at_call 34; refine HI.out.mono ?_; rw [HM.out]; rintro r w' ⟨rfl, rfl⟩)
    | (go_at_call 20; refine (fail_up _ g s A n c big at_ _ H.out (by decide)).mono ?_; rintro r w' ⟨rfl, rfl⟩))
  exact ⟨rfl, rfl, rfl⟩

set_option maxHeartbeats 400000 in
theorem number_short (m : Int) (h : Cur w g s A n c big at_) (hm : decide (m = 1 ∨ m = 2 ∨ m = 4 ∨ m = 8) = true) (hat : at_ ≤ n) (hn : n ≤ 9223372036854775807) (hs : ((n - at_ : Nat) : Int) < m) :
    Calls Try.prog 24 #[.pointer (some ⟨g, 0, none⟩), .int .i64 m] w fun r w' => r = .panicked (gaveUp s 3) ∧ ∃ k, w' = w.drewN k := by
  have H := Lib.hid h
  have c0 := h.c0
  have s1 := h.s1
  have s2 := h.s2
  have HI := Lib.hid (isSize_any m w)
  have HM := Lib.hid hm
  clear h hm
  go_enter Try.func24, Try.ntmps24
  go_wp2_with (first
    | (go_at_call 45; refine (reads_is g s true _ c0 s2).mono ?_; rintro r w' ⟨rfl, rfl⟩)
    | (go_at_call 34; refine HI.out.mono ?_; rw [HM.out]; rintro r w' ⟨rfl, rfl⟩))
  go_region_dies
  all_goals
    refine (next_up _ g s A n c big at_ m ?_ hat hn hs).mono ?_
    · exact ⟨H.out.own, H.out.src⟩
    rintro r w' ⟨rfl, k, rfl⟩
    exact ⟨rfl, rfl, ⟨_, drew_drewN w k⟩⟩

set_option maxHeartbeats 400000 in
theorem number_ok (m : Nat) (l : List Int) (K : Nat → Prop) (v : Int) (h : Cur w g s A n c big at_) (hm : decide ((m : Int) = 1 ∨ (m : Int) = 2 ∨ (m : Int) = 4 ∨ (m : Int) = 8) = true) (hat : at_ + m ≤ n) (hc : n ≤ c) (hn : c ≤ 9223372036854775807)
    (hl : l.length = n) (hb : Bts w K A l) (ev : val big ((l.drop at_).take m) = v) (hv : v ≤ 9223372036854775807) :
    Calls Try.prog 24 #[.pointer (some ⟨g, 0, none⟩), .int .i64 m] w fun r w' => r = .returned (.int .i64 v) ∧ ∃ k, w' = (w.drewN k).setCell ⟨g, 1, none⟩ (.int .i64 ((at_ + m : Nat) : Int)) := by
  have H := Lib.hid h
  have c0 := h.c0
  have s1 := h.s1
  have s2 := h.s2
  have HI := Lib.hid (isSize_any m w)
  have HM := Lib.hid hm
  have c1 := h.c1
  have f1 := h.own.free 1
  have v0 : 0 ≤ v := by rw [← ev]; exact (val_bounds big _ ((hb.fit.drop at_).take m)).1
  have HV := Lib.hid ev
  have HL := Lib.hid hl
  have HB := Lib.hid hb
  have hm8 : m ≤ 8 := by have := of_decide_eq_true hm; omega
  have hm0 : 0 < m := by have := of_decide_eq_true hm; omega
  clear h hm ev hl hb
  go_enter Try.func24, Try.ntmps24
  go_wp2_with (first
    | (go_at_call 45; refine (reads_is g s true _ c0 s2).mono ?_; rintro r w' ⟨rfl, rfl⟩)
    | (go_at_call 34; refine HI.out.mono ?_; rw [HM.out]; rintro r w' ⟨rfl, rfl⟩))
  go_quiet ((first
    | (go_at_call 46; refine Calls.quiet_of (next_is _ g s A n c big at_ m ?_ hat hc hn); exact ⟨H.out.own, H.out.src⟩)
    | (go_at_call 47; refine Calls.quiet_of_same ((number_val big _ K ((l.drop at_).take m) v m _ _ hm8 hm0 ?_ HV.out ?_).mono (fun _ _ h => ⟨h.1, h.2.symm⟩)); (rw [List.length_take, List.length_drop]; have := HL.out; omega); exact (HB.out.drewN _).cut (by rw [HL.out]; exact hat) (by rw [HL.out]; exact hc))))
  go_wp2
  go_ret
  exact ⟨rfl, ⟨_, rfl⟩⟩

set_option maxHeartbeats 400000 in
theorem number_range (m : Nat) (l : List Int) (K : Nat → Prop) (v : Int) (h : Cur w g s A n c big at_) (hm : decide ((m : Int) = 1 ∨ (m : Int) = 2 ∨ (m : Int) = 4 ∨ (m : Int) = 8) = true) (hat : at_ + m ≤ n) (hc : n ≤ c) (hn : c ≤ 9223372036854775807)
    (hl : l.length = n) (hb : Bts w K A l) (ev : val big ((l.drop at_).take m) = v) (hv : 9223372036854775807 < v) :
    Calls Try.prog 24 #[.pointer (some ⟨g, 0, none⟩), .int .i64 m] w fun r w' => r = .panicked (gaveUp s 2) ∧ ∃ k, w' = w.drewN k := by
  have H := Lib.hid h
  have c0 := h.c0
  have s1 := h.s1
  have s2 := h.s2
  have HI := Lib.hid (isSize_any m w)
  have HM := Lib.hid hm
  have HV := Lib.hid ev
  have HL := Lib.hid hl
  have HB := Lib.hid hb
  have hm8 : m ≤ 8 := by have := of_decide_eq_true hm; omega
  have hm0 : 0 < m := by have := of_decide_eq_true hm; omega
  clear h hm ev hl hb
  go_enter Try.func24, Try.ntmps24
  go_wp2_with (first
    | (go_at_call 45; refine (reads_is g s true _ c0 s2).mono ?_; rintro r w' ⟨rfl, rfl⟩)
    | (go_at_call 34; refine HI.out.mono ?_; rw [HM.out]; rintro r w' ⟨rfl, rfl⟩))
  go_quiet ((first
    | (go_at_call 46; refine Calls.quiet_of (next_is _ g s A n c big at_ m ?_ hat hc hn); exact ⟨H.out.own, H.out.src⟩)
    | (go_at_call 47; refine Calls.quiet_of_same ((number_val big _ K ((l.drop at_).take m) v m _ _ hm8 hm0 ?_ HV.out ?_).mono (fun _ _ h => ⟨h.1, h.2.symm⟩)); (rw [List.length_take, List.length_drop]; have := HL.out; omega); exact (HB.out.drewN _).cut (by rw [HL.out]; exact hat) (by rw [HL.out]; exact hc))))
  go_wp2_with (go_at_call 20; refine (fail_up _ g s A n c big at_ _ (H.out.drewN _) (by decide)).mono ?_; rintro r w' ⟨rfl, rfl⟩)
  exact ⟨rfl, rfl, ⟨_, rfl⟩⟩

set_option maxHeartbeats 400000 in
theorem end_more (h : Cur w g s A n c big at_) (hat : at_ < n) (hn : n ≤ 9223372036854775807) :
    Calls Try.prog 23 #[.pointer (some ⟨g, 0, none⟩)] w fun r w' => r = .panicked (gaveUp s 5) ∧ ∃ k, w' = w.drewN k := by
  have H := Lib.hid h
  clear h
  go_enter Try.func23, Try.ntmps23
  go_wp2_with (first
    | (go_at_call 18; refine (left_is _ g s A n c big at_ H.out (by omega) hn).mono ?_; rintro r w' ⟨rfl, k, rfl⟩; have h2 := H.out.drewN k)
    | (go_at_call 20; refine (fail_up _ g s A n c big at_ _ h2 (by decide)).mono ?_; rintro r w' ⟨rfl, rfl⟩))
  exact ⟨rfl, rfl, ⟨_, rfl⟩⟩

set_option maxHeartbeats 400000 in
theorem end_ok (h : Cur w g s A n c big n) (hn : n ≤ 9223372036854775807) :
    Calls Try.prog 23 #[.pointer (some ⟨g, 0, none⟩)] w fun r w' => r = .returned (.tuple #[]) ∧ ∃ k, w' = w.drewN k := by
  have H := Lib.hid h
  clear h
  go_enter Try.func23, Try.ntmps23
  go_wp2_with (go_at_call 18; refine (left_is _ g s A n c big n H.out (by omega) hn).mono ?_; rintro r w' ⟨rfl, k, rfl⟩)
  all_goals go_end0
  exact ⟨rfl, ⟨_, rfl⟩⟩

set_option maxHeartbeats 400000 in
theorem seek_up (m : Int) (h : Cur w g s A n c big at_) (hm : m < 0 ∨ (n : Int) < m) :
    Calls Try.prog 22 #[.pointer (some ⟨g, 0, none⟩), .int .i64 m] w fun r w' => r = .panicked (gaveUp s 2) ∧ w = w' := by
  have H := Lib.hid h
  have c0 := h.c0
  have s0 := h.s0
  have s2 := h.s2
  clear h
  by_cases h0 : m < 0
  · clear hm
    go_enter Try.func22, Try.ntmps22
    go_wp2_with (first
      | (go_at_call 45; refine (reads_is g s true _ c0 s2).mono ?_; rintro r w' ⟨rfl, rfl⟩)
      | (go_at_call 20; refine (fail_up _ g s A n c big at_ _ H.out (by decide)).mono ?_; rintro r w' ⟨rfl, rfl⟩))
    exact ⟨rfl, rfl, rfl⟩
  · have h1 : (n : Int) < m := by omega
    clear hm
    go_enter Try.func22, Try.ntmps22
    go_wp2_with (first
      | (go_at_call 45; refine (reads_is g s true _ c0 s2).mono ?_; rintro r w' ⟨rfl, rfl⟩)
      | (go_at_call 20; refine (fail_up _ g s A n c big at_ _ H.out (by decide)).mono ?_; rintro r w' ⟨rfl, rfl⟩))
    exact ⟨rfl, rfl, rfl⟩

set_option maxHeartbeats 400000 in
theorem seek_ok (m : Int) (h : Cur w g s A n c big at_) (h0 : 0 ≤ m) (h1 : m ≤ (n : Int)) :
    Calls Try.prog 22 #[.pointer (some ⟨g, 0, none⟩), .int .i64 m] w fun r w' => r = .returned (.tuple #[]) ∧ w.setCell ⟨g, 1, none⟩ (.int .i64 m) = w' := by
  have c0 := h.c0
  have c1 := h.c1
  have s0 := h.s0
  have s2 := h.s2
  have f1 := h.own.free 1
  clear h
  go_enter Try.func22, Try.ntmps22
  go_wp2_with (go_at_call 45; refine (reads_is g s true _ c0 s2).mono ?_; rintro r w' ⟨rfl, rfl⟩)
  all_goals go_end0
  exact ⟨rfl, rfl⟩
end

end Go.Proofs.Ythjnknhdnogaeaa
