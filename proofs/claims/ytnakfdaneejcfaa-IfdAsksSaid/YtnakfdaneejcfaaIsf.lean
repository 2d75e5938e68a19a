/-
  May a field be?
-/
import Derived.Test.YtnakfdaneejcfaaFld
namespace Go.Proofs.Ytnakfdaneejcfaa
open Go.RowKit

/-- may a field be? -/
def FieldOk (t k : Int) (xs : List Int) (big : Bool) : Prop := tyN k big ≠ 0 ∧ 0 ≤ t ∧ t ≤ 65535 ∧ 1 ≤ xs.length ∧ xs.length ≤ 2048 ∧ ∀ v ∈ xs, 0 ≤ v ∧ v ≤ topN (tyN k big)
instance (t k : Int) (xs : List Int) (big : Bool) : Decidable (FieldOk t k xs big) := by unfold FieldOk; infer_instance
theorem tyN_is {k : Int} {big : Bool} (h : tyN k big ≠ 0) : tyN k big = 1 ∨ tyN k big = 2 ∨ tyN k big = 4 ∨ tyN k big = 8 := by
  unfold tyN at h ⊢
  split <;> (try split) <;> (try split) <;> (try split) <;> simp_all
theorem getD_mem {xs : List Int} {i : Nat} (h : i < xs.length) : xs.getD i 0 ∈ xs := by
  rw [List.getD_eq_getElem?_getD, List.getElem?_eq_getElem h]
  exact List.getElem_mem h
theorem mem_getD {xs : List Int} {v : Int} (h : v ∈ xs) : ∃ i, i < xs.length ∧ xs.getD i 0 = v := by
  obtain ⟨i, hi, e⟩ := List.getElem_of_mem h
  exact ⟨i, hi, by rw [List.getD_eq_getElem?_getD, List.getElem?_eq_getElem hi]; exact e⟩
set_option maxHeartbeats 1600000 in
theorem isField_any (t k : Int) (A : Option Addr) (n c : Nat) (xs : List Int) (big : Bool) (w : World) (hx : Il w A n c xs) : Calls Try.prog 42 #[fldV t k A n c, .bool big] w fun r w' => r = .returned (.bool (decide (FieldOk t k xs big))) ∧ Below w.heap.size w w' := by
  have hmax := hx.max
  have hcap := hx.cap
  unfold maxLen at hmax
  have HE := Lib.hid (fun w' => typeSize_any k big w')
  obtain ⟨q, hq⟩ : ∃ q, tyN k big = q := ⟨_, rfl⟩
  rw [hq] at HE
  have HQ := Lib.hid (And.intro hq hx.len)
  obtain ⟨w1, hw1⟩ : ∃ w1, w.alloc (.cells #[.int .i64 t, .int .i64 k, .slice A n c] 48) = w1 := ⟨_, rfl⟩
  have k1 : Below w.heap.size w w1 := by rw [← hw1]; exact box_on _ _
  have be : Box w1 w.heap.size 48 #[.int .i64 t, .int .i64 k, .slice A n c] := by rw [← hw1]; exact Box.made _ _ _
  have q0 : w1.cell? ⟨w.heap.size, 0, none⟩ = some (.int .i64 t) := be.cell 0
  have q1 : w1.cell? ⟨w.heap.size, 1, none⟩ = some (.int .i64 k) := be.cell 1
  have q2 : w1.cell? ⟨w.heap.size, 2, none⟩ = some (.slice A n c) := be.cell 2
  have H1 := Lib.hid (And.intro k1 (hx.on k1))
  unfold fldV
  clear k1 be hq hx
  by_cases c0 : q = 0
  · subst c0
    have hr : Ending.returned (.bool false) = .returned (.bool (decide (FieldOk t k xs big))) := ret_dec ⟨(fun h => by cases h), fun h => absurd HQ.out.1 h.1⟩
    go_enter Try.func42, Try.ntmps42
    go_wp2_with (go_at_call 52; refine (HE.out _).mono ?_; rintro e w6 ⟨rfl, rfl⟩)
    go_ret
    exact ⟨hr, H1.out.1⟩
  · by_cases c1 : t < 0
    · have hr : Ending.returned (.bool false) = .returned (.bool (decide (FieldOk t k xs big))) := ret_dec ⟨(fun h => by cases h), fun h => by have := h.2.1; omega⟩
      have hq0 : ((q : Int) == 0) = false := by simp; omega
      go_enter Try.func42, Try.ntmps42
      go_wp2_with (go_at_call 52; refine (HE.out _).mono ?_; rintro e w6 ⟨rfl, rfl⟩)
      go_ret
      exact ⟨hr, H1.out.1⟩
    · by_cases c2 : 65535 < t
      · have hr : Ending.returned (.bool false) = .returned (.bool (decide (FieldOk t k xs big))) := ret_dec ⟨(fun h => by cases h), fun h => by have := h.2.2.1; omega⟩
        have hq0 : ((q : Int) == 0) = false := by simp; omega
        go_enter Try.func42, Try.ntmps42
        go_wp2_with (go_at_call 52; refine (HE.out _).mono ?_; rintro e w6 ⟨rfl, rfl⟩)
        go_ret
        exact ⟨hr, H1.out.1⟩
      · by_cases c3 : n < 1
        · have hr : Ending.returned (.bool false) = .returned (.bool (decide (FieldOk t k xs big))) := ret_dec ⟨(fun h => by cases h), fun h => by have := h.2.2.2.1; have := HQ.out.2; omega⟩
          have hq0 : ((q : Int) == 0) = false := by simp; omega
          go_enter Try.func42, Try.ntmps42
          go_wp2_with (go_at_call 52; refine (HE.out _).mono ?_; rintro e w6 ⟨rfl, rfl⟩)
          go_ret
          exact ⟨hr, H1.out.1⟩
        · by_cases c4 : 2048 < n
          · have hr : Ending.returned (.bool false) = .returned (.bool (decide (FieldOk t k xs big))) := ret_dec ⟨(fun h => by cases h), fun h => by have := h.2.2.2.2.1; have := HQ.out.2; omega⟩
            have hq0 : ((q : Int) == 0) = false := by simp; omega
            go_enter Try.func42, Try.ntmps42
            go_wp2_with (go_at_call 52; refine (HE.out _).mono ?_; rintro e w6 ⟨rfl, rfl⟩)
            go_ret
            exact ⟨hr, H1.out.1⟩
          · have hq0 : tyN k big ≠ 0 := by rw [HQ.out.1]; exact c0
            have hqs : q = 1 ∨ q = 2 ∨ q = 4 ∨ q = 8 := by have := tyN_is hq0; rw [HQ.out.1] at this; exact this
            have HG := Lib.hid (fun w' => greatest_any q hqs w')
            obtain ⟨g, hg⟩ : ∃ g, topN q = g := ⟨_, rfl⟩
            rw [hg] at HG
            have HGg := Lib.hid hg
            have hq0' : ((q : Int) == 0) = false := by simp; omega
            clear hg hq0 hqs
            go_enter Try.func42, Try.ntmps42
            go_wp2_with (go_at_call 52; refine (HE.out _).mono ?_; rintro e w6 ⟨rfl, rfl⟩)
            go_loopw [7, 39] (fun _ i wr => ∃ j : Nat, j ≤ n ∧ i = .int .i64 (j : Int) ∧ (∀ i, i < j → 0 ≤ xs.getD i 0 ∧ xs.getD i 0 ≤ g) ∧ wr = w6) (fun _ i _ => n - (intOf i).toNat)
            case atStart => exact ⟨0, by omega, rfl, fun i hi => by omega, rfl⟩
            case round =>
              obtain ⟨j, hj, rfl, hno, rfl⟩ := hrel
              have HB := Lib.hid hno
              clear hno
              by_cases hjn : j < n
              · obtain ⟨b, off, rfl, hbs, hc⟩ := H1.out.2.at_ (by omega)
                have d0 := hc j hjn
                obtain ⟨v, hv⟩ : ∃ v, xs.getD j 0 = v := ⟨_, rfl⟩
                rw [hv] at d0
                have HV := Lib.hid hv
                clear hc hv
                by_cases v0 : v < 0
                · have hr : Ending.returned (.bool false) = .returned (.bool (decide (FieldOk t k xs big))) := ret_dec (by
                    refine ⟨(fun h => by cases h), fun h => ?_⟩
                    have := (h.2.2.2.2.2 v (by rw [← HV.out]; exact getD_mem (by rw [HQ.out.2]; exact hjn))).1
                    omega)
                  go_wp2_with fail
                  go_ret
                  exact ⟨hr, H1.out.1⟩
                · by_cases v1 : g < v
                  · have hr : Ending.returned (.bool false) = .returned (.bool (decide (FieldOk t k xs big))) := ret_dec (by
                      refine ⟨(fun h => by cases h), fun h => ?_⟩
                      have := (h.2.2.2.2.2 v (by rw [← HV.out]; exact getD_mem (by rw [HQ.out.2]; exact hjn))).2
                      rw [HQ.out.1, HGg.out] at this
                      omega)
                    go_wp2_with (go_at_call 54; refine (HG.out _).mono ?_; rintro e w7 ⟨rfl, rfl⟩)
                    go_ret
                    exact ⟨hr, H1.out.1⟩
                  · have HN := Lib.hid (show ∀ i, i < j + 1 → 0 ≤ xs.getD i 0 ∧ xs.getD i 0 ≤ g from fun i hi => by
                      rcases Nat.lt_or_ge i j with h | h
                      · exact HB.out i h
                      · obtain rfl : i = j := by omega
                        rw [HV.out]; omega)
                    go_wp2_with (go_at_call 54; refine (HG.out _).mono ?_; rintro e w7 ⟨rfl, rfl⟩)
                    go_roundw
                    case rel => exact ⟨j + 1, by omega, by go_num, HN.out, trivial⟩
                    case measure => simp [intOf]; omega
              · have hr : Ending.returned (.bool true) = .returned (.bool (decide (FieldOk t k xs big))) := ret_dec (by
                  refine ⟨fun _ => ⟨by rw [HQ.out.1]; exact c0, by omega, by omega, by rw [HQ.out.2]; omega, by rw [HQ.out.2]; omega, fun v hv => ?_⟩, fun _ => rfl⟩
                  obtain ⟨i, hi, e⟩ := mem_getD hv
                  rw [HQ.out.2] at hi
                  have := HB.out i (by omega)
                  rw [e] at this
                  rw [HQ.out.1, HGg.out]
                  exact this)
                go_wp2_with fail
                go_ret
                exact ⟨hr, H1.out.1⟩
end Go.Proofs.Ytnakfdaneejcfaa
