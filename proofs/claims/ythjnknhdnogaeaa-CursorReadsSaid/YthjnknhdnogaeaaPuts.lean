/-
  CursorPuts: the walk.
-/
import Derived.Test.YthjnknhdnogaeaaRefPut
namespace Go.Proofs.Ythjnknhdnogaeaa
open Go.RowKit

theorem Sl.drew {w : World} {K : Nat → Prop} {A : Option Addr} {n c : Nat} {l : List Int} (h : Sl w K A n c l) : Sl w.drew K A n c l := ⟨⟨h.bts.fit, h.bts.at_⟩, h.len, h.cap, h.max, h.nil⟩

theorem sl_str {w : World} {K : Nat → Prop} {A : Option Addr} {n c : Nat} {l : List Int} (h : Sl w K A n c l) : (convert 22 9 (.slice A n c)).run Try.prog w = .ok (.string (strOfNums l)) w := by
  by_cases h0 : 0 < l.length
  · obtain ⟨b, off, e, _, _, hc⟩ := h.bts.at_ h0
    subst e
    exact run_convert_bytes_arg w 22 5 Try.underlying22 Try.underlying5 b off n c l h.len (fun i hi => hc i (by rw [h.len]; exact hi)) 9 Try.underlying9
  · have hl : l = [] := List.eq_nil_of_length_eq_zero (by omega)
    subst hl
    obtain rfl : n = 0 := by have := h.len; simpa using this.symm
    cases A with
    | none => exact run_convert_bytes_nil w 22 5 Try.underlying22 Try.underlying5 0 c 9 Try.underlying9
    | some ad =>
      rw [run_convert_bytes_string w 22 9 5 _ 0 c Try.underlying22 Try.underlying5 Try.underlying9]
      exact run_bytesToString w ad 0 c [] (by simp [loadCells, loadCellsFrom])

theorem below4 {w w1 w2 w3 w4 : World} (a : Below w.heap.size w w1) (b : Below w1.drew.heap.size w1.drew w2) (c : Below w2.heap.size w2 w3) (d : Below w3.heap.size w3 w4) : Below w.heap.size w w4 := by
  have s1 : w.heap.size ≤ w1.drew.heap.size := a.size
  have s2 : w.heap.size ≤ w2.heap.size := Nat.le_trans s1 b.size
  have s3 : w.heap.size ≤ w3.heap.size := Nat.le_trans s2 c.size
  exact ((a.drew.trans (b.mono s1)).trans (c.mono s2)).trans (d.mono s3)

set_option maxHeartbeats 1000000 in
theorem puts_any (w : World) (K : Nat → Prop) (A : Option Addr) (n c : Nat) (l : List Int) (v m : Int) (big : Bool) (h : Sl w K A n c l) (hv : v ≤ 9223372036854775807) :
    Calls Try.prog 3 #[.slice A n c, .int .i64 v, .int .i64 m, .bool big] w fun e w' => e = .returned (.bool true) ∧ Below w.heap.size w w' := by
  by_cases hn : n ≤ 4000
  · have H := Lib.hid (h.mono (K' := fun b => b < w.heap.size) (fun _ hb _ => hb))
    have hn2 : ¬ (4000 : Int) < (n : Int) := by omega
    clear h
    go_enter Try.func3, Try.ntmps3
    go_wp2_with fail
    refine (own_any w _ A n c l H.out (by omega)).mono ?_
    rintro e w1 ⟨A1, c1, rfl, s1, b1⟩
    have HA := Lib.hid (And.intro s1 (And.intro (H.out.below b1 (fun _ _ h => h)) b1))
    clear s1 b1
    obtain ⟨S, hS⟩ : ∃ S, S = strOfNums (l ++ told (max v 0) (width m) big) := ⟨_, rfl⟩
    obtain ⟨T, hT⟩ : ∃ T, T = strOfNums l := ⟨_, rfl⟩
    obtain ⟨N2, hN2⟩ : ∃ N2, N2 = n + width m := ⟨_, rfl⟩
    have HP := Lib.hid (put_any w1.drew _ A1 n c1 l v m big HA.out.1.drew (by omega) hv)
    have HE := Lib.hid (And.intro hS (And.intro hT hN2))
    rw [← hN2] at HP
    clear hS hT hN2
    go_wp2_with fail
    go_region_with (first
      | (go_at_call 12
         refine HP.out.mono ?_
         rintro e w2 ⟨A2, c2, rfl, s2, b2⟩
         have HB := Lib.hid (And.intro s2 b2)
         have cv1 := sl_str s2
         rw [← HE.out.1] at cv1
         clear s2 b2)
      | (go_at_call 13
         refine (refPut_any w2 _ A n c l v m big (HA.out.2.1.drew.below HB.out.2 (fun _ h _ => h)) (by omega) hv).mono ?_
         rw [← HE.out.2.2]
         rintro e w3 ⟨A3, c3, rfl, s3, b3⟩
         have cv2 := sl_str s3
         have cv3 := sl_str (HB.out.1.below b3 (fun _ h _ => h))
         have cv4 := sl_str ((HA.out.1.drew.below HB.out.2 (fun _ h _ => h)).below b3 (fun _ h _ => h))
         have cv5 := sl_str ((HA.out.2.1.drew.below HB.out.2 (fun _ h _ => h)).below b3 (fun _ h _ => h))
         rw [← HE.out.1] at cv2 cv3
         rw [← HE.out.2.1] at cv4 cv5
         have HC := Lib.hid b3
         clear s3 b3)
      | (go_at_call 10
         refine (awake_any _).mono ?_
         rintro e w4 ⟨rfl, b4⟩
         have HD := Lib.hid b4
         clear b4))
    all_goals
      go_wp2
      go_ret
      exact ⟨rfl, below4 HA.out.2.2 HB.out.2 HC.out HD.out⟩
  · have hn2 : (4000 : Int) < (n : Int) := by omega
    clear h
    go_enter Try.func3, Try.ntmps3
    go_wp2_with fail
    refine (awake_any _).mono ?_
    rintro e w2 ⟨rfl, b2⟩
    have HC := Lib.hid b2
    clear b2
    go_wp2
    go_ret
    exact ⟨rfl, HC.out⟩

end Go.Proofs.Ythjnknhdnogaeaa
