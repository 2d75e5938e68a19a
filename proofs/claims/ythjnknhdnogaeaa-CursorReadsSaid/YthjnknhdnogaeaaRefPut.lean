/-
  The contracts of the reference's Told and Put.
-/
import Derived.Test.YthjnknhdnogaeaaRef
namespace Go.Proofs.Ythjnknhdnogaeaa
open Go.RowKit

theorem div_step (u : Int) (k : Nat) : u / (256 : Int) ^ k / 256 = u / (256 : Int) ^ (k + 1) := by
  rw [Int.pow_succ, Int.ediv_ediv_of_nonneg (Int.pow_nonneg (by omega))]
theorem div_bd (u : Int) (k : Nat) (h0 : 0 ≤ u) (h1 : u ≤ 9223372036854775807) : 0 ≤ u / (256 : Int) ^ k ∧ u / (256 : Int) ^ k ≤ 9223372036854775807 := by
  have hp : (0 : Int) < (256 : Int) ^ k := Int.pow_pos (by omega)
  exact ⟨Int.ediv_nonneg h0 (by omega), Int.le_trans (Int.ediv_le_self _ h0) h1⟩

set_option maxHeartbeats 800000 in
theorem told_any (w : World) (v : Int) (m : Nat) (big : Bool) (hm : m ≤ 8) (hv : v ≤ 9223372036854775807) :
    Calls Try.prog 37 #[.int .i64 v, .int .i64 m, .bool big] w (Owned w m (told (max v 0) m big)) := by
  obtain ⟨i0, hi0, hz0, hz1, hz2⟩ := info_parts byte_info
  obtain ⟨u, hu⟩ : ∃ u, u = max v 0 := ⟨_, rfl⟩
  have hu0 : 0 ≤ u := by omega
  have hu1 : u ≤ 9223372036854775807 := by omega
  rw [← hu]
  have HU := Lib.hid hu
  clear hu
  go_enter Try.func37, Try.ntmps37
  go_wp2
  all_goals
    go_loopw [0, 7, 8] (fun x o i wr => ∃ k : Nat, k ≤ m ∧ i = .int .i64 k ∧ x = .int .i64 (u / (256 : Int) ^ k) ∧ wr.ownsRow w.heap.size 5 1 o k (cellsOf (told u k false)) ∧ Below w.heap.size w wr) (fun _ _ i _ => m - (intOf i).toNat)
    case atStart =>
      refine ⟨0, Nat.zero_le _, rfl, ?_, World.ownsRow_nil _ _ _ _, Below.refl _ _⟩
      have e := HU.out
      rw [Int.pow_zero, Int.ediv_one]
      congr 1
      omega
    case round =>
      obtain ⟨k, hk, rfl, rfl, hown, hbel⟩ := hrel
      obtain ⟨y, hy⟩ : ∃ y, y = u / (256 : Int) ^ k := ⟨_, rfl⟩
      have hyb := div_bd u k hu0 hu1
      rw [← hy] at hyb ⊢
      have HY := Lib.hid hy
      have HR := Lib.hid (And.intro hown hbel)
      clear hy hown hbel
      by_cases hlt : k < m
      · go_wp2_with (at_builtin; refine wpList_append_own _ rfl _ _ 22 rfl w.heap.size 5 i0 (.int .u8 0) 1 1 Try.underlying22 hi0 hz0 hz1 hz2 rfl (by omega) _ k (cellsOf (told u k false)) rfl (HR.out.1.alloc _) ⟨wr.heap.size, 0, none⟩ 1 1 [.int .u8 (y % 256)] rfl rfl ?_ ?_ ?_ ?_ ?_ ?_; exact cell_one_new _ _ _; simp [Value.oneCell']; (simp only [maxLen]; omega); omega; (have := HR.out.2.size; simp; omega); intro v' w1 hown1 hgrow _; have HG := Lib.hid (And.intro hown1 hgrow); clear hown1 hgrow)
        go_roundw
        case rel =>
          obtain ⟨g1, g2⟩ := grows HG.out.1 HR.out.1 HR.out.2 HG.out.2
          refine ⟨k + 1, by omega, by go_num, by rw [← div_step, ← HY.out], ?_, g2⟩
          rw [told_more, byteAt, ← HY.out]
          exact g1
        case measure => simp [intOf]; omega
      · have ek : k = m := by omega
        obtain ⟨hown, hbel⟩ := HR.out
        rw [ek] at hown
        obtain ⟨A', c', e, hs⟩ := sl_of_own hown (told_fit u m false)
        subst e
        cases big
        · have HS := Lib.hid (And.intro hs hbel)
          clear hown hbel hs HR ek
          go_wp2
          go_ret
          exact ⟨A', c', rfl, HS.out⟩
        · have HS := Lib.hid (And.intro hs hbel)
          clear hown hbel hs HR ek
          go_wp2_with fail
          refine (back_any wr _ A' m c' _ HS.out.1 (by omega)).mono ?_
          rintro e w2 ⟨A2, c2, rfl, s2, b2⟩
          have HT := Lib.hid (And.intro s2 b2)
          clear s2 b2
          go_wp2
          go_ret
          refine ⟨A2, c2, rfl, ?_, HS.out.2.trans (HT.out.2.mono HS.out.2.size)⟩
          rw [told_rev]
          exact HT.out.1.mono (fun _ _ h => Nat.le_trans HS.out.2.size h)

theorem told_cells {w : World} {K : Nat → Prop} {A : Option Addr} {m c : Nat} {t : List Int} (h : Sl w K A m c t) (hm : 0 < m) : ∃ ad, A = some ad ∧ ∀ j v, (cellsOf t)[j]? = some v → w.cell? (ad.add j) = some v := by
  obtain ⟨b, off, e, _⟩ := h.bts.at_ (by rw [h.len]; exact hm)
  subst e
  exact ⟨_, rfl, h.bts.read⟩
theorem own_below {w w' : World} {base : Nat} {v : Value} {n : Nat} {xs : List Value} (h : w.ownsRow base 5 1 v n xs) (hb : Below w.heap.size w w') : w'.ownsRow base 5 1 v n xs :=
  h.kept (row := none) ⟨hb.os, hb.tape, hb.output, hb.size, fun i hi _ => hb.block i hi⟩ (by cases v.ownBlock <;> simp)
theorem cellsOf_app2 (l r : List Int) : cellsOf l ++ cellsOf r = cellsOf (l ++ r) := by simp [cellsOf]

/-- what an answer reads as -/
def Reads (w : World) (n : Nat) (l : List Int) (e : Ending) (w' : World) : Prop := ∃ A c, e = .returned (.slice A n c) ∧ Sl w' (fun _ => True) A n c l ∧ Below w.heap.size w w'

set_option maxHeartbeats 800000 in
theorem refPut_sized (w : World) (K : Nat → Prop) (A : Option Addr) (n c : Nat) (l : List Int) (v : Int) (m : Nat) (big : Bool) (h : Sl w K A n c l) (hn : n ≤ 140737488351200) (hv : v ≤ 9223372036854775807) (hm : decide ((m : Int) = 1 ∨ (m : Int) = 2 ∨ (m : Int) = 4 ∨ (m : Int) = 8) = true) :
    Calls Try.prog 13 #[.slice A n c, .int .i64 v, .int .i64 m, .bool big] w (Reads w (n + m) (l ++ told (max v 0) m big)) := by
  obtain ⟨i0, hi0, hz0, hz1, hz2⟩ := info_parts byte_info
  have hm8 : m ≤ 8 := by have := of_decide_eq_true hm; omega
  have hm0 : 0 < m := by have := of_decide_eq_true hm; omega
  have HI := Lib.hid (width_any m w)
  have HM := Lib.hid hm
  have HLEN := Lib.hid h.len
  have H := Lib.hid h
  clear hm
  obtain ⟨t, ht⟩ : ∃ t, t = told (max v 0) m big := ⟨_, rfl⟩
  rw [← ht]
  have HT := Lib.hid ht
  clear ht
  cases A with
  | none =>
    obtain rfl : c = 0 := h.nil rfl
    obtain rfl : n = 0 := by have := h.cap; omega
    have hl : l = [] := List.eq_nil_of_length_eq_zero h.len
    subst hl
    clear h
    go_enter Try.func13, Try.ntmps13
    go_wp2_with (first
      | (go_at_call 36; refine HI.out.mono ?_; rw [HM.out]; rintro r w' ⟨rfl, rfl⟩)
      | (at_builtin; refine wpList_append_own_none rfl (.tmp 13) (.tmp 14) 22 rfl w.heap.size 5 i0 1 Try.underlying22 hi0 (.slice (some ⟨w.heap.size, 0, none⟩) 0 0) 0 [] rfl (World.ownsRow_made w #[] 0 (Nat.le_refl _) (Nat.zero_le _) rfl) rfl ?_)
      | fail)
    have HO := Lib.hid (And.intro (World.ownsRow_made (base := w.heap.size) (e := 5) (size := 1) w #[] 0 (Nat.le_refl _) (Nat.zero_le _) rfl) ((Below.refl w.heap.size w).alloc (Nat.le_refl _) (.cells #[] 5)))
    refine (told_any _ v m big hm8 hv).mono ?_
    rintro e w2 ⟨A2, c2, rfl, s2, b2⟩
    rw [← HT.out] at s2
    obtain ⟨ad2, rfl, hr2⟩ := told_cells s2 hm0
    have ho2 := own_below HO.out.1 b2
    have HS := Lib.hid (And.intro s2 (And.intro b2 (And.intro hr2 ho2)))
    clear s2 b2 hr2 ho2
    go_wp2_with (at_builtin; refine wpList_append_own _ rfl (.tmp 15) (.tmp 19) 22 rfl w.heap.size 5 i0 (.int .u8 0) 1 1 Try.underlying22 hi0 hz0 hz1 hz2 rfl (by omega) (.slice (some ⟨w.heap.size, 0, none⟩) 0 0) 0 (cellsOf []) rfl HS.out.2.2.2 ad2 m c2 (cellsOf t) rfl ?_ HS.out.2.2.1 (cellsOf_one t) ?_ ?_ ?_ ?_; (rw [cellsOf_len, HS.out.1.len, Nat.mul_one]); (simp only [maxLen]; omega); omega; exact Nat.le_trans HO.out.2.size HS.out.2.1.size; intro v' w3 hown hgrow _; have HP := Lib.hid (And.intro hown hgrow); clear hown hgrow)
    go_ret
    obtain ⟨hown, hgrow⟩ := HP.out
    rw [cellsOf_app2] at hown
    obtain ⟨A3, c3, e, hs3⟩ := sl_of_own hown (H.out.bts.fit.app (by rw [HT.out]; exact told_fit _ _ _))
    subst e
    exact ⟨A3, c3, rfl, hs3.mono (fun _ _ _ => trivial), (HO.out.2.trans (HS.out.2.1.mono HO.out.2.size)).grown hgrow (Nat.le_trans HO.out.2.size HS.out.2.1.size) (fun j hj => (HS.out.2.2.2.lt j hj).1)⟩
  | some ad =>
    have hr := (h.bts.kept ((Kept.refl (fun _ => False) w).alloc (.cells #[] 5)) (fun _ _ h => h)).read
    have HR := Lib.hid hr
    clear hr h
    go_enter Try.func13, Try.ntmps13
    go_wp2_with (first
      | (go_at_call 36; refine HI.out.mono ?_; rw [HM.out]; rintro r w' ⟨rfl, rfl⟩)
      | (at_builtin; refine wpList_append_own _ rfl (.tmp 13) (.tmp 14) 22 rfl w.heap.size 5 i0 (.int .u8 0) 1 1 Try.underlying22 hi0 hz0 hz1 hz2 rfl (by omega) (.slice (some ⟨w.heap.size, 0, none⟩) 0 0) 0 [] rfl (World.ownsRow_made w #[] 0 (Nat.le_refl _) (Nat.zero_le _) rfl) ad n c (cellsOf l) rfl ?_ HR.out (cellsOf_one l) ?_ ?_ ?_ ?_; (rw [cellsOf_len, HLEN.out, Nat.mul_one]); (simp only [maxLen]; omega); omega; simp; intro v1 w1 hown hgrow _; have HQ := Lib.hid (And.intro hown hgrow); clear hown hgrow)
      | fail)
    have HO : Hid (w1.ownsRow w.heap.size 5 1 v1 n (cellsOf l) ∧ Below w.heap.size w w1) := by
      obtain ⟨hown, hgrow⟩ := HQ.out
      simp only [Nat.zero_add, List.nil_append] at hown
      exact ⟨hown, ((Below.refl _ _).alloc (Nat.le_refl _) _).grown hgrow (by simp) (by simp [Value.ownBlock])⟩
    clear HQ
    refine (told_any _ v m big hm8 hv).mono ?_
    rintro e w2 ⟨A2, c2, rfl, s2, b2⟩
    rw [← HT.out] at s2
    obtain ⟨ad2, rfl, hr2⟩ := told_cells s2 hm0
    have ho2 := own_below HO.out.1 b2
    have HS := Lib.hid (And.intro s2 (And.intro b2 (And.intro hr2 ho2)))
    clear s2 b2 hr2 ho2
    go_wp2_with (at_builtin; refine wpList_append_own _ rfl (.tmp 15) (.tmp 19) 22 rfl w.heap.size 5 i0 (.int .u8 0) 1 1 Try.underlying22 hi0 hz0 hz1 hz2 rfl (by omega) v1 n (cellsOf l) rfl HS.out.2.2.2 ad2 m c2 (cellsOf t) rfl ?_ HS.out.2.2.1 (cellsOf_one t) ?_ ?_ ?_ ?_; (rw [cellsOf_len, HS.out.1.len, Nat.mul_one]); (simp only [maxLen]; omega); omega; exact Nat.le_trans HO.out.2.size HS.out.2.1.size; intro v' w3 hown hgrow _; have HP := Lib.hid (And.intro hown hgrow); clear hown hgrow)
    go_ret
    obtain ⟨hown, hgrow⟩ := HP.out
    rw [cellsOf_app2] at hown
    obtain ⟨A3, c3, e, hs3⟩ := sl_of_own hown (H.out.bts.fit.app (by rw [HT.out]; exact told_fit _ _ _))
    subst e
    exact ⟨A3, c3, rfl, hs3.mono (fun _ _ _ => trivial), (HO.out.2.trans (HS.out.2.1.mono HO.out.2.size)).grown hgrow (Nat.le_trans HO.out.2.size HS.out.2.1.size) (fun j hj => (HS.out.2.2.2.lt j hj).1)⟩

set_option maxHeartbeats 400000 in
theorem refPut_unsized (w : World) (K : Nat → Prop) (A : Option Addr) (n c : Nat) (l : List Int) (v m : Int) (big : Bool) (h : Sl w K A n c l) (hm : decide (m = 1 ∨ m = 2 ∨ m = 4 ∨ m = 8) = false) :
    Calls Try.prog 13 #[.slice A n c, .int .i64 v, .int .i64 m, .bool big] w (Reads w n l) := by
  have HI := Lib.hid (width_any m w)
  have HM := Lib.hid hm
  have H := Lib.hid h
  clear hm h
  go_enter Try.func13, Try.ntmps13
  go_wp2_with (go_at_call 36; refine HI.out.mono ?_; rw [HM.out]; rintro r w' ⟨rfl, rfl⟩)
  go_ret
  exact ⟨A, c, rfl, H.out.mono (fun _ _ _ => trivial), Below.refl _ _⟩

theorem refPut_any (w : World) (K : Nat → Prop) (A : Option Addr) (n c : Nat) (l : List Int) (v m : Int) (big : Bool) (h : Sl w K A n c l) (hn : n ≤ 140737488351200) (hv : v ≤ 9223372036854775807) :
    Calls Try.prog 13 #[.slice A n c, .int .i64 v, .int .i64 m, .bool big] w (Reads w (n + width m) (l ++ told (max v 0) (width m) big)) := by
  by_cases hm : m = 1 ∨ m = 2 ∨ m = 4 ∨ m = 8
  · obtain ⟨k, rfl⟩ : ∃ k : Nat, m = (k : Int) := ⟨m.toNat, by omega⟩
    have e : width (k : Int) = k := by unfold width; rw [if_pos hm]; simp
    rw [e]
    exact refPut_sized w K A n c l v k big h hn hv (decide_eq_true hm)
  · have e : width m = 0 := by unfold width; rw [if_neg hm]
    rw [e, show l ++ told (max v 0) 0 big = l from by simp [told], Nat.add_zero]
    exact refPut_unsized w K A n c l v m big h (decide_eq_false hm)

end Go.Proofs.Ythjnknhdnogaeaa
