/-
  The contract of Put.
-/
import Derived.Test.YtnakfdaneejcfaaCTold
import Derived.Laws.BytesArg
namespace Go.Proofs.Ytnakfdaneejcfaa
open Go.RowKit

theorem shift_nat (k m : Nat) (big : Bool) (j : Nat) (hj : (if big then m - 1 - k else k) = j) (w : World) (h1 : k < m) (h2 : m ≤ 8) :
    Calls Try.prog 44 #[.int .i64 k, .int .i64 m, .bool big] w fun r w' => r = .returned (.int .i64 (8 * (j : Int))) ∧ w = w' := by
  cases big
  · refine (shift_little k m w (by omega) (by omega) (by omega)).mono ?_
    rintro r w' ⟨rfl, rfl⟩
    simp only [Bool.false_eq_true, if_false] at hj
    exact ⟨ret_num (by omega), rfl⟩
  · refine (shift_big k m w (by omega) (by omega) (by omega)).mono ?_
    rintro r w' ⟨rfl, rfl⟩
    simp only [if_true] at hj
    exact ⟨ret_num (by omega), rfl⟩

/-- what stands in the new bytes when k of a number's bytes are put -/
def putting (l t : List Int) (k : Nat) : List Int := l ++ t.take k ++ List.replicate (t.length - k) 0

theorem putting_len (l t : List Int) (k : Nat) (h : k ≤ t.length) : (putting l t k).length = l.length + t.length := by
  simp [putting, List.length_take]; omega
theorem putting_step (l t : List Int) (k : Nat) (h : k < t.length) : (putting l t k).set (l.length + k) (t.getD k 0) = putting l t (k + 1) := by
  unfold putting
  rw [List.append_assoc, List.set_append_right _ _ (by omega), Nat.add_sub_cancel_left, take_more t k h, List.append_assoc]
  congr 1
  rw [List.set_append_right _ _ (by simp [List.length_take]; omega), List.append_assoc]
  congr 1
  have e : k - (t.take k).length = 0 := by simp [List.length_take]; omega
  rw [e, show t.length - k = (t.length - (k + 1)) + 1 from by omega, List.replicate_succ]
  rfl
theorem putting_end (l t : List Int) : putting l t t.length = l ++ t := by simp [putting]
theorem putting_start (l : List Int) (t : List Int) (m : Nat) (hm : t.length = m) : splice (madeCells #[.int .u8 0] (l.length + m)).toList 0 (cellsOf l) = cellsOf (putting l t 0) := by
  unfold splice putting cellsOf
  rw [toList_madeCells_one]
  simp [hm]

theorem putting_cell {w : World} {g : Nat} {l t : List Int} {n m k : Nat} (h : Box w g 5 (cellsOf (putting l t k)).toArray) (hl : l.length = n) (ht : t.length = m) (hk : k < m) : ∃ x, w.cell? ⟨g, n + k, none⟩ = some x := by
  rw [h.cell (n + k)]
  have : n + k < (cellsOf (putting l t k)).toArray.size := by
    rw [List.size_toArray, cellsOf_len, putting_len l t k (by omega)]
    omega
  exact ⟨_, Array.getElem?_eq_getElem this⟩
theorem putting_put {w : World} {g : Nat} {l t : List Int} {n m k : Nat} {z : Int} (h : Box w g 5 (cellsOf (putting l t k)).toArray) (hl : l.length = n) (ht : t.length = m) (hk : k < m) (hz : t.getD k 0 = z) :
    Box (w.setCell ⟨g, n + k, none⟩ (.int .u8 z)) g 5 (cellsOf (putting l t (k + 1))).toArray := by
  have h2 := h.put (n + k) (.int .u8 z)
  rw [set_cells, ← hz, ← hl, putting_step l t k (by omega)] at h2
  rw [← hz, ← hl]
  exact h2

/-- bytes in a block of their own, in new memory, that is full -/
def OwnB (w : World) (n : Nat) (l : List Int) (e : Ending) (w' : World) : Prop := ∃ g, e = .returned (.slice (some ⟨g, 0, none⟩) n n) ∧ w.heap.size ≤ g ∧ Box w' g 5 (cellsOf l).toArray ∧ (Fit l ∧ l.length = n ∧ n ≤ maxLen) ∧ Below w.heap.size w w'
theorem OwnB.owned {w : World} {n : Nat} {l : List Int} {e : Ending} {w' : World} (h : OwnB w n l e w') : Owned w n l e w' := by
  obtain ⟨g, rfl, hg, hb, ⟨h1, h2, h3⟩, hk⟩ := h
  exact ⟨_, _, rfl, sl_of_box hb h1 h2 h3 hg, hk⟩
set_option maxHeartbeats 400000 in
theorem put_pos (w : World) (K : Nat → Prop) (A : Option Addr) (n c : Nat) (l : List Int) (v : Int) (m : Nat) (big : Bool) (h : Sl w K A n c l) (hn : n ≤ 140737488351200) (hv : 0 ≤ v) (hv2 : v ≤ 9223372036854775807) (hm : decide ((m : Int) = 1 ∨ (m : Int) = 2 ∨ (m : Int) = 4 ∨ (m : Int) = 8) = true) :
    Calls Try.prog 24 #[.slice A n c, .int .i64 v, .int .i64 m, .bool big] w (OwnB w (n + m) (l ++ told v m big)) := by
  have hm8 : m ≤ 8 := by have := of_decide_eq_true hm; omega
  have hm0 : 0 < m := by have := of_decide_eq_true hm; omega
  have HI := Lib.hid (isSize_any m w)
  have HM := Lib.hid hm
  have hv3 : ¬ v < 0 := by omega
  have H := Lib.hid h
  have HLEN := Lib.hid h.len
  have hmk := run_make_row' (P := Try.prog) 32 5 (.int .u8 0) 1 Try.underlying32 byte_info rfl .i64 .i64 (n + m) (by omega) (by omega)
  have ec : ((n + m : Nat) : Int) = (n : Int) + (m : Int) := by omega
  rw [ec] at hmk
  clear hm h ec
  go_enter Try.func24, Try.ntmps24
  go_wp2_with (first
    | (go_at_call 43; refine HI.out.mono ?_; rw [HM.out]; rintro r w' ⟨rfl, rfl⟩)
    | ((with_reducible refine wpList_copy_splice (o := ⟨some 23, _, _, _, _, _⟩) rfl (.tmp 21) (.tmp 22) 32 32 rfl 5 Try.underlying32 byte_size (some ⟨w.heap.size, 0, none⟩) A (n + m) (n + m) n c rfl rfl w.heap.size 0 (madeCells #[.int .u8 0] (n + m)).toList 5 ?hg (cellsOf l) ?hn ?hpos ?hfit (cellsOf_one _) w.heap.size w ?hb (Nat.le_refl _) ?_)
       case hg => exact Box.made w 5 (madeCells #[.int .u8 0] (n + m))
       case hn => rw [cellsOf_len, HLEN.out]; exact (Nat.min_eq_left (Nat.le_add_right _ _)).symm
       case hpos => exact fun h0 => ⟨rfl, sl_copy H.out _ h0⟩
       case hfit => rw [cellsOf_len, HLEN.out, Array.length_toList, size_madeCells]; omega
       case hb => exact (Below.refl _ w).alloc (Nat.le_refl _) _
       intro w1 hb1 hbel
       have HB := Lib.hid (And.intro hb1 hbel)
       clear hb1 hbel hmk))
  have hstart : Box w1 w.heap.size 5 (cellsOf (putting l (told v m big) 0)).toArray := by
    have := HB.out.1.out
    rw [← HLEN.out, putting_start l (told v m big) m (told_len v m big)] at this
    exact this
  have HST := Lib.hid (And.intro hstart HB.out.2)
  clear hstart HB
  go_loopw [25] (fun i wr => ∃ k : Nat, k ≤ m ∧ i = .int .i64 k ∧ Box wr w.heap.size 5 (cellsOf (putting l (told v m big) k)).toArray ∧ Below w.heap.size w wr) (fun i _ => m - (intOf i).toNat)
  case atStart => exact ⟨0, Nat.zero_le _, rfl, HST.out⟩
  case round =>
    obtain ⟨k, hk, rfl, hbox, hbel⟩ := hrel
    by_cases hlt : k < m
    · obtain ⟨j, hj⟩ : ∃ j, (if big then m - 1 - k else k) = j := ⟨_, rfl⟩
      have hfree := hbox.free (n + k)
      obtain ⟨x, hcell⟩ : ∃ x, wr.cell? ⟨w.heap.size, n + k, none⟩ = some x := putting_cell hbox HLEN.out (told_len v m big) hlt
      have hj8 : j < 8 := by split at hj <;> omega
      have HS := Lib.hid (shift_nat k m big j hj wr hlt hm8)
      have HR := Lib.hid (And.intro hbox (And.intro hbel hj))
      clear hbox hbel hj
      go_wp2_with (go_at_call 44; refine HS.out.mono ?_; rintro r w' ⟨rfl, rfl⟩)
      go_roundw
      case rel =>
        obtain ⟨hbox, hbel, hj⟩ := HR.out
        refine ⟨k + 1, by omega, by go_num, ?_, hbel.setCell (p := ⟨w.heap.size, n + k, none⟩) (Nat.le_refl _) _⟩
        exact putting_put hbox HLEN.out (told_len v m big) hlt (by rw [told_get v m big k hlt, hj, byteAt, pow_256])
      case measure => simp [intOf]; omega
    · have HR := Lib.hid (And.intro hbox hbel)
      clear hbox hbel
      go_wp2
      go_ret
      have ek : k = m := by omega
      obtain ⟨hbox, hbel⟩ := HR.out
      rw [ek] at hbox
      have he := putting_end l (told v m big)
      rw [told_len] at he
      rw [he] at hbox
      exact ⟨_, rfl, Nat.le_refl _, hbox, ⟨H.out.bts.fit.app (told_fit v m big), by rw [List.length_append, told_len, HLEN.out], by simp only [maxLen]; omega⟩, hbel⟩

set_option maxHeartbeats 400000 in
theorem put_neg (w : World) (K : Nat → Prop) (A : Option Addr) (n c : Nat) (l : List Int) (v : Int) (m : Nat) (big : Bool) (h : Sl w K A n c l) (hn : n ≤ 140737488351200) (hv3 : v < 0) (hm : decide ((m : Int) = 1 ∨ (m : Int) = 2 ∨ (m : Int) = 4 ∨ (m : Int) = 8) = true) :
    Calls Try.prog 24 #[.slice A n c, .int .i64 v, .int .i64 m, .bool big] w (OwnB w (n + m) (l ++ told 0 m big)) := by
  have hm8 : m ≤ 8 := by have := of_decide_eq_true hm; omega
  have hm0 : 0 < m := by have := of_decide_eq_true hm; omega
  have HI := Lib.hid (isSize_any m w)
  have HM := Lib.hid hm
  have H := Lib.hid h
  have HLEN := Lib.hid h.len
  have hmk := run_make_row' (P := Try.prog) 32 5 (.int .u8 0) 1 Try.underlying32 byte_info rfl .i64 .i64 (n + m) (by omega) (by omega)
  have ec : ((n + m : Nat) : Int) = (n : Int) + (m : Int) := by omega
  rw [ec] at hmk
  clear hm h ec
  go_enter Try.func24, Try.ntmps24
  go_wp2_with (first
    | (go_at_call 43; refine HI.out.mono ?_; rw [HM.out]; rintro r w' ⟨rfl, rfl⟩)
    | ((with_reducible refine wpList_copy_splice (o := ⟨some 23, _, _, _, _, _⟩) rfl (.tmp 21) (.tmp 22) 32 32 rfl 5 Try.underlying32 byte_size (some ⟨w.heap.size, 0, none⟩) A (n + m) (n + m) n c rfl rfl w.heap.size 0 (madeCells #[.int .u8 0] (n + m)).toList 5 ?hg (cellsOf l) ?hn ?hpos ?hfit (cellsOf_one _) w.heap.size w ?hb (Nat.le_refl _) ?_)
       case hg => exact Box.made w 5 (madeCells #[.int .u8 0] (n + m))
       case hn => rw [cellsOf_len, HLEN.out]; exact (Nat.min_eq_left (Nat.le_add_right _ _)).symm
       case hpos => exact fun h0 => ⟨rfl, sl_copy H.out _ h0⟩
       case hfit => rw [cellsOf_len, HLEN.out, Array.length_toList, size_madeCells]; omega
       case hb => exact (Below.refl _ w).alloc (Nat.le_refl _) _
       intro w1 hb1 hbel
       have HB := Lib.hid (And.intro hb1 hbel)
       clear hb1 hbel hmk))
  have hstart : Box w1 w.heap.size 5 (cellsOf (putting l (told 0 m big) 0)).toArray := by
    have := HB.out.1.out
    rw [← HLEN.out, putting_start l (told 0 m big) m (told_len 0 m big)] at this
    exact this
  have HST := Lib.hid (And.intro hstart HB.out.2)
  clear hstart HB
  go_loopw [25] (fun i wr => ∃ k : Nat, k ≤ m ∧ i = .int .i64 k ∧ Box wr w.heap.size 5 (cellsOf (putting l (told 0 m big) k)).toArray ∧ Below w.heap.size w wr) (fun i _ => m - (intOf i).toNat)
  case atStart => exact ⟨0, Nat.zero_le _, rfl, HST.out⟩
  case round =>
    obtain ⟨k, hk, rfl, hbox, hbel⟩ := hrel
    by_cases hlt : k < m
    · obtain ⟨j, hj⟩ : ∃ j, (if big then m - 1 - k else k) = j := ⟨_, rfl⟩
      have hfree := hbox.free (n + k)
      obtain ⟨x, hcell⟩ : ∃ x, wr.cell? ⟨w.heap.size, n + k, none⟩ = some x := putting_cell hbox HLEN.out (told_len 0 m big) hlt
      have hj8 : j < 8 := by split at hj <;> omega
      have HS := Lib.hid (shift_nat k m big j hj wr hlt hm8)
      have HR := Lib.hid (And.intro hbox (And.intro hbel hj))
      clear hbox hbel hj
      go_wp2_with (go_at_call 44; refine HS.out.mono ?_; rintro r w' ⟨rfl, rfl⟩)
      go_roundw
      case rel =>
        obtain ⟨hbox, hbel, hj⟩ := HR.out
        refine ⟨k + 1, by omega, by go_num, ?_, hbel.setCell (p := ⟨w.heap.size, n + k, none⟩) (Nat.le_refl _) _⟩
        exact putting_put hbox HLEN.out (told_len 0 m big) hlt (by rw [told_get 0 m big k hlt]; simp [byteAt])
      case measure => simp [intOf]; omega
    · have HR := Lib.hid (And.intro hbox hbel)
      clear hbox hbel
      go_wp2
      go_ret
      have ek : k = m := by omega
      obtain ⟨hbox, hbel⟩ := HR.out
      rw [ek] at hbox
      have he := putting_end l (told 0 m big)
      rw [told_len] at he
      rw [he] at hbox
      exact ⟨_, rfl, Nat.le_refl _, hbox, ⟨H.out.bts.fit.app (told_fit 0 m big), by rw [List.length_append, told_len, HLEN.out], by simp only [maxLen]; omega⟩, hbel⟩

set_option maxHeartbeats 400000 in
theorem put_unsized (w : World) (K : Nat → Prop) (A : Option Addr) (n c : Nat) (l : List Int) (v m : Int) (big : Bool) (h : Sl w K A n c l) (hn : n ≤ 140737488351200) (hm : decide (m = 1 ∨ m = 2 ∨ m = 4 ∨ m = 8) = false) :
    Calls Try.prog 24 #[.slice A n c, .int .i64 v, .int .i64 m, .bool big] w (OwnB w n l) := by
  have HI := Lib.hid (isSize_any m w)
  have HM := Lib.hid hm
  have H := Lib.hid h
  have HLEN := Lib.hid h.len
  have hmk := run_make_row' (P := Try.prog) 32 5 (.int .u8 0) 1 Try.underlying32 byte_info rfl .i64 .i64 n (by omega) (by omega)
  clear hm h
  by_cases hv : v < 0
  all_goals
    go_enter Try.func24, Try.ntmps24
    go_wp2_with (first
      | (go_at_call 43; refine HI.out.mono ?_; rw [HM.out]; rintro r w' ⟨rfl, rfl⟩)
      | ((with_reducible refine wpList_copy_splice (o := ⟨some 23, _, _, _, _, _⟩) rfl (.tmp 21) (.tmp 22) 32 32 rfl 5 Try.underlying32 byte_size (some ⟨w.heap.size, 0, none⟩) A n n n c rfl rfl w.heap.size 0 (madeCells #[.int .u8 0] n).toList 5 ?hg (cellsOf l) ?hn ?hpos ?hfit (cellsOf_one _) w.heap.size w ?hb (Nat.le_refl _) ?_)
         case hg => exact Box.made w 5 (madeCells #[.int .u8 0] n)
         case hn => rw [cellsOf_len, HLEN.out]; exact (Nat.min_eq_left (Nat.le_refl _)).symm
         case hpos => exact fun h0 => ⟨rfl, sl_copy H.out _ h0⟩
         case hfit => rw [cellsOf_len, HLEN.out, Array.length_toList, size_madeCells]; omega
         case hb => exact (Below.refl _ w).alloc (Nat.le_refl _) _
         intro w1 hb1 hbel
         have HB := Lib.hid (And.intro hb1 hbel)
         clear hb1 hbel hmk))
    have hstart : Box w1 w.heap.size 5 (cellsOf l).toArray := by
      have := HB.out.1.out
      rw [splice_all _ _ (by rw [cellsOf_len, HLEN.out, Array.length_toList, size_madeCells]; omega)] at this
      exact this
    have HST := Lib.hid (And.intro hstart HB.out.2)
    clear hstart HB
    go_loopw [25] (fun i wr => i = .int .i64 0 ∧ w1 = wr) (fun _ _ => 0)
    case atStart => exact ⟨rfl, rfl⟩
    case round =>
      obtain ⟨rfl, rfl⟩ := hrel
      go_wp2
      go_ret
      obtain ⟨hbox, hbel⟩ := HST.out
      exact ⟨_, rfl, Nat.le_refl _, hbox, ⟨H.out.bts.fit, HLEN.out, by simp only [maxLen]; omega⟩, hbel⟩

/-- so many bytes a number is put in -/
def width (m : Int) : Nat := if m = 1 ∨ m = 2 ∨ m = 4 ∨ m = 8 then m.toNat else 0

theorem put_own (w : World) (K : Nat → Prop) (A : Option Addr) (n c : Nat) (l : List Int) (v m : Int) (big : Bool) (h : Sl w K A n c l) (hn : n ≤ 140737488351200) (hv : v ≤ 9223372036854775807) :
    Calls Try.prog 24 #[.slice A n c, .int .i64 v, .int .i64 m, .bool big] w (OwnB w (n + width m) (l ++ told (max v 0) (width m) big)) := by
  by_cases hm : m = 1 ∨ m = 2 ∨ m = 4 ∨ m = 8
  · obtain ⟨k, rfl⟩ : ∃ k : Nat, m = (k : Int) := ⟨m.toNat, by omega⟩
    have e : width (k : Int) = k := by unfold width; rw [if_pos hm]; simp
    rw [e]
    by_cases h0 : v < 0
    · rw [show max v 0 = 0 from by omega]
      exact put_neg w K A n c l v k big h hn h0 (decide_eq_true hm)
    · rw [show max v 0 = v from by omega]
      exact put_pos w K A n c l v k big h hn (by omega) hv (decide_eq_true hm)
  · have e : width m = 0 := by unfold width; rw [if_neg hm]
    rw [e, show l ++ told (max v 0) 0 big = l from by simp [told], Nat.add_zero]
    exact put_unsized w K A n c l v m big h hn (decide_eq_false hm)
theorem put_any (w : World) (K : Nat → Prop) (A : Option Addr) (n c : Nat) (l : List Int) (v m : Int) (big : Bool) (h : Sl w K A n c l) (hn : n ≤ 140737488351200) (hv : v ≤ 9223372036854775807) :
    Calls Try.prog 24 #[.slice A n c, .int .i64 v, .int .i64 m, .bool big] w (Owned w (n + width m) (l ++ told (max v 0) (width m) big)) := (put_own w K A n c l v m big h hn hv).mono fun _ _ h => h.owned
end Go.Proofs.Ytnakfdaneejcfaa
