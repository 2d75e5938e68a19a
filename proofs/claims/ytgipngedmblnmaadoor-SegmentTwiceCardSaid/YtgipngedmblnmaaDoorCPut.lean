/-
  The contracts of a cursor's Skip and Bytes. The bytes of a number: plain mathematics, no program. The contract of Put.
-/
import Derived.Test.YtgipngedmblnmaaDoorCTry
import Derived.Laws.CopyOwn
import Derived.Deep.OwnRows
import Derived.Laws.BytesArg
namespace Go.Proofs.YtgipngedmblnmaaDoor
open Go.RowKit

theorem wrap_sum (a b : Nat) (h : a + b ≤ 9223372036854775807) : IntKind.i64.wrap ((a : Int) + (b : Int)) = ((a + b : Nat) : Int) := by
  rw [IntKind.wrap_i64]
  omega

theorem cur_below {w w' : World} {g s : Nat} {A : Option Addr} {n c : Nat} {big : Bool} {at_ : Nat} (h : Cur w g s A n c big at_) (hb : Below w.heap.size w w') : Cur w' g s A n c big at_ :=
  ⟨(hb.block g h.own.lt).trans h.own, (hb.block s h.src.lt).trans h.src⟩
theorem took_len {w : World} {K : Nat → Prop} {A : Option Addr} {n c : Nat} {l : List Int} {at_ m : Nat} (h : Sl w K A n c l) (hat : at_ + m ≤ n) : (cellsOf ((l.drop at_).take m)).length = Nat.min m m := by
  have := h.len
  simp [cellsOf, List.length_take, List.length_drop]
  omega
theorem took_cells {w : World} {K : Nat → Prop} {A : Option Addr} {n c : Nat} {l : List Int} {at_ m : Nat} (h : Sl w K A n c l) (hm : 0 < m) (hat : at_ + m ≤ n) (k : Nat) (o : Obj) :
    ∃ ad, cutAt A c at_ = some ad ∧ ∀ j v, (cellsOf ((l.drop at_).take m))[j]? = some v → ((w.drewN k).alloc o).cell? (ad.add j) = some v := by
  have hb := h.bts.cut (k := at_) (m := m) (c := c) (by rw [h.len]; exact hat) (by rw [h.len]; exact h.cap)
  have hb2 := hb.kept (((Kept.refl (fun _ => False) w).drewN k).alloc o) (fun _ _ h => h)
  obtain ⟨b, off, e, _⟩ := hb2.at_ (by have := h.len; simp [List.length_take, List.length_drop]; omega)
  rw [e] at hb2 ⊢
  exact ⟨_, rfl, hb2.read⟩

section
variable (w : World) (g s : Nat) (A : Option Addr) (n c : Nat) (big : Bool) (at_ : Nat)

set_option maxHeartbeats 400000 in
theorem skip_none (m : Int) (h : Cur w g s A n c big at_) (hm : m < 1) :
    Calls Tryd.prog 82 #[.pointer (some ⟨g, 0, none⟩), .int .i64 m] w fun r w' => r = .returned (.tuple #[]) ∧ w = w' := by
  have c0 := h.c0
  have s2 := h.s2
  clear h
  go_enter Tryd.func82, Tryd.ntmps82
  go_wp2_with (go_at_call 56; refine (reads_is g s true _ c0 s2).mono ?_; rintro r w' ⟨rfl, rfl⟩)
  refine bodyPost_ret (results_none rfl _ _ _) rfl ?_
  exact ⟨rfl, rfl⟩

set_option maxHeartbeats 400000 in
theorem skip_short (m : Int) (h : Cur w g s A n c big at_) (hat : at_ ≤ n) (hn : n ≤ 9223372036854775807) (h1 : 1 ≤ m) (hs : ((n - at_ : Nat) : Int) < m) :
    Calls Tryd.prog 82 #[.pointer (some ⟨g, 0, none⟩), .int .i64 m] w fun r w' => r = .panicked (gaveUp s 3) ∧ ∃ k, w' = w.drewN k := by
  have c0 := h.c0
  have c1 := h.c1
  have s2 := h.s2
  have H := Lib.hid h
  have hm : ¬ m < 1 := by omega
  clear h
  go_enter Tryd.func82, Tryd.ntmps82
  go_wp2_with (go_at_call 56; refine (reads_is g s true _ c0 s2).mono ?_; rintro r w' ⟨rfl, rfl⟩)
  go_region_dies
  all_goals
    refine (next_up _ g s A n c big at_ m ?_ hat hn hs).mono ?_
    · exact ⟨H.out.own, H.out.src⟩
    rintro r w' ⟨rfl, k, rfl⟩
    exact ⟨rfl, rfl, ⟨_, drew_drewN w k⟩⟩

set_option maxHeartbeats 800000 in
theorem skip_ok (m : Nat) (h : Cur w g s A n c big at_) (h1 : 1 ≤ m) (hat : at_ + m ≤ n) (hc : n ≤ c) (hn : c ≤ 9223372036854775807) :
    Calls Tryd.prog 82 #[.pointer (some ⟨g, 0, none⟩), .int .i64 m] w fun r w' => r = .returned (.tuple #[]) ∧ ∃ k, w' = (w.drewN k).setCell ⟨g, 1, none⟩ (.int .i64 ((at_ + m : Nat) : Int)) := by
  have c0 := h.c0
  have c1 := h.c1
  have s2 := h.s2
  have f1 := h.own.free 1
  have H := Lib.hid h
  have hm : ¬ (m : Int) < 1 := by omega
  clear h
  go_enter Tryd.func82, Tryd.ntmps82
  go_wp2_with (go_at_call 56; refine (reads_is g s true _ c0 s2).mono ?_; rintro r w' ⟨rfl, rfl⟩)
  go_region_with (go_at_call 58; refine (next_is _ g s A n c big at_ m ?_ hat hc hn).mono ?_; exact ⟨H.out.own, H.out.src⟩; rintro r w' ⟨rfl, k, rfl⟩)
  all_goals
    go_wp2
    go_end0
    exact ⟨rfl, ⟨1 + k, by rw [wrap_sum at_ m (by omega)]⟩⟩

set_option maxHeartbeats 400000 in
theorem bytes_none (m : Int) (h : Cur w g s A n c big at_) (hm : m < 1) :
    Calls Tryd.prog 71 #[.pointer (some ⟨g, 0, none⟩), .int .i64 m] w fun r w' => r = .returned (.slice none 0 0) ∧ w = w' := by
  have c0 := h.c0
  have s2 := h.s2
  clear h
  go_enter Tryd.func71, Tryd.ntmps71
  go_wp2_with (go_at_call 56; refine (reads_is g s true _ c0 s2).mono ?_; rintro r w' ⟨rfl, rfl⟩)
  go_ret
  exact ⟨rfl, rfl⟩

set_option maxHeartbeats 400000 in
theorem bytes_short (m : Int) (h : Cur w g s A n c big at_) (hat : at_ ≤ n) (hn : n ≤ 9223372036854775807) (h1 : 1 ≤ m) (hs : ((n - at_ : Nat) : Int) < m) :
    Calls Tryd.prog 71 #[.pointer (some ⟨g, 0, none⟩), .int .i64 m] w fun r w' => r = .panicked (gaveUp s 3) ∧ ∃ k, w' = w.drewN k := by
  have c0 := h.c0
  have s2 := h.s2
  have H := Lib.hid h
  have hm : ¬ m < 1 := by omega
  clear h
  go_enter Tryd.func71, Tryd.ntmps71
  go_wp2_with (first
    | (go_at_call 56; refine (reads_is g s true _ c0 s2).mono ?_; rintro r w' ⟨rfl, rfl⟩)
    | (go_at_call 58; refine (next_up _ g s A n c big at_ m H.out hat hn hs).mono ?_; rintro r w' ⟨rfl, k, rfl⟩))
  exact ⟨rfl, rfl, ⟨_, rfl⟩⟩

/-- what Bytes answers -/
def cTook (m : Nat) (l : List Int) (e : Ending) (w' : World) : Prop :=
  ∃ b, e = .returned (.slice (some ⟨b, 0, none⟩) m m) ∧ w.heap.size ≤ b ∧ Box w' b 5 (cellsOf l).toArray ∧ Kept (fun i => i = g) w w' ∧ Cur w' g s A n c big (at_ + m)

set_option maxHeartbeats 400000 in
theorem bytes_ok (K : Nat → Prop) (m : Nat) (l : List Int) (h : Cur w g s A n c big at_) (hl : Sl w K A n c l) (h1 : 1 ≤ m) (hat : at_ + m ≤ n) (hn : n ≤ 140737488351232) :
    Calls Tryd.prog 71 #[.pointer (some ⟨g, 0, none⟩), .int .i64 m] w (cTook w g s A n c big at_ m ((l.drop at_).take m)) := by
  have c0 := h.c0
  have s2 := h.s2
  have H := Lib.hid h
  have HL := Lib.hid hl
  have hcap := hl.cap
  have hmax := hl.max
  unfold maxLen at hmax
  have hm : ¬ (m : Int) < 1 := by omega
  have hmk := run_make_row' (P := Tryd.prog) 37 5 (.int .u8 0) 1 Tryd.underlying37 byte_info rfl .i64 .i64 m (by omega) (by omega)
  clear h hl
  go_enter Tryd.func71, Tryd.ntmps71
  go_wp2_with (first
    | (go_at_call 56; refine (reads_is g s true _ c0 s2).mono ?_; rintro r w' ⟨rfl, rfl⟩)
    | (go_at_call 58; refine (next_is _ g s A n c big at_ m H.out hat hcap (by omega)).mono ?_; rintro r w' ⟨rfl, k, rfl⟩)
    | ((with_reducible refine wpList_copy_splice (o := ⟨some 21, _, _, _, _, _⟩) rfl (.tmp 19) (.tmp 20) 37 37 rfl 5 Tryd.underlying37 byte_size (some ⟨w.heap.size, 0, none⟩) (cutAt A c at_) m m m (c - at_) rfl rfl w.heap.size 0 (madeCells #[.int .u8 0] m).toList 5 ?hg (cellsOf ((l.drop at_).take m)) ?hn ?hpos ?hfit (cellsOf_one _) w.heap.size w ?hb (Nat.le_refl _) ?_)
       case hg => exact Box.made (w.drewN k) 5 (madeCells #[.int .u8 0] m)
       case hn => exact took_len HL.out hat
       case hpos => exact fun _ => ⟨rfl, took_cells HL.out (by omega) hat k _⟩
       case hfit => rw [took_len HL.out hat, Array.length_toList, size_madeCells]; simp
       case hb => exact (below_drewN_refl w k).alloc (Nat.le_refl _) _
       intro w1 hb1 hbel
       have HB := Lib.hid (And.intro hb1 hbel)
       have hcur := cur_below H.out hbel
       have c1 := hcur.c1
       have f1 := hcur.own.free 1
       have HC := Lib.hid hcur
       clear hb1 hbel hcur))
  go_ret
  obtain ⟨hb1, hbel⟩ := HB.out
  have hsp : splice (madeCells #[.int .u8 0] m).toList 0 (cellsOf ((l.drop at_).take m)) = cellsOf ((l.drop at_).take m) :=
    splice_all _ _ (by rw [took_len HL.out hat, Array.length_toList, size_madeCells]; simp)
  have hbox : Box w1 w.heap.size 5 (cellsOf ((l.drop at_).take m)).toArray := by
    have := hb1.out
    rw [hsp] at this
    exact this
  have hg : g < w.heap.size := H.out.own.lt
  exact ⟨w.heap.size, rfl, Nat.le_refl _, hbox.beside (p := ⟨g, 1, none⟩) (by simp; omega) _, (Kept.of_below hbel (fun i => i = g)).setCell (p := ⟨g, 1, none⟩) (fun _ => rfl) _, HC.out.moved (at_ + m)⟩
end

end Go.Proofs.YtgipngedmblnmaaDoor

namespace Go.Proofs.YtgipngedmblnmaaDoor
open Go.RowKit

/-- a number's byte, the least one at 0 -/
def byteAt (v : Int) (j : Nat) : Int := v / (256 : Int) ^ j % 256

/-- so many bytes of a number -/
def told (v : Int) (m : Nat) (big : Bool) : List Int := (List.range m).map fun i => byteAt v (if big then m - 1 - i else i)

theorem byteAt_fit (v : Int) (j : Nat) : 0 ≤ byteAt v j ∧ byteAt v j ≤ 255 := by unfold byteAt; omega
theorem told_len (v : Int) (m : Nat) (big : Bool) : (told v m big).length = m := by simp [told]
theorem told_fit (v : Int) (m : Nat) (big : Bool) : Fit (told v m big) := by
  intro z hz
  obtain ⟨i, _, rfl⟩ := List.mem_map.1 hz
  exact byteAt_fit v _
theorem told_get (v : Int) (m : Nat) (big : Bool) (k : Nat) (h : k < m) : (told v m big).getD k 0 = byteAt v (if big then m - 1 - k else k) := by
  simp [told, List.getD_eq_getElem?_getD, List.getElem?_map, List.getElem?_range h]
theorem told_more (v : Int) (m : Nat) : told v (m + 1) false = told v m false ++ [byteAt v m] := by
  simp [told, List.range_succ]
theorem told_rev (v : Int) (m : Nat) : told v m true = (told v m false).reverse := by
  refine List.ext_getElem (by simp [told]) fun i h1 h2 => ?_
  simp only [told_len] at h1
  simp [told, List.getElem_reverse]
theorem split_at (v P : Int) (hP : 0 < P) : v % (P * 256) = v % P + v / P % 256 * P := by
  have h1 := Int.emod_add_mul_ediv v P
  have h2 := Int.emod_add_mul_ediv (v / P) 256
  have r0 := Int.emod_nonneg v (show P ≠ 0 by omega)
  have r1 := Int.emod_lt_of_pos v hP
  have q0 := Int.emod_nonneg (v / P) (show (256 : Int) ≠ 0 by omega)
  have q1 := Int.emod_lt_of_pos (v / P) (show (0 : Int) < 256 by omega)
  have hq : v / P % 256 * P ≤ 255 * P := Int.mul_le_mul_of_nonneg_right (by omega) (by omega)
  have hq0 : 0 ≤ v / P % 256 * P := Int.mul_nonneg q0 (by omega)
  have e : v = (v % P + v / P % 256 * P) + (v / P / 256) * (P * 256) := by
    have h3 : P * (v / P) = v / P % 256 * P + (v / P / 256) * (P * 256) := by
      have h4 : P * (v / P) = P * (v / P % 256 + 256 * (v / P / 256)) := by rw [h2]
      rw [h4, Int.mul_add, Int.mul_comm P (v / P % 256), ← Int.mul_assoc, Int.mul_comm (P * 256)]
    omega
  have h5 : v % (P * 256) = (v % P + v / P % 256 * P) % (P * 256) := by
    have h6 := Int.add_mul_emod_self_right (v % P + v / P % 256 * P) (v / P / 256) (P * 256)
    rw [← e] at h6
    exact h6
  rw [h5, Int.emod_eq_of_lt (by omega) (by omega)]

theorem le_told (v : Int) (m : Nat) : le (told v m false) = v % (256 : Int) ^ m := by
  induction m with
  | zero => simp [told, le, Int.emod_one]
  | succ k ih =>
    rw [told_more, le_app, told_len, ih, Int.pow_succ]
    unfold byteAt
    exact (split_at v _ (Int.pow_pos (by omega))).symm
theorem val_told (v : Int) (m : Nat) (big : Bool) : val big (told v m big) = v % (256 : Int) ^ m := by
  unfold val
  cases big
  · exact le_told v m
  · simp only [if_true, told_rev, be_rev]
    exact le_told v m
end Go.Proofs.YtgipngedmblnmaaDoor

namespace Go.Proofs.YtgipngedmblnmaaDoor
open Go.RowKit

theorem shift_nat (k m : Nat) (big : Bool) (j : Nat) (hj : (if big then m - 1 - k else k) = j) (w : World) (h1 : k < m) (h2 : m ≤ 8) :
    Calls Tryd.prog 51 #[.int .i64 k, .int .i64 m, .bool big] w fun r w' => r = .returned (.int .i64 (8 * (j : Int))) ∧ w = w' := by
  cases big
  · refine (shift_little k m w (by omega) (by omega) (by omega)).mono ?_
    rintro r w' ⟨rfl, rfl⟩
    simp only [Bool.false_eq_true, if_false] at hj
    exact ⟨ret_num (by omega), rfl⟩
  · refine (shift_big k m w (by omega) (by omega) (by omega)).mono ?_
    rintro r w' ⟨rfl, rfl⟩
    simp only [if_true] at hj
    exact ⟨ret_num (by omega), rfl⟩

/-- what stands in the new bytes when k of a number's bytes are put -/
def putting (l t : List Int) (k : Nat) : List Int := l ++ t.take k ++ List.replicate (t.length - k) 0

theorem putting_len (l t : List Int) (k : Nat) (h : k ≤ t.length) : (putting l t k).length = l.length + t.length := by
  simp [putting, List.length_take]; omega
theorem putting_step (l t : List Int) (k : Nat) (h : k < t.length) : (putting l t k).set (l.length + k) (t.getD k 0) = putting l t (k + 1) := by
  unfold putting
  rw [List.append_assoc, List.set_append_right _ _ (by omega), Nat.add_sub_cancel_left, take_more t k h, List.append_assoc]
  congr 1
  rw [List.set_append_right _ _ (by simp [List.length_take]; omega), List.append_assoc]
  congr 1
  have e : k - (t.take k).length = 0 := by simp [List.length_take]; omega
  rw [e, show t.length - k = (t.length - (k + 1)) + 1 from by omega, List.replicate_succ]
  rfl
theorem putting_end (l t : List Int) : putting l t t.length = l ++ t := by simp [putting]
theorem putting_start (l : List Int) (t : List Int) (m : Nat) (hm : t.length = m) : splice (madeCells #[.int .u8 0] (l.length + m)).toList 0 (cellsOf l) = cellsOf (putting l t 0) := by
  unfold splice putting cellsOf
  rw [toList_madeCells_one]
  simp [hm]

theorem putting_cell {w : World} {g : Nat} {l t : List Int} {n m k : Nat} (h : Box w g 5 (cellsOf (putting l t k)).toArray) (hl : l.length = n) (ht : t.length = m) (hk : k < m) : ∃ x, w.cell? ⟨g, n + k, none⟩ = some x := by
  rw [h.cell (n + k)]
  have : n + k < (cellsOf (putting l t k)).toArray.size := by
    rw [List.size_toArray, cellsOf_len, putting_len l t k (by omega)]
    omega
  exact ⟨_, Array.getElem?_eq_getElem this⟩
theorem putting_put {w : World} {g : Nat} {l t : List Int} {n m k : Nat} {z : Int} (h : Box w g 5 (cellsOf (putting l t k)).toArray) (hl : l.length = n) (ht : t.length = m) (hk : k < m) (hz : t.getD k 0 = z) :
    Box (w.setCell ⟨g, n + k, none⟩ (.int .u8 z)) g 5 (cellsOf (putting l t (k + 1))).toArray := by
  have h2 := h.put (n + k) (.int .u8 z)
  rw [set_cells, ← hz, ← hl, putting_step l t k (by omega)] at h2
  rw [← hz, ← hl]
  exact h2

set_option maxHeartbeats 400000 in
theorem put_pos (w : World) (K : Nat → Prop) (A : Option Addr) (n c : Nat) (l : List Int) (v : Int) (m : Nat) (big : Bool) (h : Sl w K A n c l) (hn : n ≤ 140737488351200) (hv : 0 ≤ v) (hv2 : v ≤ 9223372036854775807) (hm : decide ((m : Int) = 1 ∨ (m : Int) = 2 ∨ (m : Int) = 4 ∨ (m : Int) = 8) = true) :
    Calls Tryd.prog 30 #[.slice A n c, .int .i64 v, .int .i64 m, .bool big] w (Owned w (n + m) (l ++ told v m big)) := by
  have hm8 : m ≤ 8 := by have := of_decide_eq_true hm; omega
  have hm0 : 0 < m := by have := of_decide_eq_true hm; omega
  have HI := Lib.hid (isSize_any m w)
  have HM := Lib.hid hm
  have hv3 : ¬ v < 0 := by omega
  have H := Lib.hid h
  have HLEN := Lib.hid h.len
  have hmk := run_make_row' (P := Tryd.prog) 37 5 (.int .u8 0) 1 Tryd.underlying37 byte_info rfl .i64 .i64 (n + m) (by omega) (by omega)
  have ec : ((n + m : Nat) : Int) = (n : Int) + (m : Int) := by omega
  rw [ec] at hmk
  clear hm h ec
  go_enter Tryd.func30, Tryd.ntmps30
  go_wp2_with (first
    | (go_at_call 50; refine HI.out.mono ?_; rw [HM.out]; rintro r w' ⟨rfl, rfl⟩)
    | ((with_reducible refine wpList_copy_splice (o := ⟨some 23, _, _, _, _, _⟩) rfl (.tmp 21) (.tmp 22) 37 37 rfl 5 Tryd.underlying37 byte_size (some ⟨w.heap.size, 0, none⟩) A (n + m) (n + m) n c rfl rfl w.heap.size 0 (madeCells #[.int .u8 0] (n + m)).toList 5 ?hg (cellsOf l) ?hn ?hpos ?hfit (cellsOf_one _) w.heap.size w ?hb (Nat.le_refl _) ?_)
       case hg => exact Box.made w 5 (madeCells #[.int .u8 0] (n + m))
       case hn => rw [cellsOf_len, HLEN.out]; exact (Nat.min_eq_left (Nat.le_add_right _ _)).symm
       case hpos => exact fun h0 => ⟨rfl, sl_copy H.out _ h0⟩
       case hfit => rw [cellsOf_len, HLEN.out, Array.length_toList, size_madeCells]; omega
       case hb => exact (Below.refl _ w).alloc (Nat.le_refl _) _
       intro w1 hb1 hbel
       have HB := Lib.hid (And.intro hb1 hbel)
       clear hb1 hbel hmk))
  have hstart : Box w1 w.heap.size 5 (cellsOf (putting l (told v m big) 0)).toArray := by
    have := HB.out.1.out
    rw [← HLEN.out, putting_start l (told v m big) m (told_len v m big)] at this
    exact this
  have HST := Lib.hid (And.intro hstart HB.out.2)
  clear hstart HB
  go_loopw [25] (fun i wr => ∃ k : Nat, k ≤ m ∧ i = .int .i64 k ∧ Box wr w.heap.size 5 (cellsOf (putting l (told v m big) k)).toArray ∧ Below w.heap.size w wr) (fun i _ => m - (intOf i).toNat)
  case atStart => exact ⟨0, Nat.zero_le _, rfl, HST.out⟩
  case round =>
    obtain ⟨k, hk, rfl, hbox, hbel⟩ := hrel
    by_cases hlt : k < m
    · obtain ⟨j, hj⟩ : ∃ j, (if big then m - 1 - k else k) = j := ⟨_, rfl⟩
      have hfree := hbox.free (n + k)
      obtain ⟨x, hcell⟩ : ∃ x, wr.cell? ⟨w.heap.size, n + k, none⟩ = some x := putting_cell hbox HLEN.out (told_len v m big) hlt
      have hj8 : j < 8 := by split at hj <;> omega
      have HS := Lib.hid (shift_nat k m big j hj wr hlt hm8)
      have HR := Lib.hid (And.intro hbox (And.intro hbel hj))
      clear hbox hbel hj
      go_wp2_with (go_at_call 51; refine HS.out.mono ?_; rintro r w' ⟨rfl, rfl⟩)
      go_roundw
      case rel =>
        obtain ⟨hbox, hbel, hj⟩ := HR.out
        refine ⟨k + 1, by omega, by go_num, ?_, hbel.setCell (p := ⟨w.heap.size, n + k, none⟩) (Nat.le_refl _) _⟩
        exact putting_put hbox HLEN.out (told_len v m big) hlt (by rw [told_get v m big k hlt, hj, byteAt, pow_256])
      case measure => simp [intOf]; omega
    · have HR := Lib.hid (And.intro hbox hbel)
      clear hbox hbel
      go_wp2
      go_ret
      have ek : k = m := by omega
      obtain ⟨hbox, hbel⟩ := HR.out
      rw [ek] at hbox
      have he := putting_end l (told v m big)
      rw [told_len] at he
      rw [he] at hbox
      exact ⟨_, _, rfl, sl_of_box hbox (H.out.bts.fit.app (told_fit v m big)) (by rw [List.length_append, told_len, HLEN.out]) (by simp only [maxLen]; omega) (Nat.le_refl _), hbel⟩

set_option maxHeartbeats 400000 in
theorem put_neg (w : World) (K : Nat → Prop) (A : Option Addr) (n c : Nat) (l : List Int) (v : Int) (m : Nat) (big : Bool) (h : Sl w K A n c l) (hn : n ≤ 140737488351200) (hv3 : v < 0) (hm : decide ((m : Int) = 1 ∨ (m : Int) = 2 ∨ (m : Int) = 4 ∨ (m : Int) = 8) = true) :
    Calls Tryd.prog 30 #[.slice A n c, .int .i64 v, .int .i64 m, .bool big] w (Owned w (n + m) (l ++ told 0 m big)) := by
  have hm8 : m ≤ 8 := by have := of_decide_eq_true hm; omega
  have hm0 : 0 < m := by have := of_decide_eq_true hm; omega
  have HI := Lib.hid (isSize_any m w)
  have HM := Lib.hid hm
  have H := Lib.hid h
  have HLEN := Lib.hid h.len
  have hmk := run_make_row' (P := Tryd.prog) 37 5 (.int .u8 0) 1 Tryd.underlying37 byte_info rfl .i64 .i64 (n + m) (by omega) (by omega)
  have ec : ((n + m : Nat) : Int) = (n : Int) + (m : Int) := by omega
  rw [ec] at hmk
  clear hm h ec
  go_enter Tryd.func30, Tryd.ntmps30
  go_wp2_with (first
    | (go_at_call 50; refine HI.out.mono ?_; rw [HM.out]; rintro r w' ⟨rfl, rfl⟩)
    | ((with_reducible refine wpList_copy_splice (o := ⟨some 23, _, _, _, _, _⟩) rfl (.tmp 21) (.tmp 22) 37 37 rfl 5 Tryd.underlying37 byte_size (some ⟨w.heap.size, 0, none⟩) A (n + m) (n + m) n c rfl rfl w.heap.size 0 (madeCells #[.int .u8 0] (n + m)).toList 5 ?hg (cellsOf l) ?hn ?hpos ?hfit (cellsOf_one _) w.heap.size w ?hb (Nat.le_refl _) ?_)
       case hg => exact Box.made w 5 (madeCells #[.int .u8 0] (n + m))
       case hn => rw [cellsOf_len, HLEN.out]; exact (Nat.min_eq_left (Nat.le_add_right _ _)).symm
       case hpos => exact fun h0 => ⟨rfl, sl_copy H.out _ h0⟩
       case hfit => rw [cellsOf_len, HLEN.out, Array.length_toList, size_madeCells]; omega
       case hb => exact (Below.refl _ w).alloc (Nat.le_refl _) _
       intro w1 hb1 hbel
       have HB := Lib.hid (And.intro hb1 hbel)
       clear hb1 hbel hmk))
  have hstart : Box w1 w.heap.size 5 (cellsOf (putting l (told 0 m big) 0)).toArray := by
    have := HB.out.1.out
    rw [← HLEN.out, putting_start l (told 0 m big) m (told_len 0 m big)] at this
    exact this
  have HST := Lib.hid (And.intro hstart HB.out.2)
  clear hstart HB
  go_loopw [25] (fun i wr => ∃ k : Nat, k ≤ m ∧ i = .int .i64 k ∧ Box wr w.heap.size 5 (cellsOf (putting l (told 0 m big) k)).toArray ∧ Below w.heap.size w wr) (fun i _ => m - (intOf i).toNat)
  case atStart => exact ⟨0, Nat.zero_le _, rfl, HST.out⟩
  case round =>
    obtain ⟨k, hk, rfl, hbox, hbel⟩ := hrel
    by_cases hlt : k < m
    · obtain ⟨j, hj⟩ : ∃ j, (if big then m - 1 - k else k) = j := ⟨_, rfl⟩
      have hfree := hbox.free (n + k)
      obtain ⟨x, hcell⟩ : ∃ x, wr.cell? ⟨w.heap.size, n + k, none⟩ = some x := putting_cell hbox HLEN.out (told_len 0 m big) hlt
      have hj8 : j < 8 := by split at hj <;> omega
      have HS := Lib.hid (shift_nat k m big j hj wr hlt hm8)
      have HR := Lib.hid (And.intro hbox (And.intro hbel hj))
      clear hbox hbel hj
      go_wp2_with (go_at_call 51; refine HS.out.mono ?_; rintro r w' ⟨rfl, rfl⟩)
      go_roundw
      case rel =>
        obtain ⟨hbox, hbel, hj⟩ := HR.out
        refine ⟨k + 1, by omega, by go_num, ?_, hbel.setCell (p := ⟨w.heap.size, n + k, none⟩) (Nat.le_refl _) _⟩
        exact putting_put hbox HLEN.out (told_len 0 m big) hlt (by rw [told_get 0 m big k hlt]; simp [byteAt])
      case measure => simp [intOf]; omega
    · have HR := Lib.hid (And.intro hbox hbel)
      clear hbox hbel
      go_wp2
      go_ret
      have ek : k = m := by omega
      obtain ⟨hbox, hbel⟩ := HR.out
      rw [ek] at hbox
      have he := putting_end l (told 0 m big)
      rw [told_len] at he
      rw [he] at hbox
      exact ⟨_, _, rfl, sl_of_box hbox (H.out.bts.fit.app (told_fit 0 m big)) (by rw [List.length_append, told_len, HLEN.out]) (by simp only [maxLen]; omega) (Nat.le_refl _), hbel⟩

set_option maxHeartbeats 400000 in
theorem put_unsized (w : World) (K : Nat → Prop) (A : Option Addr) (n c : Nat) (l : List Int) (v m : Int) (big : Bool) (h : Sl w K A n c l) (hn : n ≤ 140737488351200) (hm : decide (m = 1 ∨ m = 2 ∨ m = 4 ∨ m = 8) = false) :
    Calls Tryd.prog 30 #[.slice A n c, .int .i64 v, .int .i64 m, .bool big] w (Owned w n l) := by
  have HI := Lib.hid (isSize_any m w)
  have HM := Lib.hid hm
  have H := Lib.hid h
  have HLEN := Lib.hid h.len
  have hmk := run_make_row' (P := Tryd.prog) 37 5 (.int .u8 0) 1 Tryd.underlying37 byte_info rfl .i64 .i64 n (by omega) (by omega)
  clear hm h
  by_cases hv : v < 0
  all_goals
    go_enter Tryd.func30, Tryd.ntmps30
    go_wp2_with (first
      | (go_at_call 50; refine HI.out.mono ?_; rw [HM.out]; rintro r w' ⟨rfl, rfl⟩)
      | ((with_reducible refine wpList_copy_splice (o := ⟨some 23, _, _, _, _, _⟩) rfl (.tmp 21) (.tmp 22) 37 37 rfl 5 Tryd.underlying37 byte_size (some ⟨w.heap.size, 0, none⟩) A n n n c rfl rfl w.heap.size 0 (madeCells #[.int .u8 0] n).toList 5 ?hg (cellsOf l) ?hn ?hpos ?hfit (cellsOf_one _) w.heap.size w ?hb (Nat.le_refl _) ?_)
         case hg => exact Box.made w 5 (madeCells #[.int .u8 0] n)
         case hn => rw [cellsOf_len, HLEN.out]; exact (Nat.min_eq_left (Nat.le_refl _)).symm
         case hpos => exact fun h0 => ⟨rfl, sl_copy H.out _ h0⟩
         case hfit => rw [cellsOf_len, HLEN.out, Array.length_toList, size_madeCells]; omega
         case hb => exact (Below.refl _ w).alloc (Nat.le_refl _) _
         intro w1 hb1 hbel
         have HB := Lib.hid (And.intro hb1 hbel)
         clear hb1 hbel hmk))
    have hstart : Box w1 w.heap.size 5 (cellsOf l).toArray := by
      have := HB.out.1.out
      rw [splice_all _ _ (by rw [cellsOf_len, HLEN.out, Array.length_toList, size_madeCells]; omega)] at this
      exact this
    have HST := Lib.hid (And.intro hstart HB.out.2)
    clear hstart HB
    go_loopw [25] (fun i wr => i = .int .i64 0 ∧ w1 = wr) (fun _ _ => 0)
    case atStart => exact ⟨rfl, rfl⟩
    case round =>
      obtain ⟨rfl, rfl⟩ := hrel
      go_wp2
      go_ret
      obtain ⟨hbox, hbel⟩ := HST.out
      exact ⟨_, _, rfl, sl_of_box hbox H.out.bts.fit HLEN.out (by simp only [maxLen]; omega) (Nat.le_refl _), hbel⟩

/-- so many bytes a number is put in -/
def width (m : Int) : Nat := if m = 1 ∨ m = 2 ∨ m = 4 ∨ m = 8 then m.toNat else 0

theorem cput_any (w : World) (K : Nat → Prop) (A : Option Addr) (n c : Nat) (l : List Int) (v m : Int) (big : Bool) (h : Sl w K A n c l) (hn : n ≤ 140737488351200) (hv : v ≤ 9223372036854775807) :
    Calls Tryd.prog 30 #[.slice A n c, .int .i64 v, .int .i64 m, .bool big] w (Owned w (n + width m) (l ++ told (max v 0) (width m) big)) := by
  by_cases hm : m = 1 ∨ m = 2 ∨ m = 4 ∨ m = 8
  · obtain ⟨k, rfl⟩ : ∃ k : Nat, m = (k : Int) := ⟨m.toNat, by omega⟩
    have e : width (k : Int) = k := by unfold width; rw [if_pos hm]; simp
    rw [e]
    by_cases h0 : v < 0
    · rw [show max v 0 = 0 from by omega]
      exact put_neg w K A n c l v k big h hn h0 (decide_eq_true hm)
    · rw [show max v 0 = v from by omega]
      exact put_pos w K A n c l v k big h hn (by omega) hv (decide_eq_true hm)
  · have e : width m = 0 := by unfold width; rw [if_neg hm]
    rw [e, show l ++ told (max v 0) 0 big = l from by simp [told], Nat.add_zero]
    exact put_unsized w K A n c l v m big h hn (decide_eq_false hm)

end Go.Proofs.YtgipngedmblnmaaDoor
