/-
  The bytes of a field's values, of an entry's beginning; bytes with zeros behind them.
-/
import Derived.Test.YtnakfdaneejcfaaSiz
namespace Go.Proofs.Ytnakfdaneejcfaa
open Go.RowKit

theorem sl_nil (w : World) (K : Nat → Prop) : Sl w K none 0 0 [] := ⟨⟨(fun z hz => by cases hz), fun h => absurd h (by simp)⟩, rfl, Nat.le_refl _, Nat.zero_le _, fun _ => rfl⟩
/-- bytes with zeros behind them -/
def padL (l : List Int) (m : Nat) : List Int := l ++ List.replicate (m - l.length) 0
theorem padL_len {l : List Int} {m : Nat} (h : l.length ≤ m) : (padL l m).length = m := by simp [padL]; omega
theorem fit_zeros (n : Nat) : Fit (List.replicate n 0) := fun z hz => by have := List.eq_of_mem_replicate hz; omega
theorem pad_start (l : List Int) (m : Nat) (hm : l.length ≤ m) : splice (madeCells #[.int .u8 0] m).toList 0 (cellsOf l) = cellsOf (padL l m) := by
  have := putting_start l (List.replicate (m - l.length) 0) (m - l.length) (by simp)
  rw [show l.length + (m - l.length) = m by omega] at this
  rw [this]
  simp [putting, padL]
set_option maxHeartbeats 800000 in
theorem padded_any (w : World) (K : Nat → Prop) (A : Option Addr) (n c : Nat) (l : List Int) (m : Nat) (h : Sl w K A n c l) (hn : n ≤ m) (hm : m ≤ 140737488351200) : Calls Try.prog 36 #[.slice A n c, .int .i64 (m : Int)] w (Owned w m (padL l m)) := by
  have H := Lib.hid h
  have HLEN := Lib.hid h.len
  have hmk := run_make_row' (P := Try.prog) 32 5 (.int .u8 0) 1 Try.underlying32 byte_info rfl .i64 .i64 m (by omega) (by omega)
  have hcap := h.cap
  clear h
  go_enter Try.func36, Try.ntmps36
  go_wp2_with (first
    | ((with_reducible refine wpList_copy_splice (o := ⟨some 10, _, _, _, _, _⟩) rfl (.tmp 8) (.tmp 9) 32 32 rfl 5 Try.underlying32 byte_size (some ⟨w.heap.size, 0, none⟩) A m m n c rfl rfl w.heap.size 0 (madeCells #[.int .u8 0] m).toList 5 ?hg (cellsOf l) ?hn ?hpos ?hfit (cellsOf_one _) w.heap.size w ?hb (Nat.le_refl _) ?_)
       case hg => exact Box.made w 5 (madeCells #[.int .u8 0] m)
       case hn => rw [cellsOf_len, HLEN.out]; exact (Nat.min_eq_left hn).symm
       case hpos => exact fun h0 => ⟨rfl, sl_copy H.out _ h0⟩
       case hfit => rw [cellsOf_len, HLEN.out, Array.length_toList, size_madeCells]; omega
       case hb => exact (Below.refl _ w).alloc (Nat.le_refl _) _
       intro w1 hb1 hbel
       have HB := Lib.hid (And.intro hb1 hbel)
       clear hb1 hbel hmk))
  go_ret
  have hbox : Box w1 w.heap.size 5 (cellsOf (padL l m)).toArray := by
    have := HB.out.1.out
    rw [pad_start l m (by rw [HLEN.out]; exact hn)] at this
    exact this
  exact ⟨_, _, rfl, sl_of_box hbox (H.out.bts.fit.app (fit_zeros _)) (by rw [padL_len (by rw [HLEN.out]; exact hn)]) (by simp only [maxLen]; omega) (Nat.le_refl _), HB.out.2⟩

/-- the bytes of some values, each of q bytes -/
def valB (xs : List Int) (q : Nat) : List Int := xs.flatMap fun v => told (max v 0) q false
theorem valB_len (xs : List Int) (q : Nat) : (valB xs q).length = xs.length * q := by
  induction xs with
  | nil => simp [valB]
  | cons x r ih =>
    unfold valB at ih ⊢
    rw [List.flatMap_cons, List.length_append, ih, told_len, List.length_cons, Nat.add_mul, Nat.one_mul, Nat.add_comm]
theorem valB_fit (xs : List Int) (q : Nat) : Fit (valB xs q) := fun z hz => by
  obtain ⟨v, _, hv⟩ := List.mem_flatMap.1 hz
  exact told_fit _ _ _ z hv
theorem valB_more (xs : List Int) (q j : Nat) (h : j < xs.length) : valB (xs.take (j + 1)) q = valB (xs.take j) q ++ told (max (xs.getD j 0) 0) q false := by
  unfold valB
  rw [take_more xs j h, List.flatMap_append]
  simp
theorem width_ty {k : Int} {big : Bool} {q : Nat} (hq : tyN k big = q) : width (q : Int) = q := by
  unfold width
  split
  · simp
  · next h =>
    by_cases h0 : q = 0
    · omega
    · have := tyN_is (k := k) (big := big) (by rw [hq]; exact h0)
      rw [hq] at this
      omega
set_option maxHeartbeats 1600000 in
theorem valuesBytes_any (t k : Int) (A : Option Addr) (n c : Nat) (xs : List Int) (big : Bool) (w : World) (hx : Il w A n c xs) (hn : n ≤ 10000) (h64 : ∀ v ∈ xs, v ≤ 9223372036854775807) : Calls Try.prog 34 #[fldV t k A n c, .bool big] w (Owned w (n * tyN k big) (valB xs (tyN k big))) := by
  have hmax := hx.max
  have hcap := hx.cap
  unfold maxLen at hmax
  have HE := Lib.hid (fun w' => typeSize_any k big w')
  obtain ⟨q, hq⟩ : ∃ q, tyN k big = q := ⟨_, rfl⟩
  have hq8 : q ≤ 8 := by rw [← hq]; exact tyN_le k big
  have HQ := Lib.hid (width_ty hq)
  rw [hq] at HE ⊢
  obtain ⟨w1, hw1⟩ : ∃ w1, w.alloc (.cells #[.int .i64 t, .int .i64 k, .slice A n c] 48) = w1 := ⟨_, rfl⟩
  have k1 : Below w.heap.size w w1 := by rw [← hw1]; exact box_on _ _
  have be : Box w1 w.heap.size 48 #[.int .i64 t, .int .i64 k, .slice A n c] := by rw [← hw1]; exact Box.made _ _ _
  have q0 : w1.cell? ⟨w.heap.size, 0, none⟩ = some (.int .i64 t) := be.cell 0
  have q1 : w1.cell? ⟨w.heap.size, 1, none⟩ = some (.int .i64 k) := be.cell 1
  have q2 : w1.cell? ⟨w.heap.size, 2, none⟩ = some (.slice A n c) := be.cell 2
  have H1 := Lib.hid (And.intro k1 (And.intro (hx.on k1) (And.intro hx.len h64)))
  unfold fldV
  clear k1 be hx hq h64
  go_enter Try.func34, Try.ntmps34
  go_wp2_with (go_at_call 52; refine (HE.out _).mono ?_; rintro e w6 ⟨rfl, rfl⟩)
  go_loopw [6, 8, 16] (fun v _ i wr => ∃ j : Nat, j ≤ n ∧ i = .int .i64 (j : Int) ∧ wr.ownsRow w6.heap.size 5 1 v (j * q) (cellsOf (valB (xs.take j) q)) ∧ Below w6.heap.size w6 wr) (fun _ _ i _ => n - (intOf i).toNat)
  case atStart => exact ⟨0, by omega, rfl, by simpa [valB, cellsOf] using World.ownsRow_nil _ _ _ _, Below.refl _ _⟩
  case round =>
    obtain ⟨j, hj, rfl, hown, hb⟩ := hrel
    obtain ⟨A8, c8, hv8, hx8⟩ := sl_of_own hown (valB_fit _ _)
    subst hv8
    have HB := Lib.hid (And.intro hown hb)
    have HX8 := Lib.hid hx8
    have hc8 := hx8.max
    unfold maxLen at hc8
    clear hown hb hx8
    by_cases hjn : j < n
    · obtain ⟨b, off, rfl, hbs, hc⟩ := (H1.out.2.1.on HB.out.2).at_ (by omega)
      have d0 := hc j hjn
      obtain ⟨v, hv⟩ : ∃ v, xs.getD j 0 = v := ⟨_, rfl⟩
      have hjx : j < xs.length := by rw [H1.out.2.2.1]; exact hjn
      have hv64 : v ≤ 9223372036854775807 := by rw [← hv]; exact H1.out.2.2.2 _ (getD_mem hjx)
      have hmore := valB_more xs q j hjx
      rw [hv] at d0 hmore
      have HM := Lib.hid hmore
      have HP := Lib.hid (put_any wr (fun _ => True) none 0 0 [] v q false (sl_nil _ _) (by omega) hv64)
      have hjq : j * q ≤ 80000 := Nat.le_trans (Nat.mul_le_mul (show j ≤ 10000 by omega) hq8) (by decide)
      clear hc hv hmore
      go_wp2_with (first
        | (go_at_call 24
           refine HP.out.mono ?_
           rw [HQ.out, Nat.zero_add, List.nil_append]
           rintro e w7 ⟨A7, c7, rfl, hx7, b7⟩
           have H7 := Lib.hid (And.intro hx7 b7)
           clear hx7 b7)
        | ((with_reducible refine wpList_append_sl (o := ⟨some 24, _, _, _, _, _⟩) rfl (.tmp 20) (.tmp 23) rfl w6.heap.size (.slice A8 (j * q) c8) (j * q) (valB (xs.take j) q) rfl (ownsRow_block HB.out.1 (fun g _ _ hh => H7.out.2.block g (Array.getElem?_eq_some_iff.1 hh).1)) _ A7 q c7 (told (max v 0) q false) rfl H7.out.1 (by omega) (Nat.le_trans HB.out.2.size H7.out.2.size) ?_)
           intro v9 w9 hown9 hb9
           have H9 := Lib.hid (And.intro hown9 hb9)
           clear hown9 hb9))
      go_roundw
      case rel =>
        refine ⟨j + 1, by omega, by go_num, ?_, ?_⟩
        · have := H9.out.1
          rw [HM.out, Nat.add_mul, Nat.one_mul]
          simpa using this
        · exact (on_trans HB.out.2 H7.out.2).trans H9.out.2
      case measure => simp [intOf]; omega
    · obtain rfl : j = n := by omega
      go_wp2_with fail
      go_ret
      have hl := H1.out.2.2.1
      have hx9 := HX8.out
      rw [List.take_of_length_le (by omega)] at hx9
      exact ⟨A8, c8, rfl, hx9.mono (fun b _ hb => Nat.le_trans H1.out.1.size hb), on_trans H1.out.1 HB.out.2⟩
end Go.Proofs.Ytnakfdaneejcfaa
