/-
  The contracts of a cursor's Skip and Bytes.
-/
import Derived.Test.YtnakfdaneejcfaaCOwn
import Derived.Laws.CopyOwn
import Derived.Deep.OwnRows
namespace Go.Proofs.Ytnakfdaneejcfaa
open Go.RowKit

theorem wrap_sum (a b : Nat) (h : a + b ≤ 9223372036854775807) : IntKind.i64.wrap ((a : Int) + (b : Int)) = ((a + b : Nat) : Int) := by
  rw [IntKind.wrap_i64]
  omega

theorem cur_below {w w' : World} {g s : Nat} {A : Option Addr} {n c : Nat} {big : Bool} {at_ : Nat} (h : Cur w g s A n c big at_) (hb : Below w.heap.size w w') : Cur w' g s A n c big at_ :=
  ⟨(hb.block g h.own.lt).trans h.own, (hb.block s h.src.lt).trans h.src⟩
theorem took_len {w : World} {K : Nat → Prop} {A : Option Addr} {n c : Nat} {l : List Int} {at_ m : Nat} (h : Sl w K A n c l) (hat : at_ + m ≤ n) : (cellsOf ((l.drop at_).take m)).length = Nat.min m m := by
  have := h.len
  simp [cellsOf, List.length_take, List.length_drop]
  omega
theorem took_cells {w : World} {K : Nat → Prop} {A : Option Addr} {n c : Nat} {l : List Int} {at_ m : Nat} (h : Sl w K A n c l) (hm : 0 < m) (hat : at_ + m ≤ n) (k : Nat) (o : Obj) :
    ∃ ad, cutAt A c at_ = some ad ∧ ∀ j v, (cellsOf ((l.drop at_).take m))[j]? = some v → ((w.drewN k).alloc o).cell? (ad.add j) = some v := by
  have hb := h.bts.cut (k := at_) (m := m) (c := c) (by rw [h.len]; exact hat) (by rw [h.len]; exact h.cap)
  have hb2 := hb.kept (((Kept.refl (fun _ => False) w).drewN k).alloc o) (fun _ _ h => h)
  obtain ⟨b, off, e, _⟩ := hb2.at_ (by have := h.len; simp [List.length_take, List.length_drop]; omega)
  rw [e] at hb2 ⊢
  exact ⟨_, rfl, hb2.read⟩

section
variable (w : World) (g s : Nat) (A : Option Addr) (n c : Nat) (big : Bool) (at_ : Nat)

set_option maxHeartbeats 400000 in
theorem bytes_none (m : Int) (h : Cur w g s A n c big at_) (hm : m < 1) :
    Calls Try.prog 30 #[.pointer (some ⟨g, 0, none⟩), .int .i64 m] w fun r w' => r = .returned (.slice none 0 0) ∧ w = w' := by
  have c0 := h.c0
  have s2 := h.s2
  clear h
  go_enter Try.func30, Try.ntmps30
  go_wp2_with (go_at_call 48; refine (reads_is g s true _ c0 s2).mono ?_; rintro r w' ⟨rfl, rfl⟩)
  go_ret
  exact ⟨rfl, rfl⟩

set_option maxHeartbeats 400000 in
theorem bytes_short (m : Int) (h : Cur w g s A n c big at_) (hat : at_ ≤ n) (hn : n ≤ 9223372036854775807) (h1 : 1 ≤ m) (hs : ((n - at_ : Nat) : Int) < m) :
    Calls Try.prog 30 #[.pointer (some ⟨g, 0, none⟩), .int .i64 m] w fun r w' => r = .panicked (gaveUp s 3) ∧ ∃ k, w' = w.drewN k := by
  have c0 := h.c0
  have s2 := h.s2
  have H := Lib.hid h
  have hm : ¬ m < 1 := by omega
  clear h
  go_enter Try.func30, Try.ntmps30
  go_wp2_with (first
    | (go_at_call 48; refine (reads_is g s true _ c0 s2).mono ?_; rintro r w' ⟨rfl, rfl⟩)
    | (go_at_call 49; refine (next_up _ g s A n c big at_ m H.out hat hn hs).mono ?_; rintro r w' ⟨rfl, k, rfl⟩))
  exact ⟨rfl, rfl, ⟨_, rfl⟩⟩

/-- what Bytes answers -/
def cTook (m : Nat) (l : List Int) (e : Ending) (w' : World) : Prop :=
  ∃ b, e = .returned (.slice (some ⟨b, 0, none⟩) m m) ∧ w.heap.size ≤ b ∧ Box w' b 5 (cellsOf l).toArray ∧ Kept (fun i => i = g) w w' ∧ Cur w' g s A n c big (at_ + m)

set_option maxHeartbeats 400000 in
theorem bytes_ok (K : Nat → Prop) (m : Nat) (l : List Int) (h : Cur w g s A n c big at_) (hl : Sl w K A n c l) (h1 : 1 ≤ m) (hat : at_ + m ≤ n) (hn : n ≤ 140737488351232) :
    Calls Try.prog 30 #[.pointer (some ⟨g, 0, none⟩), .int .i64 m] w (cTook w g s A n c big at_ m ((l.drop at_).take m)) := by
  have c0 := h.c0
  have s2 := h.s2
  have H := Lib.hid h
  have HL := Lib.hid hl
  have hcap := hl.cap
  have hmax := hl.max
  unfold maxLen at hmax
  have hm : ¬ (m : Int) < 1 := by omega
  have hmk := run_make_row' (P := Try.prog) 32 5 (.int .u8 0) 1 Try.underlying32 byte_info rfl .i64 .i64 m (by omega) (by omega)
  clear h hl
  go_enter Try.func30, Try.ntmps30
  go_wp2_with (first
    | (go_at_call 48; refine (reads_is g s true _ c0 s2).mono ?_; rintro r w' ⟨rfl, rfl⟩)
    | (go_at_call 49; refine (next_is _ g s A n c big at_ m H.out hat hcap (by omega)).mono ?_; rintro r w' ⟨rfl, k, rfl⟩)
    | ((with_reducible refine wpList_copy_splice (o := ⟨some 21, _, _, _, _, _⟩) rfl (.tmp 19) (.tmp 20) 32 32 rfl 5 Try.underlying32 byte_size (some ⟨w.heap.size, 0, none⟩) (cutAt A c at_) m m m (c - at_) rfl rfl w.heap.size 0 (madeCells #[.int .u8 0] m).toList 5 ?hg (cellsOf ((l.drop at_).take m)) ?hn ?hpos ?hfit (cellsOf_one _) w.heap.size w ?hb (Nat.le_refl _) ?_)
       case hg => exact Box.made (w.drewN k) 5 (madeCells #[.int .u8 0] m)
       case hn => exact took_len HL.out hat
       case hpos => exact fun _ => ⟨rfl, took_cells HL.out (by omega) hat k _⟩
       case hfit => rw [took_len HL.out hat, Array.length_toList, size_madeCells]; simp
       case hb => exact (below_drewN_refl w k).alloc (Nat.le_refl _) _
       intro w1 hb1 hbel
       have HB := Lib.hid (And.intro hb1 hbel)
       have hcur := cur_below H.out hbel
       have c1 := hcur.c1
       have f1 := hcur.own.free 1
       have HC := Lib.hid hcur
       clear hb1 hbel hcur))
  go_ret
  obtain ⟨hb1, hbel⟩ := HB.out
  have hsp : splice (madeCells #[.int .u8 0] m).toList 0 (cellsOf ((l.drop at_).take m)) = cellsOf ((l.drop at_).take m) :=
    splice_all _ _ (by rw [took_len HL.out hat, Array.length_toList, size_madeCells]; simp)
  have hbox : Box w1 w.heap.size 5 (cellsOf ((l.drop at_).take m)).toArray := by
    have := hb1.out
    rw [hsp] at this
    exact this
  have hg : g < w.heap.size := H.out.own.lt
  exact ⟨w.heap.size, rfl, Nat.le_refl _, hbox.beside (p := ⟨g, 1, none⟩) (by simp; omega) _, (Kept.of_below hbel (fun i => i = g)).setCell (p := ⟨g, 1, none⟩) (fun _ => rfl) _, HC.out.moved (at_ + m)⟩
end

end Go.Proofs.Ytnakfdaneejcfaa
