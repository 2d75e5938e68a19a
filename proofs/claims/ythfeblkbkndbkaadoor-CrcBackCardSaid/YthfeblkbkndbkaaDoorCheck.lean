/-
  The contracts of Check where there is a sum.
-/
import Derived.Test.YthfeblkbkndbkaaDoorParts
namespace Go.Proofs.YthfeblkbkndbkaaDoor
open Go.RowKit

theorem Sl.head {w : World} {K : Nat → Prop} {A : Option Addr} {n c m : Nat} {l : List Int} (h : Sl w K A n c l) (hm : m ≤ n) : Sl w K A m c (l.take m) := by
  have hl := h.len
  have hlen : (l.take m).length = m := by rw [List.length_take]; omega
  refine ⟨⟨h.bts.fit.take m, fun h0 => ?_⟩, hlen, Nat.le_trans hm h.cap, h.max, h.nil⟩
  obtain ⟨b, off, e, hb, hk, hc⟩ := h.bts.at_ (by omega)
  refine ⟨b, off, e, hb, hk, fun i hi => ?_⟩
  rw [hc i (by omega)]
  simp only [List.getD_eq_getElem?_getD]
  rw [List.getElem?_take_of_lt (by omega)]
theorem Sl.tail {w : World} {K : Nat → Prop} {b off n c m : Nat} {l : List Int} (h : Sl w K (some ⟨b, off, none⟩) n c l) (hm : m ≤ n) : Sl w K (some ⟨b, off + m, none⟩) (n - m) (c - m) (l.drop m) := by
  have hl := h.len
  have hcap := h.cap
  have hmax := h.max
  refine ⟨⟨h.bts.fit.drop m, fun h0 => ?_⟩, by rw [List.length_drop, hl], by omega, by omega, fun e => by cases e⟩
  rw [List.length_drop] at h0
  obtain ⟨b', off', e, hb, hk, hc⟩ := h.bts.at_ (by omega)
  cases e
  refine ⟨b, off + m, rfl, hb, hk, fun i hi => ?_⟩
  rw [List.length_drop] at hi
  rw [Nat.add_assoc, hc (m + i) (by omega)]
  simp only [List.getD_eq_getElem?_getD]
  rw [List.getElem?_drop]

theorem add_none (b off j : Nat) : (⟨b, off, none⟩ : Addr).add j = ⟨b, off + j, none⟩ := by
  unfold Addr.add
  split
  · next h => subst h; simp
  · rfl
theorem sl_reads {w : World} {K : Nat → Prop} {b off n c : Nat} {l : List Int} (h : Sl w K (some ⟨b, off, none⟩) n c l) : ∀ j v, (cellsOf l)[j]? = some v → w.cell? ⟨b, off + j, none⟩ = some v := by
  intro j v hv
  have := h.bts.read j v hv
  rwa [add_none] at this

set_option maxHeartbeats 800000 in
theorem check_bad (w : World) (K : Nat → Prop) (A : Option Addr) (m c : Nat) (l : List Int) (hT : Tab w) (h : Sl w K A (m + 4) c l) (hbad : ((sum (l.take m) : Nat) : Int) ≠ le (l.drop m)) :
    Calls Tryd.prog 14 #[.slice A ((m + 4 : Nat)) c] w fun e w' => e = .returned (.tuple #[.slice none 0 0, .int .i64 8]) ∧ Below w.heap.size w w' := by
  obtain ⟨b, off, rfl⟩ : ∃ b off, A = some ⟨b, off, none⟩ := by
    obtain ⟨b, off, e, _⟩ := h.bts.at_ (by rw [h.len]; omega)
    exact ⟨b, off, e⟩
  have hcap := h.cap
  have hmax := h.max
  unfold maxLen at hmax
  have HT := Lib.hid hT
  have H := Lib.hid h
  obtain ⟨s, hs⟩ : ∃ s, s = sum (l.take m) := ⟨_, rfl⟩
  obtain ⟨t, ht⟩ : ∃ t, t = le (l.drop m) := ⟨_, rfl⟩
  rw [← hs, ← ht] at hbad
  have HS := Lib.hid (And.intro hs ht)
  have hne : ((s : Int) == t) = false := by simpa using hbad
  clear hT h hs ht
  have h4 : ¬ ((m + 4 : Nat) : Int) < 4 := by omega
  go_enter Tryd.func14, Tryd.ntmps14
  go_wp2_with fail
  have T1 := Lib.hid (H.out.head (m := m) (by omega))
  have T2 : Hid (Sl w K (some ⟨b, off + m, none⟩) 4 (c - m) (l.drop m)) := by have := H.out.tail (m := m) (by omega); rwa [show m + 4 - m = 4 by omega] at this
  go_region_with (first
    | (go_at_call 12
       refine (sum_one w.drew w.heap.size rfl HT.out T1.out.drew).mono ?_
       rw [← HS.out.1]
       rintro e w1 ⟨rfl, rfl⟩)
    | (go_at_call 18
       refine (stored_any _ K _ _ (l.drop m) ?_).mono ?_
       · first | exact T2.out.drew | exact (T2.out.alloc _).drew | exact T2.out.drew.alloc _
       rw [← HS.out.2]
       rintro e w1 ⟨rfl, rfl⟩))
  all_goals
    go_wp2
    go_ret2
    exact ⟨rfl, (on_alloc _ _).drew⟩

/-- what Check answers where the sum is right -/
def Checked (w : World) (m : Nat) (l : List Int) (e : Ending) (w' : World) : Prop :=
  ∃ g, e = .returned (.tuple #[.slice (some ⟨g, 0, none⟩) m m, .int .i64 0]) ∧ w.heap.size ≤ g ∧ Box w' g 5 (cellsOf l).toArray ∧ Below w.heap.size w w'

set_option maxHeartbeats 1600000 in
theorem check_good (w : World) (K : Nat → Prop) (A : Option Addr) (m c : Nat) (l : List Int) (hT : Tab w) (h : Sl w K A (m + 4) c l) (hm : m ≤ 140737488351200) (hok : ((sum (l.take m) : Nat) : Int) = le (l.drop m)) :
    Calls Tryd.prog 14 #[.slice A ((m + 4 : Nat)) c] w (Checked w m (l.take m)) := by
  obtain ⟨b, off, rfl⟩ : ∃ b off, A = some ⟨b, off, none⟩ := by
    obtain ⟨b, off, e, _⟩ := h.bts.at_ (by rw [h.len]; omega)
    exact ⟨b, off, e⟩
  have hcap := h.cap
  have hmax := h.max
  unfold maxLen at hmax
  have HT := Lib.hid hT
  have H := Lib.hid h
  obtain ⟨s, hs⟩ : ∃ s, s = sum (l.take m) := ⟨_, rfl⟩
  rw [← hs] at hok
  have HS := Lib.hid (And.intro hs hok)
  clear hT h hs hok
  have h4 : ¬ ((m + 4 : Nat) : Int) < 4 := by omega
  have hmk := run_make_row' (P := Tryd.prog) 22 5 (.int .u8 0) 1 Tryd.underlying22 byte_info rfl .i64 .i64 m (by omega) (by omega)
  go_enter Tryd.func14, Tryd.ntmps14
  go_wp2_with fail
  have T1 := Lib.hid (H.out.head (m := m) (by omega))
  have T2 : Hid (Sl w K (some ⟨b, off + m, none⟩) 4 (c - m) (l.drop m)) := by have := H.out.tail (m := m) (by omega); rwa [show m + 4 - m = 4 by omega] at this
  go_region_with (first
    | (go_at_call 12
       refine (sum_one w.drew w.heap.size rfl HT.out T1.out.drew).mono ?_
       rw [← HS.out.1]
       rintro e w1 ⟨rfl, rfl⟩)
    | (go_at_call 18
       refine (stored_any _ K _ _ (l.drop m) ?_).mono ?_
       · first | exact T2.out.drew | exact (T2.out.alloc _).drew | exact T2.out.drew.alloc _
       rw [← HS.out.2]
       rintro e w1 ⟨rfl, rfl⟩))
  all_goals
    have F := Lib.hid (And.intro ((on_alloc w (.cells #[.slice (some ⟨b, off, none⟩) m c] 22)).drew) (T1.out.alloc (.cells #[.slice (some ⟨b, off, none⟩) m c] 22)).drew)
    obtain ⟨w2, hw2⟩ : ∃ w2, w2 = (w.alloc (.cells #[.slice (some ⟨b, off, none⟩) m c] 22)).drew := ⟨_, rfl⟩
    rw [← hw2] at F ⊢
    clear hw2
    go_wp2_with (first | fail |
      ((with_reducible refine wpList_copy_splice (o := ⟨some 26, _, _, _, _, _⟩) rfl (.tmp 24) (.tmp 25) 22 22 rfl 5 Tryd.underlying22 byte_size (some ⟨w2.heap.size, 0, none⟩) (some ⟨b, off, none⟩) m m (m + 4) c rfl rfl w2.heap.size 0 (madeCells #[.int .u8 0] m).toList 5 ?hg (cellsOf (l.take m)) ?hn ?hpos ?hfit (cellsOf_one _) w2.heap.size w2 ?hb (Nat.le_refl _) ?_)
       case hg => exact Box.made w2 5 (madeCells #[.int .u8 0] m)
       case hn => rw [cellsOf_len, F.out.2.len]; exact (Nat.min_eq_right (Nat.le_add_right _ _)).symm
       case hpos => exact fun h0 => ⟨rfl, sl_copy F.out.2 _ h0⟩
       case hfit => rw [cellsOf_len, F.out.2.len, Array.length_toList, size_madeCells]; omega
       case hb => exact (Below.refl _ w2).alloc (Nat.le_refl _) _
       intro w3 hb1 hbel
       have HB := Lib.hid (And.intro hb1 hbel)
       clear hb1 hbel hmk))
    go_ret2
    have hbox : Box w3 w2.heap.size 5 (cellsOf (l.take m)).toArray := by
      have := HB.out.1.out
      rw [splice_all _ _ (by rw [cellsOf_len, F.out.2.len, Array.length_toList, size_madeCells]; omega)] at this
      exact this
    exact ⟨w2.heap.size, rfl, F.out.1.size, hbox, on_trans F.out.1 HB.out.2⟩

end Go.Proofs.YthfeblkbkndbkaaDoor
