/-
  The contracts of sector, full, alive, reach, burn and writes.
-/
import Derived.Test.YtghnhabpcikhgaaPart
import Derived.RegionTactic
namespace Go.Proofs.Ytghnhabpcikhgaa
open Go.RowKit

/-- a sector of some bytes -/
def sec (l : List Int) : List Int := l.take 128 ++ List.replicate (128 - l.length) 0
theorem sec_len (l : List Int) : (sec l).length = 128 := by simp [sec]; omega
theorem sec_fit {l : List Int} (h : Fit l) : Fit (sec l) := (h.take 128).app fun z hz => by
  have := List.eq_of_mem_replicate hz
  omega
theorem sec_same {l : List Int} (h : l.length = 128) : sec l = l := by
  unfold sec
  rw [h, List.take_of_length_le (by omega)]
  simp
theorem sec_nil : sec [] = zeros := by simp [sec, zeros]
/-- a new sector is told -/
def Made (w : World) (l : List Int) (e : Ending) (w' : World) : Prop :=
  e = .returned (.slice (some ⟨w.heap.size, 0, none⟩) 128 128) ∧ Box w' w.heap.size 5 (cellsOf l).toArray ∧ Below w.heap.size w w'

theorem sec_splice (l : List Int) : splice (madeCells #[.int .u8 0] 128).toList 0 (cellsOf (l.take 128)) = cellsOf (sec l) := by
  unfold splice sec cellsOf
  rw [toList_madeCells_one, List.take_zero, List.nil_append, Nat.zero_add, List.length_map, List.map_append]
  congr 1
  rw [List.map_replicate, List.drop_replicate, List.length_take]
  congr 1
  omega

theorem sector_facts (w : World) (K : Nat → Prop) (A : Option Addr) (n c : Nat) (l : List Int) (h : Sl w K A n c l) (M : Array Value) (hM : M = madeCells #[.int .u8 0] 128) :
    (cellsOf (l.take 128)).length = Nat.min n 128 ∧ (0 < (cellsOf (l.take 128)).length → some (⟨w.heap.size, 0, none⟩ : Addr) = some ⟨w.heap.size, 0, none⟩ ∧ ∃ ad, A = some ad ∧ ∀ j v, (cellsOf (l.take 128))[j]? = some v → (w.alloc (.cells M 5)).cell? (ad.add j) = some v) ∧ 0 + (cellsOf (l.take 128)).length ≤ M.toList.length := by
  refine ⟨?_, fun h0 => ⟨rfl, ?_⟩, ?_⟩
  · rw [cellsOf_len, List.length_take, h.len]
    exact Nat.min_comm _ _
  · obtain ⟨ad, e, h2⟩ := sl_copy h (.cells M 5) (by rw [cellsOf_len] at h0 ⊢; rw [List.length_take] at h0; omega)
    refine ⟨ad, e, fun j v hv => h2 j v ?_⟩
    have hj : j < 128 := by
      have := (List.getElem?_eq_some_iff.1 hv).1
      rw [cellsOf_len, List.length_take] at this
      omega
    rw [← hv]
    simp only [cellsOf, List.getElem?_map]
    rw [List.getElem?_take_of_lt hj]
  · have e : M.toList.length = 128 := by rw [hM, toList_madeCells_one, List.length_replicate]
    rw [cellsOf_len, List.length_take, e]
    omega

set_option maxHeartbeats 400000 in
theorem sector_any (w : World) (K : Nat → Prop) (A : Option Addr) (n c : Nat) (l : List Int) (h : Sl w K A n c l) :
    Calls Try.prog 25 #[.slice A n c] w (Made w (sec l)) := by
  have H := Lib.hid h
  have HLEN := Lib.hid h.len
  have hmk := run_make_row' (P := Try.prog) 22 5 (.int .u8 0) 1 Try.underlying22 byte_info rfl .i64 .i64 128 (by omega) (by omega)
  rw [show ((128 : Nat) : Int) = 128 from rfl] at hmk
  obtain ⟨M, hM⟩ : ∃ M, M = madeCells #[.int .u8 0] 128 := ⟨_, rfl⟩
  rw [← hM] at hmk
  have HM := Lib.hid hM
  clear hM
  have HF := Lib.hid (sector_facts w K A n c l h M HM.out)
  clear h
  go_enter Try.func25, Try.ntmps25
  go_wp2_with (first | fail |
      ((with_reducible refine wpList_copy_splice (o := ⟨some 7, _, _, _, _, _⟩) rfl (.tmp 5) (.tmp 6) 22 22 rfl 5 Try.underlying22 byte_size (some ⟨w.heap.size, 0, none⟩) A 128 128 n c rfl rfl w.heap.size 0 M.toList 5 ?hg (cellsOf (l.take 128)) ?hn ?hpos ?hfit (cellsOf_one _) w.heap.size w ?hb (Nat.le_refl _) ?_)
       case hg => exact Box.made w 5 M
       case hn => exact HF.out.1
       case hpos => exact HF.out.2.1
       case hfit => exact HF.out.2.2
       case hb => exact (Below.refl _ w).alloc (Nat.le_refl _) _
       intro w1 hb1 hbel
       have HB := Lib.hid (And.intro hb1 hbel)
       clear hb1 hbel hmk))
  go_ret
  refine ⟨rfl, ?_, HB.out.2⟩
  have := HB.out.1.out
  rw [HM.out, sec_splice] at this
  exact this

/-- what full has put when k bytes are put -/
def filling (x : Int) (k : Nat) : List Int := List.replicate k x ++ List.replicate (128 - k) 0
theorem filling_set (x : Int) (k : Nat) (h : k < 128) : (filling x k).set k x = filling x (k + 1) := by
  unfold filling
  rw [List.set_append_right _ _ (by simp), List.length_replicate, Nat.sub_self, show 128 - k = (128 - (k + 1)) + 1 by omega, List.replicate_succ, List.replicate_succ' (n := k), List.append_assoc]
  rfl

set_option maxRecDepth 10000 in
set_option maxHeartbeats 400000 in
theorem full_any (w : World) (x : Int) : Calls Try.prog 14 #[.int .u8 x] w (Made w (ful x)) := by
  have hmk := run_make_row' (P := Try.prog) 22 5 (.int .u8 0) 1 Try.underlying22 byte_info rfl .i64 .i64 128 (by omega) (by omega)
  rw [show ((128 : Nat) : Int) = 128 from rfl] at hmk
  obtain ⟨M, hM⟩ : ∃ M, M = madeCells #[.int .u8 0] 128 := ⟨_, rfl⟩
  rw [← hM] at hmk
  have HM := Lib.hid hM
  clear hM
  go_enter Try.func14, Try.ntmps14
  go_wp2
  have h0 : Box (w.alloc (.cells M 5)) w.heap.size 5 (cellsOf (filling x 0)).toArray := by
    have := Box.made w 5 M
    have e : M = (cellsOf (filling x 0)).toArray := by
      rw [HM.out]
      apply Array.toList_inj.1
      rw [toList_madeCells_one]
      unfold cellsOf filling
      rw [List.replicate_zero, List.nil_append, List.map_replicate]
    rwa [← e]
  have H0 := Lib.hid h0
  clear h0
  go_loopw [8] (fun i wr => ∃ k : Nat, k ≤ 128 ∧ i = .int .i64 k ∧ Box wr w.heap.size 5 (cellsOf (filling x k)).toArray ∧ Below w.heap.size w wr) (fun i _ => 128 - (intOf i).toNat)
  case atStart => exact ⟨0, Nat.zero_le _, rfl, H0.out, (Below.refl _ w).alloc (Nat.le_refl _) _⟩
  case round =>
    obtain ⟨k, hk, rfl, hbox, hbel⟩ := hrel
    by_cases hlt : k < 128
    · have hfree := hbox.free k
      obtain ⟨y, hcell⟩ : ∃ y, wr.cell? ⟨w.heap.size, k, none⟩ = some y := by
        rw [hbox.cell k]
        exact ⟨_, Array.getElem?_eq_getElem (by simp [cellsOf, filling]; omega)⟩
      have HR := Lib.hid (And.intro hbox hbel)
      clear hbox hbel hmk
      go_wp2
      go_roundw
      case rel =>
        obtain ⟨hbox, hbel⟩ := HR.out
        refine ⟨k + 1, by omega, by go_num, ?_, hbel.setCell (p := ⟨w.heap.size, k, none⟩) (Nat.le_refl _) _⟩
        have := hbox.put k (.int .u8 x)
        rw [set_cells, filling_set x k hlt] at this
        exact this
      case measure => simp [intOf]; omega
    · have HR := Lib.hid (And.intro hbox hbel)
      clear hbox hbel hmk
      go_wp2
      go_ret
      have ek : k = 128 := by omega
      obtain ⟨hbox, hbel⟩ := HR.out
      refine ⟨rfl, ?_, hbel⟩
      rw [ek] at hbox
      have : filling x 128 = ful x := by simp [filling, ful]
      rwa [this] at hbox

end Go.Proofs.Ytghnhabpcikhgaa
