/-
  The contract of Seal.
-/
import Derived.Test.YthfeblkbkndbkaaDoorRefSeal
namespace Go.Proofs.YthfeblkbkndbkaaDoor
open Go.RowKit

theorem byte_of (v : Int) (k : Nat) : v / 2 ^ (8 * k) % 256 = byteAt v k := by rw [byteAt, pow_256]

/-- what Seal answers -/
def Sealed (w : World) (n : Nat) (l : List Int) (e : Ending) (w' : World) : Prop :=
  ∃ g, e = .returned (.slice (some ⟨g, 0, none⟩) (n + 4) (n + 4)) ∧ w.heap.size ≤ g ∧ Box w' g 5 (cellsOf (sealed l)).toArray ∧ Below w.heap.size w w'

set_option maxHeartbeats 800000 in
theorem seal_box (w : World) (K : Nat → Prop) (A : Option Addr) (n c : Nat) (l : List Int) (hT : Tab w) (h : Sl w K A n c l) (hn : n ≤ 140737488351200) :
    Calls Tryd.prog 16 #[.slice A n c] w (Sealed w n l) := by
  have H := Lib.hid h
  have HLEN := Lib.hid h.len
  have HT := Lib.hid hT
  obtain ⟨s, hs⟩ : ∃ s, s = sum l := ⟨_, rfl⟩
  have hs2 : s < 4294967296 := by rw [hs]; exact sum_lt h.bts.fit.toNat
  obtain ⟨t, ht⟩ : ∃ t, t = told (s : Int) 4 false := ⟨_, rfl⟩
  have htl : t.length = 4 := by rw [ht]; exact told_len _ _ _
  have HS0 := Lib.hid (And.intro hs (And.intro ht htl))
  clear hs ht htl
  have hmk := run_make_row' (P := Tryd.prog) 22 5 (.int .u8 0) 1 Tryd.underlying22 byte_info rfl .i64 .i64 (n + 4) (by omega) (by omega)
  have ec : ((n + 4 : Nat) : Int) = (n : Int) + 4 := by omega
  rw [ec] at hmk
  clear h hT ec
  go_enter Tryd.func16, Tryd.ntmps16
  go_wp2_with fail
  refine (sum_one w _ rfl HT.out H.out).mono ?_
  rw [← HS0.out.1]
  rintro e w0 ⟨rfl, rfl⟩
  have HB0 := Lib.hid (And.intro (H.out.alloc (.cells #[.slice A n c] 22)) ((Below.refl w.heap.size w).alloc (Nat.le_refl _) (.cells #[.slice A n c] 22)))
  have hsz : (w.alloc (.cells #[.slice A n c] 22)).heap.size = w.heap.size + 1 := by simp
  obtain ⟨w0, hw0⟩ : ∃ w0, w0 = w.alloc (.cells #[.slice A n c] 22) := ⟨_, rfl⟩
  rw [← hw0] at HB0 hsz ⊢
  have HSZ := Lib.hid hsz
  clear hw0 hsz
  go_wp2_with (first | fail |
      ((with_reducible refine wpList_copy_splice (o := ⟨some 15, _, _, _, _, _⟩) rfl (.tmp 13) (.tmp 14) 22 22 rfl 5 Tryd.underlying22 byte_size (some ⟨w0.heap.size, 0, none⟩) A (n + 4) (n + 4) n c rfl rfl w0.heap.size 0 (madeCells #[.int .u8 0] (n + 4)).toList 5 ?hg (cellsOf l) ?hn ?hpos ?hfit (cellsOf_one _) w0.heap.size w0 ?hb (Nat.le_refl _) ?_)
       case hg => exact Box.made w0 5 (madeCells #[.int .u8 0] (n + 4))
       case hn => rw [cellsOf_len, HLEN.out]; exact (Nat.min_eq_left (Nat.le_add_right _ _)).symm
       case hpos => exact fun h0 => ⟨rfl, sl_copy HB0.out.1 _ h0⟩
       case hfit => rw [cellsOf_len, HLEN.out, Array.length_toList, size_madeCells]; omega
       case hb => exact (Below.refl _ w0).alloc (Nat.le_refl _) _
       intro w1 hb1 hbel
       have HB := Lib.hid (And.intro hb1 hbel)
       clear hb1 hbel hmk))
  have hstart : Box w1 w0.heap.size 5 (cellsOf (putting l t 0)).toArray := by
    have := HB.out.1.out
    rw [← HLEN.out, putting_start l t 4 HS0.out.2.2] at this
    exact this
  have HST := Lib.hid (And.intro hstart HB.out.2)
  clear hstart HB
  go_loopw [16] (fun i wr => ∃ k : Nat, k ≤ 4 ∧ i = .int .i64 k ∧ Box wr w0.heap.size 5 (cellsOf (putting l t k)).toArray ∧ Below w0.heap.size w0 wr) (fun i _ => 4 - (intOf i).toNat)
  case atStart => exact ⟨0, Nat.zero_le _, rfl, HST.out⟩
  case round =>
    obtain ⟨k, hk, rfl, hbox, hbel⟩ := hrel
    by_cases hlt : k < 4
    · have hfree := hbox.free (n + k)
      obtain ⟨x, hcell⟩ : ∃ x, wr.cell? ⟨w0.heap.size, n + k, none⟩ = some x := putting_cell hbox HLEN.out HS0.out.2.2 hlt
      have HR := Lib.hid (And.intro hbox hbel)
      clear hbox hbel
      go_wp2
      go_roundw
      case rel =>
        obtain ⟨hbox, hbel⟩ := HR.out
        refine ⟨k + 1, by omega, by go_num, ?_, hbel.setCell (p := ⟨w0.heap.size, n + k, none⟩) (Nat.le_refl _) _⟩
        exact putting_put hbox HLEN.out HS0.out.2.2 hlt (by rw [HS0.out.2.1, told_get (s : Int) 4 false k hlt]; simp only [Bool.false_eq_true, if_false]; exact (byte_of _ _).symm)
      case measure => simp [intOf]; omega
    · have HR := Lib.hid (And.intro hbox hbel)
      clear hbox hbel
      go_wp2
      go_ret
      have ek : k = 4 := by omega
      obtain ⟨hbox, hbel⟩ := HR.out
      have he := putting_end l t
      rw [HS0.out.2.2] at he
      rw [ek, he, HS0.out.2.1, HS0.out.1] at hbox
      exact ⟨w0.heap.size, rfl, by have := HSZ.out; omega, hbox, HB0.out.2.trans (hbel.mono (by have := HSZ.out; omega))⟩

theorem seal_any (w : World) (K : Nat → Prop) (A : Option Addr) (n c : Nat) (l : List Int) (hT : Tab w) (h : Sl w K A n c l) (hn : n ≤ 140737488351200) :
    Calls Tryd.prog 16 #[.slice A n c] w (Owned w (n + 4) (sealed l)) := by
  refine (seal_box w K A n c l hT h hn).mono ?_
  rintro e w' ⟨g, rfl, hg, hbox, hb⟩
  exact ⟨_, _, rfl, sl_of_box hbox (sealed_fit h.bts.fit) (by rw [← h.len]; exact sealed_len l) (by simp only [maxLen]; omega) hg, hb⟩

end Go.Proofs.YthfeblkbkndbkaaDoor
