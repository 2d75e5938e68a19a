/-
  CrcSeals: the walk, where the sum is right.
-/
import Derived.Test.YthfeblkbkndbkaaDoorSealsAt
namespace Go.Proofs.YthfeblkbkndbkaaDoor
open Go.RowKit

set_option maxHeartbeats 2000000 in
theorem seals_good (w : World) (K : Nat → Prop) (A : Option Addr) (n m c : Nat) (l : List Int) (hT : Tab w) (h : Sl w K A n c l) (hn : n ≤ 4000) (hm : n = m + 4) (hok : ((sum (l.take m) : Nat) : Int) = le (l.drop m)) :
    Calls Tryd.prog 4 #[.slice A n c] w (Law w) := by
  have hn' : ¬ (4000 : Int) < (n : Int) := by omega
  have HT := Lib.hid hT
  have HA := Lib.hid h
  have HL := Lib.hid h.len
  obtain ⟨S, hS⟩ : ∃ S, S = strOfNums (sealed l) := ⟨_, rfl⟩
  obtain ⟨T, hTT⟩ : ∃ T, T = strOfNums l := ⟨_, rfl⟩
  have HS := Lib.hid (And.intro hS hTT)
  clear hT h hS hTT
  obtain ⟨R, hR⟩ : ∃ R, R = strOfNums (l.take m) := ⟨_, rfl⟩
  have hm4 : m ≤ 4000 := by omega
  have HM := Lib.hid (And.intro hm (And.intro hok hR))
  clear hm hok hR
  go_enter Tryd.func4, Tryd.ntmps4
  go_wp2_with fail
  refine (own_any w _ A n c l HA.out (by omega)).mono ?_
  rintro e w1 ⟨X, d, rfl, x1, b1⟩
  have F1 := Lib.hid (SealsAt.mk b1 (HT.out.below b1) (HA.out.on b1) (x1.mono (fun _ _ _ => trivial)))
  clear x1 b1
  go_wp2_with fail
  have C1 : Calls Tryd.prog 14 #[.slice X n d] w1 (Checked w1 m (l.take m)) := by
    have hx := F1.out.x
    rw [HM.out.1] at hx ⊢
    exact check_good w1 _ X m d l F1.out.tab hx (by omega) HM.out.2.1
  refine C1.mono ?_
  rintro e w2 ⟨g, rfl, hg, hbox, b2⟩
  have B2 := Lib.hid (And.intro hg (And.intro hbox b2))
  have F2 := Lib.hid (F1.out.on b2)
  clear hg hbox b2 C1
  go_wp2_with fail
  have C2 : Calls Tryd.prog 15 #[.slice A n c] w2 fun e w' => e = .returned (.tuple #[.slice A m c, .int .i64 0]) ∧ Below w2.heap.size w2 w' := by
    have hx := F2.out.a
    have hl := HL.out
    rw [HM.out.1] at hx hl ⊢
    exact refCheck_good w2 _ A m c l hx (by omega) ((sealed_iff hx.bts.fit hl).1 HM.out.2.1)
  refine C2.mono ?_
  rintro e w3 ⟨rfl, b3⟩
  have hbox3 : Box w3 g 5 (cellsOf (l.take m)).toArray := (b3.block g B2.out.2.1.lt).trans B2.out.2.1
  have hlen3 : (l.take m).length = m := by have := HL.out; have := HM.out.1; rw [List.length_take]; omega
  have cv1 := sl_str (sl_of_box (K := fun _ => True) hbox3 (HA.out.bts.fit.take m) hlen3 (by simp only [maxLen]; omega) trivial)
  have cv0 := sl_str ((F2.out.a.on b3).head (m := m) (by have := HM.out.1; omega))
  rw [← HM.out.2.2] at cv1 cv0
  have B3 := Lib.hid (And.intro B2.out.1 (And.intro hbox3 (And.intro hlen3 (on_trans B2.out.2.2 b3))))
  clear b3 F2 C2 B2 hbox3 hlen3
  go_wp2
  go_loopw [37] (fun i wr => ∃ k : Nat, k ≤ m ∧ i = .int .i64 k ∧ (∃ L : List Int, L.length = m ∧ Box wr g 5 (cellsOf L).toArray) ∧ Below w1.heap.size w1 wr) (fun i _ => m - (intOf i).toNat)
  case atStart => exact ⟨0, Nat.zero_le _, rfl, ⟨_, B3.out.2.2.1, B3.out.2.1⟩, B3.out.2.2.2⟩
  case round =>
    obtain ⟨k, hk, rfl, ⟨L, hL, hbox⟩, hbel⟩ := hrel
    clear cv0 cv1
    by_cases hlt : k < m
    · have hfree := hbox.free k
      have hcell : wr.cell? ⟨g, k, none⟩ = some (.int .u8 (L.getD k 0)) := by
        rw [hbox.cell k]
        simp [cellsOf, List.getD_eq_getElem?_getD, List.getElem?_eq_getElem (show k < L.length by omega)]
      obtain ⟨z, hz⟩ : ∃ z, z = L.getD k 0 := ⟨_, rfl⟩
      rw [← hz] at hcell
      have HR := Lib.hid (And.intro hL (And.intro hbox hbel))
      clear hL hbox hbel hz
      go_wp2
      go_roundw
      case rel =>
        obtain ⟨hL, hbox, hbel⟩ := HR.out
        refine ⟨k + 1, by omega, by go_num, box_set hbox hL, hbel.setCell (p := ⟨g, k, none⟩) B3.out.1 _⟩
      case measure => simp [intOf]; omega
    · have FR := Lib.hid (F1.out.on hbel)
      clear hL hbox hbel B3 F1
      go_wp2_with fail
      go_region_with (first
        | (go_at_call 16
           refine (seal_any wr.drew _ X n d l FR.out.tab FR.out.x.drew (by omega)).mono ?_
           rintro e w16 ⟨A16, c16, rfl, s16, b16⟩
           have F16 := Lib.hid (FR.out.on (on_trans (on_drew wr) b16))
           have S16 := Lib.hid s16
           have cv2 := sl_str s16
           rw [← HS.out.1] at cv2
           clear s16 b16)
        | (go_at_call 17
           refine (refSeal_any w16 _ A n c l F16.out.a (by omega)).mono ?_
           rintro e w17 ⟨A17, c17, rfl, s17, b17⟩
           have F17 := Lib.hid (F16.out.on b17)
           have cv3 := sl_str s17
           have cv4 := sl_str (S16.out.on b17)
           have cv5 := sl_str F17.out.x
           have cv6 := sl_str F17.out.a
           rw [← HS.out.1] at cv3 cv4
           rw [← HS.out.2] at cv5 cv6
           clear s17 b17)
        | (go_at_call 9
           refine (awake_any w17 F17.out.tab).mono ?_
           rintro e w18 ⟨rfl, b18⟩
           have F18 := Lib.hid (on_trans F17.out.bel b18)
           clear b18))
      all_goals
        go_wp2
        go_ret
        exact ⟨rfl, F18.out⟩

end Go.Proofs.YthfeblkbkndbkaaDoor
