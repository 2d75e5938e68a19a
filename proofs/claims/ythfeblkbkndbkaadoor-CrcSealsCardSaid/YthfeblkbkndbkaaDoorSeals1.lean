/-
  CrcSeals: the walk, where the bytes are too few.
-/
import Derived.Test.YthfeblkbkndbkaaDoorSealsAt
namespace Go.Proofs.YthfeblkbkndbkaaDoor
open Go.RowKit

set_option maxHeartbeats 2000000 in
theorem seals_short (w : World) (K : Nat → Prop) (A : Option Addr) (n c : Nat) (l : List Int) (hT : Tab w) (h : Sl w K A n c l) (hn : n < 4) :
    Calls Tryd.prog 4 #[.slice A n c] w (Law w) := by
  have hn' : ¬ (4000 : Int) < (n : Int) := by omega
  have HT := Lib.hid hT
  have HA := Lib.hid h
  have HL := Lib.hid h.len
  obtain ⟨S, hS⟩ : ∃ S, S = strOfNums (sealed l) := ⟨_, rfl⟩
  obtain ⟨T, hTT⟩ : ∃ T, T = strOfNums l := ⟨_, rfl⟩
  have HS := Lib.hid (And.intro hS hTT)
  clear hT h hS hTT
  go_enter Tryd.func4, Tryd.ntmps4
  go_wp2_with fail
  refine (own_any w _ A n c l HA.out (by omega)).mono ?_
  rintro e w1 ⟨X, d, rfl, x1, b1⟩
  have F1 := Lib.hid (SealsAt.mk b1 (HT.out.below b1) (HA.out.on b1) (x1.mono (fun _ _ _ => trivial)))
  clear x1 b1
  go_wp2_with fail
  refine (check_short w1 X n d hn).mono ?_
  rintro e w1' ⟨rfl, rfl⟩
  go_wp2_with fail
  refine (refCheck_short w1 A n c hn).mono ?_
  rintro e w1' ⟨rfl, rfl⟩
  have cv1 := sl_str (nil_sl w1)
  go_wp2
  go_loop [37] (fun i => i = .int .i64 0) (fun _ => 0)
  case atStart => exact rfl
  case round =>
    obtain rfl := hrel
    go_wp2_with fail
    go_region_with (first
      | (go_at_call 16
         refine (seal_any w1.drew _ X n d l F1.out.tab F1.out.x.drew (by omega)).mono ?_
         rintro e w16 ⟨A16, c16, rfl, s16, b16⟩
         have F16 := Lib.hid (F1.out.on (on_trans (on_drew w1) b16))
         have S16 := Lib.hid s16
         have cv2 := sl_str s16
         rw [← HS.out.1] at cv2
         clear s16 b16)
      | (go_at_call 17
         refine (refSeal_any w16 _ A n c l F16.out.a (by omega)).mono ?_
         rintro e w17 ⟨A17, c17, rfl, s17, b17⟩
         have F17 := Lib.hid (F16.out.on b17)
         have cv3 := sl_str s17
         have cv4 := sl_str (S16.out.on b17)
         have cv5 := sl_str F17.out.x
         have cv6 := sl_str F17.out.a
         rw [← HS.out.1] at cv3 cv4
         rw [← HS.out.2] at cv5 cv6
         clear s17 b17)
      | (go_at_call 9
         refine (awake_any w17 F17.out.tab).mono ?_
         rintro e w18 ⟨rfl, b18⟩
         have F18 := Lib.hid (on_trans F17.out.bel b18)
         clear b18))
    all_goals
      go_wp2
      go_ret
      exact ⟨rfl, F18.out⟩

end Go.Proofs.YthfeblkbkndbkaaDoor
