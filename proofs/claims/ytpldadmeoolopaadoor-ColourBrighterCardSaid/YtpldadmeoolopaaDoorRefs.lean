/-
  The contracts of the reference's Pixel and of the laws' own awake.
-/
import Derived.Test.YtpldadmeoolopaaDoorOf
namespace Go.Proofs.YtpldadmeoolopaaDoor
open Go.RowKit

set_option maxHeartbeats 1600000 in
theorem refPix_any (w : World) (y cb cr : Int) : Calls Tryd.prog 8 #[.int .i64 y, .int .i64 cb, .int .i64 cr] w (Tells w (pixF y cb cr)) := by
  by_cases hin : In3 y cb cr
  · have hE : pixF y cb cr = ((pixR y cb cr, pixG y cb cr, pixB y cb cr), 0) := if_pos hin
    have d0 : decide (In8 y) = true := decide_eq_true hin.1
    have d1 : decide (In8 cb) = true := decide_eq_true hin.2.1
    have d2 : decide (In8 cr) = true := decide_eq_true hin.2.2
    have hs := pix_sums hin
    obtain ⟨⟨a0, a1⟩, ⟨a2, a3⟩, a4, a5⟩ := hin
    unfold pixR pixG pixB at hE
    have B0 := Lib.hid (fun w => by_any w (91881 * (cr - 128)) (by unfold isInt; omega))
    have B1 := Lib.hid (fun w => by_any w (22554 * (cb - 128) + 46802 * (cr - 128)) (by unfold isInt; omega))
    have B2 := Lib.hid (fun w => by_any w (116130 * (cb - 128)) (by unfold isInt; omega))
    unfold Byd at B0 B1 B2
    obtain ⟨x0, hx0⟩ : ∃ x, x = rnd (91881 * (cr - 128)) 65536 := ⟨_, rfl⟩
    obtain ⟨x1, hx1⟩ : ∃ x, x = rnd (22554 * (cb - 128) + 46802 * (cr - 128)) 65536 := ⟨_, rfl⟩
    obtain ⟨x2, hx2⟩ : ∃ x, x = rnd (116130 * (cb - 128)) 65536 := ⟨_, rfl⟩
    have r0 := rnd_bound (91881 * (cr - 128)) 65536
    have r1 := rnd_bound (22554 * (cb - 128) + 46802 * (cr - 128)) 65536
    have r2 := rnd_bound (116130 * (cb - 128)) 65536
    rw [← hx0] at B0 hE r0
    rw [← hx1] at B1 hE r1
    rw [← hx2] at B2 hE r2
    have C0 := Lib.hid (fun w => cut_any w (y + x0))
    have C1 := Lib.hid (fun w => cut_any w (y - x1))
    have C2 := Lib.hid (fun w => cut_any w (y + x2))
    unfold Cutd at C0 C1 C2
    obtain ⟨z0, hz0⟩ : ∃ x, x = cut8 (y + x0) := ⟨_, rfl⟩
    obtain ⟨z1, hz1⟩ : ∃ x, x = cut8 (y - x1) := ⟨_, rfl⟩
    obtain ⟨z2, hz2⟩ : ∃ x, x = cut8 (y + x2) := ⟨_, rfl⟩
    rw [← hz0] at C0 hE
    rw [← hz1] at C1 hE
    rw [← hz2] at C2 hE
    have HE := Lib.hid (And.intro hE (And.intro d0 (And.intro d1 d2)))
    obtain ⟨⟨s0, s1⟩, ⟨s2, s3⟩, s4, s5⟩ := hs
    obtain ⟨r00, r01⟩ := r0
    obtain ⟨r10, r11⟩ := r1
    obtain ⟨r20, r21⟩ := r2
    clear hE d0 d1 d2 hx0 hx1 hx2 hz0 hz1 hz2
    go_enter Tryd.func8, Tryd.ntmps8
    go_wp2_with fail
    refine (in_any _ y).mono ?_
    rintro e w2 ⟨rfl, rfl⟩
    rw [HE.out.2.1]
    go_wp2_with fail
    refine (in_any _ cb).mono ?_
    rintro e w2 ⟨rfl, rfl⟩
    rw [HE.out.2.2.1]
    go_wp2_with fail
    refine (in_any _ cr).mono ?_
    rintro e w2 ⟨rfl, rfl⟩
    rw [HE.out.2.2.2]
    go_wp2_with fail
    refine Calls.mono (B0.out _) ?_
    rintro e w2 ⟨rfl, rfl⟩
    go_wp2_with fail
    refine Calls.mono (C0.out _) ?_
    rintro e w2 ⟨rfl, rfl⟩
    go_wp2_with fail
    refine Calls.mono (B1.out _) ?_
    rintro e w2 ⟨rfl, rfl⟩
    go_wp2_with fail
    refine Calls.mono (C1.out _) ?_
    rintro e w2 ⟨rfl, rfl⟩
    go_wp2_with fail
    refine Calls.mono (B2.out _) ?_
    rintro e w2 ⟨rfl, rfl⟩
    go_wp2_with fail
    refine Calls.mono (C2.out _) ?_
    rintro e w2 ⟨rfl, rfl⟩
    go_wp2_with fail
    refine bodyPost_ret (v := .tuple #[rowV [z0, z1, z2], .int .i64 0]) (results_ct (fn := Tryd.f8) Tryd.results8 _ _ w.heap.size _ _ rfl rfl (loadVar_tri (Box.made _ _ _) rfl)) rfl ?_
    exact ⟨by rw [HE.out.1]; rfl, on_alloc _ _⟩
  · have hE : pixF y cb cr = ((0, 0, 0), 2) := if_neg hin
    have HE := Lib.hid hE
    have hd : decide (In8 y) = false ∨ (decide (In8 y) = true ∧ decide (In8 cb) = false) ∨ (decide (In8 y) = true ∧ decide (In8 cb) = true ∧ decide (In8 cr) = false) := by
      by_cases a : In8 y
      · by_cases b : In8 cb
        · exact .inr (.inr ⟨decide_eq_true a, decide_eq_true b, decide_eq_false fun c => hin ⟨a, b, c⟩⟩)
        · exact .inr (.inl ⟨decide_eq_true a, decide_eq_false b⟩)
      · exact .inl (decide_eq_false a)
    clear hE hin
    rcases hd with d0 | ⟨d0, d1⟩ | ⟨d0, d1, d2⟩
    · have D := Lib.hid d0
      clear d0
      go_enter Tryd.func8, Tryd.ntmps8
      go_wp2_with fail
      refine (in_any _ y).mono ?_
      rintro e w2 ⟨rfl, rfl⟩
      rw [D.out]
      go_wp2_with fail
      refine bodyPost_ret (v := .tuple #[rowV [0, 0, 0], .int .i64 2]) (results_ct (fn := Tryd.f8) Tryd.results8 _ _ w.heap.size _ _ rfl rfl (loadVar_tri (Box.made _ _ _) rfl)) rfl ?_
      exact ⟨by rw [HE.out]; rfl, on_alloc _ _⟩
    · have D := Lib.hid (And.intro d0 d1)
      clear d0 d1
      go_enter Tryd.func8, Tryd.ntmps8
      go_wp2_with fail
      refine (in_any _ y).mono ?_
      rintro e w2 ⟨rfl, rfl⟩
      rw [D.out.1]
      go_wp2_with fail
      refine (in_any _ cb).mono ?_
      rintro e w2 ⟨rfl, rfl⟩
      rw [D.out.2]
      go_wp2_with fail
      refine bodyPost_ret (v := .tuple #[rowV [0, 0, 0], .int .i64 2]) (results_ct (fn := Tryd.f8) Tryd.results8 _ _ w.heap.size _ _ rfl rfl (loadVar_tri (Box.made _ _ _) rfl)) rfl ?_
      exact ⟨by rw [HE.out]; rfl, on_alloc _ _⟩
    · have D := Lib.hid (And.intro d0 (And.intro d1 d2))
      clear d0 d1 d2
      go_enter Tryd.func8, Tryd.ntmps8
      go_wp2_with fail
      refine (in_any _ y).mono ?_
      rintro e w2 ⟨rfl, rfl⟩
      rw [D.out.1]
      go_wp2_with fail
      refine (in_any _ cb).mono ?_
      rintro e w2 ⟨rfl, rfl⟩
      rw [D.out.2.1]
      go_wp2_with fail
      refine (in_any _ cr).mono ?_
      rintro e w2 ⟨rfl, rfl⟩
      rw [D.out.2.2]
      go_wp2_with fail
      refine bodyPost_ret (v := .tuple #[rowV [0, 0, 0], .int .i64 2]) (results_ct (fn := Tryd.f8) Tryd.results8 _ _ w.heap.size _ _ rfl rfl (loadVar_tri (Box.made _ _ _) rfl)) rfl ?_
      exact ⟨by rw [HE.out]; rfl, on_alloc _ _⟩

set_option maxHeartbeats 1600000 in
theorem awake_any (w : World) (hT : TabT w) : Calls Tryd.prog 9 #[] w (Law w) := by
  have HC := Lib.hid (of_any w 255 0 0 hT)
  rw [ofF_red] at HC
  unfold Tells at HC
  clear hT
  go_enter Tryd.func9, Tryd.ntmps9
  go_wp2_with fail
  refine Calls.mono HC.out ?_
  rintro e w2 ⟨rfl, b2⟩
  have H2 := Lib.hid b2
  clear b2
  have hv : triV (76, 85, 255) = .agg #[.int .i64 76, .int .i64 85, .int .i64 255] := rfl
  dsimp only
  rw [hv]
  clear hv
  go_wp2
  go_ret
  exact ⟨rfl, on_trans H2.out (on_alloc _ _)⟩
end Go.Proofs.YtpldadmeoolopaaDoor
