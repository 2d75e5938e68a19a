/-
  The contract of the laws' own awake.
-/
import Derived.Test.YteoahoepipnkfaaDoorRefAll
namespace Go.Proofs.YteoahoepipnkfaaDoor
open Go.RowKit

/-- 800, and noughts -/
def L800 : List Int := 800 :: List.replicate 63 0
theorem L800_len : L800.length = 64 := by decide
theorem fwd_100 : fwdL (flatL 100) = L800 := list_eq (fwdL_len _) L800_len fun k hk => by
  by_cases h : k = 0
  · subst h
    have a := fwdL_at (flatL 100) (u := 0) (v := 0) (by omega) (by omega)
    rw [show 8 * 0 + 0 = 0 from rfl] at a
    rw [a, fwdT_flat]
    decide +kernel
  · rw [fwdL_flat 100 hk (by omega)]
    unfold L800
    obtain ⟨m, rfl⟩ : ∃ m, k = m + 1 := ⟨k - 1, by omega⟩
    rw [List.getD_cons_succ, List.getD_eq_getElem?_getD, List.getElem?_replicate_of_lt (by omega)]
    rfl
theorem fwdF_100 : fwdF (flatL 100) = (L800, 0) := by
  unfold fwdF
  rw [if_pos ((flat_wi 100 _ _).2 (by omega)), fwd_100]
theorem build800 (w : World) : (Instr.build 23 #[(0, .int .i64 800)]).run Tryd.prog w = .ok (blkV L800) w := run_build w 23 _ _ (by kernel_rfl)
theorem wave_17 : waveF 1 7 = -4017 := by decide +kernel
theorem flat_put {n : Int} {k : Nat} (hk : k < 64) : (mix k (flatL n) zeros64).set k n = mix (k + 1) (flatL n) zeros64 := by
  have := mix_more (y := zeros64) (flatL_len n) zeros_len hk
  rwa [flatL_at n hk] at this

set_option maxRecDepth 10000 in
set_option maxHeartbeats 3200000 in
theorem awake_any (w : World) (hT : Tab w) : Calls Tryd.prog 13 #[] w (Woke w) := by
  obtain ⟨Z, hZ⟩ : ∃ Z, Z = (cellsI zeros64).toArray := ⟨_, rfl⟩
  have hz : ∀ w, (zeroValue 23).run Tryd.prog w = .ok (.agg Z) w := fun w => by rw [hZ]; exact zero23 w
  have hZs : Z.size = 64 := by rw [hZ]; rfl
  have hk : Know w (w.alloc (.cells Z 23)) [(w.heap.size, zeros64)] := by
    refine ⟨fun p hp => ?_, hT.on (on_alloc _ _), on_alloc _ _⟩
    rw [List.mem_singleton] at hp
    subst hp
    rw [hZ]
    exact Blk.made _ _ zeros_len
  obtain ⟨w1, hw1⟩ : ∃ w1, w1 = w.alloc (.cells Z 23) := ⟨_, rfl⟩
  rw [← hw1] at hk
  have H := Lib.hid (And.intro hk (And.intro hT (And.intro hZs hw1.symm)))
  clear hk hT hZ hZs hw1
  go_enter Tryd.func13, Tryd.ntmps13
  go_wp2_with fail
  rw [H.out.2.2.2]
  go_loopw [5] (fun i wr => ∃ k : Nat, k ≤ 64 ∧ i = .int .i64 k ∧ Know w wr [(w.heap.size, mix k (flatL 100) zeros64)]) (fun i _ => 64 - (intOf i).toNat)
  case atStart => exact ⟨0, by omega, rfl, by rw [mix_zero]; exact H.out.1⟩
  case round =>
    obtain ⟨k, hk, rfl, hR⟩ := hrel
    have HR := Lib.hid hR
    clear hR
    by_cases hlt : k < 64
    · have c1 := HR.out.n0.cell hlt
      have hfr := HR.out.n0.free k
      obtain ⟨y, hy⟩ : ∃ y, y = (mix k (flatL 100) zeros64).getD k 0 := ⟨_, rfl⟩
      rw [← hy] at c1
      clear hy
      go_wp2_with fail
      go_roundw
      case rel =>
        refine ⟨k + 1, by omega, by go_num, ?_⟩
        rw [← flat_put hlt]
        exact HR.out.put H.out.2.1 (Nat.le_refl _) (fun p hp => by cases hp) k _
      case measure => simp [intOf]; omega
    · obtain rfl : k = 64 := by omega
      have hR := HR.out
      rw [mix_all (flatL_len 100) zeros_len] at hR
      have HR := Lib.hid hR
      clear hR
      have HF := Lib.hid (fun (w : World) (h : Tab w) => forward_any w (flatL 100) h (flatL_len 100))
      rw [fwdF_100] at HF
      obtain ⟨S, hS⟩ : ∃ S, S = flatL 100 := ⟨_, rfl⟩
      rw [← hS] at HR HF
      obtain ⟨E, hE⟩ : ∃ E, E = L800 := ⟨_, rfl⟩
      rw [← hE] at HF
      have HE := Lib.hid (And.intro hE (show E.length = 64 by rw [hE]; exact L800_len))
      clear hS hE
      go_wp2_with (first
        | (with_reducible refine wpList_load_to (op := ⟨some 12, _, _, _, _, _⟩) rfl 23 (.tmp 1) rfl (.pointer (some ⟨w.heap.size, 0, none⟩)) rfl (blkV S) HR.out.n0.load ?_)
        | fail)
      refine (HF.out wr HR.out.tab).mono ?_
      rintro r w3 ⟨rfl, b3⟩
      have H3 := Lib.hid (HR.out.on b3)
      clear b3
      dsimp only
      go_wp2_with (first
        | ((with_reducible refine wpList_store_blk (o := ⟨none, _, _, _, _, _⟩) rfl (.tmp 3) (.tmp 14) rfl rfl w3.heap.size E rfl rfl Z (Box.made _ _ _) H.out.2.2.1 HE.out.2 ?_)
           intro w4 b4 k4
           have H4 := Lib.hid (H3.out.laid b4 k4)
           clear b4 k4)
        | (with_reducible refine wpList_load_to (op := ⟨some 16, _, _, _, _, _⟩) rfl 23 (.tmp 3) rfl (.pointer (some ⟨w3.heap.size, 0, none⟩)) rfl (blkV E) H4.out.n0.load ?_)
        | (with_reducible refine wpList_build_to (op := ⟨some 17, _, _, _, _, _⟩) rfl 23 #[(0, .const (.int .i64 800))] rfl (blkV E) #[(0, .int .i64 800)] (by simp [Act.eval]) (by rw [HE.out.1]; exact build800 _) ?_)
        | (with_reducible refine wpList_eql23_when (op := ⟨some 18, _, _, _, _, _⟩) rfl (.tmp 16) (.tmp 17) rfl E HE.out.2 rfl rfl ?_)
        | fail)
      have HV := wave_any w4 1 7 H4.out.tab (by unfold isInt; omega) (by unfold isInt; omega)
      unfold Waved at HV
      rw [wave_17] at HV
      refine HV.mono ?_
      rintro r w5 ⟨rfl, rfl⟩
      clear HV
      go_wp2
      go_ret
      exact ⟨rfl, H4.out.bel⟩
end Go.Proofs.YteoahoepipnkfaaDoor
