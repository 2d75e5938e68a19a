/-
  DctFlat: the walk.
-/
import Derived.Test.YteoahoepipnkfaaDoorInverse
namespace Go.Proofs.YteoahoepipnkfaaDoor
open Go.RowKit

theorem wf_i16 {n : Int} (h : (Lit.int .i16 n).wf = true) : -32768 ≤ n ∧ n ≤ 32767 := by
  simpa [Lit.wf, IntKind.min, IntKind.max, IntKind.signed, IntKind.bits] using h
theorem flat_first (n : Int) : (fwdL (flatL n)).set 0 0 = zeros64 := list_eq (by rw [List.length_set, fwdL_len]) zeros_len fun k hk => by
  rw [zeros_at]
  by_cases h : k = 0
  · subst h
    rw [List.getD_eq_getElem?_getD, List.getElem?_set_self (by rw [fwdL_len]; omega)]
    rfl
  · rw [List.getD_eq_getElem?_getD, List.getElem?_set_ne (by omega), ← List.getD_eq_getElem?_getD]
    exact fwdL_flat n hk (by omega)

set_option maxRecDepth 10000 in
set_option maxHeartbeats 3200000 in
theorem flat_calls (w : World) (n : Int) (hT : Tab w) (hn : -32768 ≤ n ∧ n ≤ 32767) : Calls Tryd.prog 7 #[.int .i16 n] w (Law w) := by
  obtain ⟨Z, hZ⟩ : ∃ Z, Z = (cellsI zeros64).toArray := ⟨_, rfl⟩
  have hz : ∀ w, (zeroValue 23).run Tryd.prog w = .ok (.agg Z) w := fun w => by rw [hZ]; exact zero23 w
  have hZs : Z.size = 64 := by rw [hZ]; rfl
  have hk : Know w (w.alloc (.cells Z 23)) [(w.heap.size, zeros64)] := by
    refine ⟨fun p hp => ?_, hT.on (on_alloc _ _), on_alloc _ _⟩
    rw [List.mem_singleton] at hp
    subst hp
    rw [hZ]
    exact Blk.made _ _ zeros_len
  obtain ⟨w1, hw1⟩ : ∃ w1, w1 = w.alloc (.cells Z 23) := ⟨_, rfl⟩
  rw [← hw1] at hk
  have H := Lib.hid (And.intro hk (And.intro hT (And.intro hZs (And.intro hw1.symm (show Value.agg Z = blkV zeros64 by rw [hZ]; rfl)))))
  obtain ⟨n0, n1⟩ := hn
  clear hk hT hZ hZs hw1
  go_enter Tryd.func7, Tryd.ntmps7
  go_wp2_with fail
  rw [H.out.2.2.2.1]
  go_loopw [7] (fun i wr => ∃ k : Nat, k ≤ 64 ∧ i = .int .i64 k ∧ Know w wr [(w.heap.size, mix k (flatL n) zeros64)]) (fun i _ => 64 - (intOf i).toNat)
  case atStart => exact ⟨0, by omega, rfl, by rw [mix_zero]; exact H.out.1⟩
  case round =>
    obtain ⟨k, hk, rfl, hR⟩ := hrel
    have HR := Lib.hid hR
    clear hR
    by_cases hlt : k < 64
    · have c1 := HR.out.n0.cell hlt
      have hfr := HR.out.n0.free k
      obtain ⟨y, hy⟩ : ∃ y, y = (mix k (flatL n) zeros64).getD k 0 := ⟨_, rfl⟩
      rw [← hy] at c1
      clear hy
      go_wp2_with fail
      go_roundw
      case rel =>
        refine ⟨k + 1, by omega, by go_num, ?_⟩
        rw [← flat_put hlt]
        exact HR.out.put H.out.2.1 (Nat.le_refl _) (fun p hp => by cases hp) k _
      case measure => simp [intOf]; omega
    · obtain rfl : k = 64 := by omega
      have hR := HR.out
      rw [mix_all (flatL_len n) zeros_len] at hR
      have HR := Lib.hid hR
      clear hR
      have HF := Lib.hid (fun (w : World) (h : Tab w) => forward_any w (flatL n) h (flatL_len n))
      by_cases hin : -2048 ≤ n ∧ n ≤ 2047
      · have e : fwdF (flatL n) = (fwdL (flatL n), 0) := by unfold fwdF; rw [if_pos ((flat_wi n _ _).2 hin)]
        have hset := flat_first n
        have hxl := fwdL_len (flatL n)
        rw [e] at HF
        obtain ⟨S, hS⟩ : ∃ S, S = flatL n := ⟨_, rfl⟩
        obtain ⟨x, hx⟩ : ∃ x, x = fwdL (flatL n) := ⟨_, rfl⟩
        rw [← hx] at HF hset hxl
        rw [← hS] at HR HF
        have HX := Lib.hid (And.intro hxl hset)
        obtain ⟨m0, m1⟩ := hin
        clear e hset hxl hS hx
        go_wp2_with (first
          | (with_reducible refine wpList_load_to (op := ⟨some 16, _, _, _, _, _⟩) rfl 23 (.tmp 3) rfl (.pointer (some ⟨w.heap.size, 0, none⟩)) rfl (blkV S) HR.out.n0.load ?_)
          | fail)
        refine (HF.out wr HR.out.tab).mono ?_
        rintro r w3 ⟨rfl, bb⟩
        have H3 := Lib.hid (HR.out.on bb)
        have HLT := Lib.hid (show w.heap.size < w3.heap.size from Nat.lt_of_lt_of_le HR.out.n0.box.lt bb.size)
        clear bb
        dsimp only
        go_wp2_with (first
          | ((with_reducible refine wpList_store_blk (o := ⟨none, _, _, _, _, _⟩) rfl (.tmp 5) (.tmp 18) rfl rfl w3.heap.size x rfl rfl Z (Box.made _ _ _) H.out.2.2.1 HX.out.1 ?_)
             intro w4 b4 k4
             have H4 := Lib.hid (H3.out.laid b4 k4)
             have c1 := H4.out.n0.cell (k := 0) (by omega)
             have hfr := H4.out.n0.free 0
             have hp := H4.out.put H.out.2.1 (Nat.le_of_lt HLT.out) (fun p hp => by rw [List.mem_singleton] at hp; subst hp; exact Nat.ne_of_lt HLT.out) 0 0
             rw [HX.out.2] at hp
             have HS := Lib.hid hp
             clear b4 k4 hp)
          | (with_reducible refine wpList_load_to (op := ⟨some 37, _, _, _, _, _⟩) rfl 23 (.tmp 5) rfl (.pointer (some ⟨w3.heap.size, 0, none⟩)) rfl (blkV zeros64) HS.out.n0.load ?_)
          | ((with_reducible refine wpList_eql23_when (op := ⟨some 39, _, _, _, _, _⟩) rfl (.tmp 37) (.tmp 38) rfl zeros64 zeros_len rfl ?hy ?_); (case hy => exact H.out.2.2.2.2))
          | fail)
        refine (awake_any _ HS.out.tab).mono ?_
        rintro r w5 ⟨rfl, b5⟩
        have H5 := Lib.hid (on_trans HS.out.bel b5)
        clear b5
        go_wp2
        go_ret
        exact ⟨rfl, H5.out⟩
      · have e : fwdF (flatL n) = (zeros64, 2) := by unfold fwdF; rw [if_neg (fun h => hin ((flat_wi n _ _).1 h))]
        rw [e] at HF
        obtain ⟨S, hS⟩ : ∃ S, S = flatL n := ⟨_, rfl⟩
        rw [← hS] at HR HF
        have hh : n < -2048 ∨ (-2048 ≤ n ∧ 2047 < n) := by omega
        clear e hS hin
        rcases hh with h | ⟨h, h2⟩
        all_goals
          go_wp2_with (first
            | (with_reducible refine wpList_load_to (op := ⟨some 16, _, _, _, _, _⟩) rfl 23 (.tmp 3) rfl (.pointer (some ⟨w.heap.size, 0, none⟩)) rfl (blkV S) HR.out.n0.load ?_)
            | fail)
          refine (HF.out wr HR.out.tab).mono ?_
          rintro r w3 ⟨rfl, bb⟩
          have H3 := Lib.hid (HR.out.on bb)
          clear bb
          dsimp only
          go_wp2_with (first
            | ((with_reducible refine wpList_store_blk (o := ⟨none, _, _, _, _, _⟩) rfl (.tmp 5) (.tmp 18) rfl rfl w3.heap.size zeros64 rfl rfl Z (Box.made _ _ _) H.out.2.2.1 zeros_len ?_)
               intro w4 b4 k4
               have H4 := Lib.hid (H3.out.laid b4 k4)
               clear b4 k4)
            | (with_reducible refine wpList_load_to (op := ⟨some 26, _, _, _, _, _⟩) rfl 23 (.tmp 5) rfl (.pointer (some ⟨w3.heap.size, 0, none⟩)) rfl (blkV zeros64) H4.out.n0.load ?_)
            | ((with_reducible refine wpList_eql23_when (op := ⟨some 28, _, _, _, _, _⟩) rfl (.tmp 26) (.tmp 27) rfl zeros64 zeros_len rfl ?hy ?_); (case hy => exact H.out.2.2.2.2))
            | fail)
          refine (awake_any w4 H4.out.tab).mono ?_
          rintro r w5 ⟨rfl, b5⟩
          have H5 := Lib.hid (on_trans H4.out.bel b5)
          clear b5
          go_wp2
          go_ret
          exact ⟨rfl, H5.out⟩
end Go.Proofs.YteoahoepipnkfaaDoor
