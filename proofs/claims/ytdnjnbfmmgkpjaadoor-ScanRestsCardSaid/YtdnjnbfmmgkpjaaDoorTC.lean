/-
  The contract of suited: the table that suits counts.
-/
import Derived.Test.YtdnjnbfmmgkpjaaDoorGC
namespace Go.Proofs.YtdnjnbfmmgkpjaaDoor
open Go.RowKit

def SuitY (w : World) (C : List Int) (e : Ending) (w' : World) : Prop := Below w.heap.size w w' ∧ ∃ B V A n c, e = .returned (.tuple #[specV B (.slice A n c), .int .i64 0]) ∧ Il w' A n c V ∧ Suits C B V ∧ n ≤ 256 ∧ B.length = 16
set_option maxRecDepth 10000 in
set_option maxHeartbeats 3200000 in
theorem suited_any (w : World) (C : List Int) (A : Option Addr) (n c : Nat) (h : Ia w A n c C) (hg : Good C) : Calls Tryd.prog 33 #[.slice A n c] w (SuitY w C) := by
  obtain ⟨ZC, hZC⟩ : ∃ ZC, ZC = zeroC := ⟨_, rfl⟩
  have hz26 : ∀ w, (zeroValue 30).run Tryd.prog w = .ok (.agg ZC) w := by rw [hZC]; exact zero25
  obtain ⟨r, hr⟩ : ∃ r, r = w.heap.size := ⟨_, rfl⟩
  obtain ⟨w1, hw1⟩ : ∃ w1, w1 = w.alloc (.cells ZC 30) := ⟨_, rfl⟩
  have hb1 : Box w1 r 30 zeroC := by rw [hw1, hr, hZC]; exact Box.made _ _ _
  have bel1 : Below w.heap.size w w1 := by rw [hw1]; exact on_alloc _ _
  have hn := h.len
  have hn2 := hg.few
  have H1 := Lib.hid (And.intro hb1 (And.intro bel1 (And.intro (h.on bel1) (And.intro hw1 (And.intro hr hn)))))
  have HG := Lib.hid hg
  rw [hn] at hn2
  have hm : ∀ k, k < n → -9223372036854775808 ≤ C.getD k 0 ∧ C.getD k 0 ≤ 9223372036854775807 := fun k hk => by
    have := hg.rang k (by omega)
    omega
  have HM := Lib.hid hm
  clear hb1 bel1 hw1 hr h hZC hg hn hm
  go_enter Tryd.func33, Tryd.ntmps33
  go_wp2_with fail
  rw [← H1.out.2.2.2.1, ← H1.out.2.2.2.2.1]
  go_loopw [5, 8] (fun _ i wr => ∃ k : Nat, k ≤ n ∧ i = .int .i64 (k : Int) ∧ (∀ j, j < k → C.getD j 0 ≤ 0) ∧ wr = w1) (fun _ i _ => n - (intOf i).toNat)
  case atStart => exact ⟨0, Nat.zero_le _, rfl, fun j hj => absurd hj (by omega), rfl⟩
  case round =>
    obtain ⟨k, hk, rfl, hno, rfl⟩ := hrel
    have HN := Lib.hid hno
    clear hno
    by_cases hlt : k < n
    · obtain ⟨b, off, rfl⟩ : ∃ b off, A = some ⟨b, off, none⟩ := by
        obtain ⟨b, off, e, _⟩ := H1.out.2.2.1.at_ (by omega)
        exact ⟨b, off, e⟩
      have s1 := H1.out.2.2.1.get hlt
      have hmk := HM.out k hlt
      obtain ⟨z, hz⟩ : ∃ z, z = C.getD k 0 := ⟨_, rfl⟩
      rw [← hz] at s1 hmk
      have HZ := Lib.hid hz
      clear hz
      by_cases hz0 : 0 < z
      · have HS := Lib.hid (spec_anyT wr C (some ⟨b, off, none⟩) n c H1.out.2.2.1 (by omega))
        unfold SpecGot at HS
        go_wp2_with fail
        refine Calls.mono HS.out ?_
        rintro e w2 ⟨b2, hsp⟩
        rcases hsp with ⟨hbad, _⟩ | ⟨hg2, ha2, B, V, A2, n2, c2, rfl, hil, hso, hn22, hB⟩
        · exact absurd ⟨HG.out, k, by rw [H1.out.2.2.2.2.2]; exact hlt, by rw [← HZ.out]; exact hz0⟩ hbad
        · have H2 := Lib.hid (And.intro (H1.out.1.on b2) (And.intro (on_trans H1.out.2.1 b2) (And.intro hil (And.intro hso (And.intro ha2 hB)))))
          clear b2 hil hso ha2 hg2 hB
          go_wp2_with (first
            | ((with_reducible refine wpList_store_spec (o := ⟨none, _, _, _, _, _⟩) rfl (.tmp 2) (.tmp 16) rfl rfl r B (.slice A2 n2 c2) rfl rfl zeroC H2.out.1 rfl H2.out.2.2.2.2.2 rfl ?_)
               intro w4 b4 k4
               have H4 := Lib.hid (And.intro b4 k4)
               clear b4 k4)
            | fail)
          refine bodyPost_ret (v := .tuple #[specV B (.slice A2 n2 c2), .int .i64 0]) (results_spec Tryd.results33 _ _ r _ _ _ rfl rfl H4.out.1 H2.out.2.2.2.2.2) rfl ?_
          refine ⟨H2.out.2.1.trans (H4.out.2.below H2.out.2.1.size (fun i hi e => by have := H1.out.2.2.2.2.1; omega)), B, V, A2, n2, c2, rfl, ?_, .inl ⟨H2.out.2.2.2.2.1, H2.out.2.2.2.1⟩, hn22, H2.out.2.2.2.2.2⟩
          exact H2.out.2.2.1.kept H4.out.2 (fun b off e h => by
            obtain ⟨cs, fr, hh⟩ := H2.out.2.2.1.typ b off e
            rw [h, show w2.heap[r]? = some (.cells _ 30 (0, 0)) from H2.out.1] at hh
            cases hh)
      · go_wp2_with fail
        go_roundw
        case rel => exact ⟨k + 1, by omega, by go_num, fun j hj => by
          rcases Nat.lt_or_ge j k with h | h
          · exact HN.out j h
          · obtain rfl : j = k := by omega
            have := HZ.out
            omega, trivial⟩
        case measure => simp [intOf]; omega
    · obtain rfl : k = n := by omega
      have hna : ¬ Any C C.length := fun ⟨j, hj, h0⟩ => by
        have := HN.out j (by have := H1.out.2.2.2.2.2; omega)
        omega
      have HNA := Lib.hid hna
      clear hna
      obtain ⟨w5, hw5⟩ : ∃ w5, wr.alloc (.cells #[.int .i64 1] 3) = w5 := ⟨_, rfl⟩
      have k5 : Below wr.heap.size wr w5 := by rw [← hw5]; exact on_alloc _ _
      have il5 : Il w5 (some ⟨wr.heap.size, 0, none⟩) 1 1 [1] := by rw [← hw5]; exact il_one _ _
      have H5 := Lib.hid (And.intro (H1.out.1.on k5) (on_trans H1.out.2.1 k5))
      have HS := Lib.hid (spec_anyT w5 [1] (some ⟨wr.heap.size, 0, none⟩) 1 1 il5.ia (by omega))
      unfold SpecGot at HS
      clear k5 il5
      go_wp2_with fail
      refine Calls.mono HS.out ?_
      rintro e w2 ⟨b2, hsp⟩
      rcases hsp with ⟨hbad, _⟩ | ⟨hg2, ha2, B, V, A2, n2, c2, rfl, hil, hso, hn22, hB⟩
      · exact absurd ⟨one_good, one_any⟩ hbad
      · have H2 := Lib.hid (And.intro (H5.out.1.on b2) (And.intro (on_trans H5.out.2 b2) (And.intro hil (And.intro hso (And.intro ha2 hB)))))
        clear b2 hil hso ha2 hg2 hB
        go_wp2_with (first
          | ((with_reducible refine wpList_store_spec (o := ⟨none, _, _, _, _, _⟩) rfl (.tmp 2) (.tmp 21) rfl rfl r B (.slice A2 n2 c2) rfl rfl zeroC H2.out.1 rfl H2.out.2.2.2.2.2 rfl ?_)
             intro w4 b4 k4
             have H4 := Lib.hid (And.intro b4 k4)
             clear b4 k4)
          | fail)
        refine bodyPost_ret (v := .tuple #[specV B (.slice A2 n2 c2), .int .i64 0]) (results_spec Tryd.results33 _ _ r _ _ _ rfl rfl H4.out.1 H2.out.2.2.2.2.2) rfl ?_
        refine ⟨H2.out.2.1.trans (H4.out.2.below H2.out.2.1.size (fun i hi e => by have := H1.out.2.2.2.2.1; omega)), B, V, A2, n2, c2, rfl, ?_, .inr ⟨HNA.out, H2.out.2.2.2.1⟩, hn22, H2.out.2.2.2.2.2⟩
        exact H2.out.2.2.1.kept H4.out.2 (fun b off e h => by
            obtain ⟨cs, fr, hh⟩ := H2.out.2.2.1.typ b off e
            rw [h, show w2.heap[r]? = some (.cells _ 30 (0, 0)) from H2.out.1] at hh
            cases hh)
end Go.Proofs.YtdnjnbfmmgkpjaaDoor
