/-
  The contract of Merge.
-/
import Derived.Test.YtjkmbiieagmjkaaDoorComb
namespace Go.Proofs.YtjkmbiieagmjkaaDoor
open Go.RowKit

theorem mrg_round (f : List Int) {k : Nat} (hk : k < 64) : (mrgL f).getD k 0 = rnd ((cmbL f).getD k 0) 33554432 := by
  unfold mrgL cmbL
  rw [tab_at _ hk, tab_at _ hk]
theorem mrgF_in {f : List Int} (h : W4 f (-1048576) 1048576) : mrgF f = (mrgL f, 0) := by unfold mrgF; rw [if_pos h]
theorem mrgF_out {f : List Int} (h : ¬ W4 f (-1048576) 1048576) : mrgF f = (zeros64, 2) := by unfold mrgF; rw [if_neg h]
/-- the first m blocks lie between two -/
def Wm (f : List Int) (m : Nat) : Prop := ∀ k, k < m → Wi (sub f k) (-1048576) 1048576
theorem Wm.more {f : List Int} {m : Nat} (h : Wm f m) (hm : Wi (sub f m) (-1048576) 1048576) : Wm f (m + 1) := fun k hk => by
  by_cases e : k = m
  · rw [e]; exact hm
  · exact h k (by omega)
/-- the answer's block is written -/
theorem Know.done {w wr w' : World} {L : List Lies} {g : Nat} (h : Know w wr L) (hg : w.heap.size ≤ g) (k : Kept (fun i => i = g) wr w') : Below w.heap.size w w' :=
  h.bel.trans (k.below h.bel.size (fun i hi e => by omega))

set_option maxRecDepth 10000 in
set_option maxHeartbeats 3200000 in
theorem merge_any (w : World) (f : List Int) (hT : Tab w) (hf : f.length = 256) : Calls Tryd.prog 9 #[fourV f] w (Tells w (mrgF f)) := by
  obtain ⟨cs, Z, w2, hfv, hZV, hZs, hz', hmk, hw2, hk, hsz⟩ := fr_boxed w f hT hf
  have hbd : ∀ w, (Instr.build 23 #[]).run Tryd.prog w = .ok (.agg Z) w := fun w => by rw [← hZV]; exact build0 w
  have HL := Lib.hid hk.f1.load
  rw [← hw2] at HL
  have H := Lib.hid (And.intro hk (And.intro hT (And.intro hf (And.intro hw2 (And.intro hZV.symm hZs)))))
  obtain ⟨v, hv'⟩ : ∃ v, v = fourV f := ⟨_, rfl⟩
  rw [← hv'] at HL
  have HV := Lib.hid hv'
  have HI := Lib.hid (fun (w : World) (m : Nat) (hm : m < 4) => index24 w (f := f) hm)
  rw [← hv'] at HI
  rw [hfv]
  obtain ⟨F, hF⟩ : ∃ F, F = mrgF f := ⟨_, rfl⟩
  rw [← hF]
  have HF := Lib.hid hF
  clear hT hf hfv hZV hZs hmk hw2 hk hsz hv' hF
  go_enter Tryd.func9, Tryd.ntmps9
  go_wp2_with (first
    | (with_reducible refine wpList_load_to (op := ⟨some 9, _, _, _, _, _⟩) rfl 24 (.tmp 1) rfl (.pointer (some ⟨w.heap.size, 0, none⟩)) rfl v HL.out ?_)
    | fail)
  rw [H.out.2.2.2.1]
  clear HL
  go_loopw [10] (fun i wr => ∃ m : Nat, m ≤ 4 ∧ i = .int .i64 m ∧ Wm f m ∧ Know w wr [.blk (w.heap.size + 1) zeros64, .four w.heap.size f]) (fun i _ => 4 - (intOf i).toNat)
  case atStart => exact ⟨0, by omega, rfl, fun k hk => absurd hk (by omega), H.out.1⟩
  case round =>
    obtain ⟨m, hm, rfl, hW, hR⟩ := hrel
    have HR := Lib.hid hR
    have HW := Lib.hid hW
    clear hR hW
    by_cases hlt : m < 4
    · have hidx := fun w => HI.out w m hlt
      have HSL := Lib.hid (sub_len H.out.2.2.1 hlt)
      obtain ⟨b, hb⟩ : ∃ b, b = sub f m := ⟨_, rfl⟩
      rw [← hb] at hidx HSL
      have HB := Lib.hid hb
      clear hb
      go_wp2_with (first
        | ((with_reducible refine wpList_store_blk (o := ⟨none, _, _, _, _, _⟩) rfl (.tmp 5) (.tmp 12) rfl rfl wr.heap.size b rfl rfl Z (Box.made _ _ _) H.out.2.2.2.2.2 HSL.out ?_)
           intro w3 b3 k3
           have H3 := Lib.hid (HR.out.laid b3 k3)
           clear b3 k3)
        | (with_reducible refine wpList_load_to (op := ⟨some 13, _, _, _, _, _⟩) rfl 23 (.tmp 5) rfl (.pointer (some ⟨wr.heap.size, 0, none⟩)) rfl (blkV b) H3.out.b0.load ?_)
        | fail)
      refine (withinH_any w3 b HSL.out).mono ?_
      rintro e w4 ⟨rfl, b4⟩
      have H4 := Lib.hid (H3.out.on b4).less
      clear b4
      by_cases hw : Wi b (-1048576) 1048576
      · rw [decide_eq_true hw]
        have HM := Lib.hid (show Wm f (m + 1) from HW.out.more (by rw [← HB.out]; exact hw))
        clear hw hidx
        go_wp2_with fail
        go_roundw
        case rel => exact ⟨m + 1, by omega, by go_num, HM.out, H4.out⟩
        case measure => simp [intOf]; omega
      · rw [decide_eq_false hw]
        have hE : mrgF f = (zeros64, 2) := mrgF_out (fun h => hw (by rw [HB.out]; exact w4_sub.1 h m hlt))
        have HE := Lib.hid (HF.out.trans hE)
        clear hw hE hidx
        go_wp2_with (first
          | ((with_reducible refine wpList_store_blk (o := ⟨none, _, _, _, _, _⟩) rfl (.tmp 2) (.tmp 16) rfl rfl (w.heap.size + 1) zeros64 rfl ?hy _ H4.out.b0.box rfl zeros_len ?_)
             case hy => exact H.out.2.2.2.2.1
             intro w9 b9 k9
             have H9 := Lib.hid (And.intro b9 (H4.out.done (Nat.le_succ _) k9))
             clear b9 k9)
          | fail)
        refine bodyPost_ret (v := .tuple #[blkV zeros64, .int .i64 2]) (results_ct (fn := Tryd.f9) Tryd.results9 _ _ (w.heap.size + 1) _ _ rfl rfl (loadVar_blk H9.out.1)) rfl ?_
        exact ⟨by rw [HE.out], H9.out.2⟩
    · obtain rfl : m = 4 := by omega
      have hwf : W4 f (-1048576) 1048576 := w4_sub.2 HW.out
      have HE := Lib.hid (HF.out.trans (mrgF_in hwf))
      have HC := Lib.hid (fun w hT => combined_any w f hT H.out.2.2.1 hwf)
      have hcs := cmbL_small hwf
      have hst := fun k (hk : k < 64) => mrg_round f hk
      have hTl := mrgL_len f
      have hSl := cmbL_len f
      obtain ⟨S, hS⟩ : ∃ S, S = cmbL f := ⟨_, rfl⟩
      obtain ⟨T, hT'⟩ : ∃ T, T = mrgL f := ⟨_, rfl⟩
      rw [← hS] at HC hcs hst hSl
      rw [← hT'] at HE hst hTl
      have HX := Lib.hid (And.intro hcs (And.intro hst (And.intro hTl hSl)))
      clear hwf hcs hst hTl hSl hS hT'
      have HLV := HR.out.f1.load
      rw [← HV.out] at HLV
      have HLV := Lib.hid HLV
      go_wp2_with (first
        | (with_reducible refine wpList_load_to (op := ⟨some 18, _, _, _, _, _⟩) rfl 24 (.tmp 1) rfl (.pointer (some ⟨w.heap.size, 0, none⟩)) rfl v HLV.out ?_)
        | fail)
      rw [HV.out]
      refine (HC.out wr HR.out.tab).mono ?_
      rintro e w3 ⟨rfl, b3⟩
      have H3 := Lib.hid (HR.out.on b3)
      clear b3 HLV
      go_wp2_with (first
        | ((with_reducible refine wpList_store_blk (o := ⟨none, _, _, _, _, _⟩) rfl (.tmp 6) (.tmp 19) rfl rfl w3.heap.size S rfl rfl Z (Box.made _ _ _) H.out.2.2.2.2.2 HX.out.2.2.2 ?_)
           intro w4 b4 k4
           have H4 := Lib.hid (And.intro (H3.out.laid b4 k4) (show w.heap.size + 1 < w3.heap.size from H3.out.b0.box.lt))
           clear b4 k4)
        | (with_reducible refine wpList_load_to (op := ⟨some 20, _, _, _, _, _⟩) rfl 23 (.tmp 6) rfl (.pointer (some ⟨w3.heap.size, 0, none⟩)) rfl (blkV S) H4.out.1.b0.load ?_)
        | fail)
      obtain ⟨g, hg⟩ : ∃ g, g = w3.heap.size := ⟨_, rfl⟩
      rw [← hg] at H4 ⊢
      clear hg
      go_loopw [21] (fun i wr => ∃ k : Nat, k ≤ 64 ∧ i = .int .i64 k ∧ Know w wr [.blk g (mix k T S), .blk (w.heap.size + 1) zeros64]) (fun i _ => 64 - (intOf i).toNat)
      case atStart =>
        refine ⟨0, by omega, rfl, ?_⟩
        rw [mix_zero]
        refine ⟨fun p hp => H4.out.1.all p ?_, H4.out.1.tab, H4.out.1.bel⟩
        rcases List.mem_cons.1 hp with rfl | hp
        · exact .head _
        · rw [List.mem_singleton] at hp
          subst hp
          exact .tail _ (.head _)
      case round =>
        obtain ⟨k, hk, rfl, hR⟩ := hrel
        have HR := Lib.hid hR
        clear hR
        by_cases hlt : k < 64
        · have hb0 := HX.out.1 k hlt
          have hfr := HR.out.b0.free k
          have c1 := HR.out.b0.cell hlt
          have hidx := fun w => index23 w HX.out.2.2.2 hlt
          have hst := HX.out.2.1 k hlt
          have hm := mix_more HX.out.2.2.1 HX.out.2.2.2 hlt
          obtain ⟨n, hn⟩ : ∃ n, n = S.getD k 0 := ⟨_, rfl⟩
          rw [← hn] at hidx hb0 hst
          obtain ⟨x, hx⟩ : ∃ x, x = (mix k T S).getD k 0 := ⟨_, rfl⟩
          rw [← hx] at c1
          clear hn hx
          obtain ⟨n0, n1⟩ := hb0
          obtain ⟨r, hr⟩ : ∃ r, r = rnd n 33554432 := ⟨_, rfl⟩
          rw [← hr] at hst
          rw [hst] at hm
          have HM := Lib.hid (And.intro hm hr)
          clear hst hm hr
          go_wp2_with fail
          refine (round_any wr n 33554432 (by unfold isInt; omega) (by unfold isInt; omega)).mono ?_
          rintro e w7 ⟨rfl, rfl⟩
          rw [← HM.out.2]
          go_wp2_with fail
          go_roundw
          case rel =>
            refine ⟨k + 1, by omega, by go_num, ?_⟩
            rw [← HM.out.1]
            have hlt2 := H4.out.2
            refine HR.out.turn (p' := .blk g ((mix k T S).set k r)) H.out.2.1 (by show w.heap.size ≤ g; omega) (fun q hq => ?_) ((Kept.refl (fun i => i = g) _).setCell (p := ⟨g, k, none⟩) (fun _ => rfl) _) (HR.out.b0.put k r)
            rw [List.mem_singleton] at hq
            subst hq
            show w.heap.size + 1 ≠ g
            omega
          case measure => simp [intOf]; omega
        · obtain rfl : k = 64 := by omega
          have hR := HR.out
          rw [mix_all HX.out.2.2.1 HX.out.2.2.2] at hR
          have HR := Lib.hid hR
          clear hR
          go_wp2_with (first
            | (with_reducible refine wpList_load_to (op := ⟨some 30, _, _, _, _, _⟩) rfl 23 (.tmp 6) rfl (.pointer (some ⟨g, 0, none⟩)) rfl (blkV T) HR.out.b0.load ?_)
            | ((with_reducible refine wpList_store_blk (o := ⟨none, _, _, _, _, _⟩) rfl (.tmp 2) (.tmp 30) rfl rfl (w.heap.size + 1) T rfl rfl _ HR.out.b1.box rfl HX.out.2.2.1 ?_)
               intro w9 b9 k9
               have H9 := Lib.hid (And.intro b9 (HR.out.done (Nat.le_succ _) k9))
               clear b9 k9)
            | fail)
          refine bodyPost_ret (v := .tuple #[blkV T, .int .i64 0]) (results_ct (fn := Tryd.f9) Tryd.results9 _ _ (w.heap.size + 1) _ _ rfl rfl (loadVar_blk H9.out.1)) rfl ?_
          exact ⟨by rw [HE.out], H9.out.2⟩
end Go.Proofs.YtjkmbiieagmjkaaDoor
