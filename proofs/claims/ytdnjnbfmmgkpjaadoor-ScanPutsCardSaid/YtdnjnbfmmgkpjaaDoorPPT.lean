/-
  ScanPuts: the scan bytes of any tile, by any tables, are the document's: the walk.
-/
import Derived.Test.YtdnjnbfmmgkpjaaDoorPST
import Derived.Test.YtdnjnbfmmgkpjaaDoorQP
namespace Go.Proofs.YtdnjnbfmmgkpjaaDoor
open Go.RowKit

section
variable (w : World) (W H K R : Int) (T : Tbs) (X : Nat → Value) (A : Option Addr) (n c : Nat) (L : List (Option Addr × Nat × Nat)) (tl : List (List (List Int)))
set_option maxRecDepth 10000 in
set_option maxHeartbeats 12800000 in
theorem puts_calls (hT : Tab w) (hW : Wt T) (h1X : ∀ j, (X j).oneCell' = true) (hX : Xs w T X) (ht : Ti w A n L tl) :
    Calls Tryd.prog 3 #[scanV W H K R, tbV T X, tileV A n c] w fun e w' => e = .returned (.bool true) ∧ Below w.heap.size w w' := by
  obtain ⟨C, hC⟩ : ∃ C, C = (tbC T X).toArray := ⟨_, rfl⟩
  have eC : tbV T X = .agg C := by rw [hC]; rfl
  obtain ⟨g1, hg1⟩ : ∃ g1, w.heap.size = g1 := ⟨_, rfl⟩
  obtain ⟨w1, hw1⟩ : ∃ w1, ((w.alloc (.cells #[.int .i64 W, .int .i64 H, .int .i64 K, .int .i64 R] 23)).alloc (.cells C 33)).alloc (.cells #[.slice A n c] 36) = w1 := ⟨_, rfl⟩
  have b1 : Box w1 g1 23 #[.int .i64 W, .int .i64 H, .int .i64 K, .int .i64 R] := by rw [← hw1, ← hg1]; exact ((Box.made _ _ _).alloc _).alloc _
  have b2 : Box w1 (g1 + 1) 33 C := by
    rw [← hw1, ← hg1]
    have := (Box.made (w.alloc (.cells #[.int .i64 W, .int .i64 H, .int .i64 K, .int .i64 R] 23)) 33 C).alloc (.cells #[.slice A n c] 36)
    simpa using this
  have b3 : Box w1 (g1 + 1 + 1) 36 #[.slice A n c] := by
    rw [← hw1, ← hg1]
    have := Box.made ((w.alloc (.cells #[.int .i64 W, .int .i64 H, .int .i64 K, .int .i64 R] 23)).alloc (.cells C 33)) 36 #[.slice A n c]
    simpa using this
  have k1 : Below w.heap.size w w1 := by rw [← hw1]; exact on_trans (on_trans (on_alloc _ _) (on_alloc _ _)) (on_alloc _ _)
  have r0 : w1.cell? ⟨g1 + 1 + 1, 0, none⟩ = some (.slice A n c) := b3.cell 0
  have hfw := few_any w1 A n c L tl (ht.on k1)
  unfold tileV FewY at hfw
  have HF := Lib.hid hfw
  have HB := Lib.hid (And.intro b1 (And.intro b2 (And.intro b3 (And.intro k1 (And.intro hg1 (And.intro eC hC))))))
  have HA := Lib.hid (And.intro hT (And.intro hW (And.intro h1X (And.intro hX ht))))
  rw [eC]
  clear b1 b2 b3 k1 hfw eC hC hT hW h1X hX ht
  unfold scanV tileV
  go_enter Tryd.func3, Tryd.ntmps3
  go_upto_region 1 with fail
  clear hw1
  go_wp2_with fail
  refine Calls.mono HF.out ?_
  rintro e w2 ⟨fb, rfl, hfb, k2⟩
  have H2 := Lib.hid (And.intro (HB.out.1.on k2) (And.intro (HB.out.2.1.on k2) (And.intro (HB.out.2.2.1.on k2) (And.intro (on_trans HB.out.2.2.2.1 k2) hfb))))
  clear k2 HF r0 hfb
  cases fb with
  | false =>
    go_wp2_with fail
    refine Calls.mono (awake_any _) ?_
    rintro e w3 ⟨rfl, b3⟩
    have H3 := Lib.hid (on_trans H2.out.2.2.2.1 b3)
    clear b3
    go_wp2_with fail
    go_ret
    exact ⟨rfl, H3.out⟩
  | true =>
    have kw2 := H2.out.2.2.2.1
    have ldC : ∀ w', Box w' (g1 + 1) 33 C → (Instr.loadAt 33 (.pointer (some ⟨g1 + 1, 0, none⟩))).run Tryd.prog w' = .ok (.agg C) w' := fun w' hb => by
      rw [HB.out.2.2.2.2.2.2] at hb
      rw [← HB.out.2.2.2.2.2.1]
      exact (hb.rng).load
    have HLdC := Lib.hid ldC
    have HLd := Lib.hid (ldC w2 H2.out.2.1)
    have hsm := small_any w2 W H K R T X (HA.out.2.2.2.1.on kw2)
    unfold scanV SmallY at hsm
    rw [HB.out.2.2.2.2.2.1] at hsm
    have HSm := Lib.hid hsm
    have q0 : w2.cell? ⟨g1, 0, none⟩ = some (.int .i64 W) := H2.out.1.cell 0
    have q1 : w2.cell? ⟨g1, 1, none⟩ = some (.int .i64 H) := H2.out.1.cell 1
    have q2 : w2.cell? ⟨g1, 2, none⟩ = some (.int .i64 K) := H2.out.1.cell 2
    have q3 : w2.cell? ⟨g1, 3, none⟩ = some (.int .i64 R) := H2.out.1.cell 3
    clear ldC hsm kw2
    go_wp2_with fail
    refine wp_load_at (o := ⟨some 17, _, _, _, _, _⟩) 33 (.tmp 4) rfl (.pointer (some ⟨g1 + 1, 0, none⟩)) rfl (.agg C) HLd.out ?_
    go_wp2_with fail
    refine Calls.mono HSm.out ?_
    rintro e w3 ⟨sb, rfl, hsb, k3⟩
    have H3 := Lib.hid (And.intro (H2.out.1.on k3) (And.intro (H2.out.2.1.on k3) (And.intro (H2.out.2.2.1.on k3) (And.intro (on_trans H2.out.2.2.2.1 k3) hsb))))
    clear k3 HSm hsb q0 q1 q2 q3 HLd
    cases sb with
    | false =>
      go_wp2_with fail
      refine Calls.mono (awake_any _) ?_
      rintro e w4 ⟨rfl, b4⟩
      have H4 := Lib.hid (on_trans H3.out.2.2.2.1 b4)
      clear b4
      go_wp2_with fail
      go_ret
      exact ⟨rfl, H4.out⟩
    | true =>
      have hfew := H2.out.2.2.2.2 trivial
      have hsmall := H3.out.2.2.2.2 rfl
      have kw3 := H3.out.2.2.2.1
      have ht100 : ∀ t ∈ tl, t.length ≤ 100 := fun t h => by
        obtain ⟨p, hp⟩ := List.mem_iff_getElem?.1 h
        have := hfew.2 p t hp
        omega
      obtain ⟨E, hE⟩ : ∃ E, E = (putR W H K R T tl).2 := ⟨_, rfl⟩
      obtain ⟨o, ho⟩ : ∃ o, o = (putR W H K R T tl).1 := ⟨_, rfl⟩
      have how := own_any w3 A n c L tl (HA.out.2.2.2.2.on kw3) hfew.1 ht100
      unfold OwnT tileV at how
      have HOw := Lib.hid how
      have HEo := Lib.hid (And.intro hE ho)
      have HS := Lib.hid (And.intro hfew.1 (And.intro ht100 hsmall))
      have r3 : w3.cell? ⟨g1 + 1 + 1, 0, none⟩ = some (.slice A n c) := H3.out.2.2.1.cell 0
      clear how hE ho hfew hsmall kw3 ht100
      go_wp2_with fail
      refine Calls.mono HOw.out ?_
      rintro e w4 ⟨A8, c8, L8, rfl, t8, k4⟩
      clear r3 HOw
      obtain ⟨g5, hg5⟩ : ∃ g5, w4.heap.size = g5 := ⟨_, rfl⟩
      obtain ⟨w5, hw5⟩ : ∃ w5, w4.alloc (.cells #[.slice A8 n c8] 36) = w5 := ⟨_, rfl⟩
      have b5 : Box w5 g5 36 #[.slice A8 n c8] := by rw [← hw5, ← hg5]; exact Box.made _ _ _
      have k5 : Below w4.heap.size w4 w5 := by rw [← hw5]; exact on_alloc _ _
      have k35 := on_trans k4 k5
      have k05 := on_trans H3.out.2.2.2.1 k35
      have hput := scanPut_one w5 W H K R T X A8 n c8 L8 tl (HA.out.1.on k05) (HA.out.2.2.2.1.on k05) HA.out.2.1 HS.out.2.2.2 (t8.on k5) HS.out.2.2.1
      unfold scanV tileV at hput
      rw [HB.out.2.2.2.2.2.1, ← HEo.out.1, ← HEo.out.2] at hput
      have HPu := Lib.hid hput
      have H5 := Lib.hid (And.intro (H3.out.1.on k35) (And.intro (H3.out.2.1.on k35) (And.intro (H3.out.2.2.1.on k35) (And.intro k05 (And.intro b5 (t8.on k5))))))
      have q0 : w5.cell? ⟨g1, 0, none⟩ = some (.int .i64 W) := H5.out.1.cell 0
      have q1 : w5.cell? ⟨g1, 1, none⟩ = some (.int .i64 H) := H5.out.1.cell 1
      have q2 : w5.cell? ⟨g1, 2, none⟩ = some (.int .i64 K) := H5.out.1.cell 2
      have q3 : w5.cell? ⟨g1, 3, none⟩ = some (.int .i64 R) := H5.out.1.cell 3
      have r5 : w5.cell? ⟨g5, 0, none⟩ = some (.slice A8 n c8) := b5.cell 0
      have HLd := Lib.hid (HLdC.out w5 H5.out.2.1)
      clear b5 k4 k5 k35 k05 hput t8
      go_wp2_with (first
        | (with_reducible refine wpList_load_to (op := ⟨some 26, _, _, _, _, _⟩) rfl 33 (.tmp 4) rfl (.pointer (some ⟨g1 + 1, 0, none⟩)) rfl (.agg C) HLd.out ?_)
        | fail)
      refine Calls.mono HPu.out ?_
      rintro e w6 ⟨k6, A1, m1, k1, rfl, sl1⟩
      clear hw5 hg5 q0 q1 q2 q3 r5 HPu HLd
      have k06 := on_trans H5.out.2.2.2.1 k6
      have hput := refPut14_any w6 W H K R T X A n c L tl (HA.out.2.2.2.1.on k06) HA.out.2.1 (HA.out.2.2.2.2.on k06) HS.out.2.2.1
      unfold scanV tileV at hput
      rw [HB.out.2.2.2.2.2.1, ← HEo.out.1, ← HEo.out.2] at hput
      have HPu := Lib.hid hput
      have H6 := Lib.hid (And.intro (H5.out.1.on k6) (And.intro (H5.out.2.1.on k6) (And.intro (H5.out.2.2.1.on k6) (And.intro k06 (And.intro (H5.out.2.2.2.2.1.on k6) (And.intro (H5.out.2.2.2.2.2.on k6) sl1))))))
      have q0 : w6.cell? ⟨g1, 0, none⟩ = some (.int .i64 W) := H6.out.1.cell 0
      have q1 : w6.cell? ⟨g1, 1, none⟩ = some (.int .i64 H) := H6.out.1.cell 1
      have q2 : w6.cell? ⟨g1, 2, none⟩ = some (.int .i64 K) := H6.out.1.cell 2
      have q3 : w6.cell? ⟨g1, 3, none⟩ = some (.int .i64 R) := H6.out.1.cell 3
      have r6 : w6.cell? ⟨g1 + 1 + 1, 0, none⟩ = some (.slice A n c) := H6.out.2.2.1.cell 0
      have HLd := Lib.hid (HLdC.out w6 H6.out.2.1)
      clear k6 k06 hput sl1
      go_wp2_with (first
        | (with_reducible refine wpList_load_to (op := ⟨some 33, _, _, _, _, _⟩) rfl 33 (.tmp 4) rfl (.pointer (some ⟨g1 + 1, 0, none⟩)) rfl (.agg C) HLd.out ?_)
        | fail)
      refine Calls.mono HPu.out ?_
      rintro e w7 ⟨k7, A2, m2, k2, rfl, sl2⟩
      clear q0 q1 q2 q3 r6 HPu HLd
      obtain ⟨S0, hS0⟩ : ∃ S, S = strOfNums o := ⟨_, rfl⟩
      have cv1 : (convert 41 9 (.slice A1 m1 k1)).run Tryd.prog w7 = .ok (.string S0) w7 := by rw [hS0]; exact sl_str (H6.out.2.2.2.2.2.2.below k7 (fun b hb _ => hb))
      have cv2 : (convert 41 9 (.slice A2 m2 k2)).run Tryd.prog w7 = .ok (.string S0) w7 := by rw [hS0]; exact sl_str sl2
      have eE : (E == E) = true := by simp
      have r7 : w7.cell? ⟨g1 + 1 + 1, 0, none⟩ = some (.slice A n c) := (H6.out.2.2.1.on k7).cell 0
      have r8 : w7.cell? ⟨g5, 0, none⟩ = some (.slice A8 n c8) := (H6.out.2.2.2.2.1.on k7).cell 0
      have k07 := on_trans H6.out.2.2.2.1 k7
      have hsame := same_any w7 A8 A n c8 c L8 L tl (H6.out.2.2.2.2.2.1.on k7) (HA.out.2.2.2.2.on k07) HS.out.1 HS.out.2.1
      unfold tileV at hsame
      have HSa := Lib.hid hsame
      have H7 := Lib.hid k07
      clear hS0 k7 k07 sl2 hsame
      go_wp2_with fail
      refine Calls.mono HSa.out ?_
      rintro e w8 ⟨rfl, k8⟩
      have H8 := Lib.hid (on_trans H7.out k8)
      clear k8 cv1 cv2 r7 r8
      go_wp2_with fail
      refine Calls.mono (awake_any _) ?_
      rintro e w9 ⟨rfl, k9⟩
      have H9 := Lib.hid (on_trans H8.out k9)
      clear k9
      go_wp2_with fail
      go_ret
      exact ⟨rfl, H9.out⟩
end
end Go.Proofs.YtdnjnbfmmgkpjaaDoor
