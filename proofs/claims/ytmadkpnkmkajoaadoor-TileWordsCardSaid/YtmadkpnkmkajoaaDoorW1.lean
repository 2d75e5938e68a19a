/-
  TileWords: the walk.
-/
import Derived.Test.YtmadkpnkmkajoaaDoorTL
namespace Go.Proofs.YtmadkpnkmkajoaaDoor
open Go.RowKit
set_option maxRecDepth 20000

set_option maxHeartbeats 12800000 in
theorem words_calls (w : World) (W H T K Q : Int) (B : Bool) (hTb : Tab w) (hT9 : Tab9_ w) (hTP : TabP w) : Calls Tryd.prog 3 #[geoV W H T K Q B] w (Law w) := by
  obtain ⟨g1, hg1⟩ : ∃ g1, w.heap.size = g1 := ⟨_, rfl⟩
  obtain ⟨w0, hw0⟩ : ∃ w1, w.alloc (.cells #[.int .i64 W, .int .i64 H, .int .i64 T, .int .i64 K, .int .i64 Q, .bool B] 23) = w1 := ⟨_, rfl⟩
  have b1 : Box w0 g1 23 #[.int .i64 W, .int .i64 H, .int .i64 T, .int .i64 K, .int .i64 Q, .bool B] := by rw [← hw0, ← hg1]; exact Box.made _ _ _
  have k1 : Below w.heap.size w w0 := by rw [← hw0]; exact on_alloc _ _
  have HB := Lib.hid (And.intro b1 (And.intro k1 hg1))
  have HR1 := Lib.hid (fun w1 => rightG_any w1 W H T K Q B)
  have HR2 := Lib.hid (fun w1 => refRightG_any w1 W H T K Q B)
  have HH1 := Lib.hid (fun w1 => head_any w1 W H T K Q B)
  have HH2 := Lib.hid (fun w1 => refHead_any w1 W H T K Q B)
  have HS1 := Lib.hid (fun (w1 : World) (k : Below w.heap.size w w1) => gsteps_any w1 W H T K Q B (hTb.on k))
  have HS2 := Lib.hid (fun w1 => refGsteps_any w1 W H T K Q B)
  have HN1 := Lib.hid (fun w1 => none_any w1 W H T K Q B)
  have HN2 := Lib.hid (fun w1 => refNone_any w1 W H T K Q B)
  have HA := Lib.hid (fun (w1 : World) (k : Below w.heap.size w w1) => awake_any w1 (hTb.on k) (hT9.on k) (hTP.on k))
  have HTZ := Lib.hid (noneT_len W H T K Q)
  unfold StepsY at HS1 HS2
  unfold NoneY at HN1 HN2
  unfold WokeT at HA
  unfold scanV at HH1 HH2
  obtain ⟨st, hst⟩ : ∃ s, s = stG W H T K Q 0 ++ stG W H T K Q 1 := ⟨_, rfl⟩
  have HST := Lib.hid (show st.length = 128 by rw [hst, List.length_append, stG_len, stG_len])
  obtain ⟨tz, htz⟩ : ∃ s, s = noneT W H T K Q := ⟨_, rfl⟩
  obtain ⟨a, ha⟩ : ∃ s, s = hT W H T K Q := ⟨_, rfl⟩
  obtain ⟨b, hb⟩ : ∃ s, s = hK W H T K Q := ⟨_, rfl⟩
  obtain ⟨rb, hrb⟩ : ∃ s, s = decide (RightG W H T K Q) := ⟨_, rfl⟩
  rw [← hst] at HS1 HS2
  rw [← htz] at HN1 HN2 HTZ
  rw [← ha, ← hb] at HH1 HH2
  rw [← hrb] at HR1 HR2
  unfold tileV at HN1 HN2
  unfold geoV at HR1 HR2 HH1 HH2 HS1 HS2 HN1 HN2 ⊢
  clear b1 k1 hst htz ha hb hrb hTb hT9 hTP
  go_enter Tryd.func3, Tryd.ntmps3
  go_upto_region 1 with fail
  clear hw0
  refine wp_region_held_drew (S := fun w' => Hid (Below w0.heap.size w0 w')) (by kernel_rfl) (Lib.hid (on_drew w0)) fun s0 => ?_
  refine take_to (i := 0) rfl (by kernel_rfl) (by kernel_rfl) (by kernel_rfl) (fun _ _ _ h => h) (yieldsIf_load (by rfl) 23 _ rfl (.pointer (some ⟨g1, 0, none⟩)) (by simp [Act.eval]) (.agg #[.int .i64 W, .int .i64 H, .int .i64 T, .int .i64 K, .int .i64 Q, .bool B]) (fun w' h => load_geo (HB.out.1.on h.out))) s0 (some 3) rfl ?_
  try simp only [Act.put, List.setIfInBounds_toArray, List.set_cons_zero, List.set_cons_succ]
  refine take_to (i := 2) rfl (by kernel_rfl) (by kernel_rfl) (by kernel_rfl) (fun _ _ _ h => h) (yieldsIf_load (by rfl) 23 _ rfl (.pointer (some ⟨g1, 0, none⟩)) (by simp [Act.eval]) (.agg #[.int .i64 W, .int .i64 H, .int .i64 T, .int .i64 K, .int .i64 Q, .bool B]) (fun w' h => load_geo (HB.out.1.on h.out))) s0 (some 5) rfl ?_
  try simp only [Act.put, List.setIfInBounds_toArray, List.set_cons_zero, List.set_cons_succ]
  generalize w0.drew = u0 at s0 ⊢
  refine wpAnyH_ready (rs := [1]) (by kernel_rfl) (by simp) ?_
  refine AllReadyH.cons rfl (fun Kq hKq => ?_) AllReadyH.nil
  try refine if_then (by rfl) ?_
  go_simp
  refine Calls.mono (HR1.out u0) ?_
  rintro r u1 ⟨rfl, k1⟩
  have s1 := Lib.hid (on_trans s0.out k1)
  clear k1
  refine hKq.out _ _ s1 fun _ => ?_
  clear hKq Kq
  try simp only [Act.put, List.setIfInBounds_toArray, List.set_cons_zero, List.set_cons_succ]
  refine wpAnyH_ready (rs := [3]) (by kernel_rfl) (by simp) ?_
  refine AllReadyH.cons rfl (fun Kq hKq => ?_) AllReadyH.nil
  try refine if_then (by rfl) ?_
  go_simp
  refine Calls.mono (HR2.out u1) ?_
  rintro r u2 ⟨rfl, k2⟩
  have s2 := Lib.hid (on_trans s1.out k2)
  clear k2
  refine hKq.out _ _ s2 fun _ => ?_
  clear hKq Kq
  try simp only [Act.put, List.setIfInBounds_toArray, List.set_cons_zero, List.set_cons_succ]
  refine take_to (i := 4) (v := .bool true) rfl (by kernel_rfl) (by kernel_rfl) (by kernel_rfl) (fun _ _ _ h => h) (Or.inl ⟨by rfl, fun w' hS => by go_simp⟩) s2 (some 7) rfl ?_
  try simp only [Act.put, List.setIfInBounds_toArray, List.set_cons_zero, List.set_cons_succ]
  refine take_to (i := 5) (v := .bool true) rfl (by kernel_rfl) (by kernel_rfl) (by kernel_rfl) (fun _ _ _ h => h) (Or.inl ⟨by rfl, fun w' hS => by go_simp⟩) s2 (some 8) rfl ?_
  try simp only [Act.put, List.setIfInBounds_toArray, List.set_cons_zero, List.set_cons_succ]
  refine take_to (i := 6) rfl (by kernel_rfl) (by kernel_rfl) (by kernel_rfl) (fun _ _ _ h => h) (yieldsIf_load (by rfl) 23 _ rfl (.pointer (some ⟨g1, 0, none⟩)) (by simp [Act.eval]) (.agg #[.int .i64 W, .int .i64 H, .int .i64 T, .int .i64 K, .int .i64 Q, .bool B]) (fun w' h => load_geo (HB.out.1.on h.out))) s2 (some 9) rfl ?_
  try simp only [Act.put, List.setIfInBounds_toArray, List.set_cons_zero, List.set_cons_succ]
  refine take_to (i := 8) rfl (by kernel_rfl) (by kernel_rfl) (by kernel_rfl) (fun _ _ _ h => h) (yieldsIf_load (by rfl) 23 _ rfl (.pointer (some ⟨g1, 0, none⟩)) (by simp [Act.eval]) (.agg #[.int .i64 W, .int .i64 H, .int .i64 T, .int .i64 K, .int .i64 Q, .bool B]) (fun w' h => load_geo (HB.out.1.on h.out))) s2 (some 11) rfl ?_
  try simp only [Act.put, List.setIfInBounds_toArray, List.set_cons_zero, List.set_cons_succ]
  refine wpAnyH_ready (rs := [7]) (by kernel_rfl) (by simp) ?_
  refine AllReadyH.cons rfl (fun Kq hKq => ?_) AllReadyH.nil
  try refine if_then (by rfl) ?_
  go_simp
  refine Calls.mono (HH1.out u2) ?_
  rintro r u3 ⟨rfl, k3⟩
  have s3 := Lib.hid (on_trans s2.out k3)
  clear k3
  refine hKq.out _ _ s3 fun _ => ?_
  clear hKq Kq
  try simp only [Act.put, List.setIfInBounds_toArray, List.set_cons_zero, List.set_cons_succ]
  refine wpAnyH_ready (rs := [9]) (by kernel_rfl) (by simp) ?_
  refine AllReadyH.cons rfl (fun Kq hKq => ?_) AllReadyH.nil
  try refine if_then (by rfl) ?_
  go_simp
  refine Calls.mono (HH2.out u3) ?_
  rintro r u4 ⟨rfl, k4⟩
  have s4 := Lib.hid (on_trans s3.out k4)
  clear k4
  refine hKq.out _ _ s4 fun _ => ?_
  clear hKq Kq
  try simp only [Act.put, List.setIfInBounds_toArray, List.set_cons_zero, List.set_cons_succ]
  refine take_to (i := 10) (v := .bool true) rfl (by kernel_rfl) (by kernel_rfl) (by kernel_rfl) (fun _ _ _ h => h) (Or.inl ⟨by rfl, fun w' hS => by go_simp⟩) s4 (some 13) rfl ?_
  try simp only [Act.put, List.setIfInBounds_toArray, List.set_cons_zero, List.set_cons_succ]
  refine take_to (i := 11) (v := .bool true) rfl (by kernel_rfl) (by kernel_rfl) (by kernel_rfl) (fun _ _ _ h => h) (Or.inl ⟨by rfl, fun w' hS => by go_simp⟩) s4 (some 14) rfl ?_
  try simp only [Act.put, List.setIfInBounds_toArray, List.set_cons_zero, List.set_cons_succ]
  refine take_to (i := 12) (v := .bool true) rfl (by kernel_rfl) (by kernel_rfl) (by kernel_rfl) (fun _ _ _ h => h) (Or.inl ⟨by rfl, fun w' hS => by go_simp⟩) s4 (some 15) rfl ?_
  try simp only [Act.put, List.setIfInBounds_toArray, List.set_cons_zero, List.set_cons_succ]
  refine take_to (i := 13) rfl (by kernel_rfl) (by kernel_rfl) (by kernel_rfl) (fun _ _ _ h => h) (yieldsIf_load (by rfl) 23 _ rfl (.pointer (some ⟨g1, 0, none⟩)) (by simp [Act.eval]) (.agg #[.int .i64 W, .int .i64 H, .int .i64 T, .int .i64 K, .int .i64 Q, .bool B]) (fun w' h => load_geo (HB.out.1.on h.out))) s4 (some 16) rfl ?_
  try simp only [Act.put, List.setIfInBounds_toArray, List.set_cons_zero, List.set_cons_succ]
  refine take_to (i := 15) rfl (by kernel_rfl) (by kernel_rfl) (by kernel_rfl) (fun _ _ _ h => h) (yieldsIf_load (by rfl) 23 _ rfl (.pointer (some ⟨g1, 0, none⟩)) (by simp [Act.eval]) (.agg #[.int .i64 W, .int .i64 H, .int .i64 T, .int .i64 K, .int .i64 Q, .bool B]) (fun w' h => load_geo (HB.out.1.on h.out))) s4 (some 18) rfl ?_
  try simp only [Act.put, List.setIfInBounds_toArray, List.set_cons_zero, List.set_cons_succ]
  refine wpAnyH_ready (rs := [14]) (by kernel_rfl) (by simp) ?_
  refine AllReadyH.cons rfl (fun Kq hKq => ?_) AllReadyH.nil
  try refine if_then (by rfl) ?_
  go_simp
  refine Calls.mono (HS1.out u4 (on_trans HB.out.2.1 s4.out)) ?_
  rintro r u5 ⟨rfl, k5⟩
  have s5 := Lib.hid (on_trans s4.out k5)
  clear k5
  refine hKq.out _ _ s5 fun _ => ?_
  clear hKq Kq
  try simp only [Act.put, List.setIfInBounds_toArray, List.set_cons_zero, List.set_cons_succ]
  refine wpAnyH_ready (rs := [16]) (by kernel_rfl) (by simp) ?_
  refine AllReadyH.cons rfl (fun Kq hKq => ?_) AllReadyH.nil
  try refine if_then (by rfl) ?_
  go_simp
  refine Calls.mono (HS2.out u5) ?_
  rintro r u6 ⟨rfl, k6⟩
  have s6 := Lib.hid (on_trans s5.out k6)
  clear k6
  refine hKq.out _ _ s6 fun _ => ?_
  clear hKq Kq
  try simp only [Act.put, List.setIfInBounds_toArray, List.set_cons_zero, List.set_cons_succ]
  refine take_to (i := 17) rfl (by kernel_rfl) (by kernel_rfl) (by kernel_rfl) (fun _ _ _ h => h) (yieldsIf_eql30 (by rfl) _ _ rfl st HST.out rfl rfl) s6 (some 20) rfl ?_
  try simp only [Act.put, List.setIfInBounds_toArray, List.set_cons_zero, List.set_cons_succ]
  refine take_to (i := 18) (v := .bool true) rfl (by kernel_rfl) (by kernel_rfl) (by kernel_rfl) (fun _ _ _ h => h) (Or.inl ⟨by rfl, fun w' hS => by go_simp⟩) s6 (some 21) rfl ?_
  try simp only [Act.put, List.setIfInBounds_toArray, List.set_cons_zero, List.set_cons_succ]
  refine take_to (i := 19) (v := .bool true) rfl (by kernel_rfl) (by kernel_rfl) (by kernel_rfl) (fun _ _ _ h => h) (Or.inl ⟨by rfl, fun w' hS => by go_simp⟩) s6 (some 22) rfl ?_
  try simp only [Act.put, List.setIfInBounds_toArray, List.set_cons_zero, List.set_cons_succ]
  refine take_to (i := 20) rfl (by kernel_rfl) (by kernel_rfl) (by kernel_rfl) (fun _ _ _ h => h) (yieldsIf_load (by rfl) 23 _ rfl (.pointer (some ⟨g1, 0, none⟩)) (by simp [Act.eval]) (.agg #[.int .i64 W, .int .i64 H, .int .i64 T, .int .i64 K, .int .i64 Q, .bool B]) (fun w' h => load_geo (HB.out.1.on h.out))) s6 (some 23) rfl ?_
  try simp only [Act.put, List.setIfInBounds_toArray, List.set_cons_zero, List.set_cons_succ]
  refine take_to (i := 22) rfl (by kernel_rfl) (by kernel_rfl) (by kernel_rfl) (fun _ _ _ h => h) (yieldsIf_load (by rfl) 23 _ rfl (.pointer (some ⟨g1, 0, none⟩)) (by simp [Act.eval]) (.agg #[.int .i64 W, .int .i64 H, .int .i64 T, .int .i64 K, .int .i64 Q, .bool B]) (fun w' h => load_geo (HB.out.1.on h.out))) s6 (some 25) rfl ?_
  try simp only [Act.put, List.setIfInBounds_toArray, List.set_cons_zero, List.set_cons_succ]
  refine wpAnyH_ready (rs := [21]) (by kernel_rfl) (by simp) ?_
  refine AllReadyH.cons rfl (fun Kq hKq => ?_) AllReadyH.nil
  try refine if_then (by rfl) ?_
  go_simp
  refine Calls.mono (HN1.out u6) ?_
  rintro r u7 ⟨A1, n1, c1, L1, rfl, ti1, hn1, k7⟩
  have s7 := Lib.hid (on_trans s6.out k7)
  have HT1 := Lib.hid (And.intro ti1 hn1)
  clear ti1 hn1
  clear k7
  refine hKq.out _ _ s7 fun _ => ?_
  clear hKq Kq
  try simp only [Act.put, List.setIfInBounds_toArray, List.set_cons_zero, List.set_cons_succ]
  refine wpAnyH_ready (rs := [23]) (by kernel_rfl) (by simp) ?_
  refine AllReadyH.cons rfl (fun Kq hKq => ?_) AllReadyH.nil
  try refine if_then (by rfl) ?_
  go_simp
  refine Calls.mono (HN2.out u7) ?_
  rintro r u8 ⟨A2, n2, c2, L2, rfl, ti2, hn2, k8⟩
  have s8 := Lib.hid (on_trans s7.out k8)
  have HT2 := Lib.hid (And.intro ti2 (And.intro hn2 (HT1.out.1.on k8)))
  clear ti2 hn2
  clear k8
  refine hKq.out _ _ s8 fun _ => ?_
  clear hKq Kq
  try simp only [Act.put, List.setIfInBounds_toArray, List.set_cons_zero, List.set_cons_succ]
  obtain rfl : n2 = n1 := by rw [HT1.out.2, HT2.out.2.1]
  have hsm := same_any u8 A1 A2 n2 c1 c2 L1 L2 tz HT2.out.2.2 HT2.out.1 (by have := HT2.out.2.1; have := HTZ.out.1; omega) HTZ.out.2
  unfold tileV at hsm
  have HSm := Lib.hid hsm
  clear hsm
  refine wpAnyH_ready (rs := [24]) (by kernel_rfl) (by simp) ?_
  refine AllReadyH.cons rfl (fun Kq hKq => ?_) AllReadyH.nil
  try refine if_then (by rfl) ?_
  go_simp
  refine Calls.mono (HSm.out) ?_
  rintro r u9 ⟨rfl, k9⟩
  have s9 := Lib.hid (on_trans s8.out k9)
  clear k9
  refine hKq.out _ _ s9 fun _ => ?_
  clear hKq Kq
  try simp only [Act.put, List.setIfInBounds_toArray, List.set_cons_zero, List.set_cons_succ]
  refine take_to (i := 25) (v := .bool true) rfl (by kernel_rfl) (by kernel_rfl) (by kernel_rfl) (fun _ _ _ h => h) (Or.inl ⟨by rfl, fun w' hS => by go_simp⟩) s9 (some 28) rfl ?_
  try simp only [Act.put, List.setIfInBounds_toArray, List.set_cons_zero, List.set_cons_succ]
  refine take_to (i := 26) (v := .bool true) rfl (by kernel_rfl) (by kernel_rfl) (by kernel_rfl) (fun _ _ _ h => h) (Or.inl ⟨by rfl, fun w' hS => by go_simp⟩) s9 (some 29) rfl ?_
  try simp only [Act.put, List.setIfInBounds_toArray, List.set_cons_zero, List.set_cons_succ]
  refine wpAnyH_ready (rs := [27]) (by kernel_rfl) (by simp) ?_
  refine AllReadyH.cons rfl (fun Kq hKq => ?_) AllReadyH.nil
  try refine if_then (by rfl) ?_
  go_simp
  refine Calls.mono (HA.out u9 (on_trans HB.out.2.1 s9.out)) ?_
  rintro r u10 ⟨rfl, k10⟩
  have s10 := Lib.hid (on_trans s9.out k10)
  clear k10
  refine hKq.out _ _ s10 fun _ => ?_
  clear hKq Kq
  try simp only [Act.put, List.setIfInBounds_toArray, List.set_cons_zero, List.set_cons_succ]
  refine take_to (i := 28) (v := .bool true) rfl (by kernel_rfl) (by kernel_rfl) (by kernel_rfl) (fun _ _ _ h => h) (Or.inl ⟨by rfl, fun w' hS => by go_simp⟩) s10 (some 31) rfl ?_
  try simp only [Act.put, List.setIfInBounds_toArray, List.set_cons_zero, List.set_cons_succ]
  refine take_to (i := 29) (v := .bool true) rfl (by kernel_rfl) (by kernel_rfl) (by kernel_rfl) (fun _ _ _ h => h) (Or.inl ⟨by rfl, fun w' hS => by go_simp⟩) s10 (some 2) rfl ?_
  try simp only [Act.put, List.setIfInBounds_toArray, List.set_cons_zero, List.set_cons_succ]
  refine wpAnyH_done (by kernel_rfl) ?_ _
  go_wp2_with fail
  go_ret
  exact ⟨rfl, on_trans HB.out.2.1 s10.out⟩
end Go.Proofs.YtmadkpnkmkajoaaDoor
