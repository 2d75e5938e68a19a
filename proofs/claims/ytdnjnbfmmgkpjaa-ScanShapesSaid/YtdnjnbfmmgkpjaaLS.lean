/-
  ScanShapes: any header's shape, and whether any tile may be of it, are the document's: the walk.
-/
import Derived.Test.YtdnjnbfmmgkpjaaSC
import Derived.Test.YtdnjnbfmmgkpjaaSY
namespace Go.Proofs.Ytdnjnbfmmgkpjaa
open Go.RowKit

theorem yieldsIf_load7 {ops : Array Oper} {S : World → Prop} {op : Oper} {a : Act} (hw : Region.wanted op (yielded ops a.tmps) = true) (t : TypeId) (x : Operand) (ho : op.op = .load t x) (u : Value) (hx : a.eval x = u) (v : Value)
    (h : ∀ w, S w → (Instr.loadAt t u).run Try.prog w = .ok v w) : YieldsIf Try.prog ops S op v a :=
  .inl ⟨hw, fun w hS => by
    unfold execOp
    simp only [ho, hx, Sem.run_bind, h w hS, Result.andThen_ok, Sem.run_pure]⟩
/-- an operation is taken first, and its slot is named -/
theorem take_to {ops : Array Oper} {Q : Exit → Act → World → Prop} {md : Region.Mode} {S : World → Prop} {i : Nat} {oi : Oper} {v : Value} {fuel : Nat} {listed : Array Bool} {a : Act} {w : World} (hi : ops[i]? = some oi)
    (hs : Region.noSelect ops = true) (hf : Region.free md ops listed i = true) (hr : (Region.ready md ops listed).contains i = true)
    (hQ : ∀ c a w, Q (.panic c) (a.put oi.dst v) w → Q (.panic c) a w) (hy : YieldsIf Try.prog ops S oi v a) (hS : S w) (d : Option Tmp) (hd : oi.dst = d)
    (h : wpAnyH Try.prog md ops Q S fuel (listed.setIfInBounds i true) (a.put d v) w) : wpAnyH Try.prog md ops Q S (fuel + 1) listed a w :=
  wpAnyH_take hi hs hf hr hQ hy hS (by rw [hd]; exact h)

section
variable (w : World) (W H K R : Int) (A : Option Addr) (n c : Nat) (L : List (Option Addr × Nat × Nat)) (T : List (List (List Int)))
/-- both shapes are the same list -/
theorem shapes_one : ∃ (m : Nat) (l : List (Nat × Nat)), m ≤ 3 ∧ (∀ w', Calls Try.prog 6 #[scanV W H K R] w' fun e w'' => ∃ A c, e = .returned (.slice A m c) ∧ m ≤ c ∧ Ps w'' 0 A m l ∧ Below w'.heap.size w' w'') ∧
    (∀ w', Calls Try.prog 7 #[scanV W H K R] w' fun e w'' => ∃ A c, e = .returned (.slice A m c) ∧ m ≤ c ∧ Ps w'' 0 A m l ∧ Below w'.heap.size w' w'') := by
  by_cases hr : RightS W H K R
  · have f : ∀ w' e w'', ShapeY w' W H K R e w'' → ∃ A c, e = .returned (.slice A (nP K) c) ∧ nP K ≤ c ∧ Ps w'' 0 A (nP K) (shpL W H K) ∧ Below w'.heap.size w' w'' := fun w' e w'' h => by
      obtain ⟨A, c, e1, hc, hp⟩ := h.1 hr
      exact ⟨A, c, e1, hc, ⟨hp.len, fun h0 => by obtain ⟨b, o, e2, _, h3, h4⟩ := hp.at_ h0; exact ⟨b, o, e2, Nat.zero_le _, h3, h4⟩⟩, h.2.2⟩
    exact ⟨nP K, shpL W H K, (nP_le K).2, fun w' => (shape_any w' W H K R).mono (f w'), fun w' => (refShape_any w' W H K R).mono (f w')⟩
  · have f : ∀ w' e w'', ShapeY w' W H K R e w'' → ∃ A c, e = .returned (.slice A 0 c) ∧ 0 ≤ c ∧ Ps w'' 0 A 0 [] ∧ Below w'.heap.size w' w'' := fun w' e w'' h =>
      ⟨none, 0, h.2.1 hr, Nat.le_refl _, ⟨rfl, fun h0 => absurd h0 (Nat.lt_irrefl _)⟩, h.2.2⟩
    exact ⟨0, [], by omega, fun w' => (shape_any w' W H K R).mono (f w'), fun w' => (refShape_any w' W H K R).mono (f w')⟩
theorem rights_one : ∃ rb : Bool, (∀ w' A n c L, Ti w' A n L T → Calls Try.prog 8 #[scanV W H K R, tileV A n c] w' fun e w'' => e = .returned (.bool rb) ∧ Below w'.heap.size w' w'') ∧
    (∀ w' A n c L, Ti w' A n L T → Calls Try.prog 9 #[scanV W H K R, tileV A n c] w' fun e w'' => e = .returned (.bool rb) ∧ Below w'.heap.size w' w'') := by
  obtain ⟨rb, hrb⟩ : ∃ rb : Bool, rb = true ↔ RightT W H K R T := by
    by_cases h : RightT W H K R T
    · exact ⟨true, by simp [h]⟩
    · exact ⟨false, by simp [h]⟩
  have f : ∀ w' e w'', RightY w' W H K R T e w'' → e = .returned (.bool rb) ∧ Below w'.heap.size w' w'' := fun w' e w'' h => by
    obtain ⟨r, e1, hr, k⟩ := h
    have : r = rb := by rw [Bool.eq_iff_iff, hr, hrb]
    exact ⟨by rw [e1, this], k⟩
  exact ⟨rb, fun w' A n c L h => (rightT_any w' W H K R A n c L T h).mono (f w'), fun w' A n c L h => (refRightT_any w' W H K R A n c L T h).mono (f w')⟩
set_option maxRecDepth 10000 in
set_option maxHeartbeats 6400000 in
theorem shapes_calls (hT : Ti w A n L T) : Calls Try.prog 3 #[scanV W H K R, tileV A n c] w fun e w' => e = .returned (.bool true) ∧ Below w.heap.size w w' := by
  obtain ⟨g1, hg1⟩ : ∃ g1, g1 = w.heap.size := ⟨_, rfl⟩
  obtain ⟨w1, hw1⟩ : ∃ w1, (w.alloc (.cells #[.int .i64 W, .int .i64 H, .int .i64 K, .int .i64 R] 23)).alloc (.cells #[.slice A n c] 26) = w1 := ⟨_, rfl⟩
  have b1 : Box w1 g1 23 #[.int .i64 W, .int .i64 H, .int .i64 K, .int .i64 R] := by rw [← hw1, hg1]; exact (Box.made _ _ _).alloc _
  have b2 : Box w1 (g1 + 1) 26 #[.slice A n c] := by rw [← hw1, hg1]; have := Box.made (w.alloc (.cells #[.int .i64 W, .int .i64 H, .int .i64 K, .int .i64 R] 23)) 26 #[.slice A n c]; simpa using this
  have k1 : Below w.heap.size w w1 := by rw [← hw1]; exact on_trans (on_alloc _ _) (on_alloc _ _)
  have r0 : w1.cell? ⟨g1 + 1, 0, none⟩ = some (.slice A n c) := b2.cell 0
  obtain ⟨m, l, hm, hs1, hs2⟩ := shapes_one W H K R
  obtain ⟨rb, hr1, hr2⟩ := rights_one W H K R T
  have hf := few_any w1 A n c L T (hT.on k1)
  have HL := Lib.hid (And.intro
    (fun (w' : World) (h : Box w' g1 23 #[.int .i64 W, .int .i64 H, .int .i64 K, .int .i64 R]) => (run_loadAt_mid w' g1 0 23 [.int .i64 W, .int .i64 H, .int .i64 K, .int .i64 R] _ (fun k u hu => by rw [Nat.zero_add, h.cell k]; simpa using hu) Try.underlying23 rfl (by kernel_rfl) : (Instr.loadAt 23 (.pointer (some ⟨g1, 0, none⟩))).run Try.prog w' = .ok (.agg #[.int .i64 W, .int .i64 H, .int .i64 K, .int .i64 R]) w'))
    (fun (w' : World) (h : Box w' (g1 + 1) 26 #[.slice A n c]) => (run_loadAt_mid w' (g1 + 1) 0 26 [.slice A n c] _ (fun k u hu => by rw [Nat.zero_add, h.cell k]; simpa using hu) Try.underlying26 rfl (by kernel_rfl) : (Instr.loadAt 26 (.pointer (some ⟨g1 + 1, 0, none⟩))).run Try.prog w' = .ok (.agg #[.slice A n c]) w')))
  have HB := Lib.hid (And.intro b1 (And.intro b2 (And.intro k1 (And.intro (hT.on k1) hg1))))
  unfold scanV at hs1 hs2 hr1 hr2
  unfold tileV at hf hr1 hr2
  have HS := Lib.hid (And.intro hs1 hs2)
  have HR := Lib.hid (And.intro (fun w' h => hr1 w' A n c L h) (fun w' h => hr2 w' A n c L h))
  have HF := Lib.hid hf
  have hsz : w.heap.size = g1 := hg1.symm
  clear b1 b2 k1 hT hs1 hs2 hr1 hr2 hf hg1
  unfold scanV tileV
  go_enter Try.func3, Try.ntmps3
  go_upto_region 1 with fail
  clear hw1 hsz
  go_wp2_with fail
  refine Calls.mono HF.out ?_
  rintro e w2 ⟨fb, rfl, _, k2⟩
  have H2 := Lib.hid (And.intro (HB.out.1.on k2) (And.intro (HB.out.2.1.on k2) (And.intro (HB.out.2.2.2.1.on k2) (on_trans HB.out.2.2.1 k2))))
  clear k2 HF r0
  cases fb with
  | false =>
    go_wp2_with fail
    refine Calls.mono (awake_any _) ?_
    rintro e w3 ⟨rfl, b3⟩
    have H3 := Lib.hid (on_trans H2.out.2.2.2 b3)
    clear b3
    go_wp2_with fail
    go_ret
    exact ⟨rfl, H3.out⟩
  | true =>
    go_upto_region 3 with fail
    refine wp_region_held_drew (S := fun w' => Hid (Below w2.heap.size w2 w')) (by kernel_rfl) (Lib.hid (on_drew w2)) fun s0 => ?_
    refine take_to (i := 0) (v := .agg #[.int .i64 W, .int .i64 H, .int .i64 K, .int .i64 R]) rfl (by kernel_rfl) (by kernel_rfl) (by kernel_rfl) (fun _ _ _ h => h) (yieldsIf_load7 (by rfl) 23 (.tmp 2) rfl (.pointer (some ⟨g1, 0, none⟩)) rfl (.agg #[.int .i64 W, .int .i64 H, .int .i64 K, .int .i64 R]) (fun w' hS => HL.out.1 w' (H2.out.1.on hS.out))) s0 (some 12) rfl ?_
    try simp only [Act.put, List.setIfInBounds_toArray, List.set_cons_zero, List.set_cons_succ]
    refine take_to (i := 2) (v := .agg #[.int .i64 W, .int .i64 H, .int .i64 K, .int .i64 R]) rfl (by kernel_rfl) (by kernel_rfl) (by kernel_rfl) (fun _ _ _ h => h) (yieldsIf_load7 (by rfl) 23 (.tmp 2) rfl (.pointer (some ⟨g1, 0, none⟩)) rfl (.agg #[.int .i64 W, .int .i64 H, .int .i64 K, .int .i64 R]) (fun w' hS => HL.out.1 w' (H2.out.1.on hS.out))) s0 (some 14) rfl ?_
    try simp only [Act.put, List.setIfInBounds_toArray, List.set_cons_zero, List.set_cons_succ]
    refine wpAnyH_ready (rs := [1]) (by kernel_rfl) (by simp) ?_
    refine AllReadyH.cons rfl (fun Kq hKq => ?_) AllReadyH.nil
    go_simp
    refine Calls.mono (HS.out.1 _) ?_
    rintro e wq1 ⟨A5, c5, rfl, hc5, hp5, bq⟩
    have P5 := Lib.hid (And.intro hc5 hp5); clear hc5 hp5
    have sq := Lib.hid (on_trans s0.out bq)
    refine hKq.out _ _ sq fun _ => ?_
    clear hKq Kq bq s0
    have s0 := sq
    clear sq
    refine wpAnyH_ready (rs := [3]) (by kernel_rfl) (by simp) ?_
    refine AllReadyH.cons rfl (fun Kq hKq => ?_) AllReadyH.nil
    go_simp
    refine Calls.mono (HS.out.2 _) ?_
    rintro e wq2 ⟨A6, c6, rfl, hc6, hp6, bq⟩
    have P6 := Lib.hid (And.intro (P5.out.2.on bq) (And.intro hc6 hp6)); clear hc6 hp6
    have sq := Lib.hid (on_trans s0.out bq)
    refine hKq.out _ _ sq fun _ => ?_
    clear hKq Kq bq s0
    have s0 := sq
    clear sq
    refine take_to (i := 4) (v := .slice A5 m c5) rfl (by kernel_rfl) (by kernel_rfl) (by kernel_rfl) (fun _ _ _ h => h) (Or.inl ⟨by rfl, fun w' hS => by go_simp⟩) s0 (some 5) rfl ?_
    try simp only [Act.put, List.setIfInBounds_toArray, List.set_cons_zero, List.set_cons_succ]
    refine take_to (i := 5) (v := .slice A6 m c6) rfl (by kernel_rfl) (by kernel_rfl) (by kernel_rfl) (fun _ _ _ h => h) (Or.inl ⟨by rfl, fun w' hS => by go_simp⟩) s0 (some 6) rfl ?_
    try simp only [Act.put, List.setIfInBounds_toArray, List.set_cons_zero, List.set_cons_succ]
    refine wpAnyH_done (by kernel_rfl) ?_ _
    have hmm : (m : Int) ≤ 3 := by omega
    have e0 : ((m : Int) != (m : Int)) = false := by simp
    have H4 := Lib.hid (And.intro (P6.out.1) (And.intro P6.out.2.2 (on_trans H2.out.2.2.2 s0.out)))
    have H4b := Lib.hid (And.intro (H2.out.1.on s0.out) (And.intro (H2.out.2.1.on s0.out) (H2.out.2.2.1.on s0.out)))
    clear s0 P5 P6 H2 HB HS
    go_wp2_with fail
    go_loopw [23] (fun i wr => ∃ k : Nat, k ≤ m ∧ i = .int .i64 (k : Int) ∧ Below wq2.heap.size wq2 wr) (fun i _ => m - (intOf i).toNat)
    case atStart => exact ⟨0, Nat.zero_le _, rfl, Below.refl _ _⟩
    case round =>
      obtain ⟨k, hk, rfl, hkw⟩ := hrel
      have HW := Lib.hid hkw
      by_cases hlt : k < m
      · have hki : (k : Int) < (m : Int) := by omega
        obtain ⟨x, hx⟩ : ∃ x, l[k]? = some x := ⟨_, List.getElem?_eq_getElem (by rw [H4.out.1.len]; exact hlt)⟩
        obtain ⟨b5, o5, rfl, _, _, e5⟩ := (H4.out.1.on hkw).at_ (by omega)
        obtain ⟨b6, o6, rfl, _, _, e6⟩ := (H4.out.2.1.on hkw).at_ (by omega)
        obtain ⟨p0, p1⟩ := e5 k x hx
        obtain ⟨p2, p3⟩ := e6 k x hx
        have hq := fun w => pair_equal w (x.1 : Int) (x.2 : Int)
        clear e5 e6 hx hkw
        go_wp2_with fail
        go_quiet (fail)
        have HN := Lib.hid (on_trans HW.out (below_drewN_refl wr nq))
        go_wp2_with fail
        go_roundw
        case rel => exact ⟨k + 1, by omega, by go_num, HN.out⟩
        case measure => simp [intOf]; omega
      · obtain rfl : k = m := by omega
        have HZ := Lib.hid (And.intro (H4b.out.1.on hkw) (And.intro (H4b.out.2.1.on hkw) (H4b.out.2.2.on hkw)))
        have HY := Lib.hid (on_trans H4.out.2.2 hkw)
        clear hkw HW H4 H4b
        go_wp2_with fail
        refine wp_region_held_drew (S := fun w' => Hid (Below wr.heap.size wr w')) (by kernel_rfl) (Lib.hid (on_drew wr)) fun s0 => ?_
        refine take_to (i := 0) (v := .agg #[.int .i64 W, .int .i64 H, .int .i64 K, .int .i64 R]) rfl (by kernel_rfl) (by kernel_rfl) (by kernel_rfl) (fun _ _ _ h => h) (yieldsIf_load7 (by rfl) 23 (.tmp 2) rfl (.pointer (some ⟨g1, 0, none⟩)) rfl (.agg #[.int .i64 W, .int .i64 H, .int .i64 K, .int .i64 R]) (fun w' hS => HL.out.1 w' (HZ.out.1.on hS.out))) s0 (some 36) rfl ?_
        try simp only [Act.put, List.setIfInBounds_toArray, List.set_cons_zero, List.set_cons_succ]
        refine take_to (i := 1) (v := .agg #[.slice A n c]) rfl (by kernel_rfl) (by kernel_rfl) (by kernel_rfl) (fun _ _ _ h => h) (yieldsIf_load7 (by rfl) 26 (.tmp 3) rfl (.pointer (some ⟨g1 + 1, 0, none⟩)) rfl (.agg #[.slice A n c]) (fun w' hS => HL.out.2 w' (HZ.out.2.1.on hS.out))) s0 (some 37) rfl ?_
        try simp only [Act.put, List.setIfInBounds_toArray, List.set_cons_zero, List.set_cons_succ]
        refine take_to (i := 3) (v := .agg #[.int .i64 W, .int .i64 H, .int .i64 K, .int .i64 R]) rfl (by kernel_rfl) (by kernel_rfl) (by kernel_rfl) (fun _ _ _ h => h) (yieldsIf_load7 (by rfl) 23 (.tmp 2) rfl (.pointer (some ⟨g1, 0, none⟩)) rfl (.agg #[.int .i64 W, .int .i64 H, .int .i64 K, .int .i64 R]) (fun w' hS => HL.out.1 w' (HZ.out.1.on hS.out))) s0 (some 39) rfl ?_
        try simp only [Act.put, List.setIfInBounds_toArray, List.set_cons_zero, List.set_cons_succ]
        refine take_to (i := 4) (v := .agg #[.slice A n c]) rfl (by kernel_rfl) (by kernel_rfl) (by kernel_rfl) (fun _ _ _ h => h) (yieldsIf_load7 (by rfl) 26 (.tmp 3) rfl (.pointer (some ⟨g1 + 1, 0, none⟩)) rfl (.agg #[.slice A n c]) (fun w' hS => HL.out.2 w' (HZ.out.2.1.on hS.out))) s0 (some 40) rfl ?_
        try simp only [Act.put, List.setIfInBounds_toArray, List.set_cons_zero, List.set_cons_succ]
        refine wpAnyH_ready (rs := [2]) (by kernel_rfl) (by simp) ?_
        refine AllReadyH.cons rfl (fun Kq hKq => ?_) AllReadyH.nil
        go_simp
        refine Calls.mono (HR.out.1 _ (HZ.out.2.2.on s0.out)) ?_
        rintro e wq3 ⟨rfl, bq⟩
        have sq := Lib.hid (on_trans s0.out bq)
        refine hKq.out _ _ sq fun _ => ?_
        clear hKq Kq bq s0
        have s0 := sq
        clear sq
        refine wpAnyH_ready (rs := [5]) (by kernel_rfl) (by simp) ?_
        refine AllReadyH.cons rfl (fun Kq hKq => ?_) AllReadyH.nil
        go_simp
        refine Calls.mono (HR.out.2 _ (HZ.out.2.2.on s0.out)) ?_
        rintro e wq4 ⟨rfl, bq⟩
        have sq := Lib.hid (on_trans s0.out bq)
        refine hKq.out _ _ sq fun _ => ?_
        clear hKq Kq bq s0
        have s0 := sq
        clear sq
        refine take_to (i := 6) (v := .bool true) rfl (by kernel_rfl) (by kernel_rfl) (by kernel_rfl) (fun _ _ _ h => h) (Or.inl ⟨by rfl, fun w' hS => by go_simp⟩) s0 (some 42) rfl ?_
        try simp only [Act.put, List.setIfInBounds_toArray, List.set_cons_zero, List.set_cons_succ]
        refine take_to (i := 7) (v := .bool true) rfl (by kernel_rfl) (by kernel_rfl) (by kernel_rfl) (fun _ _ _ h => h) (Or.inl ⟨by rfl, fun w' hS => by go_simp⟩) s0 (some 43) rfl ?_
        try simp only [Act.put, List.setIfInBounds_toArray, List.set_cons_zero, List.set_cons_succ]
        refine wpAnyH_ready (rs := [8]) (by kernel_rfl) (by simp) ?_
        refine AllReadyH.cons rfl (fun Kq hKq => ?_) AllReadyH.nil
        go_simp
        refine Calls.mono (awake_any _) ?_
        rintro e wq5 ⟨rfl, bq⟩
        have sq := Lib.hid (on_trans s0.out bq)
        refine hKq.out _ _ sq fun _ => ?_
        clear hKq Kq bq s0
        have s0 := sq
        clear sq
        refine take_to (i := 9) (v := .bool true) rfl (by kernel_rfl) (by kernel_rfl) (by kernel_rfl) (fun _ _ _ h => h) (Or.inl ⟨by rfl, fun w' hS => by go_simp⟩) s0 (some 45) rfl ?_
        try simp only [Act.put, List.setIfInBounds_toArray, List.set_cons_zero, List.set_cons_succ]
        refine take_to (i := 10) (v := .bool true) rfl (by kernel_rfl) (by kernel_rfl) (by kernel_rfl) (fun _ _ _ h => h) (Or.inl ⟨by rfl, fun w' hS => by go_simp⟩) s0 (some 4) rfl ?_
        try simp only [Act.put, List.setIfInBounds_toArray, List.set_cons_zero, List.set_cons_succ]
        refine wpAnyH_done (by kernel_rfl) ?_ _
        have H9 := Lib.hid (on_trans HY.out s0.out)
        go_wp2_with fail
        go_ret
        exact ⟨rfl, H9.out⟩
end
end Go.Proofs.Ytdnjnbfmmgkpjaa
