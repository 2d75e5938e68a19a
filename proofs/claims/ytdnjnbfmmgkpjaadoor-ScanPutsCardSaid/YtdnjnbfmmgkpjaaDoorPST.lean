/-
  ScanSteps: the steps that tables bear change no byte of a scan: the walk.
-/
import Derived.Test.YtdnjnbfmmgkpjaaDoorPH
namespace Go.Proofs.YtdnjnbfmmgkpjaaDoor
open Go.RowKit

theorem wp_load_at {o : Oper} {a : Act} {w : World} {K : Act → World → Prop} {Q : Exit → Act → World → Prop} (t : TypeId) (x : Operand) (ho : o.op = .load t x) (u : Value) (hx : a.eval x = u) (v : Value) (h : (Instr.loadAt t u).run Tryd.prog w = .ok v w)
    (hK : K (a.put o.dst v) w) : o.wp Tryd.prog a w K Q := by
  unfold Oper.wp execOp
  simp only [ho, hx, Sem.run_bind, h, Result.andThen_ok, Sem.run_pure]
  exact hK
theorem load_scan {w : World} {g : Nat} {W H K R : Int} (h : Box w g 23 #[.int .i64 W, .int .i64 H, .int .i64 K, .int .i64 R]) : (Instr.loadAt 23 (.pointer (some ⟨g, 0, none⟩))).run Tryd.prog w = .ok (.agg #[.int .i64 W, .int .i64 H, .int .i64 K, .int .i64 R]) w :=
  run_loadAt_mid w g 0 23 [.int .i64 W, .int .i64 H, .int .i64 K, .int .i64 R] _ (fun k u hu => by rw [Nat.zero_add, h.cell k]; simpa using hu) Tryd.underlying23 rfl (by kernel_rfl)
theorem load_tile {w : World} {g : Nat} {A : Option Addr} {n c : Nat} (h : Box w g 36 #[.slice A n c]) : (Instr.loadAt 36 (.pointer (some ⟨g, 0, none⟩))).run Tryd.prog w = .ok (.agg #[.slice A n c]) w :=
  run_loadAt_mid w g 0 36 [.slice A n c] _ (fun k u hu => by rw [Nat.zero_add, h.cell k]; simpa using hu) Tryd.underlying36 rfl (by kernel_rfl)
theorem load_two {w : World} {g : Nat} {s : Nat → List Int} (hs : ∀ i, i < 2 → (s i).length = 64) (h : Box w g 26 (twoC s).toArray) : (Instr.loadAt 26 (.pointer (some ⟨g, 0, none⟩))).run Tryd.prog w = .ok (.agg (twoC s).toArray) w :=
  run_loadAt_mid w g 0 26 (twoC s) _ (fun k u hu => by rw [Nat.zero_add, h.cell k]; simpa using hu) Tryd.underlying26 rfl (by rw [two_size]; simp [twoC, cellsI_len, hs 0 (by omega), hs 1 (by omega)])
theorem Xs.bel {w w' : World} {T : Tbs} {X : Nat → Value} (h : Xs w T X) (k : Below w.heap.size w w') (s : Nat → List Int) : Xs w' ⟨s, T.B, T.V⟩ X := h.on k
section
variable (w : World) (W H K R : Int) (T : Tbs) (X : Nat → Value) (A : Option Addr) (n c : Nat) (L : List (Option Addr × Nat × Nat)) (tl : List (List (List Int))) (s : Nat → List Int)
set_option maxRecDepth 10000 in
set_option maxHeartbeats 12800000 in
theorem steps_calls (hT : Tab w) (hW : Wt T) (h1X : ∀ j, (X j).oneCell' = true) (hX : Xs w T X) (ht : Ti w A n L tl) (hs : ∀ i, i < 2 → (s i).length = 64) :
    Calls Tryd.prog 6 #[scanV W H K R, tbV T X, tileV A n c, .agg (twoC s).toArray] w fun e w' => e = .returned (.bool true) ∧ Below w.heap.size w w' := by
  obtain ⟨C, hC⟩ : ∃ C, C = (tbC T X).toArray := ⟨_, rfl⟩
  have eC : tbV T X = .agg C := by rw [hC]; rfl
  obtain ⟨V, hV⟩ : ∃ V, V = (twoC s).toArray := ⟨_, rfl⟩
  obtain ⟨g1, hg1⟩ : ∃ g1, w.heap.size = g1 := ⟨_, rfl⟩
  obtain ⟨w1, hw1⟩ : ∃ w1, (((w.alloc (.cells #[.int .i64 W, .int .i64 H, .int .i64 K, .int .i64 R] 23)).alloc (.cells C 33)).alloc (.cells #[.slice A n c] 36)).alloc (.cells V 26) = w1 := ⟨_, rfl⟩
  have b1 : Box w1 g1 23 #[.int .i64 W, .int .i64 H, .int .i64 K, .int .i64 R] := by rw [← hw1, ← hg1]; exact (((Box.made _ _ _).alloc _).alloc _).alloc _
  have b2 : Box w1 (g1 + 1) 33 C := by
    rw [← hw1, ← hg1]
    have := ((Box.made (w.alloc (.cells #[.int .i64 W, .int .i64 H, .int .i64 K, .int .i64 R] 23)) 33 C).alloc (.cells #[.slice A n c] 36)).alloc (.cells V 26)
    simpa using this
  have b3 : Box w1 (g1 + 1 + 1) 36 #[.slice A n c] := by
    rw [← hw1, ← hg1]
    have := (Box.made ((w.alloc (.cells #[.int .i64 W, .int .i64 H, .int .i64 K, .int .i64 R] 23)).alloc (.cells C 33)) 36 #[.slice A n c]).alloc (.cells V 26)
    simpa using this
  have b4 : Box w1 (g1 + 1 + 1 + 1) 26 V := by
    rw [← hw1, ← hg1]
    have := Box.made (((w.alloc (.cells #[.int .i64 W, .int .i64 H, .int .i64 K, .int .i64 R] 23)).alloc (.cells C 33)).alloc (.cells #[.slice A n c] 36)) 26 V
    simpa using this
  have k1 : Below w.heap.size w w1 := by rw [← hw1]; exact on_trans (on_trans (on_trans (on_alloc _ _) (on_alloc _ _)) (on_alloc _ _)) (on_alloc _ _)
  have r0 : w1.cell? ⟨g1 + 1 + 1, 0, none⟩ = some (.slice A n c) := b3.cell 0
  have hfw := few_any w1 A n c L tl (ht.on k1)
  unfold tileV FewY at hfw
  have HF := Lib.hid hfw
  have HL := Lib.hid (And.intro (fun (w' : World) (h : Box w' g1 23 #[.int .i64 W, .int .i64 H, .int .i64 K, .int .i64 R]) => load_scan h) (fun (w' : World) (h : Box w' (g1 + 1 + 1) 36 #[.slice A n c]) => load_tile h))
  have HB := Lib.hid (And.intro b1 (And.intro b2 (And.intro b3 (And.intro b4 (And.intro k1 (And.intro hg1 (And.intro eC (And.intro hC hV))))))))
  have HA := Lib.hid (And.intro hT (And.intro hW (And.intro h1X (And.intro hX (And.intro ht hs)))))
  have hpos0 : 0 < w.heap.size := hT.zero
  rw [eC, ← hV]
  clear b1 b2 b3 b4 k1 hfw eC hC hV hT hW h1X hX ht hs
  unfold scanV tileV
  go_enter Tryd.func6, Tryd.ntmps6
  go_upto_region 1 with fail
  clear hw1
  go_wp2_with fail
  refine Calls.mono HF.out ?_
  rintro e w2 ⟨fb, rfl, hfb, k2⟩
  have H2 := Lib.hid (And.intro (HB.out.1.on k2) (And.intro (HB.out.2.1.on k2) (And.intro (HB.out.2.2.1.on k2) (And.intro (HB.out.2.2.2.1.on k2) (And.intro (on_trans HB.out.2.2.2.2.1 k2) hfb)))))
  clear k2 HF r0 hfb
  cases fb with
  | false =>
    go_wp2_with fail
    refine Calls.mono (awake_any _) ?_
    rintro e w3 ⟨rfl, b3⟩
    have H3 := Lib.hid (on_trans H2.out.2.2.2.2.1 b3)
    clear b3
    go_wp2_with fail
    go_ret
    exact ⟨rfl, H3.out⟩
  | true =>
    have kw2 := H2.out.2.2.2.2.1
    have hld : (Instr.loadAt 33 (.pointer (some ⟨g1 + 1, 0, none⟩))).run Tryd.prog w2 = .ok (.agg C) w2 := by
      have hb := H2.out.2.1
      rw [HB.out.2.2.2.2.2.2.2.1] at hb
      rw [← HB.out.2.2.2.2.2.2.1]
      exact (hb.rng).load
    have HLd := Lib.hid hld
    have hsm := small_any w2 W H K R T X (HA.out.2.2.2.1.on kw2)
    unfold scanV SmallY at hsm
    rw [HB.out.2.2.2.2.2.2.1] at hsm
    have HSm := Lib.hid hsm
    have q0 : w2.cell? ⟨g1, 0, none⟩ = some (.int .i64 W) := H2.out.1.cell 0
    have q1 : w2.cell? ⟨g1, 1, none⟩ = some (.int .i64 H) := H2.out.1.cell 1
    have q2 : w2.cell? ⟨g1, 2, none⟩ = some (.int .i64 K) := H2.out.1.cell 2
    have q3 : w2.cell? ⟨g1, 3, none⟩ = some (.int .i64 R) := H2.out.1.cell 3
    clear hld hsm kw2
    go_wp2_with fail
    refine wp_load_at (o := ⟨some 18, _, _, _, _, _⟩) 33 (.tmp 5) rfl (.pointer (some ⟨g1 + 1, 0, none⟩)) rfl (.agg C) HLd.out ?_
    go_wp2_with fail
    refine Calls.mono HSm.out ?_
    rintro e w3 ⟨sb, rfl, hsb, k3⟩
    have H3 := Lib.hid (And.intro (H2.out.1.on k3) (And.intro (H2.out.2.1.on k3) (And.intro (H2.out.2.2.1.on k3) (And.intro (H2.out.2.2.2.1.on k3) (And.intro (on_trans H2.out.2.2.2.2.1 k3) hsb)))))
    clear k3 HSm hsb q0 q1 q2 q3 HLd
    cases sb with
    | false =>
      go_wp2_with fail
      refine Calls.mono (awake_any _) ?_
      rintro e w4 ⟨rfl, b4⟩
      have H4 := Lib.hid (on_trans H3.out.2.2.2.2.1 b4)
      clear b4
      go_wp2_with fail
      go_ret
      exact ⟨rfl, H4.out⟩
    | true =>
      have hfew := H2.out.2.2.2.2.2 trivial
      have hsmall := H3.out.2.2.2.2.2 rfl
      have kw3 := H3.out.2.2.2.2.1
      have ht100 : ∀ t ∈ tl, t.length ≤ 100 := fun t h => by
        obtain ⟨p, hp⟩ := List.mem_iff_getElem?.1 h
        have := hfew.2 p t hp
        omega
      obtain ⟨E, hE⟩ : ∃ E, E = (putR W H K R T tl).2 := ⟨_, rfl⟩
      obtain ⟨o, ho⟩ : ∃ o, o = (putR W H K R T tl).1 := ⟨_, rfl⟩
      have how : ∀ w', Ti w' A n L tl → Calls Tryd.prog 10 #[.agg #[.slice A n c]] w' (OwnT w' n tl) := fun w' h => own_any w' A n c L tl h hfew.1 ht100
      unfold OwnT at how
      have HOw := Lib.hid how
      have hput : ∀ w', Below w3.heap.size w3 w' → ∀ A8 c8 L8, Ti w' A8 n L8 tl → Calls Tryd.prog 11 #[.agg #[.int .i64 W, .int .i64 H, .int .i64 K, .int .i64 R], .agg C, .agg #[.slice A8 n c8]] w' fun e w'' => Below w'.heap.size w' w'' ∧ ∃ A' m c', e = .returned (.tuple #[.slice A' m c', .int .i64 E]) ∧ Sl w'' (fun b => w'.heap.size ≤ b) A' m c' o := fun w' k A8 c8 L8 h8 => by
        have k8 := on_trans kw3 k
        have := scanPut_one w' W H K R T X A8 n c8 L8 tl (HA.out.1.on k8) (HA.out.2.2.2.1.on k8) HA.out.2.1 hsmall.2 h8 hsmall.1
        rw [HB.out.2.2.2.2.2.2.1, ← hE, ← ho] at this
        exact this
      have HPu := Lib.hid hput
      have HL33 := Lib.hid (fun (w' : World) (k : Below w3.heap.size w3 w') => (show (Instr.loadAt 33 (.pointer (some ⟨g1 + 1, 0, none⟩))).run Tryd.prog w' = .ok (.agg C) w' by
        have hb := H3.out.2.1.on k
        rw [HB.out.2.2.2.2.2.2.2.1] at hb
        rw [← HB.out.2.2.2.2.2.2.1]
        exact (hb.rng).load))
      have HW3 := Lib.hid (And.intro H3.out.1 (And.intro H3.out.2.2.1 (HA.out.2.2.2.2.1.on kw3)))
      have HEo := Lib.hid (And.intro hE ho)
      have HS := Lib.hid (And.intro hfew.1 (And.intro ht100 hsmall))
      clear how hput hE ho hfew hsmall kw3 ht100
      go_upto_region 3 with fail
      refine wp_region_held_drew (S := fun w' => Hid (Below w3.heap.size w3 w')) (by kernel_rfl) (Lib.hid (on_drew w3)) fun s0 => ?_
      refine take_to (i := 0) (v := .agg #[.int .i64 W, .int .i64 H, .int .i64 K, .int .i64 R]) rfl (by kernel_rfl) (by kernel_rfl) (by kernel_rfl) (fun _ _ _ h => h) (yieldsIf_load7 (by rfl) 23 (.tmp 4) rfl (.pointer (some ⟨g1, 0, none⟩)) rfl (.agg #[.int .i64 W, .int .i64 H, .int .i64 K, .int .i64 R]) (fun w' hS => HL.out.1 w' (HW3.out.1.on hS.out))) s0 (some 24) rfl ?_
      try simp only [Act.put, List.setIfInBounds_toArray, List.set_cons_zero, List.set_cons_succ]
      refine take_to (i := 1) (v := .agg C) rfl (by kernel_rfl) (by kernel_rfl) (by kernel_rfl) (fun _ _ _ h => h) (yieldsIf_load7 (by rfl) 33 (.tmp 5) rfl (.pointer (some ⟨g1 + 1, 0, none⟩)) rfl (.agg C) (fun w' hS => HL33.out w' hS.out)) s0 (some 25) rfl ?_
      try simp only [Act.put, List.setIfInBounds_toArray, List.set_cons_zero, List.set_cons_succ]
      refine take_to (i := 2) (v := .agg #[.slice A n c]) rfl (by kernel_rfl) (by kernel_rfl) (by kernel_rfl) (fun _ _ _ h => h) (yieldsIf_load7 (by rfl) 36 (.tmp 6) rfl (.pointer (some ⟨g1 + 1 + 1, 0, none⟩)) rfl (.agg #[.slice A n c]) (fun w' hS => HL.out.2 w' (HW3.out.2.1.on hS.out))) s0 (some 26) rfl ?_
      try simp only [Act.put, List.setIfInBounds_toArray, List.set_cons_zero, List.set_cons_succ]
      refine wpAnyH_ready (rs := [3]) (by kernel_rfl) (by simp) ?_
      refine AllReadyH.cons rfl (fun Kq hKq => ?_) AllReadyH.nil
      go_simp
      refine Calls.mono (HOw.out _ (HW3.out.2.2.on s0.out)) ?_
      rintro e wq3 ⟨A8, c8, L8, rfl, t8, bq⟩
      have HT8 := Lib.hid t8
      clear t8
      unfold tileV
      have sq := Lib.hid (on_trans s0.out bq)
      refine hKq.out _ _ sq fun _ => ?_
      clear hKq Kq bq s0
      have s0 := sq
      clear sq
      refine wpAnyH_ready (rs := [4]) (by kernel_rfl) (by simp) ?_
      refine AllReadyH.cons rfl (fun Kq hKq => ?_) AllReadyH.nil
      go_simp
      refine Calls.mono (HPu.out _ s0.out A8 c8 L8 HT8.out) ?_
      rintro e wq4 ⟨bq, A1, m1, k1, rfl, sl1⟩
      have HS1 := Lib.hid sl1
      clear sl1
      have HQ3 := Lib.hid s0.out.size
      have sq := Lib.hid (on_trans s0.out bq)
      refine hKq.out _ _ sq fun _ => ?_
      clear hKq Kq bq s0
      have s0 := sq
      clear sq
      refine take_to (i := 5) (v := .tuple #[.slice A1 m1 k1, .int .i64 E]) rfl (by kernel_rfl) (by kernel_rfl) (by kernel_rfl) (fun _ _ _ h => h) (Or.inl ⟨by rfl, fun w' hS => by go_simp⟩) s0 (some 23) rfl ?_
      try simp only [Act.put, List.setIfInBounds_toArray, List.set_cons_zero, List.set_cons_succ]
      refine take_to (i := 6) (v := .slice A1 m1 k1) rfl (by kernel_rfl) (by kernel_rfl) (by kernel_rfl) (fun _ _ _ h => h) (Or.inl ⟨by rfl, fun w' hS => by go_simp⟩) s0 (some 29) rfl ?_
      try simp only [Act.put, List.setIfInBounds_toArray, List.set_cons_zero, List.set_cons_succ]
      refine take_to (i := 7) (v := .int .i64 E) rfl (by kernel_rfl) (by kernel_rfl) (by kernel_rfl) (fun _ _ _ h => h) (Or.inl ⟨by rfl, fun w' hS => by go_simp⟩) s0 (some 30) rfl ?_
      try simp only [Act.put, List.setIfInBounds_toArray, List.set_cons_zero, List.set_cons_succ]
      refine take_to (i := 8) (v := .slice A1 m1 k1) rfl (by kernel_rfl) (by kernel_rfl) (by kernel_rfl) (fun _ _ _ h => h) (Or.inl ⟨by rfl, fun w' hS => by go_simp⟩) s0 (some 9) rfl ?_
      try simp only [Act.put, List.setIfInBounds_toArray, List.set_cons_zero, List.set_cons_succ]
      refine take_to (i := 9) (v := .int .i64 E) rfl (by kernel_rfl) (by kernel_rfl) (by kernel_rfl) (fun _ _ _ h => h) (Or.inl ⟨by rfl, fun w' hS => by go_simp⟩) s0 (some 10) rfl ?_
      try simp only [Act.put, List.setIfInBounds_toArray, List.set_cons_zero, List.set_cons_succ]
      refine wpAnyH_done (by kernel_rfl) ?_ _
      have HLd26 := Lib.hid (show (Instr.loadAt 26 (.pointer (some ⟨g1 + 1 + 1 + 1, 0, none⟩))).run Tryd.prog wq4 = .ok (.agg V) wq4 by
        have hb := H3.out.2.2.2.1.on s0.out
        rw [HB.out.2.2.2.2.2.2.2.2] at hb ⊢
        exact load_two HA.out.2.2.2.2.2 hb)
      have HT33 := Lib.hid (show Box wq4 (g1 + 1) 33 (tbC T X).toArray by
        have hb := H3.out.2.1.on s0.out
        rw [HB.out.2.2.2.2.2.2.2.1] at hb
        exact hb)
      go_upto_region 5 with (first
        | (with_reducible refine wpList_load_to (op := ⟨some 31, _, _, _, _, _⟩) rfl 26 (.tmp 7) rfl (.pointer (some ⟨g1 + 1 + 1 + 1, 0, none⟩)) rfl (.agg V) HLd26.out ?_)
        | ((with_reducible refine wpList_store_steps (op := ⟨none, _, _, _, _, _⟩) rfl (.tmp 32) (.tmp 31) rfl rfl (g1 + 1) T X s V HB.out.2.2.2.2.2.2.2.2 rfl rfl HA.out.2.2.2.2.2 HT33.out ?_)
           intro w5 t5 k5
           have H5 := Lib.hid (And.intro t5 k5)
           clear t5 k5)
        | fail)
      have hg1s : g1 + 1 + 1 + 1 < w3.heap.size := H3.out.2.2.2.1.lt
      have hw0 : w.heap.size = g1 := HB.out.2.2.2.2.2.1
      have bel4 := on_trans H3.out.2.2.2.2.1 s0.out
      have bel5 : Below w.heap.size w w5 := bel4.trans (H5.out.2.below bel4.size (fun i hi e => by omega))
      obtain ⟨V5, hV5⟩ : ∃ V5, V5 = tbV ⟨s, T.B, T.V⟩ X := ⟨_, rfl⟩
      have HW5 := Lib.hid (And.intro (H5.out.2.box (H3.out.1.on s0.out) (by omega)) (And.intro (H5.out.2.box (H3.out.2.2.1.on s0.out) (by omega)) (HA.out.2.2.2.2.1.on bel5)))
      have hs1 : Sl w5 (fun b => w3.heap.size ≤ b) A1 m1 k1 o := (HS1.out.mono (K' := fun b => w3.heap.size ≤ b) (fun b _ hb => Nat.le_trans HQ3.out hb)).kept H5.out.2 (fun b hb e => by omega)
      have hput : ∀ w', Below w5.heap.size w5 w' → ∀ A8 c8 L8, Ti w' A8 n L8 tl → Calls Tryd.prog 11 #[.agg #[.int .i64 W, .int .i64 H, .int .i64 K, .int .i64 R], V5, .agg #[.slice A8 n c8]] w' fun e w'' => Below w'.heap.size w' w'' ∧ ∃ A' m c', e = .returned (.tuple #[.slice A' m c', .int .i64 E]) ∧ Sl w'' (fun b => w'.heap.size ≤ b) A' m c' o := fun w' k A8 c8 L8 h8 => by
        have k8 := on_trans bel5 k
        have := scanPut_one w' W H K R ⟨s, T.B, T.V⟩ X A8 n c8 L8 tl (HA.out.1.on k8) (HA.out.2.2.2.1.on k8) ⟨HA.out.2.2.2.2.2, HA.out.2.1.sb⟩ HS.out.2.2.2 h8 HS.out.2.2.1
        rw [← hV5, putR_steps, ← HEo.out.1, ← HEo.out.2] at this
        exact this
      have HPu5 := Lib.hid hput
      have HL5 := Lib.hid (fun (w' : World) (k : Below w5.heap.size w5 w') => (show (Instr.loadAt 33 (.pointer (some ⟨g1 + 1, 0, none⟩))).run Tryd.prog w' = .ok V5 w' by
        rw [hV5]
        exact (H5.out.1.on k).load))
      have H6 := Lib.hid (And.intro bel5 hs1)
      clear hg1s hw0 bel4 bel5 hs1 hput hV5 s0 HPu HL33 HW3 HLd26 HT33 HS1 HQ3 HT8 H2 H3
      refine wp_region_held_drew (S := fun w' => Hid (Below w5.heap.size w5 w')) (by kernel_rfl) (Lib.hid (on_drew w5)) fun s0 => ?_
      refine take_to (i := 0) (v := .agg #[.int .i64 W, .int .i64 H, .int .i64 K, .int .i64 R]) rfl (by kernel_rfl) (by kernel_rfl) (by kernel_rfl) (fun _ _ _ h => h) (yieldsIf_load7 (by rfl) 23 (.tmp 4) rfl (.pointer (some ⟨g1, 0, none⟩)) rfl (.agg #[.int .i64 W, .int .i64 H, .int .i64 K, .int .i64 R]) (fun w' hS => HL.out.1 w' (HW5.out.1.on hS.out))) s0 (some 34) rfl ?_
      try simp only [Act.put, List.setIfInBounds_toArray, List.set_cons_zero, List.set_cons_succ]
      refine take_to (i := 1) (v := V5) rfl (by kernel_rfl) (by kernel_rfl) (by kernel_rfl) (fun _ _ _ h => h) (yieldsIf_load7 (by rfl) 33 (.tmp 5) rfl (.pointer (some ⟨g1 + 1, 0, none⟩)) rfl (V5) (fun w' hS => HL5.out w' hS.out)) s0 (some 35) rfl ?_
      try simp only [Act.put, List.setIfInBounds_toArray, List.set_cons_zero, List.set_cons_succ]
      refine take_to (i := 2) (v := .agg #[.slice A n c]) rfl (by kernel_rfl) (by kernel_rfl) (by kernel_rfl) (fun _ _ _ h => h) (yieldsIf_load7 (by rfl) 36 (.tmp 6) rfl (.pointer (some ⟨g1 + 1 + 1, 0, none⟩)) rfl (.agg #[.slice A n c]) (fun w' hS => HL.out.2 w' (HW5.out.2.1.on hS.out))) s0 (some 36) rfl ?_
      try simp only [Act.put, List.setIfInBounds_toArray, List.set_cons_zero, List.set_cons_succ]
      refine wpAnyH_ready (rs := [3]) (by kernel_rfl) (by simp) ?_
      refine AllReadyH.cons rfl (fun Kq hKq => ?_) AllReadyH.nil
      go_simp
      refine Calls.mono (HOw.out _ (HW5.out.2.2.on s0.out)) ?_
      rintro e wr3 ⟨A8, c8, L8, rfl, t8, bq⟩
      have HT8 := Lib.hid t8
      clear t8
      unfold tileV
      have sq := Lib.hid (on_trans s0.out bq)
      refine hKq.out _ _ sq fun _ => ?_
      clear hKq Kq bq s0
      have s0 := sq
      clear sq
      refine wpAnyH_ready (rs := [4]) (by kernel_rfl) (by simp) ?_
      refine AllReadyH.cons rfl (fun Kq hKq => ?_) AllReadyH.nil
      go_simp
      refine Calls.mono (HPu5.out _ s0.out A8 c8 L8 HT8.out) ?_
      rintro e wr4 ⟨bq, A2, m2, k2, rfl, sl2⟩
      have HS2 := Lib.hid sl2
      clear sl2
      have sq := Lib.hid (on_trans s0.out bq)
      refine hKq.out _ _ sq fun _ => ?_
      clear hKq Kq bq s0
      have s0 := sq
      clear sq
      refine take_to (i := 5) (v := .tuple #[.slice A2 m2 k2, .int .i64 E]) rfl (by kernel_rfl) (by kernel_rfl) (by kernel_rfl) (fun _ _ _ h => h) (Or.inl ⟨by rfl, fun w' hS => by go_simp⟩) s0 (some 33) rfl ?_
      try simp only [Act.put, List.setIfInBounds_toArray, List.set_cons_zero, List.set_cons_succ]
      refine take_to (i := 6) (v := .slice A2 m2 k2) rfl (by kernel_rfl) (by kernel_rfl) (by kernel_rfl) (fun _ _ _ h => h) (Or.inl ⟨by rfl, fun w' hS => by go_simp⟩) s0 (some 39) rfl ?_
      try simp only [Act.put, List.setIfInBounds_toArray, List.set_cons_zero, List.set_cons_succ]
      refine take_to (i := 7) (v := .int .i64 E) rfl (by kernel_rfl) (by kernel_rfl) (by kernel_rfl) (fun _ _ _ h => h) (Or.inl ⟨by rfl, fun w' hS => by go_simp⟩) s0 (some 40) rfl ?_
      try simp only [Act.put, List.setIfInBounds_toArray, List.set_cons_zero, List.set_cons_succ]
      refine take_to (i := 8) (v := .slice A2 m2 k2) rfl (by kernel_rfl) (by kernel_rfl) (by kernel_rfl) (fun _ _ _ h => h) (Or.inl ⟨by rfl, fun w' hS => by go_simp⟩) s0 (some 11) rfl ?_
      try simp only [Act.put, List.setIfInBounds_toArray, List.set_cons_zero, List.set_cons_succ]
      refine take_to (i := 9) (v := .int .i64 E) rfl (by kernel_rfl) (by kernel_rfl) (by kernel_rfl) (fun _ _ _ h => h) (Or.inl ⟨by rfl, fun w' hS => by go_simp⟩) s0 (some 12) rfl ?_
      try simp only [Act.put, List.setIfInBounds_toArray, List.set_cons_zero, List.set_cons_succ]
      refine wpAnyH_done (by kernel_rfl) ?_ _
      obtain ⟨S0, hS0⟩ : ∃ S, S = strOfNums o := ⟨_, rfl⟩
      have cv1 : (convert 41 9 (.slice A1 m1 k1)).run Tryd.prog wr4 = .ok (.string S0) wr4 := by rw [hS0]; exact sl_str (H6.out.2.below s0.out (fun b hb _ => hb))
      have cv2 : (convert 41 9 (.slice A2 m2 k2)).run Tryd.prog wr4 = .ok (.string S0) wr4 := by rw [hS0]; exact sl_str HS2.out
      have eE : (E == E) = true := by simp
      have H7 := Lib.hid (on_trans H6.out.1 s0.out)
      clear s0 hS0 HS2 H6 HPu5 HL5 HW5
      go_wp2_with fail
      refine Calls.mono (awake_any _) ?_
      rintro e w9 ⟨rfl, b9⟩
      have H9 := Lib.hid (on_trans H7.out b9)
      clear b9 cv1 cv2
      go_wp2_with fail
      go_ret
      exact ⟨rfl, H9.out⟩
end
end Go.Proofs.YtdnjnbfmmgkpjaaDoor
