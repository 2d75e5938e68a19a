/-
  QuantSteps: the walk.
-/
import Derived.Test.YtambeekkgbbfnaaDoorRefSteps
namespace Go.Proofs.YtambeekkgbbfnaaDoor
open Go.RowKit

theorem held_step (z : Int) : 1 ≤ held z 1 255 ∧ held z 1 255 ≤ 255 := by
  unfold held
  repeat' split
  all_goals omega
/-- steps are right just where they are told -/
theorem stepsF_right (c : Bool) (q : Int) : decide (Wi (stepsF c q).1 1 255) = ((stepsF c q).2 == 0) := by
  by_cases h : 1 ≤ q ∧ q ≤ 100
  · have e : stepsF c q = (stepsL c q, 0) := by unfold stepsF; rw [if_pos h]
    rw [e]
    have hw : Wi (stepsL c q) 1 255 := fun k hk => by rw [stepsL_at c q hk]; exact held_step _
    rw [decide_eq_true hw]; rfl
  · have e : stepsF c q = (zeros64, 2) := by unfold stepsF; rw [if_neg h]
    rw [e, decide_eq_false (fun hw => by have := hw 0 (by omega); rw [zeros_at] at this; omega)]; rfl

/-- two equal blocks are equal: the operation may be taken first -/
theorem yieldsIf_eql26 {ops : Array Oper} {S : World → Prop} {op : Oper} {a : Act} (hw : Region.wanted op (yielded ops a.tmps) = true) (x y : Operand) (ho : op.op = .binOp .eql 26 x y 26)
    (B : List Int) (hB : B.length = 64) (hx : a.eval x = blkV B) (hy : a.eval y = blkV B) : YieldsIf Tryd.prog ops S op (.bool true) a :=
  .inl ⟨hw, fun w _ => by
    have hg : Tryd.prog.eqGuardType Tryd.prog.depth 26 = false := by kernel_rfl
    unfold execOp
    unfold blkV at hx hy
    have he := blk_equal w hB
    unfold blkV at he
    simp only [ho, hx, hy, Sem.run_bind, run_eqGuard_agg w .eql 26 x y _ _ hg, run_eql_struct, he, Result.andThen_ok]
    rfl⟩
section
variable (w1 : World)
/-- the calls of a region, over one world and what lies behind it -/
theorem right_on {b : List Int} (hb : b.length = 64) (w : World) (h : Hid (Below w1.heap.size w1 w)) : Calls Tryd.prog 14 #[blkV b] w fun e w' => e = .returned (.bool (decide (Wi b 1 255))) ∧ Hid (Below w1.heap.size w1 w') :=
  (right_any w b hb).mono fun _ _ ⟨he, k⟩ => ⟨he, Lib.hid (on_trans h.out k)⟩
theorem refIn_on {b : List Int} (hb : b.length = 64) (w : World) (h : Hid (Below w1.heap.size w1 w)) : Calls Tryd.prog 15 #[blkV b, .int .i64 1, .int .i64 255] w fun e w' => e = .returned (.bool (decide (Wi b 1 255))) ∧ Hid (Below w1.heap.size w1 w') :=
  (refIn_any w b 1 255 hb).mono fun _ _ ⟨he, k⟩ => ⟨he, Lib.hid (on_trans h.out k)⟩
theorem awake_on (hT : Tab w1) (w : World) (h : Hid (Below w1.heap.size w1 w)) : Calls Tryd.prog 11 #[] w fun e w' => e = .returned (.bool true) ∧ Hid (Below w1.heap.size w1 w') :=
  (awake_any w (hT.on h.out)).mono fun _ _ ⟨he, k⟩ => ⟨he, Lib.hid (on_trans h.out k)⟩
end

set_option maxRecDepth 10000 in
set_option maxHeartbeats 3200000 in
theorem stepsLaw_calls (w : World) (c : Bool) (q : Int) (b : List Int) (hT : Tab w) (hq : isInt q) (hb : b.length = 64) : Calls Tryd.prog 4 #[.bool c, .int .i64 q, blkV b] w (Law w) := by
  obtain ⟨Z, hZ⟩ : ∃ Z, Z = (cellsI zeros64).toArray := ⟨_, rfl⟩
  have hz : ∀ w, (zeroValue 26).run Tryd.prog w = .ok (.agg Z) w := fun w => by rw [hZ]; exact zero26 w
  have hZs : Z.size = 64 := by rw [hZ]; rfl
  obtain ⟨cs, hcs⟩ : ∃ cs, cs = (cellsI b).toArray := ⟨_, rfl⟩
  have hbv : blkV b = .agg cs := by rw [hcs]; rfl
  have hk := on_alloc w (.cells cs 26)
  have hB : Know w (w.alloc (.cells cs 26)) [(w.heap.size, b)] := ⟨fun p hp => by rw [List.mem_singleton] at hp; subst hp; rw [hcs]; exact Blk.made _ _ hb, hT.on hk, hk⟩
  obtain ⟨w1, hw1⟩ : ∃ w1, w1 = w.alloc (.cells cs 26) := ⟨_, rfl⟩
  rw [← hw1] at hB
  have H := Lib.hid (And.intro hB (And.intro hb (And.intro hZs (And.intro hq hw1.symm))))
  rw [hbv]
  have HS1 := Lib.hid (steps_any w1 c q hB.tab)
  have HS2 := Lib.hid (fun w => refSteps_any w c q hq)
  have hxl := stepsF_len c q
  have hxr := stepsF_right c q
  obtain ⟨⟨x, e⟩, hx⟩ : ∃ R, R = stepsF c q := ⟨_, rfl⟩
  rw [← hx] at HS1 HS2 hxl hxr
  dsimp only at hxl hxr
  have HL := Lib.hid (And.intro hxl hxr)
  have HW := Lib.hid (fun w => right_any w x hxl)
  clear hT hb hZ hZs hcs hbv hk hB hw1 hq hx hxl hxr
  go_enter Tryd.func4, Tryd.ntmps4
  go_wp2_with fail
  rw [H.out.2.2.2.2]
  refine HS1.out.mono ?_
  rintro r w2 ⟨rfl, ba⟩
  have K2 := Lib.hid (H.out.1.on ba)
  clear ba
  dsimp only
  go_wp2_with (first
    | ((with_reducible refine wpList_store_blk (o := ⟨none, _, _, _, _, _⟩) rfl (.tmp 7) (.tmp 15) rfl rfl w2.heap.size x rfl rfl Z (Box.made _ _ _) H.out.2.2.1 HL.out.1 ?_)
       intro w3 bb kb
       have J3 := Lib.hid (K2.out.laid bb kb)
       clear bb kb)
    | fail)
  obtain ⟨g7, hg7⟩ : ∃ g, g = w2.heap.size := ⟨_, rfl⟩
  rw [← hg7] at J3 ⊢
  clear hg7
  refine (HS2.out w3).mono ?_
  rintro r w4 ⟨rfl, ba⟩
  have K4 := Lib.hid (J3.out.on ba)
  clear ba
  dsimp only
  go_wp2_with (first
    | ((with_reducible refine wpList_store_blk (o := ⟨none, _, _, _, _, _⟩) rfl (.tmp 9) (.tmp 21) rfl rfl w4.heap.size x rfl rfl Z (Box.made _ _ _) H.out.2.2.1 HL.out.1 ?_)
       intro w5 bb kb
       have J5 := Lib.hid (K4.out.laid bb kb)
       clear bb kb)
    | fail)
  obtain ⟨g9, hg9⟩ : ∃ g, g = w4.heap.size := ⟨_, rfl⟩
  rw [← hg9] at J5 ⊢
  clear hg9
  have HR := Lib.hid (fun (w' : World) (h : Hid (Below w5.heap.size w5 w')) => J5.out.on h.out)
  have H0 : Hid (Below w5.heap.size w5 w5.drew) := Lib.hid (on_drew w5)
  obtain ⟨rb, hrb⟩ : ∃ rb, rb = (e == 0) := ⟨_, rfl⟩
  obtain ⟨rc, hrc⟩ : ∃ rc, rc = decide (Wi b 1 255) := ⟨_, rfl⟩
  have C14 := right_on w5 HL.out.1
  rw [HL.out.2, ← hrb] at C14
  have D14 := right_on w5 H.out.2.1
  have C15 := refIn_on w5 H.out.2.1
  rw [← hrc] at D14 C15
  have C14 := Lib.hid C14
  have D14 := Lib.hid D14
  have C15 := Lib.hid C15
  have C11 := Lib.hid (awake_on w5 J5.out.tab)
  have HE := Lib.hid hrb
  clear hrb hrc
  refine wp_region_held_drew (S := fun w' => Hid (Below w5.heap.size w5 w')) (by kernel_rfl) H0 fun s0 => ?_
  refine take_to (i := 0) rfl (by kernel_rfl) (by kernel_rfl) (by kernel_rfl) (fun _ _ _ h => h) (yieldsIf_load (by rfl) 26 _ rfl (.pointer (some ⟨g7, 0, none⟩)) rfl (blkV x) (fun w' h => (HR.out w' h).n1.load)) s0 (some 23) rfl ?_
  try simp only [Act.put, List.setIfInBounds_toArray, List.set_cons_zero, List.set_cons_succ]
  refine take_to (i := 1) rfl (by kernel_rfl) (by kernel_rfl) (by kernel_rfl) (fun _ _ _ h => h) (yieldsIf_load (by rfl) 26 _ rfl (.pointer (some ⟨g9, 0, none⟩)) rfl (blkV x) (fun w' h => (HR.out w' h).n0.load)) s0 (some 24) rfl ?_
  try simp only [Act.put, List.setIfInBounds_toArray, List.set_cons_zero, List.set_cons_succ]
  refine take_to (i := 2) rfl (by kernel_rfl) (by kernel_rfl) (by kernel_rfl) (fun _ _ _ h => h) (yieldsIf_eql26 (by rfl) _ _ rfl x HL.out.1 rfl rfl) s0 (some 25) rfl ?_
  try simp only [Act.put, List.setIfInBounds_toArray, List.set_cons_zero, List.set_cons_succ]
  refine take_to (i := 3) (v := .bool true) rfl (by kernel_rfl) (by kernel_rfl) (by kernel_rfl) (fun _ _ _ h => h) (Or.inl ⟨by rfl, fun w' hS => by go_simp⟩) s0 (some 26) rfl ?_
  try simp only [Act.put, List.setIfInBounds_toArray, List.set_cons_zero, List.set_cons_succ]
  refine take_to (i := 4) (v := .int .i64 e) rfl (by kernel_rfl) (by kernel_rfl) (by kernel_rfl) (fun _ _ _ h => h) (Or.inl ⟨by rfl, fun w' hS => by go_simp⟩) s0 (some 27) rfl ?_
  try simp only [Act.put, List.setIfInBounds_toArray, List.set_cons_zero, List.set_cons_succ]
  refine take_to (i := 5) (v := .int .i64 e) rfl (by kernel_rfl) (by kernel_rfl) (by kernel_rfl) (fun _ _ _ h => h) (Or.inl ⟨by rfl, fun w' hS => by go_simp⟩) s0 (some 28) rfl ?_
  try simp only [Act.put, List.setIfInBounds_toArray, List.set_cons_zero, List.set_cons_succ]
  refine take_to (i := 6) (v := .bool true) rfl (by kernel_rfl) (by kernel_rfl) (by kernel_rfl) (fun _ _ _ h => h) (Or.inl ⟨by rfl, fun w' hS => by go_simp⟩) s0 (some 29) rfl ?_
  try simp only [Act.put, List.setIfInBounds_toArray, List.set_cons_zero, List.set_cons_succ]
  refine take_to (i := 7) (v := .bool true) rfl (by kernel_rfl) (by kernel_rfl) (by kernel_rfl) (fun _ _ _ h => h) (Or.inl ⟨by rfl, fun w' hS => by go_simp⟩) s0 (some 30) rfl ?_
  try simp only [Act.put, List.setIfInBounds_toArray, List.set_cons_zero, List.set_cons_succ]
  refine take_to (i := 8) (v := .bool true) rfl (by kernel_rfl) (by kernel_rfl) (by kernel_rfl) (fun _ _ _ h => h) (Or.inl ⟨by rfl, fun w' hS => by go_simp⟩) s0 (some 31) rfl ?_
  try simp only [Act.put, List.setIfInBounds_toArray, List.set_cons_zero, List.set_cons_succ]
  refine take_to (i := 9) rfl (by kernel_rfl) (by kernel_rfl) (by kernel_rfl) (fun _ _ _ h => h) (yieldsIf_load (by rfl) 26 _ rfl (.pointer (some ⟨g7, 0, none⟩)) rfl (blkV x) (fun w' h => (HR.out w' h).n1.load)) s0 (some 32) rfl ?_
  try simp only [Act.put, List.setIfInBounds_toArray, List.set_cons_zero, List.set_cons_succ]
  refine take_to (i := 11) (v := .int .i64 e) rfl (by kernel_rfl) (by kernel_rfl) (by kernel_rfl) (fun _ _ _ h => h) (Or.inl ⟨by rfl, fun w' hS => by go_simp⟩) s0 (some 34) rfl ?_
  try simp only [Act.put, List.setIfInBounds_toArray, List.set_cons_zero, List.set_cons_succ]
  refine take_to (i := 12) (v := .bool rb) rfl (by kernel_rfl) (by kernel_rfl) (by kernel_rfl) (fun _ _ _ h => h) (Or.inl ⟨by rfl, fun w' hS => by rw [HE.out]; go_simp⟩) s0 (some 35) rfl ?_
  try simp only [Act.put, List.setIfInBounds_toArray, List.set_cons_zero, List.set_cons_succ]
  refine wpAnyH_ready (rs := [10]) (by kernel_rfl) (by simp) ?_
  refine AllReadyH.cons rfl (fun K hK => ?_) AllReadyH.nil
  go_simp
  refine (C14.out _ s0).mono ?_
  rintro r q1 ⟨rfl, s1⟩
  refine hK.out _ _ s1 fun _ => ?_
  clear hK K
  try simp only [Act.put, List.setIfInBounds_toArray, List.set_cons_zero, List.set_cons_succ]
  refine take_to (i := 13) (v := .bool true) rfl (by kernel_rfl) (by kernel_rfl) (by kernel_rfl) (fun _ _ _ h => h) (Or.inl ⟨by rfl, fun w' hS => by go_simp⟩) s1 (some 36) rfl ?_
  try simp only [Act.put, List.setIfInBounds_toArray, List.set_cons_zero, List.set_cons_succ]
  refine take_to (i := 14) (v := .bool true) rfl (by kernel_rfl) (by kernel_rfl) (by kernel_rfl) (fun _ _ _ h => h) (Or.inl ⟨by rfl, fun w' hS => by go_simp⟩) s1 (some 37) rfl ?_
  try simp only [Act.put, List.setIfInBounds_toArray, List.set_cons_zero, List.set_cons_succ]
  refine take_to (i := 15) (v := .bool true) rfl (by kernel_rfl) (by kernel_rfl) (by kernel_rfl) (fun _ _ _ h => h) (Or.inl ⟨by rfl, fun w' hS => by go_simp⟩) s1 (some 38) rfl ?_
  try simp only [Act.put, List.setIfInBounds_toArray, List.set_cons_zero, List.set_cons_succ]
  refine take_to (i := 16) rfl (by kernel_rfl) (by kernel_rfl) (by kernel_rfl) (fun _ _ _ h => h) (yieldsIf_load (by rfl) 26 _ rfl (.pointer (some ⟨w.heap.size, 0, none⟩)) rfl (blkV b) (fun w' h => (HR.out w' h).n2.load)) s1 (some 39) rfl ?_
  try simp only [Act.put, List.setIfInBounds_toArray, List.set_cons_zero, List.set_cons_succ]
  refine take_to (i := 18) rfl (by kernel_rfl) (by kernel_rfl) (by kernel_rfl) (fun _ _ _ h => h) (yieldsIf_load (by rfl) 26 _ rfl (.pointer (some ⟨w.heap.size, 0, none⟩)) rfl (blkV b) (fun w' h => (HR.out w' h).n2.load)) s1 (some 41) rfl ?_
  try simp only [Act.put, List.setIfInBounds_toArray, List.set_cons_zero, List.set_cons_succ]
  refine wpAnyH_ready (rs := [17]) (by kernel_rfl) (by simp) ?_
  refine AllReadyH.cons rfl (fun K hK => ?_) AllReadyH.nil
  go_simp
  refine (D14.out _ s1).mono ?_
  rintro r q2 ⟨rfl, s2⟩
  refine hK.out _ _ s2 fun _ => ?_
  clear hK K
  try simp only [Act.put, List.setIfInBounds_toArray, List.set_cons_zero, List.set_cons_succ]
  refine wpAnyH_ready (rs := [19]) (by kernel_rfl) (by simp) ?_
  refine AllReadyH.cons rfl (fun K hK => ?_) AllReadyH.nil
  go_simp
  refine (C15.out _ s2).mono ?_
  rintro r q3 ⟨rfl, s3⟩
  refine hK.out _ _ s3 fun _ => ?_
  clear hK K
  try simp only [Act.put, List.setIfInBounds_toArray, List.set_cons_zero, List.set_cons_succ]
  refine take_to (i := 20) (v := .bool true) rfl (by kernel_rfl) (by kernel_rfl) (by kernel_rfl) (fun _ _ _ h => h) (Or.inl ⟨by rfl, fun w' hS => by go_simp⟩) s3 (some 43) rfl ?_
  try simp only [Act.put, List.setIfInBounds_toArray, List.set_cons_zero, List.set_cons_succ]
  refine take_to (i := 21) (v := .bool true) rfl (by kernel_rfl) (by kernel_rfl) (by kernel_rfl) (fun _ _ _ h => h) (Or.inl ⟨by rfl, fun w' hS => by go_simp⟩) s3 (some 44) rfl ?_
  try simp only [Act.put, List.setIfInBounds_toArray, List.set_cons_zero, List.set_cons_succ]
  refine take_to (i := 22) (v := .bool true) rfl (by kernel_rfl) (by kernel_rfl) (by kernel_rfl) (fun _ _ _ h => h) (Or.inl ⟨by rfl, fun w' hS => by go_simp⟩) s3 (some 45) rfl ?_
  try simp only [Act.put, List.setIfInBounds_toArray, List.set_cons_zero, List.set_cons_succ]
  refine wpAnyH_ready (rs := [23]) (by kernel_rfl) (by simp) ?_
  refine AllReadyH.cons rfl (fun K hK => ?_) AllReadyH.nil
  go_simp
  refine (C11.out _ s3).mono ?_
  rintro r q4 ⟨rfl, s4⟩
  refine hK.out _ _ s4 fun _ => ?_
  clear hK K
  try simp only [Act.put, List.setIfInBounds_toArray, List.set_cons_zero, List.set_cons_succ]
  refine take_to (i := 24) (v := .bool true) rfl (by kernel_rfl) (by kernel_rfl) (by kernel_rfl) (fun _ _ _ h => h) (Or.inl ⟨by rfl, fun w' hS => by go_simp⟩) s4 (some 47) rfl ?_
  try simp only [Act.put, List.setIfInBounds_toArray, List.set_cons_zero, List.set_cons_succ]
  refine take_to (i := 25) (v := .bool true) rfl (by kernel_rfl) (by kernel_rfl) (by kernel_rfl) (fun _ _ _ h => h) (Or.inl ⟨by rfl, fun w' hS => by go_simp⟩) s4 (some 6) rfl ?_
  try simp only [Act.put, List.setIfInBounds_toArray, List.set_cons_zero, List.set_cons_succ]
  refine wpAnyH_done (by kernel_rfl) ?_ _
  go_wp2
  go_ret
  exact ⟨rfl, on_trans J5.out.bel s4.out⟩
end Go.Proofs.YtambeekkgbbfnaaDoor
