/-
  Two blocks of steps as one value; the contracts of both functions Steps of a geometry.
-/
import Derived.Test.YtmadkpnkmkajoaaDoorTB
import Derived.Test.YtmadkpnkmkajoaaDoorP8B
namespace Go.Proofs.YtmadkpnkmkajoaaDoor
open Go.RowKit
set_option maxRecDepth 20000

def stQ (Q : Int) (p : Nat) : List Int := stepsL (decide (0 < p)) Q
/-- a geometry's steps of a part -/
def stG (W H T K Q : Int) (p : Nat) : List Int := if RightG W H T K Q then stQ Q p else zeros64
theorem stG_len (W H T K Q : Int) (p : Nat) : (stG W H T K Q p).length = 64 := by
  unfold stG
  split
  · exact stepsL_len _ _
  · exact zeros_len
def zeros128 : List Int := List.replicate 128 0
theorem two_size : (Tryd.prog.info? 30).map (·.size) = some 128 := by kernel_rfl
theorem zero30 (w : World) : (zeroValue 30).run Tryd.prog w = .ok (blkV zeros128) w := by kernel_rfl
theorem build30 (w : World) : (Instr.build 30 #[]).run Tryd.prog w = .ok (blkV (zeros64 ++ zeros64)) w := run_build w 30 _ _ (by kernel_rfl)
theorem tab_self {b : List Int} (hb : b.length = 64) : ∃ f, b = tab f := by
  refine ⟨fun k => b.getD k 0, List.ext_getElem (by rw [hb]; unfold tab; simp) (fun i h1 h2 => ?_)⟩
  unfold tab
  simp [List.getD_eq_getElem?_getD, List.getElem?_eq_getElem h1]
theorem build30_two (w : World) {a b : List Int} (ha : a.length = 64) (hb : b.length = 64) : (Instr.build 30 #[(0, blkV a), (1, blkV b)]).run Tryd.prog w = .ok (blkV (a ++ b)) w := by
  obtain ⟨f, rfl⟩ := tab_self ha
  obtain ⟨g, rfl⟩ := tab_self hb
  exact run_build w 30 _ _ (by kernel_rfl)
/-- two blocks are written whole -/
theorem wpList_store_two {ops : Array Oper} {rest : List Oper} {o : Oper} {a : Act} {w : World} {Q : Exit → Act → World → Prop} (hgd : o.guard = none) (x y : Operand) (ho : o.op = .store 30 x y) (hd : o.dst = none)
    (g : Nat) (f : List Int) (hx : a.eval x = .pointer (some ⟨g, 0, none⟩)) (v : Value) (hy : a.eval y = v) (hv : v = blkV f) (old : Array Value) (hg : Box w g 30 old) (hold : old.size = 128) (hf : f.length = 128)
    (h : ∀ w', Box w' g 30 (cellsI f).toArray → Kept (fun i => i = g) w w' → wpList Tryd.prog ops Q rest a w') : wpList Tryd.prog ops Q (o :: rest) a w :=
  wpList_store_box hgd 30 x y ho hd g (cellsI f).toArray hx (hy.trans hv) old hg (by rw [hold]; simp [cellsI_len, hf]) (by rw [two_size]; simp [cellsI_len, hf]) (all_oneCell_toArray (cellsI_one f)) h
theorem loadVar_two {w : World} {g : Nat} {f : List Int} (h : Box w g 30 (cellsI f).toArray) (hf : f.length = 128) : (loadVar 30 ⟨g, 0, none⟩).run Tryd.prog w = .ok (blkV f) w :=
  run_loadVar_row w g 30 30 _ (0, 0) _ h Tryd.underlying30 rfl (by rw [two_size]; simp [cellsI_len, hf])
/-- one of two blocks as a value is read -/
theorem index30 (w : World) {a b : List Int} (ha : a.length = 64) (hb : b.length = 64) {m : Nat} (hm : m < 2) : (Instr.index 30 (blkV (a ++ b)) (.int .i64 (m : Int))).run Tryd.prog w = .ok (blkV (if m = 0 then a else b)) w := by
  have hp : (part 29 (cellsI (a ++ b)).toArray (m * 64)).run Tryd.prog w = .ok (blkV (if m = 0 then a else b)) w := by
    have h1 : (isAgg 29).run Tryd.prog w = .ok true w := by kernel_rfl
    have h2 : (sizeOf 29).run Tryd.prog w = .ok 64 w := by kernel_rfl
    unfold part
    simp only [Sem.run_bind, h1, h2, Result.andThen_ok, if_true]
    rw [List.extract_toArray]
    unfold blkV
    rcases (show m = 0 ∨ m = 1 by omega) with rfl | rfl
    · have e : (cellsI (a ++ b)).extract (0 * 64) (0 * 64 + 64) = cellsI a := by
        unfold cellsI
        rw [List.map_append, List.extract_eq_take_drop]
        simp [ha]
      rw [e]
      rfl
    · have e : (cellsI (a ++ b)).extract (1 * 64) (1 * 64 + 64) = cellsI b := by
        unfold cellsI
        rw [List.map_append, List.extract_eq_take_drop]
        simp [ha]
        rw [List.take_of_length_le (by simp [hb])]
      rw [e]
      rfl
  have h2 : (sizeOf 29).run Tryd.prog w = .ok 64 w := by kernel_rfl
  simp [blkV, Instr.index, run_underlying Tryd.underlying30, asIntOf, h2, Result.andThen]
  unfold blkV at hp
  rw [hp]
  simp
  intro h
  omega
/-- what is made and written is beyond what was -/
theorem laid_below {w w' : World} {o : Obj} (k : Kept (fun i => i = w.heap.size) (w.alloc o) w') : Below w.heap.size w w' :=
  (on_alloc w o).trans (k.below (by simp) (fun i hi e => by omega))
/-- what Steps tells -/
def StepsY (w : World) (W H T K Q : Int) (e : Ending) (w' : World) : Prop := e = .returned (blkV (stG W H T K Q 0 ++ stG W H T K Q 1)) ∧ Below w.heap.size w w'
/-- the argument and the answer, boxed -/
theorem geo_two (w : World) (W H T K Q : Int) (B : Bool) : ∃ Z w2, (∀ w, (zeroValue 30).run Tryd.prog w = .ok (.agg Z) w) ∧ Z.size = 128 ∧ (w.alloc (.cells #[.int .i64 W, .int .i64 H, .int .i64 T, .int .i64 K, .int .i64 Q, .bool B] 23)).alloc (.cells Z 30) = w2 ∧ Box w2 w.heap.size 23 #[.int .i64 W, .int .i64 H, .int .i64 T, .int .i64 K, .int .i64 Q, .bool B] ∧ Box w2 (w.heap.size + 1) 30 Z ∧ Below w.heap.size w w2 := by
  refine ⟨(cellsI zeros128).toArray, _, zero30, by simp [cellsI_len, zeros128], rfl, (Box.made _ _ _).alloc _, ?_, on_trans (on_alloc _ _) (on_alloc _ _)⟩
  have := Box.made (w.alloc (.cells #[.int .i64 W, .int .i64 H, .int .i64 T, .int .i64 K, .int .i64 Q, .bool B] 23)) 30 (cellsI zeros128).toArray
  simpa using this
theorem blk_zero : ∃ Z, blkV zeros64 = .agg Z ∧ Z.size = 64 ∧ (∀ w, (zeroValue 29).run Tryd.prog w = .ok (.agg Z) w) := ⟨_, rfl, rfl, fun w => zero51 w⟩

set_option maxHeartbeats 3200000 in
theorem gsteps_any (w : World) (W H T K Q : Int) (B : Bool) (hT : Tab w) : Calls Tryd.prog 12 #[geoV W H T K Q B] w (StepsY w W H T K Q) := by
  obtain ⟨Z, w2, hz, hZs, hw2, b1, b2, k1⟩ := geo_two w W H T K Q B
  obtain ⟨Zb, hZb, hZbs, hzb⟩ := blk_zero
  have HL := Lib.hid (load_geo b1)
  have HR := Lib.hid (fun w' => rightG_any w' W H T K Q B)
  have HB := Lib.hid (And.intro b1 (And.intro b2 (And.intro k1 hT)))
  have HZ := Lib.hid (And.intro hZs (And.intro hZb hZbs))
  unfold geoV at HR ⊢
  clear b1 b2 k1 hZs hZb hZbs hT
  go_enter Tryd.func12, Tryd.ntmps12
  go_wp2_with (first
    | (with_reducible refine wpList_load_to (op := ⟨some 7, _, _, _, _, _⟩) rfl 23 (.tmp 1) rfl (.pointer (some ⟨w.heap.size, 0, none⟩)) rfl (.agg #[.int .i64 W, .int .i64 H, .int .i64 T, .int .i64 K, .int .i64 Q, .bool B]) HL.out ?_)
    | fail)
  clear hw2
  refine (HR.out _).mono ?_
  rintro e w3 ⟨rfl, k3⟩
  have H3 := Lib.hid (And.intro (HB.out.1.on k3) (And.intro (HB.out.2.1.on k3) (on_trans HB.out.2.2.1 k3)))
  clear k3
  have q4 : w3.cell? ⟨w.heap.size, 4, none⟩ = some (.int .i64 Q) := H3.out.1.cell 4
  by_cases hr : RightG W H T K Q
  · have hQ : 1 ≤ Q ∧ Q ≤ 100 := hr.2.2.2.2
    have E := Lib.hid (And.intro (show stG W H T K Q 0 = stepsL false Q from if_pos hr) (show stG W H T K Q 1 = stepsL true Q from if_pos hr))
    have e0 : stepsF false Q = (stepsL false Q, 0) := by unfold stepsF; rw [if_pos hQ]
    have e1 : stepsF true Q = (stepsL true Q, 0) := by unfold stepsF; rw [if_pos hQ]
    have C0 := Lib.hid (fun (w1 : World) (k : Below w.heap.size w w1) => steps_any w1 false Q (HB.out.2.2.2.on k))
    have C1 := Lib.hid (fun (w1 : World) (k : Below w.heap.size w w1) => steps_any w1 true Q (HB.out.2.2.2.on k))
    rw [e0] at C0
    rw [e1] at C1
    unfold Tells8_ at C0 C1
    dsimp only at C0 C1
    rw [decide_eq_true hr]
    clear e0 e1 hQ hr
    obtain ⟨s0, hs0⟩ : ∃ s, s = stepsL false Q := ⟨_, rfl⟩
    obtain ⟨s1, hs1⟩ : ∃ s, s = stepsL true Q := ⟨_, rfl⟩
    have L0 := Lib.hid (show s0.length = 64 by rw [hs0]; exact stepsL_len _ _)
    have L1 := Lib.hid (show s1.length = 64 by rw [hs1]; exact stepsL_len _ _)
    rw [← hs0] at C0 E
    rw [← hs1] at C1 E
    have LL := Lib.hid (show (s0 ++ s1).length = 128 by rw [List.length_append, L0.out, L1.out])
    clear hs0 hs1
    go_wp2_with fail
    refine (C0.out w3 H3.out.2.2).mono ?_
    rintro e w4 ⟨rfl, k4⟩
    have H4 := Lib.hid (And.intro (H3.out.1.on k4) (And.intro (H3.out.2.1.on k4) (on_trans H3.out.2.2 k4)))
    clear k4 q4
    dsimp only
    go_wp2_with (first
      | ((with_reducible refine wpList_store_blk12_ (o := ⟨none, _, _, _, _, _⟩) rfl (.tmp 3) (.tmp 15) rfl rfl w4.heap.size s0 rfl rfl Zb (Box.made _ _ _) HZ.out.2.2 L0.out ?_)
         intro w5 b5 k5
         have K5 := laid_below k5
         have H5 := Lib.hid (And.intro (H4.out.1.on K5) (And.intro (H4.out.2.1.on K5) (And.intro b5 (on_trans H4.out.2.2 K5))))
         have q4 : w5.cell? ⟨w.heap.size, 4, none⟩ = some (.int .i64 Q) := H5.out.1.cell 4
         have hne : w.heap.size + 1 < w4.heap.size := H4.out.2.1.lt
         clear b5 k5 K5)
      | fail)
    refine (C1.out w5 H5.out.2.2.2).mono ?_
    rintro e w6 ⟨rfl, k6⟩
    have H6 := Lib.hid (And.intro (H5.out.2.1.on k6) (And.intro (H5.out.2.2.1.on k6) (on_trans H5.out.2.2.2 k6)))
    have h5 := k6.size
    have h5' := H5.out.2.2.1.box.lt
    clear k6 q4
    dsimp only
    go_wp2_with (first
      | ((with_reducible refine wpList_store_blk12_ (o := ⟨none, _, _, _, _, _⟩) rfl (.tmp 5) (.tmp 21) rfl rfl w6.heap.size s1 rfl rfl Zb (Box.made _ _ _) HZ.out.2.2 L1.out ?_)
         intro w7 b7 k7
         have K7 := laid_below k7
         have H7 := Lib.hid (And.intro (H6.out.1.on K7) (And.intro (H6.out.2.1.on K7) (And.intro b7 (on_trans H6.out.2.2 K7))))
         clear b7 k7 K7)
      | (with_reducible refine wpList_load_to (op := ⟨some 23, _, _, _, _, _⟩) rfl 29 (.tmp 3) rfl (.pointer (some ⟨w4.heap.size, 0, none⟩)) rfl (blkV s0) H7.out.2.1.load ?_)
      | (with_reducible refine wpList_load_to (op := ⟨some 24, _, _, _, _, _⟩) rfl 29 (.tmp 5) rfl (.pointer (some ⟨w6.heap.size, 0, none⟩)) rfl (blkV s1) H7.out.2.2.1.load ?_)
      | ((with_reducible refine wpList_build_to (op := ⟨some 25, _, _, _, _, _⟩) rfl 30 #[(0, .tmp 23), (1, .tmp 24)] rfl (blkV (s0 ++ s1)) #[(0, blkV s0), (1, blkV s1)] ?hps (build30_two _ L0.out L1.out) ?_)
         case hps => simp [Act.eval, Act.put])
      | ((with_reducible refine wpList_store_two (o := ⟨none, _, _, _, _, _⟩) rfl (.tmp 2) (.tmp 25) rfl rfl (w.heap.size + 1) (s0 ++ s1) rfl _ rfl rfl _ H7.out.1 HZ.out.1 LL.out ?_)
         intro w9 b9 k9
         have H9 := Lib.hid (And.intro b9 (H7.out.2.2.2.trans (k9.below H7.out.2.2.2.size (fun i hi e => by omega))))
         clear b9 k9)
      | fail)
    refine bodyPost_ret (v := _) (results_c (fn := Tryd.f12) Tryd.results12 _ _ (w.heap.size + 1) _ rfl (loadVar_two H9.out.1 (by rw [List.length_append, L0.out, L1.out]))) rfl ?_
    exact ⟨by rw [E.out.1, E.out.2], H9.out.2⟩
  · have E := Lib.hid (And.intro (show stG W H T K Q 0 = zeros64 from if_neg hr) (show stG W H T K Q 1 = zeros64 from if_neg hr))
    rw [decide_eq_false hr]
    clear hr q4
    go_wp2_with (first
      | (refine wpList_build_to (op := ⟨some 10, _, _, _, _, _⟩) rfl 30 #[] rfl (blkV (zeros64 ++ zeros64)) #[] (by simp) (build30 _) ?_)
      | ((with_reducible refine wpList_store_two (o := ⟨none, _, _, _, _, _⟩) rfl (.tmp 2) (.tmp 10) rfl rfl (w.heap.size + 1) (zeros64 ++ zeros64) rfl _ rfl rfl _ H3.out.2.1 HZ.out.1 (by decide) ?_)
         intro w9 b9 k9
         have H9 := Lib.hid (And.intro b9 (H3.out.2.2.trans (k9.below H3.out.2.2.size (fun i hi e => by omega))))
         clear b9 k9)
      | fail)
    refine bodyPost_ret (v := _) (results_c (fn := Tryd.f12) Tryd.results12 _ _ (w.heap.size + 1) _ rfl (loadVar_two H9.out.1 (by decide))) rfl ?_
    exact ⟨by rw [E.out.1, E.out.2], H9.out.2⟩

set_option maxHeartbeats 3200000 in
theorem refGsteps_any (w : World) (W H T K Q : Int) (B : Bool) : Calls Tryd.prog 13 #[geoV W H T K Q B] w (StepsY w W H T K Q) := by
  obtain ⟨Z, w2, hz, hZs, hw2, b1, b2, k1⟩ := geo_two w W H T K Q B
  obtain ⟨Zb, hZb, hZbs, hzb⟩ := blk_zero
  have HL := Lib.hid (load_geo b1)
  have HR := Lib.hid (fun w' => refRightG_any w' W H T K Q B)
  have HB := Lib.hid (And.intro b1 (And.intro b2 (And.intro k1 hZs)))
  have HZ := Lib.hid (And.intro hZs (And.intro hZb hZbs))
  unfold geoV at HR ⊢
  clear b1 b2 k1 hZs hZb hZbs
  go_enter Tryd.func13, Tryd.ntmps13
  go_wp2_with (first
    | (with_reducible refine wpList_load_to (op := ⟨some 7, _, _, _, _, _⟩) rfl 23 (.tmp 1) rfl (.pointer (some ⟨w.heap.size, 0, none⟩)) rfl (.agg #[.int .i64 W, .int .i64 H, .int .i64 T, .int .i64 K, .int .i64 Q, .bool B]) HL.out ?_)
    | fail)
  clear hw2
  refine (HR.out _).mono ?_
  rintro e w3 ⟨rfl, k3⟩
  have H3 := Lib.hid (And.intro (HB.out.1.on k3) (And.intro (HB.out.2.1.on k3) (on_trans HB.out.2.2.1 k3)))
  clear k3
  have q4 : w3.cell? ⟨w.heap.size, 4, none⟩ = some (.int .i64 Q) := H3.out.1.cell 4
  by_cases hr : RightG W H T K Q
  · have hQ : 1 ≤ Q ∧ Q ≤ 100 := hr.2.2.2.2
    have E := Lib.hid (And.intro (show stG W H T K Q 0 = stepsL false Q from if_pos hr) (show stG W H T K Q 1 = stepsL true Q from if_pos hr))
    have e0 : stepsF false Q = (stepsL false Q, 0) := by unfold stepsF; rw [if_pos hQ]
    have e1 : stepsF true Q = (stepsL true Q, 0) := by unfold stepsF; rw [if_pos hQ]
    have C0 := Lib.hid (fun w1 => refSteps_any w1 false Q (by unfold isInt; omega))
    have C1 := Lib.hid (fun w1 => refSteps_any w1 true Q (by unfold isInt; omega))
    rw [e0] at C0
    rw [e1] at C1
    unfold Tells8_ at C0 C1
    dsimp only at C0 C1
    rw [decide_eq_true hr]
    clear e0 e1 hQ hr
    obtain ⟨s0, hs0⟩ : ∃ s, s = stepsL false Q := ⟨_, rfl⟩
    obtain ⟨s1, hs1⟩ : ∃ s, s = stepsL true Q := ⟨_, rfl⟩
    have L0 := Lib.hid (show s0.length = 64 by rw [hs0]; exact stepsL_len _ _)
    have L1 := Lib.hid (show s1.length = 64 by rw [hs1]; exact stepsL_len _ _)
    rw [← hs0] at C0 E
    rw [← hs1] at C1 E
    have LL := Lib.hid (show (s0 ++ s1).length = 128 by rw [List.length_append, L0.out, L1.out])
    clear hs0 hs1
    go_wp2_with fail
    refine (C0.out w3).mono ?_
    rintro e w4 ⟨rfl, k4⟩
    have H4 := Lib.hid (And.intro (H3.out.1.on k4) (And.intro (H3.out.2.1.on k4) (on_trans H3.out.2.2 k4)))
    clear k4 q4
    dsimp only
    go_wp2_with (first
      | ((with_reducible refine wpList_store_blk12_ (o := ⟨none, _, _, _, _, _⟩) rfl (.tmp 3) (.tmp 15) rfl rfl w4.heap.size s0 rfl rfl Zb (Box.made _ _ _) HZ.out.2.2 L0.out ?_)
         intro w5 b5 k5
         have K5 := laid_below k5
         have H5 := Lib.hid (And.intro (H4.out.1.on K5) (And.intro (H4.out.2.1.on K5) (And.intro b5 (on_trans H4.out.2.2 K5))))
         have q4 : w5.cell? ⟨w.heap.size, 4, none⟩ = some (.int .i64 Q) := H5.out.1.cell 4
         have hne : w.heap.size + 1 < w4.heap.size := H4.out.2.1.lt
         clear b5 k5 K5)
      | fail)
    refine (C1.out w5).mono ?_
    rintro e w6 ⟨rfl, k6⟩
    have H6 := Lib.hid (And.intro (H5.out.2.1.on k6) (And.intro (H5.out.2.2.1.on k6) (on_trans H5.out.2.2.2 k6)))
    have h5 := k6.size
    have h5' := H5.out.2.2.1.box.lt
    clear k6 q4
    dsimp only
    go_wp2_with (first
      | ((with_reducible refine wpList_store_blk12_ (o := ⟨none, _, _, _, _, _⟩) rfl (.tmp 5) (.tmp 21) rfl rfl w6.heap.size s1 rfl rfl Zb (Box.made _ _ _) HZ.out.2.2 L1.out ?_)
         intro w7 b7 k7
         have K7 := laid_below k7
         have H7 := Lib.hid (And.intro (H6.out.1.on K7) (And.intro (H6.out.2.1.on K7) (And.intro b7 (on_trans H6.out.2.2 K7))))
         clear b7 k7 K7)
      | (with_reducible refine wpList_load_to (op := ⟨some 23, _, _, _, _, _⟩) rfl 29 (.tmp 3) rfl (.pointer (some ⟨w4.heap.size, 0, none⟩)) rfl (blkV s0) H7.out.2.1.load ?_)
      | (with_reducible refine wpList_load_to (op := ⟨some 24, _, _, _, _, _⟩) rfl 29 (.tmp 5) rfl (.pointer (some ⟨w6.heap.size, 0, none⟩)) rfl (blkV s1) H7.out.2.2.1.load ?_)
      | ((with_reducible refine wpList_build_to (op := ⟨some 25, _, _, _, _, _⟩) rfl 30 #[(0, .tmp 23), (1, .tmp 24)] rfl (blkV (s0 ++ s1)) #[(0, blkV s0), (1, blkV s1)] ?hps (build30_two _ L0.out L1.out) ?_)
         case hps => simp [Act.eval, Act.put])
      | ((with_reducible refine wpList_store_two (o := ⟨none, _, _, _, _, _⟩) rfl (.tmp 2) (.tmp 25) rfl rfl (w.heap.size + 1) (s0 ++ s1) rfl _ rfl rfl _ H7.out.1 HZ.out.1 LL.out ?_)
         intro w9 b9 k9
         have H9 := Lib.hid (And.intro b9 (H7.out.2.2.2.trans (k9.below H7.out.2.2.2.size (fun i hi e => by omega))))
         clear b9 k9)
      | fail)
    refine bodyPost_ret (v := _) (results_c (fn := Tryd.f13) Tryd.results13 _ _ (w.heap.size + 1) _ rfl (loadVar_two H9.out.1 (by rw [List.length_append, L0.out, L1.out]))) rfl ?_
    exact ⟨by rw [E.out.1, E.out.2], H9.out.2⟩
  · have E := Lib.hid (And.intro (show stG W H T K Q 0 = zeros64 from if_neg hr) (show stG W H T K Q 1 = zeros64 from if_neg hr))
    rw [decide_eq_false hr]
    clear hr q4
    go_wp2_with (first
      | (refine wpList_build_to (op := ⟨some 10, _, _, _, _, _⟩) rfl 30 #[] rfl (blkV (zeros64 ++ zeros64)) #[] (by simp) (build30 _) ?_)
      | ((with_reducible refine wpList_store_two (o := ⟨none, _, _, _, _, _⟩) rfl (.tmp 2) (.tmp 10) rfl rfl (w.heap.size + 1) (zeros64 ++ zeros64) rfl _ rfl rfl _ H3.out.2.1 HZ.out.1 (by decide) ?_)
         intro w9 b9 k9
         have H9 := Lib.hid (And.intro b9 (H3.out.2.2.trans (k9.below H3.out.2.2.size (fun i hi e => by omega))))
         clear b9 k9)
      | fail)
    refine bodyPost_ret (v := _) (results_c (fn := Tryd.f13) Tryd.results13 _ _ (w.heap.size + 1) _ rfl (loadVar_two H9.out.1 (by decide))) rfl ?_
    exact ⟨by rw [E.out.1, E.out.2], H9.out.2⟩
end Go.Proofs.YtmadkpnkmkajoaaDoor
