/-
  Both functions Head of a geometry.
-/
import Derived.Test.YtmadkpnkmkajoaaDoorTA
namespace Go.Proofs.YtmadkpnkmkajoaaDoor
open Go.RowKit
set_option maxRecDepth 20000

/-- a box is written whole -/
theorem wpList_store_box {ops : Array Oper} {rest : List Oper} {o : Oper} {a : Act} {w : World} {Q : Exit → Act → World → Prop} (hgd : o.guard = none) (t : TypeId) (x y : Operand) (ho : o.op = .store t x y) (hd : o.dst = none)
    (g : Nat) (cs : Array Value) (hx : a.eval x = .pointer (some ⟨g, 0, none⟩)) (hy : a.eval y = .agg cs) (old : Array Value) (hg : Box w g t old) (hold : old.size = cs.size) (hsz : (Tryd.prog.info? t).map (·.size) = some cs.size) (hone : cs.all (·.oneCell') = true)
    (h : ∀ w', Box w' g t cs → Kept (fun i => i = g) w w' → wpList Tryd.prog ops Q rest a w') : wpList Tryd.prog ops Q (o :: rest) a w := by
  refine wpList_plain hgd fun _ hK => ?_
  refine wp_store_row t x y ho g cs hx hy t old hg hsz (by rw [hold]) hone ?_
  rw [hd]
  exact hK _ _ (h _ (setRow_heap w g old _ t _ hg) ⟨rfl, rfl, rfl, by simp, fun k _ hk => setRow_other w g k _ hk⟩)
theorem results_c {fn : Func} {p : Tmp} {ty : TypeId} (h : fn.results = #[.cell p ty]) (tmps : Array Value) (w : World) (g : Nat) (x : Value)
    (hp : tmps.getD p undef = .pointer (some ⟨g, 0, none⟩)) (hl : (loadVar ty ⟨g, 0, none⟩).run Tryd.prog w = .ok x w) : (results fn tmps).run Tryd.prog w = .ok x w := by
  have hp' : tmps[p]?.getD undef = .pointer (some ⟨g, 0, none⟩) := by simpa using hp
  simp [results, h, hp', asAddr, hl]
theorem scan_size : (Tryd.prog.info? 26).map (·.size) = some 4 := by kernel_rfl
/-- a header is written whole -/
theorem wpList_store_scan {ops : Array Oper} {rest : List Oper} {o : Oper} {a : Act} {w : World} {Q : Exit → Act → World → Prop} (hgd : o.guard = none) (x y : Operand) (ho : o.op = .store 26 x y) (hd : o.dst = none)
    (g : Nat) (c0 c1 c2 c3 : Int) (hx : a.eval x = .pointer (some ⟨g, 0, none⟩)) (hy : a.eval y = .agg #[.int .i64 c0, .int .i64 c1, .int .i64 c2, .int .i64 c3]) (d0 d1 d2 d3 : Value) (hg : Box w g 26 #[d0, d1, d2, d3])
    (h : ∀ w', Box w' g 26 #[.int .i64 c0, .int .i64 c1, .int .i64 c2, .int .i64 c3] → Kept (fun i => i = g) w w' → wpList Tryd.prog ops Q rest a w') : wpList Tryd.prog ops Q (o :: rest) a w :=
  wpList_store_box hgd 26 x y ho hd g _ hx hy _ hg rfl scan_size (by kernel_rfl) h
theorem loadVar_scan {w : World} {g : Nat} {cs : Array Value} (h : Box w g 26 cs) (hs : cs.size = 4) : (loadVar 26 ⟨g, 0, none⟩).run Tryd.prog w = .ok (.agg cs) w :=
  run_loadVar_row w g 26 26 _ (0, 0) _ h Tryd.underlying26 rfl (by rw [scan_size, hs])
theorem geo_size : (Tryd.prog.info? 23).map (·.size) = some 6 := by kernel_rfl
/-- a geometry in memory is loaded -/
theorem load_geo {w : World} {g : Nat} {W H T K Q : Int} {B : Bool} (h : Box w g 23 #[.int .i64 W, .int .i64 H, .int .i64 T, .int .i64 K, .int .i64 Q, .bool B]) : (Instr.loadAt 23 (.pointer (some ⟨g, 0, none⟩))).run Tryd.prog w = .ok (.agg #[.int .i64 W, .int .i64 H, .int .i64 T, .int .i64 K, .int .i64 Q, .bool B]) w :=
  run_loadAt_mid w g 0 23 [.int .i64 W, .int .i64 H, .int .i64 T, .int .i64 K, .int .i64 Q, .bool B] (.struct _) (fun j u hu => by rw [Nat.zero_add, h.cell j]; simpa using hu) Tryd.underlying23 rfl (by rw [geo_size]; rfl)

set_option maxHeartbeats 3200000 in
theorem head_any (w : World) (W H T K Q : Int) (B : Bool) : Calls Tryd.prog 10 #[geoV W H T K Q B] w fun e w' => e = .returned (scanV (hT W H T K Q) (hT W H T K Q) (hK W H T K Q) 0) ∧ Below w.heap.size w w' := by
  obtain ⟨w1, hw1⟩ : ∃ w1, (w.alloc (.cells #[.int .i64 W, .int .i64 H, .int .i64 T, .int .i64 K, .int .i64 Q, .bool B] 23)).alloc (.cells #[.int .i64 0, .int .i64 0, .int .i64 0, .int .i64 0] 26) = w1 := ⟨_, rfl⟩
  have b1 : Box w1 w.heap.size 23 #[.int .i64 W, .int .i64 H, .int .i64 T, .int .i64 K, .int .i64 Q, .bool B] := by rw [← hw1]; exact (Box.made _ _ _).alloc _
  have b2 : Box w1 (w.heap.size + 1) 26 #[.int .i64 0, .int .i64 0, .int .i64 0, .int .i64 0] := by rw [← hw1]; have := Box.made (w.alloc (.cells #[.int .i64 W, .int .i64 H, .int .i64 T, .int .i64 K, .int .i64 Q, .bool B] 23)) 26 #[.int .i64 0, .int .i64 0, .int .i64 0, .int .i64 0]; simpa using this
  have k1 : Below w.heap.size w w1 := by rw [← hw1]; exact on_trans (on_alloc _ _) (on_alloc _ _)
  have q0 : w1.cell? ⟨w.heap.size, 0, none⟩ = some (.int .i64 W) := b1.cell 0
  have q1 : w1.cell? ⟨w.heap.size, 1, none⟩ = some (.int .i64 H) := b1.cell 1
  have q2 : w1.cell? ⟨w.heap.size, 2, none⟩ = some (.int .i64 T) := b1.cell 2
  have q3 : w1.cell? ⟨w.heap.size, 3, none⟩ = some (.int .i64 K) := b1.cell 3
  have q4 : w1.cell? ⟨w.heap.size, 4, none⟩ = some (.int .i64 Q) := b1.cell 4
  have q5 : w1.cell? ⟨w.heap.size, 5, none⟩ = some (.bool B) := b1.cell 5
  have HB := Lib.hid (And.intro b1 (And.intro k1 b2))
  have HR := Lib.hid (fun w' => rightG_any w' W H T K Q B)
  unfold geoV at HR ⊢
  have HL := Lib.hid (load_geo b1)
  clear b1 b2 k1 q0 q1 q2 q3 q4 q5
  go_enter Tryd.func10, Tryd.ntmps10
  go_wp2_with (first
    | (with_reducible refine wpList_load_to (op := ⟨some 3, _, _, _, _, _⟩) rfl 23 (.tmp 1) rfl (.pointer (some ⟨w.heap.size, 0, none⟩)) rfl (.agg #[.int .i64 W, .int .i64 H, .int .i64 T, .int .i64 K, .int .i64 Q, .bool B]) HL.out ?_)
    | fail)
  clear hw1
  refine (HR.out _).mono ?_
  rintro e w2 ⟨rfl, k2⟩
  have H2 := Lib.hid (And.intro (HB.out.1.on k2) (And.intro (on_trans HB.out.2.1 k2) (HB.out.2.2.on k2)))
  clear k2
  have q2 : w2.cell? ⟨w.heap.size, 2, none⟩ = some (.int .i64 T) := H2.out.1.cell 2
  have q3 : w2.cell? ⟨w.heap.size, 3, none⟩ = some (.int .i64 K) := H2.out.1.cell 3
  by_cases hr : RightG W H T K Q
  · have E := Lib.hid (And.intro (show hT W H T K Q = T from if_pos hr) (show hK W H T K Q = K from if_pos hr))
    rw [decide_eq_true hr]
    clear hr
    go_wp2_with (first
      | ((with_reducible refine wpList_store_scan (o := ⟨none, _, _, _, _, _⟩) rfl (.tmp 2) (.tmp 13) rfl rfl (w.heap.size + 1) T T K 0 rfl rfl _ _ _ _ H2.out.2.2 ?_)
         intro w9 b9 k9
         have H9 := Lib.hid (And.intro b9 (H2.out.2.1.trans (k9.below H2.out.2.1.size (fun i hi e => by omega))))
         clear b9 k9)
      | fail)
    refine bodyPost_ret (v := _) (results_c (fn := Tryd.f10) Tryd.results10 _ _ (w.heap.size + 1) _ rfl (loadVar_scan H9.out.1 rfl)) rfl ?_
    exact ⟨by rw [E.out.1, E.out.2]; rfl, H9.out.2⟩
  · have E := Lib.hid (And.intro (show hT W H T K Q = 0 from if_neg hr) (show hK W H T K Q = 0 from if_neg hr))
    rw [decide_eq_false hr]
    clear hr
    go_wp2_with (first
      | ((with_reducible refine wpList_store_scan (o := ⟨none, _, _, _, _, _⟩) rfl (.tmp 2) (.tmp 6) rfl rfl (w.heap.size + 1) 0 0 0 0 rfl rfl _ _ _ _ H2.out.2.2 ?_)
         intro w9 b9 k9
         have H9 := Lib.hid (And.intro b9 (H2.out.2.1.trans (k9.below H2.out.2.1.size (fun i hi e => by omega))))
         clear b9 k9)
      | fail)
    refine bodyPost_ret (v := _) (results_c (fn := Tryd.f10) Tryd.results10 _ _ (w.heap.size + 1) _ rfl (loadVar_scan H9.out.1 rfl)) rfl ?_
    exact ⟨by rw [E.out.1, E.out.2]; rfl, H9.out.2⟩

set_option maxHeartbeats 3200000 in
theorem refHead_any (w : World) (W H T K Q : Int) (B : Bool) : Calls Tryd.prog 11 #[geoV W H T K Q B] w fun e w' => e = .returned (scanV (hT W H T K Q) (hT W H T K Q) (hK W H T K Q) 0) ∧ Below w.heap.size w w' := by
  obtain ⟨w1, hw1⟩ : ∃ w1, (w.alloc (.cells #[.int .i64 W, .int .i64 H, .int .i64 T, .int .i64 K, .int .i64 Q, .bool B] 23)).alloc (.cells #[.int .i64 0, .int .i64 0, .int .i64 0, .int .i64 0] 26) = w1 := ⟨_, rfl⟩
  have b1 : Box w1 w.heap.size 23 #[.int .i64 W, .int .i64 H, .int .i64 T, .int .i64 K, .int .i64 Q, .bool B] := by rw [← hw1]; exact (Box.made _ _ _).alloc _
  have b2 : Box w1 (w.heap.size + 1) 26 #[.int .i64 0, .int .i64 0, .int .i64 0, .int .i64 0] := by rw [← hw1]; have := Box.made (w.alloc (.cells #[.int .i64 W, .int .i64 H, .int .i64 T, .int .i64 K, .int .i64 Q, .bool B] 23)) 26 #[.int .i64 0, .int .i64 0, .int .i64 0, .int .i64 0]; simpa using this
  have k1 : Below w.heap.size w w1 := by rw [← hw1]; exact on_trans (on_alloc _ _) (on_alloc _ _)
  have q0 : w1.cell? ⟨w.heap.size, 0, none⟩ = some (.int .i64 W) := b1.cell 0
  have q1 : w1.cell? ⟨w.heap.size, 1, none⟩ = some (.int .i64 H) := b1.cell 1
  have q2 : w1.cell? ⟨w.heap.size, 2, none⟩ = some (.int .i64 T) := b1.cell 2
  have q3 : w1.cell? ⟨w.heap.size, 3, none⟩ = some (.int .i64 K) := b1.cell 3
  have q4 : w1.cell? ⟨w.heap.size, 4, none⟩ = some (.int .i64 Q) := b1.cell 4
  have q5 : w1.cell? ⟨w.heap.size, 5, none⟩ = some (.bool B) := b1.cell 5
  have HB := Lib.hid (And.intro b1 (And.intro k1 b2))
  have HR := Lib.hid (fun w' => refRightG_any w' W H T K Q B)
  unfold geoV at HR ⊢
  have HL := Lib.hid (load_geo b1)
  clear b1 b2 k1 q0 q1 q2 q3 q4 q5
  go_enter Tryd.func11, Tryd.ntmps11
  go_wp2_with (first
    | (with_reducible refine wpList_load_to (op := ⟨some 3, _, _, _, _, _⟩) rfl 23 (.tmp 1) rfl (.pointer (some ⟨w.heap.size, 0, none⟩)) rfl (.agg #[.int .i64 W, .int .i64 H, .int .i64 T, .int .i64 K, .int .i64 Q, .bool B]) HL.out ?_)
    | fail)
  clear hw1
  refine (HR.out _).mono ?_
  rintro e w2 ⟨rfl, k2⟩
  have H2 := Lib.hid (And.intro (HB.out.1.on k2) (And.intro (on_trans HB.out.2.1 k2) (HB.out.2.2.on k2)))
  clear k2
  have q2 : w2.cell? ⟨w.heap.size, 2, none⟩ = some (.int .i64 T) := H2.out.1.cell 2
  have q3 : w2.cell? ⟨w.heap.size, 3, none⟩ = some (.int .i64 K) := H2.out.1.cell 3
  by_cases hr : RightG W H T K Q
  · have E := Lib.hid (And.intro (show hT W H T K Q = T from if_pos hr) (show hK W H T K Q = K from if_pos hr))
    rw [decide_eq_true hr]
    clear hr
    go_wp2_with (first
      | ((with_reducible refine wpList_store_scan (o := ⟨none, _, _, _, _, _⟩) rfl (.tmp 2) (.tmp 13) rfl rfl (w.heap.size + 1) T T K 0 rfl rfl _ _ _ _ H2.out.2.2 ?_)
         intro w9 b9 k9
         have H9 := Lib.hid (And.intro b9 (H2.out.2.1.trans (k9.below H2.out.2.1.size (fun i hi e => by omega))))
         clear b9 k9)
      | fail)
    refine bodyPost_ret (v := _) (results_c (fn := Tryd.f11) Tryd.results11 _ _ (w.heap.size + 1) _ rfl (loadVar_scan H9.out.1 rfl)) rfl ?_
    exact ⟨by rw [E.out.1, E.out.2]; rfl, H9.out.2⟩
  · have E := Lib.hid (And.intro (show hT W H T K Q = 0 from if_neg hr) (show hK W H T K Q = 0 from if_neg hr))
    rw [decide_eq_false hr]
    clear hr
    go_wp2_with (first
      | ((with_reducible refine wpList_store_scan (o := ⟨none, _, _, _, _, _⟩) rfl (.tmp 2) (.tmp 6) rfl rfl (w.heap.size + 1) 0 0 0 0 rfl rfl _ _ _ _ H2.out.2.2 ?_)
         intro w9 b9 k9
         have H9 := Lib.hid (And.intro b9 (H2.out.2.1.trans (k9.below H2.out.2.1.size (fun i hi e => by omega))))
         clear b9 k9)
      | fail)
    refine bodyPost_ret (v := _) (results_c (fn := Tryd.f11) Tryd.results11 _ _ (w.heap.size + 1) _ rfl (loadVar_scan H9.out.1 rfl)) rfl ?_
    exact ⟨by rw [E.out.1, E.out.2]; rfl, H9.out.2⟩
end Go.Proofs.YtmadkpnkmkajoaaDoor
