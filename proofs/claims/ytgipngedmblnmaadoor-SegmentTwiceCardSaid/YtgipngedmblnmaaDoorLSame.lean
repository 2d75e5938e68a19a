/-
  Specifications, and what is known, that are alike: the contracts of SameSpec and of Same.
-/
import Derived.Test.YtgipngedmblnmaaDoorLAwake
import Derived.BigQuiet
namespace Go.Proofs.YtgipngedmblnmaaDoor
open Go.RowKit

theorem itemsI (w : World) {B : List Int} {m : Nat} (hB : B.length = m) (d : Nat) : ∀ is : List Nat, (∀ i ∈ is, i < m) → (Op.eqItems (d + 1) 3 1 (cellsI B).toArray (cellsI B).toArray is).run Tryd.prog w = .ok true w
  | [], _ => by simp [Op.eqItems]
  | i :: is, h => by
    have hp : (part 3 (cellsI B).toArray (i * 1)).run Tryd.prog w = .ok (.int .i64 (B.getD i 0)) w := run_part_plain w (by kernel_rfl) (by rw [Nat.mul_one]; simpa using cellsI_get B i (by have := h i (by simp); omega))
    have he := run_equalIn_int w d 3 .i64 .i64 (B.getD i 0) (B.getD i 0) Tryd.underlying3
    have ih := itemsI w hB d is (fun j hj => h j (by simp [hj]))
    simp only [Op.eqItems, Sem.run_bind, hp, he, Result.andThen_ok, beq_self_eq_true]
    simp
    exact ih
theorem arr_same (w : World) {t : TypeId} {m : Nat} (ht : Tryd.prog.underlying t = some (.array m 3)) {B : List Int} (hB : B.length = m) : (Op.equalIn 10000 t (.agg (cellsI B).toArray) (.agg (cellsI B).toArray)).run Tryd.prog w = .ok true w := by
  obtain ⟨i, hi⟩ : ∃ i, Tryd.prog.info? 3 = some i := by
    obtain ⟨i, h, _⟩ := Option.map_eq_some_iff.1 int_size
    exact ⟨i, h⟩
  have h1 : Tryd.prog.cellsOf 3 = 1 := by kernel_rfl
  rw [show (10000 : Nat) = 9999 + 1 from rfl, run_equalIn_array (P := Tryd.prog) w 9999 _ _ ht hi, h1]
  exact itemsI w hB 9998 (List.range m) (fun i hi => List.mem_range.1 hi)
theorem bools_same (w : World) (p q : Bool) : (Op.equalIn 10000 44 (.agg #[.bool p, .bool q]) (.agg #[.bool p, .bool q])).run Tryd.prog w = .ok true w := by
  cases p <;> cases q <;> kernel_rfl
section
variable {ops : Array Oper} {rest : List Oper} {op : Oper} {a : Act} {w : World} {Q : Exit → Act → World → Prop}
/-- two equal things are not unlike, and are equal -/
theorem wpList_neqA (hgd : op.guard = none) (t : TypeId) (hg : Tryd.prog.eqGuardType Tryd.prog.depth t = false) (x y : Operand) (ho : op.op = .binOp .neq t x y t) (cs : Array Value)
    (hx : a.eval x = .agg cs) (hy : a.eval y = .agg cs) (he : ∀ w, (Op.equalIn 10000 t (.agg cs) (.agg cs)).run Tryd.prog w = .ok true w)
    (hK : wpList Tryd.prog ops Q rest (a.put op.dst (.bool false)) w) : wpList Tryd.prog ops Q (op :: rest) a w :=
  wpList_plain hgd fun _ hQ => by
    unfold Oper.wp execOp
    simp only [ho, hx, hy, Sem.run_bind, run_eqGuard_agg w .neq t x y _ _ hg, run_neq_struct, he w, Result.andThen_ok]
    exact hQ _ _ hK
theorem wpList_eqlA (hw : Region.wanted op (yielded ops a.tmps) = true) (t : TypeId) (hg : Tryd.prog.eqGuardType Tryd.prog.depth t = false) (x y : Operand) (ho : op.op = .binOp .eql t x y t) (cs : Array Value)
    (hx : a.eval x = .agg cs) (hy : a.eval y = .agg cs) (he : ∀ w, (Op.equalIn 10000 t (.agg cs) (.agg cs)).run Tryd.prog w = .ok true w)
    (hK : wpList Tryd.prog ops Q rest (a.put op.dst (.bool true)) w) : wpList Tryd.prog ops Q (op :: rest) a w :=
  wpList_step fun _ hQ => by
    rw [if_pos hw]
    unfold Oper.wp execOp
    simp only [ho, hx, hy, Sem.run_bind, run_eqGuard_agg w .eql t x y _ _ hg, run_eql_struct, he w, Result.andThen_ok]
    exact hQ _ _ hK
theorem yieldsIf_neqA {S : World → Prop} (hw : Region.wanted op (yielded ops a.tmps) = true) (t : TypeId) (hg : Tryd.prog.eqGuardType Tryd.prog.depth t = false) (x y : Operand) (ho : op.op = .binOp .neq t x y t) (cs : Array Value)
    (hx : a.eval x = .agg cs) (hy : a.eval y = .agg cs) (he : ∀ w, (Op.equalIn 10000 t (.agg cs) (.agg cs)).run Tryd.prog w = .ok true w) : YieldsIf Tryd.prog ops S op (.bool false) a :=
  .inl ⟨hw, fun w _ => by
    unfold execOp
    simp only [ho, hx, hy, Sem.run_bind, run_eqGuard_agg w .neq t x y _ _ hg, run_neq_struct, he w, Result.andThen_ok]
    rfl⟩
end
/-- two specifications in memory -/
structure Two (w wr : World) (g : Nat) (B V : List Int) (A : Option Addr) (n c : Nat) (A' : Option Addr) (c' : Nat) : Prop where
  b1 : Box wr g 28 (specC B (.slice A n c))
  b2 : Box wr (g + 1) 28 (specC B (.slice A' n c'))
  v1 : Ia wr A n c V
  v2 : Ia wr A' n c' V
  bel : Below w.heap.size w wr
  len : B.length = 16
theorem Two.bel_ {w wr w' : World} {g : Nat} {B V : List Int} {A : Option Addr} {n c : Nat} {A' : Option Addr} {c' : Nat} (h : Two w wr g B V A n c A' c') (k : Below wr.heap.size wr w') : Two w w' g B V A n c A' c' :=
  ⟨h.b1.on k, h.b2.on k, h.v1.on k, h.v2.on k, on_trans h.bel k, h.len⟩

set_option maxRecDepth 20000 in
set_option maxHeartbeats 3200000 in
theorem sameSpec_any (w : World) (B V : List Int) (A A' : Option Addr) (n c c' : Nat) (hB : B.length = 16) (h : Ia w A n c V) (h' : Ia w A' n c' V) :
    Calls Tryd.prog 35 #[specV B (.slice A n c), specV B (.slice A' n c')] w (Law w) := by
  obtain ⟨C1, hC1⟩ : ∃ C1, C1 = specC B (.slice A n c) := ⟨_, rfl⟩
  obtain ⟨C2, hC2⟩ : ∃ C2, C2 = specC B (.slice A' n c') := ⟨_, rfl⟩
  rw [show specV B (.slice A n c) = .agg C1 by rw [hC1]; rfl, show specV B (.slice A' n c') = .agg C2 by rw [hC2]; rfl]
  obtain ⟨g, hg⟩ : ∃ g, g = w.heap.size := ⟨_, rfl⟩
  obtain ⟨w1, hw1⟩ : ∃ w1, w1 = (w.alloc (.cells C1 28)).alloc (.cells C2 28) := ⟨_, rfl⟩
  have hT : Two w w1 g B V A n c A' c' := by
    have bel : Below w.heap.size w w1 := by rw [hw1]; exact on_trans (on_alloc _ _) (on_alloc _ _)
    refine ⟨?_, ?_, h.on bel, h'.on bel, bel, hB⟩
    · rw [hw1, hg, ← hC1]; exact (Box.made w 28 C1).alloc _
    · rw [hw1, hg, ← hC2]; have := Box.made (w.alloc (.cells C1 28)) 28 C2; simpa using this
  have c1 := (hT.b1.cell 16).trans (specC_last hB)
  have c2 := (hT.b2.cell 16).trans (specC_last hB)
  rw [hw1, hg] at c1 c2
  have HT := Lib.hid (And.intro hT (And.intro hw1 (And.intro hg (And.intro (load_bits hT.b1 hB) (And.intro (load_bits hT.b2 hB) h.len)))))
  clear hT hw1 hg hC1 hC2 h h' hB
  go_enter Tryd.func35, Tryd.ntmps35
  go_wp2_with (first
    | (refine wpList_load_to (op := ⟨some 7, _, _, _, _, _⟩) rfl 25 (.tmp 6) rfl (.pointer (some ⟨w.heap.size, 0, none⟩)) rfl (.agg (cellsI B).toArray) (by rw [← HT.out.2.1, ← HT.out.2.2.1]; exact HT.out.2.2.2.1) ?_)
    | (refine wpList_load_to (op := ⟨some 9, _, _, _, _, _⟩) rfl 25 (.tmp 8) rfl (.pointer (some ⟨w.heap.size + 1, 0, none⟩)) rfl (.agg (cellsI B).toArray) (by rw [← HT.out.2.1, ← HT.out.2.2.1]; exact HT.out.2.2.2.2.1) ?_)
    | (with_reducible refine wpList_neqA (op := ⟨some 10, _, _, _, _, _⟩) rfl 25 (by kernel_rfl) (.tmp 7) (.tmp 9) rfl (cellsI B).toArray rfl rfl (fun w => arr_same w Tryd.underlying25 HT.out.1.len) ?_)
    | fail)
  rw [← HT.out.2.1, ← HT.out.2.2.1]
  clear c1 c2
  go_loopw [5] (fun i wr => ∃ k : Nat, k ≤ n ∧ i = .int .i64 k ∧ Two w wr g B V A n c A' c') (fun i _ => n - (intOf i).toNat)
  case atStart => exact ⟨0, Nat.zero_le _, rfl, HT.out.1⟩
  case round =>
    obtain ⟨k, hk, rfl, hR⟩ := hrel
    have hcap := hR.v1.cap
    have hmax := hR.v1.max
    by_cases hlt : k < n
    · have hlti : (k : Int) < (n : Int) := by omega
      have c1 := (hR.b1.cell 16).trans (specC_last hR.len)
      have c2 := (hR.b2.cell 16).trans (specC_last hR.len)
      obtain ⟨b, off, hA, _, hc⟩ := hR.v1.at_ (by omega)
      obtain ⟨b', off', hA', _, hc'⟩ := hR.v2.at_ (by omega)
      have d1 := hc k hlt
      have d2 := hc' k hlt
      obtain ⟨v, hv⟩ : ∃ v, v = V.getD k 0 := ⟨_, rfl⟩
      rw [← hv] at d1 d2
      have HR := Lib.hid hR
      clear hR hc hc' hv
      subst hA hA'
      simp only [maxLen] at hmax
      go_wp2_with fail
      go_quiet (fail)
      go_wp2_with fail
      go_roundw
      case rel => exact ⟨k + 1, by omega, by go_num, HR.out.bel_ (below_drewN_refl _ _)⟩
      case measure => simp [intOf]; omega
    · have ek : k = n := by omega
      have c1 := (hR.b1.cell 16).trans (specC_last hR.len)
      have HR := Lib.hid (And.intro hR ek)
      have hlti : ¬ (k : Int) < (n : Int) := by omega
      clear hR ek
      go_wp2_with fail
      go_ret
      exact ⟨rfl, HR.out.1.bel⟩

/-- two that are known in memory, and alike -/
structure Sm (w wr : World) (K : Kv) (X X' : Nat → Value) : Prop where
  b1 : Box wr w.heap.size 46 (kvC K X).toArray
  b2 : Box wr (w.heap.size + 1) 46 (kvC K X').toArray
  k1 : KnR wr K X
  k2 : KnR wr K X'
  bel : Below w.heap.size w wr
theorem Sm.bel_ {w wr w' : World} {K : Kv} {X X' : Nat → Value} (h : Sm w wr K X X') (k : Below wr.heap.size wr w') : Sm w w' K X X' := ⟨h.b1.on k, h.b2.on k, h.k1.on k, h.k2.on k, on_trans h.bel k⟩

set_option maxRecDepth 20000 in
set_option maxHeartbeats 12800000 in
theorem same_any (w : World) (K : Kv) (X X' : Nat → Value) (h : KnR w K X) (h' : KnR w K X') : Calls Tryd.prog 17 #[kvV K X, kvV K X'] w (Law w) := by
  obtain ⟨C, hC⟩ : ∃ C, C = (kvC K X).toArray := ⟨_, rfl⟩
  obtain ⟨D, hD⟩ : ∃ C, C = (kvC K X').toArray := ⟨_, rfl⟩
  rw [show kvV K X = .agg C by rw [hC]; rfl, show kvV K X' = .agg D by rw [hD]; rfl]
  obtain ⟨w2, hw2, b0, b1, k2, hs2⟩ := kv_made w C D
  rw [hC] at b0
  rw [hD] at b1
  have HW := Lib.hid (And.intro hw2 (show Sm w w2 K X X' from ⟨b0, b1, h.on k2, h'.on k2, k2⟩))
  clear hw2 b0 b1 k2 hs2 hC hD h h'
  go_enter Tryd.func17, Tryd.ntmps17
  go_upto_region 1 with fail
  rw [HW.out.1]
  go_wp2_with fail
  go_loopw [5] (fun i wr => ∃ k : Nat, k ≤ 2 ∧ i = .int .i64 ((k : Nat) : Int) ∧ Sm w wr K X X') (fun i _ => 2 - (intOf i).toNat)
  case atStart => exact ⟨0, by omega, rfl, HW.out.2⟩
  case round =>
    obtain ⟨k, hk, rfl, hS⟩ := hrel
    have HS := Lib.hid hS
    clear hS
    by_cases hk2 : k < 2
    · have q1 : 128 + k * 17 = 128 + 17 * k := by omega
      have q2 : 162 + k * 17 = 128 + 17 * (2 + k) := by omega
      have q3 : k * 64 = 64 * k := by omega
      have hk2' : (k : Int) < 2 := by omega
      obtain ⟨A1, n1, c1, ex1, ia1⟩ := HS.out.k1.sl k (by omega)
      obtain ⟨A2, n2, c2, ex2, ia2⟩ := HS.out.k1.sl (2 + k) (by omega)
      obtain ⟨A1', n1', c1', ex1', ia1'⟩ := HS.out.k2.sl k (by omega)
      obtain ⟨A2', n2', c2', ex2', ia2'⟩ := HS.out.k2.sl (2 + k) (by omega)
      obtain rfl : n1 = n1' := ia1.len.symm.trans ia1'.len
      obtain rfl : n2 = n2' := ia2.len.symm.trans ia2'.len
      obtain ⟨Vc, hVc⟩ : ∃ V, V = (cellsI (K.tb.t k)).toArray := ⟨_, rfl⟩
      obtain ⟨Vt, hVt⟩ : ∃ V, V = Value.agg Vc := ⟨_, rfl⟩
      obtain ⟨V1, hV1⟩ : ∃ V, V = specV (K.tb.B k) (X k) := ⟨_, rfl⟩
      obtain ⟨V2, hV2⟩ : ∃ V, V = specV (K.tb.B (2 + k)) (X (2 + k)) := ⟨_, rfl⟩
      obtain ⟨V1', hV1'⟩ : ∃ V, V = specV (K.tb.B k) (X' k) := ⟨_, rfl⟩
      obtain ⟨V2', hV2'⟩ : ∃ V, V = specV (K.tb.B (2 + k)) (X' (2 + k)) := ⟨_, rfl⟩
      have wt := HS.out.k1.wt
      have HF := Lib.hid (And.intro hVt (And.intro (show ∀ w, (Op.equalIn 10000 23 (.agg Vc) (.agg Vc)).run Tryd.prog w = .ok true w from fun w => by rw [hVc]; exact arr_same w Tryd.underlying23 (wt.st k (by omega))) trivial))
      have HL := Lib.hid (And.intro (fun (w' : World) (h : Sm w w' K X X') => show (Instr.loadAt 23 (.pointer (some ⟨w.heap.size, 64 * k, none⟩))).run Tryd.prog w' = .ok Vt w' by rw [hVt, hVc]; exact h.b1.kvtb.loadT wt (by omega))
        (And.intro (fun (w' : World) (h : Sm w w' K X X') => show (Instr.loadAt 23 (.pointer (some ⟨w.heap.size + 1, 64 * k, none⟩))).run Tryd.prog w' = .ok Vt w' by rw [hVt, hVc]; exact h.b2.kvtb.loadT wt (by omega))
        (And.intro (fun (w' : World) (h : Sm w w' K X X') => show (Instr.loadAt 28 (.pointer (some ⟨w.heap.size, 128 + 17 * k, none⟩))).run Tryd.prog w' = .ok V1 w' by rw [hV1]; exact h.b1.kvtb.loadS wt (by omega))
        (And.intro (fun (w' : World) (h : Sm w w' K X X') => show (Instr.loadAt 28 (.pointer (some ⟨w.heap.size + 1, 128 + 17 * k, none⟩))).run Tryd.prog w' = .ok V1' w' by rw [hV1']; exact h.b2.kvtb.loadS wt (by omega))
        (And.intro (fun (w' : World) (h : Sm w w' K X X') => show (Instr.loadAt 28 (.pointer (some ⟨w.heap.size, 128 + 17 * (2 + k), none⟩))).run Tryd.prog w' = .ok V2 w' by rw [hV2]; exact h.b1.kvtb.loadS wt (by omega))
          (fun (w' : World) (h : Sm w w' K X X') => show (Instr.loadAt 28 (.pointer (some ⟨w.heap.size + 1, 128 + 17 * (2 + k), none⟩))).run Tryd.prog w' = .ok V2' w' by rw [hV2']; exact h.b2.kvtb.loadS wt (by omega)))))))
      have hc1 : ∀ w', Below wr.heap.size wr w' → Calls Tryd.prog 35 #[V1, V1'] w' (Law w') := fun w' b => by rw [hV1, hV1', ex1, ex1']; exact sameSpec_any w' _ _ _ _ _ _ _ (wt.sb k (by omega)) (ia1.on b) (ia1'.on b)
      have hc2 : ∀ w', Below wr.heap.size wr w' → Calls Tryd.prog 35 #[V2, V2'] w' (Law w') := fun w' b => by rw [hV2, hV2', ex2, ex2']; exact sameSpec_any w' _ _ _ _ _ _ _ (wt.sb (2 + k) (by omega)) (ia2.on b) (ia2'.on b)
      have HC := Lib.hid (And.intro hc1 hc2)
      clear ex1 ex2 ex1' ex2' ia1 ia2 ia1' ia2' hVc hVt hV1 hV2 hV1' hV2' wt hc1 hc2
      go_upto_region 4 with fail
      refine wp_region_held_drew (S := fun w' => Hid (Sm w w' K X X' ∧ Below wr.heap.size wr w')) (by kernel_rfl) (Lib.hid (And.intro (HS.out.bel_ (on_drew wr)) (on_drew wr))) fun s0 => ?_
      refine take_to (i := 0) (v := .int .i64 (k : Int)) rfl (by kernel_rfl) (by kernel_rfl) (by kernel_rfl) (fun _ _ _ h => h) (Or.inl ⟨by rfl, fun w' hS => by go_simp⟩) s0 (some 10) rfl ?_
      simp only [Act.put, List.setIfInBounds_toArray, List.set_cons_zero, List.set_cons_succ]
      refine take_to (i := 1) (v := .pointer (some ⟨w.heap.size, 0, none⟩)) rfl (by kernel_rfl) (by kernel_rfl) (by kernel_rfl) (fun _ _ _ h => h) (Or.inl ⟨by rfl, fun w' hS => by go_simp⟩) s0 (some 11) rfl ?_
      simp only [Act.put, List.setIfInBounds_toArray, List.set_cons_zero, List.set_cons_succ]
      refine take_to (i := 2) (v := .pointer (some ⟨w.heap.size, 0, none⟩)) rfl (by kernel_rfl) (by kernel_rfl) (by kernel_rfl) (fun _ _ _ h => h) (Or.inl ⟨by rfl, fun w' hS => by go_simp⟩) s0 (some 12) rfl ?_
      simp only [Act.put, List.setIfInBounds_toArray, List.set_cons_zero, List.set_cons_succ]
      refine take_to (i := 3) (v := .pointer (some ⟨w.heap.size, 64 * k, none⟩)) rfl (by kernel_rfl) (by kernel_rfl) (by kernel_rfl) (fun _ _ _ h => h) (Or.inl ⟨by rfl, fun w' hS => by go_simp⟩) s0 (some 13) rfl ?_
      simp only [Act.put, List.setIfInBounds_toArray, List.set_cons_zero, List.set_cons_succ]
      refine take_to (i := 4) rfl (by kernel_rfl) (by kernel_rfl) (by kernel_rfl) (fun _ _ _ h => h) (yieldsIf_load (by rfl) 23 _ rfl (.pointer (some ⟨w.heap.size, 64 * k, none⟩)) rfl Vt (fun w' hS => HL.out.1 w' hS.out.1)) s0 (some 14) rfl ?_
      simp only [Act.put, List.setIfInBounds_toArray, List.set_cons_zero, List.set_cons_succ]
      refine take_to (i := 5) (v := .int .i64 (k : Int)) rfl (by kernel_rfl) (by kernel_rfl) (by kernel_rfl) (fun _ _ _ h => h) (Or.inl ⟨by rfl, fun w' hS => by go_simp⟩) s0 (some 15) rfl ?_
      simp only [Act.put, List.setIfInBounds_toArray, List.set_cons_zero, List.set_cons_succ]
      refine take_to (i := 6) (v := .pointer (some ⟨w.heap.size + 1, 0, none⟩)) rfl (by kernel_rfl) (by kernel_rfl) (by kernel_rfl) (fun _ _ _ h => h) (Or.inl ⟨by rfl, fun w' hS => by go_simp⟩) s0 (some 16) rfl ?_
      simp only [Act.put, List.setIfInBounds_toArray, List.set_cons_zero, List.set_cons_succ]
      refine take_to (i := 7) (v := .pointer (some ⟨w.heap.size + 1, 0, none⟩)) rfl (by kernel_rfl) (by kernel_rfl) (by kernel_rfl) (fun _ _ _ h => h) (Or.inl ⟨by rfl, fun w' hS => by go_simp⟩) s0 (some 17) rfl ?_
      simp only [Act.put, List.setIfInBounds_toArray, List.set_cons_zero, List.set_cons_succ]
      refine take_to (i := 8) (v := .pointer (some ⟨w.heap.size + 1, 64 * k, none⟩)) rfl (by kernel_rfl) (by kernel_rfl) (by kernel_rfl) (fun _ _ _ h => h) (Or.inl ⟨by rfl, fun w' hS => by go_simp⟩) s0 (some 18) rfl ?_
      simp only [Act.put, List.setIfInBounds_toArray, List.set_cons_zero, List.set_cons_succ]
      refine take_to (i := 9) rfl (by kernel_rfl) (by kernel_rfl) (by kernel_rfl) (fun _ _ _ h => h) (yieldsIf_load (by rfl) 23 _ rfl (.pointer (some ⟨w.heap.size + 1, 64 * k, none⟩)) rfl Vt (fun w' hS => HL.out.2.1 w' hS.out.1)) s0 (some 19) rfl ?_
      simp only [Act.put, List.setIfInBounds_toArray, List.set_cons_zero, List.set_cons_succ]
      refine take_to (i := 10) rfl (by kernel_rfl) (by kernel_rfl) (by kernel_rfl) (fun _ _ _ h => h) (yieldsIf_neqA (by rfl) 23 (by kernel_rfl) _ _ rfl Vc (by rw [← HF.out.1]; rfl) (by rw [← HF.out.1]; rfl) HF.out.2.1) s0 (some 20) rfl ?_
      simp only [Act.put, List.setIfInBounds_toArray, List.set_cons_zero, List.set_cons_succ]
      refine take_to (i := 11) (v := .bool false) rfl (by kernel_rfl) (by kernel_rfl) (by kernel_rfl) (fun _ _ _ h => h) (Or.inl ⟨by rfl, fun w' hS => by go_simp⟩) s0 (some 21) rfl ?_
      simp only [Act.put, List.setIfInBounds_toArray, List.set_cons_zero, List.set_cons_succ]
      refine take_to (i := 12) (v := .int .i64 (k : Int)) rfl (by kernel_rfl) (by kernel_rfl) (by kernel_rfl) (fun _ _ _ h => h) (Or.inl ⟨by rfl, fun w' hS => by go_simp⟩) s0 (some 22) rfl ?_
      simp only [Act.put, List.setIfInBounds_toArray, List.set_cons_zero, List.set_cons_succ]
      refine take_to (i := 13) (v := .pointer (some ⟨w.heap.size, 0, none⟩)) rfl (by kernel_rfl) (by kernel_rfl) (by kernel_rfl) (fun _ _ _ h => h) (Or.inl ⟨by rfl, fun w' hS => by go_simp⟩) s0 (some 23) rfl ?_
      simp only [Act.put, List.setIfInBounds_toArray, List.set_cons_zero, List.set_cons_succ]
      refine take_to (i := 14) (v := .pointer (some ⟨w.heap.size, 128, none⟩)) rfl (by kernel_rfl) (by kernel_rfl) (by kernel_rfl) (fun _ _ _ h => h) (Or.inl ⟨by rfl, fun w' hS => by go_simp⟩) s0 (some 24) rfl ?_
      simp only [Act.put, List.setIfInBounds_toArray, List.set_cons_zero, List.set_cons_succ]
      refine take_to (i := 15) (v := .pointer (some ⟨w.heap.size, 128 + 17 * k, none⟩)) rfl (by kernel_rfl) (by kernel_rfl) (by kernel_rfl) (fun _ _ _ h => h) (Or.inl ⟨by rfl, fun w' hS => by go_simp⟩) s0 (some 25) rfl ?_
      simp only [Act.put, List.setIfInBounds_toArray, List.set_cons_zero, List.set_cons_succ]
      refine take_to (i := 16) rfl (by kernel_rfl) (by kernel_rfl) (by kernel_rfl) (fun _ _ _ h => h) (yieldsIf_load (by rfl) 28 _ rfl (.pointer (some ⟨w.heap.size, 128 + 17 * k, none⟩)) rfl V1 (fun w' hS => HL.out.2.2.1 w' hS.out.1)) s0 (some 26) rfl ?_
      simp only [Act.put, List.setIfInBounds_toArray, List.set_cons_zero, List.set_cons_succ]
      refine take_to (i := 17) (v := .int .i64 (k : Int)) rfl (by kernel_rfl) (by kernel_rfl) (by kernel_rfl) (fun _ _ _ h => h) (Or.inl ⟨by rfl, fun w' hS => by go_simp⟩) s0 (some 27) rfl ?_
      simp only [Act.put, List.setIfInBounds_toArray, List.set_cons_zero, List.set_cons_succ]
      refine take_to (i := 18) (v := .pointer (some ⟨w.heap.size + 1, 0, none⟩)) rfl (by kernel_rfl) (by kernel_rfl) (by kernel_rfl) (fun _ _ _ h => h) (Or.inl ⟨by rfl, fun w' hS => by go_simp⟩) s0 (some 28) rfl ?_
      simp only [Act.put, List.setIfInBounds_toArray, List.set_cons_zero, List.set_cons_succ]
      refine take_to (i := 19) (v := .pointer (some ⟨w.heap.size + 1, 128, none⟩)) rfl (by kernel_rfl) (by kernel_rfl) (by kernel_rfl) (fun _ _ _ h => h) (Or.inl ⟨by rfl, fun w' hS => by go_simp⟩) s0 (some 29) rfl ?_
      simp only [Act.put, List.setIfInBounds_toArray, List.set_cons_zero, List.set_cons_succ]
      refine take_to (i := 20) (v := .pointer (some ⟨w.heap.size + 1, 128 + 17 * k, none⟩)) rfl (by kernel_rfl) (by kernel_rfl) (by kernel_rfl) (fun _ _ _ h => h) (Or.inl ⟨by rfl, fun w' hS => by go_simp⟩) s0 (some 30) rfl ?_
      simp only [Act.put, List.setIfInBounds_toArray, List.set_cons_zero, List.set_cons_succ]
      refine take_to (i := 21) rfl (by kernel_rfl) (by kernel_rfl) (by kernel_rfl) (fun _ _ _ h => h) (yieldsIf_load (by rfl) 28 _ rfl (.pointer (some ⟨w.heap.size + 1, 128 + 17 * k, none⟩)) rfl V1' (fun w' hS => HL.out.2.2.2.1 w' hS.out.1)) s0 (some 31) rfl ?_
      simp only [Act.put, List.setIfInBounds_toArray, List.set_cons_zero, List.set_cons_succ]
      refine wpAnyH_ready (rs := [22]) (by kernel_rfl) (by simp) ?_
      refine AllReadyH.cons rfl (fun Kq hKq => ?_) AllReadyH.nil
      go_simp
      refine (HC.out.1 _ s0.out.2).mono ?_
      rintro e w4 ⟨rfl, b4⟩
      have s4 := Lib.hid (And.intro (s0.out.1.bel_ b4) (on_trans s0.out.2 b4))
      refine hKq.out _ _ s4 fun _ => ?_
      clear hKq Kq b4 s0
      have s0 := s4
      clear s4
      refine take_to (i := 23) (v := .bool false) rfl (by kernel_rfl) (by kernel_rfl) (by kernel_rfl) (fun _ _ _ h => h) (Or.inl ⟨by rfl, fun w' hS => by go_simp⟩) s0 (some 33) rfl ?_
      simp only [Act.put, List.setIfInBounds_toArray, List.set_cons_zero, List.set_cons_succ]
      refine take_to (i := 24) (v := .bool false) rfl (by kernel_rfl) (by kernel_rfl) (by kernel_rfl) (fun _ _ _ h => h) (Or.inl ⟨by rfl, fun w' hS => by go_simp⟩) s0 (some 34) rfl ?_
      simp only [Act.put, List.setIfInBounds_toArray, List.set_cons_zero, List.set_cons_succ]
      refine take_to (i := 25) (v := .bool false) rfl (by kernel_rfl) (by kernel_rfl) (by kernel_rfl) (fun _ _ _ h => h) (Or.inl ⟨by rfl, fun w' hS => by go_simp⟩) s0 (some 35) rfl ?_
      simp only [Act.put, List.setIfInBounds_toArray, List.set_cons_zero, List.set_cons_succ]
      refine take_to (i := 26) (v := .int .i64 (k : Int)) rfl (by kernel_rfl) (by kernel_rfl) (by kernel_rfl) (fun _ _ _ h => h) (Or.inl ⟨by rfl, fun w' hS => by go_simp⟩) s0 (some 36) rfl ?_
      simp only [Act.put, List.setIfInBounds_toArray, List.set_cons_zero, List.set_cons_succ]
      refine take_to (i := 27) (v := .pointer (some ⟨w.heap.size, 0, none⟩)) rfl (by kernel_rfl) (by kernel_rfl) (by kernel_rfl) (fun _ _ _ h => h) (Or.inl ⟨by rfl, fun w' hS => by go_simp⟩) s0 (some 37) rfl ?_
      simp only [Act.put, List.setIfInBounds_toArray, List.set_cons_zero, List.set_cons_succ]
      refine take_to (i := 28) (v := .pointer (some ⟨w.heap.size, 162, none⟩)) rfl (by kernel_rfl) (by kernel_rfl) (by kernel_rfl) (fun _ _ _ h => h) (Or.inl ⟨by rfl, fun w' hS => by go_simp⟩) s0 (some 38) rfl ?_
      simp only [Act.put, List.setIfInBounds_toArray, List.set_cons_zero, List.set_cons_succ]
      refine take_to (i := 29) (v := .pointer (some ⟨w.heap.size, 128 + 17 * (2 + k), none⟩)) rfl (by kernel_rfl) (by kernel_rfl) (by kernel_rfl) (fun _ _ _ h => h) (Or.inl ⟨by rfl, fun w' hS => by go_simp⟩) s0 (some 39) rfl ?_
      simp only [Act.put, List.setIfInBounds_toArray, List.set_cons_zero, List.set_cons_succ]
      refine take_to (i := 30) rfl (by kernel_rfl) (by kernel_rfl) (by kernel_rfl) (fun _ _ _ h => h) (yieldsIf_load (by rfl) 28 _ rfl (.pointer (some ⟨w.heap.size, 128 + 17 * (2 + k), none⟩)) rfl V2 (fun w' hS => HL.out.2.2.2.2.1 w' hS.out.1)) s0 (some 40) rfl ?_
      simp only [Act.put, List.setIfInBounds_toArray, List.set_cons_zero, List.set_cons_succ]
      refine take_to (i := 31) (v := .int .i64 (k : Int)) rfl (by kernel_rfl) (by kernel_rfl) (by kernel_rfl) (fun _ _ _ h => h) (Or.inl ⟨by rfl, fun w' hS => by go_simp⟩) s0 (some 41) rfl ?_
      simp only [Act.put, List.setIfInBounds_toArray, List.set_cons_zero, List.set_cons_succ]
      refine take_to (i := 32) (v := .pointer (some ⟨w.heap.size + 1, 0, none⟩)) rfl (by kernel_rfl) (by kernel_rfl) (by kernel_rfl) (fun _ _ _ h => h) (Or.inl ⟨by rfl, fun w' hS => by go_simp⟩) s0 (some 42) rfl ?_
      simp only [Act.put, List.setIfInBounds_toArray, List.set_cons_zero, List.set_cons_succ]
      refine take_to (i := 33) (v := .pointer (some ⟨w.heap.size + 1, 162, none⟩)) rfl (by kernel_rfl) (by kernel_rfl) (by kernel_rfl) (fun _ _ _ h => h) (Or.inl ⟨by rfl, fun w' hS => by go_simp⟩) s0 (some 43) rfl ?_
      simp only [Act.put, List.setIfInBounds_toArray, List.set_cons_zero, List.set_cons_succ]
      refine take_to (i := 34) (v := .pointer (some ⟨w.heap.size + 1, 128 + 17 * (2 + k), none⟩)) rfl (by kernel_rfl) (by kernel_rfl) (by kernel_rfl) (fun _ _ _ h => h) (Or.inl ⟨by rfl, fun w' hS => by go_simp⟩) s0 (some 44) rfl ?_
      simp only [Act.put, List.setIfInBounds_toArray, List.set_cons_zero, List.set_cons_succ]
      refine take_to (i := 35) rfl (by kernel_rfl) (by kernel_rfl) (by kernel_rfl) (fun _ _ _ h => h) (yieldsIf_load (by rfl) 28 _ rfl (.pointer (some ⟨w.heap.size + 1, 128 + 17 * (2 + k), none⟩)) rfl V2' (fun w' hS => HL.out.2.2.2.2.2 w' hS.out.1)) s0 (some 45) rfl ?_
      simp only [Act.put, List.setIfInBounds_toArray, List.set_cons_zero, List.set_cons_succ]
      refine wpAnyH_ready (rs := [36]) (by kernel_rfl) (by simp) ?_
      refine AllReadyH.cons rfl (fun Kq hKq => ?_) AllReadyH.nil
      go_simp
      refine (HC.out.2 _ s0.out.2).mono ?_
      rintro e w4 ⟨rfl, b4⟩
      have s4 := Lib.hid (And.intro (s0.out.1.bel_ b4) (on_trans s0.out.2 b4))
      refine hKq.out _ _ s4 fun _ => ?_
      clear hKq Kq b4 s0
      have s0 := s4
      clear s4
      refine take_to (i := 37) (v := .bool false) rfl (by kernel_rfl) (by kernel_rfl) (by kernel_rfl) (fun _ _ _ h => h) (Or.inl ⟨by rfl, fun w' hS => by go_simp⟩) s0 (some 47) rfl ?_
      simp only [Act.put, List.setIfInBounds_toArray, List.set_cons_zero, List.set_cons_succ]
      refine take_to (i := 38) (v := .bool false) rfl (by kernel_rfl) (by kernel_rfl) (by kernel_rfl) (fun _ _ _ h => h) (Or.inl ⟨by rfl, fun w' hS => by go_simp⟩) s0 (some 48) rfl ?_
      simp only [Act.put, List.setIfInBounds_toArray, List.set_cons_zero, List.set_cons_succ]
      refine wpAnyH_done (by kernel_rfl) ?_ _

      have H7 := Lib.hid s0.out.1
      clear s0
      go_wp2_with fail
      go_roundw
      case rel => exact ⟨k + 1, by omega, by go_num, H7.out⟩
      case measure => simp [intOf]; omega
    · have ek : k = 2 := by omega
      have H9 := HS
      obtain ⟨p0, P0⟩ : ∃ q, q = K.F 0 := ⟨_, rfl⟩
      obtain ⟨p1, P1⟩ : ∃ q, q = K.F 1 := ⟨_, rfl⟩
      obtain ⟨p2, P2⟩ : ∃ q, q = K.F 2 := ⟨_, rfl⟩
      obtain ⟨p3, P3⟩ : ∃ q, q = K.F 3 := ⟨_, rfl⟩
      obtain ⟨p4, P4⟩ : ∃ q, q = K.F 4 := ⟨_, rfl⟩
      obtain ⟨p5, P5⟩ : ∃ q, q = K.F 5 := ⟨_, rfl⟩
      obtain ⟨p6, P6⟩ : ∃ q, q = K.F 6 := ⟨_, rfl⟩
      obtain ⟨p7, P7⟩ : ∃ q, q = K.F 7 := ⟨_, rfl⟩
      obtain ⟨p8, P8⟩ : ∃ q, q = K.F 8 := ⟨_, rfl⟩
      obtain ⟨z0, Z0⟩ : ∃ q, q = K.N 0 := ⟨_, rfl⟩
      obtain ⟨z1, Z1⟩ : ∃ q, q = K.N 1 := ⟨_, rfl⟩
      obtain ⟨z2, Z2⟩ : ∃ q, q = K.N 2 := ⟨_, rfl⟩
      obtain ⟨z3, Z3⟩ : ∃ q, q = K.N 3 := ⟨_, rfl⟩
      obtain ⟨z4, Z4⟩ : ∃ q, q = K.N 4 := ⟨_, rfl⟩
      have af0 : wr.cell? ⟨w.heap.size, 196, none⟩ = some (.bool p0) := by rw [P0]; exact H9.out.b1.kvF (k := 0) (by omega)
      have af1 : wr.cell? ⟨w.heap.size, 197, none⟩ = some (.bool p1) := by rw [P1]; exact H9.out.b1.kvF (k := 1) (by omega)
      have af2 : wr.cell? ⟨w.heap.size, 198, none⟩ = some (.bool p2) := by rw [P2]; exact H9.out.b1.kvF (k := 2) (by omega)
      have af3 : wr.cell? ⟨w.heap.size, 199, none⟩ = some (.bool p3) := by rw [P3]; exact H9.out.b1.kvF (k := 3) (by omega)
      have af4 : wr.cell? ⟨w.heap.size, 200, none⟩ = some (.bool p4) := by rw [P4]; exact H9.out.b1.kvF (k := 4) (by omega)
      have af5 : wr.cell? ⟨w.heap.size, 201, none⟩ = some (.bool p5) := by rw [P5]; exact H9.out.b1.kvF (k := 5) (by omega)
      have af6 : wr.cell? ⟨w.heap.size, 202, none⟩ = some (.bool p6) := by rw [P6]; exact H9.out.b1.kvF (k := 6) (by omega)
      have af7 : wr.cell? ⟨w.heap.size, 203, none⟩ = some (.bool p7) := by rw [P7]; exact H9.out.b1.kvF (k := 7) (by omega)
      have af8 : wr.cell? ⟨w.heap.size, 204, none⟩ = some (.bool p8) := by rw [P8]; exact H9.out.b1.kvF (k := 8) (by omega)
      have an0 : wr.cell? ⟨w.heap.size, 205, none⟩ = some (.int .i64 z0) := by rw [Z0]; exact H9.out.b1.kvN (k := 0) (by omega)
      have an1 : wr.cell? ⟨w.heap.size, 206, none⟩ = some (.int .i64 z1) := by rw [Z1]; exact H9.out.b1.kvN (k := 1) (by omega)
      have an2 : wr.cell? ⟨w.heap.size, 207, none⟩ = some (.int .i64 z2) := by rw [Z2]; exact H9.out.b1.kvN (k := 2) (by omega)
      have an3 : wr.cell? ⟨w.heap.size, 208, none⟩ = some (.int .i64 z3) := by rw [Z3]; exact H9.out.b1.kvN (k := 3) (by omega)
      have an4 : wr.cell? ⟨w.heap.size, 209, none⟩ = some (.int .i64 z4) := by rw [Z4]; exact H9.out.b1.kvN (k := 4) (by omega)
      have bf0 : wr.cell? ⟨w.heap.size + 1, 196, none⟩ = some (.bool p0) := by rw [P0]; exact H9.out.b2.kvF (k := 0) (by omega)
      have bf1 : wr.cell? ⟨w.heap.size + 1, 197, none⟩ = some (.bool p1) := by rw [P1]; exact H9.out.b2.kvF (k := 1) (by omega)
      have bf2 : wr.cell? ⟨w.heap.size + 1, 198, none⟩ = some (.bool p2) := by rw [P2]; exact H9.out.b2.kvF (k := 2) (by omega)
      have bf3 : wr.cell? ⟨w.heap.size + 1, 199, none⟩ = some (.bool p3) := by rw [P3]; exact H9.out.b2.kvF (k := 3) (by omega)
      have bf4 : wr.cell? ⟨w.heap.size + 1, 200, none⟩ = some (.bool p4) := by rw [P4]; exact H9.out.b2.kvF (k := 4) (by omega)
      have bf5 : wr.cell? ⟨w.heap.size + 1, 201, none⟩ = some (.bool p5) := by rw [P5]; exact H9.out.b2.kvF (k := 5) (by omega)
      have bf6 : wr.cell? ⟨w.heap.size + 1, 202, none⟩ = some (.bool p6) := by rw [P6]; exact H9.out.b2.kvF (k := 6) (by omega)
      have bf7 : wr.cell? ⟨w.heap.size + 1, 203, none⟩ = some (.bool p7) := by rw [P7]; exact H9.out.b2.kvF (k := 7) (by omega)
      have bf8 : wr.cell? ⟨w.heap.size + 1, 204, none⟩ = some (.bool p8) := by rw [P8]; exact H9.out.b2.kvF (k := 8) (by omega)
      have bn0 : wr.cell? ⟨w.heap.size + 1, 205, none⟩ = some (.int .i64 z0) := by rw [Z0]; exact H9.out.b2.kvN (k := 0) (by omega)
      have bn1 : wr.cell? ⟨w.heap.size + 1, 206, none⟩ = some (.int .i64 z1) := by rw [Z1]; exact H9.out.b2.kvN (k := 1) (by omega)
      have bn2 : wr.cell? ⟨w.heap.size + 1, 207, none⟩ = some (.int .i64 z2) := by rw [Z2]; exact H9.out.b2.kvN (k := 2) (by omega)
      have bn3 : wr.cell? ⟨w.heap.size + 1, 208, none⟩ = some (.int .i64 z3) := by rw [Z3]; exact H9.out.b2.kvN (k := 3) (by omega)
      have bn4 : wr.cell? ⟨w.heap.size + 1, 209, none⟩ = some (.int .i64 z4) := by rw [Z4]; exact H9.out.b2.kvN (k := 4) (by omega)
      clear P0 P1 P2 P3 P4 P5 P6 P7 P8 Z0 Z1 Z2 Z3 Z4
      clear ek
      go_wp2_with (first
        | (refine wpList_eqlA (op := ⟨some 53, _, _, _, _, _⟩) (by rfl) 44 (by kernel_rfl) (.tmp 50) (.tmp 52) rfl #[.bool p0, .bool p1] rfl rfl (fun w => bools_same w p0 p1) ?_)
        | (refine wpList_eqlA (op := ⟨some 59, _, _, _, _, _⟩) (by rfl) 44 (by kernel_rfl) (.tmp 56) (.tmp 58) rfl #[.bool p2, .bool p3] rfl rfl (fun w => bools_same w p2 p3) ?_)
        | (refine wpList_eqlA (op := ⟨some 66, _, _, _, _, _⟩) (by rfl) 44 (by kernel_rfl) (.tmp 63) (.tmp 65) rfl #[.bool p4, .bool p5] rfl rfl (fun w => bools_same w p4 p5) ?_)
        | fail)
      go_ret
      exact ⟨rfl, H9.out.bel⟩
end Go.Proofs.YtgipngedmblnmaaDoor
