/-
  The reference's Same, of two tiles that are the same.
-/
import Derived.Test.YtdnjnbfmmgkpjaaDoorSW
import Derived.ChangeKeysEq
import Derived.Laws.StructEq
namespace Go.Proofs.YtdnjnbfmmgkpjaaDoor
open Go.RowKit

/-- two blocks of the same numbers are equal -/
theorem items25 (w : World) {B : List Int} (hB : B.length = 64) (d : Nat) : ∀ is : List Nat, (∀ i ∈ is, i < 64) → (Op.eqItems (d + 1) 3 1 (cellsI B).toArray (cellsI B).toArray is).run Tryd.prog w = .ok true w
  | [], _ => by simp [Op.eqItems]
  | i :: is, h => by
    have hp : (part 3 (cellsI B).toArray (i * 1)).run Tryd.prog w = .ok (.int .i64 (B.getD i 0)) w := run_part_plain w (by kernel_rfl) (by rw [Nat.mul_one]; simpa using cellsI_get B i (by have := h i (by simp); omega))
    have he := run_equalIn_int w d 3 .i64 .i64 (B.getD i 0) (B.getD i 0) Tryd.underlying3
    have ih := items25 w hB d is (fun j hj => h j (by simp [hj]))
    simp only [Op.eqItems, Sem.run_bind, hp, he, Result.andThen_ok, beq_self_eq_true]
    simp
    exact ih
theorem blk_equal (w : World) {B : List Int} (hB : B.length = 64) : (Op.equalIn 10000 25 (blkV B) (blkV B)).run Tryd.prog w = .ok true w := by
  obtain ⟨i, hi⟩ : ∃ i, Tryd.prog.info? 3 = some i := by
    obtain ⟨i, h, _⟩ := Option.map_eq_some_iff.1 int_size
    exact ⟨i, h⟩
  have h1 : Tryd.prog.cellsOf 3 = 1 := by kernel_rfl
  rw [show (10000 : Nat) = 9999 + 1 from rfl]
  unfold blkV
  rw [run_equalIn_array (P := Tryd.prog) w 9999 _ _ Tryd.underlying25 hi, h1]
  exact items25 w hB 9998 (List.range 64) (fun i hi => List.mem_range.1 hi)
/-- two equal blocks are not unlike: the operation may be taken first -/
theorem yieldsIf_neq25 {ops : Array Oper} {S : World → Prop} {op : Oper} {a : Act} (hw : Region.wanted op (yielded ops a.tmps) = true) (x y : Operand) (ho : op.op = .binOp .neq 25 x y 25)
    (B : List Int) (hB : B.length = 64) (hx : a.eval x = blkV B) (hy : a.eval y = blkV B) : YieldsIf Tryd.prog ops S op (.bool false) a :=
  .inl ⟨hw, fun w _ => by
    have hg : Tryd.prog.eqGuardType Tryd.prog.depth 25 = false := by kernel_rfl
    unfold execOp
    unfold blkV at hx hy
    have he := blk_equal w hB
    unfold blkV at he
    simp only [ho, hx, hy, Sem.run_bind, run_eqGuard_agg w .neq 25 x y _ _ hg, run_neq_struct, he, Result.andThen_ok]
    rfl⟩


section
variable (w : World) (A A' : Option Addr) (n c c' : Nat) (L L' : List (Option Addr × Nat × Nat)) (T : List (List (List Int)))
set_option maxRecDepth 10000 in
set_option maxHeartbeats 3200000 in
theorem same_any (hT : Ti w A n L T) (hT' : Ti w A' n L' T) (hn : n ≤ 4) (hlen : ∀ t ∈ T, t.length ≤ 100) : Calls Tryd.prog 13 #[tileV A n c, tileV A' n c'] w fun e w' => e = .returned (.bool true) ∧ Below w.heap.size w w' := by
  obtain ⟨w1, hw1⟩ : ∃ w1, (w.alloc (.cells #[.slice A n c] 36)).alloc (.cells #[.slice A' n c'] 36) = w1 := ⟨_, rfl⟩
  obtain ⟨g1, hg1⟩ : ∃ g1, g1 = w.heap.size := ⟨_, rfl⟩
  have b1 : Box w1 g1 36 #[.slice A n c] := by rw [← hw1, hg1]; exact (Box.made _ _ _).alloc _
  have b2 : Box w1 (g1 + 1) 36 #[.slice A' n c'] := by rw [← hw1, hg1]; have := Box.made (w.alloc (.cells #[.slice A n c] 36)) 36 #[.slice A' n c']; simpa using this
  have k1 : Below w.heap.size w w1 := by rw [← hw1]; exact on_trans (on_alloc _ _) (on_alloc _ _)
  have r1 : w1.cell? ⟨g1, 0, none⟩ = some (.slice A n c) := b1.cell 0
  have r2 : w1.cell? ⟨g1 + 1, 0, none⟩ = some (.slice A' n c') := b2.cell 0
  have HB := Lib.hid (And.intro b1 (And.intro b2 (And.intro k1 (And.intro (hT.on k1) (hT'.on k1)))))
  have HL := Lib.hid hlen
  have e0 : ((n : Int) != (n : Int)) = false := by simp
  rw [← hg1] at HB
  have hsz : w.heap.size = g1 := hg1.symm
  clear b1 b2 k1 hT hT' hlen hg1
  unfold tileV
  go_enter Tryd.func13, Tryd.ntmps13
  go_wp2_with fail
  have HG := Lib.hid hsz
  clear hw1 hsz
  go_loopw [5] (fun i wr => ∃ k : Nat, k ≤ n ∧ i = .int .i64 (k : Int) ∧ Below w1.heap.size w1 wr) (fun i _ => n - (intOf i).toNat)
  case atStart => exact ⟨0, Nat.zero_le _, rfl, Below.refl _ _⟩
  case round =>
    obtain ⟨wo, rfl⟩ : ∃ wo, wo = wr := ⟨_, rfl⟩
    obtain ⟨k, hk, rfl, hbl⟩ := hrel
    clear r1 r2
    have r1 : wo.cell? ⟨g1, 0, none⟩ = some (.slice A n c) := (HB.out.1.on hbl).cell 0
    have r2 : wo.cell? ⟨g1 + 1, 0, none⟩ = some (.slice A' n c') := (HB.out.2.1.on hbl).cell 0
    by_cases hlt : k < n
    · obtain ⟨t, ht⟩ : ∃ t, T[k]? = some t := ⟨_, List.getElem?_eq_getElem (by rw [HB.out.2.2.2.1.len]; exact hlt)⟩
      obtain ⟨x, hx⟩ : ∃ x, L[k]? = some x := ⟨_, List.getElem?_eq_getElem (by rw [HB.out.2.2.2.1.pt.len]; exact hlt)⟩
      obtain ⟨z, hz⟩ : ∃ z, L'[k]? = some z := ⟨_, List.getElem?_eq_getElem (by rw [HB.out.2.2.2.2.pt.len]; exact hlt)⟩
      obtain ⟨x1, m, xc⟩ := x
      obtain ⟨z1, m', zc⟩ := z
      obtain ⟨ba, oa, rfl, hba, hca⟩ := HB.out.2.2.2.1.pt.at_ (by omega)
      obtain ⟨bb, ob, rfl, hbb, hcb⟩ := HB.out.2.2.2.2.pt.at_ (by omega)
      obtain ⟨hbx, hxm, hxc, _⟩ := HB.out.2.2.2.1.row k _ t hx ht
      obtain ⟨hbz, hzm, hzc, _⟩ := HB.out.2.2.2.2.row k _ t hz ht
      dsimp only at hbx hbz hxm hxc hzm hzc
      obtain rfl : m = m' := by rw [← hbx.len, hbz.len]
      have s1 : wo.cell? ⟨ba, oa + k, none⟩ = some (.slice x1 m xc) := (hbl.cell hba).trans (hca k _ hx)
      have s2 : wo.cell? ⟨bb, ob + k, none⟩ = some (.slice z1 m zc) := (hbl.cell hbb).trans (hcb k _ hz)
      have hm100 : m ≤ 100 := by rw [← hbx.len]; exact HL.out t (List.mem_of_getElem? ht)
      have HX := Lib.hid (And.intro hbl (And.intro hbx (And.intro hbz ht)))
      have HF := Lib.hid (fun w' (h : Below wo.heap.size wo w') => (show w'.cell? ⟨g1, 0, none⟩ = some (.slice (some ⟨ba, oa, none⟩) n c) ∧ w'.cell? ⟨g1 + 1, 0, none⟩ = some (.slice (some ⟨bb, ob, none⟩) n c') ∧ w'.cell? ⟨ba, oa + k, none⟩ = some (.slice x1 m xc) ∧ w'.cell? ⟨bb, ob + k, none⟩ = some (.slice z1 m zc) from
        ⟨((HB.out.1.on hbl).on h).cell 0, ((HB.out.2.1.on hbl).on h).cell 0, (h.cell (World.block_lt_of_cell? _ _ s1)).trans s1, (h.cell (World.block_lt_of_cell? _ _ s2)).trans s2⟩))
      have e1 : ((m : Int) != (m : Int)) = false := by simp
      clear hca hcb hbx hbz hx hz ht hbl hba hbb
      go_wp2_with fail
      go_quiet (fail)
      obtain ⟨w3, hw3⟩ : ∃ w3, w3 = wo.drewN nq := ⟨_, rfl⟩
      have k3 : Below wo.heap.size wo w3 := by rw [hw3]; exact below_drewN_refl _ _
      rw [← hw3]
      have H3 := Lib.hid k3
      clear hw3 k3 r1 r2 s1 s2
      go_wp2_with fail
      go_loopw [6] (fun i wr => ∃ j : Nat, j ≤ m ∧ i = .int .i64 (j : Int) ∧ Below wo.heap.size wo wr) (fun i _ => m - (intOf i).toNat)
      case atStart => exact ⟨0, Nat.zero_le _, rfl, H3.out⟩
      case round =>
        obtain ⟨j, hj, rfl, hbl⟩ := hrel
        obtain ⟨r1, r2, s1, s2⟩ := HF.out wr hbl
        have HW := Lib.hid hbl
        by_cases hjl : j < m
        · have hbx := HX.out.2.1.on HX.out.1
          have hbz := HX.out.2.2.1.on HX.out.1
          obtain ⟨y, hy⟩ : ∃ y, t[j]? = some y := ⟨_, List.getElem?_eq_getElem (by rw [hbx.len]; exact hjl)⟩
          obtain ⟨bx, ox, rfl, _, _⟩ := hbx.at_ (by omega)
          obtain ⟨bz, oz, rfl, _, _⟩ := hbz.at_ (by omega)
          have HC := Lib.hid (fun w' (h : Below wr.heap.size wr w') => HF.out w' (hbl.trans (h.mono hbl.size)))
          have HY := Lib.hid (And.intro (fun w' (h : Below wr.heap.size wr w') => (hbx.on (hbl.trans (h.mono hbl.size)))) (And.intro (fun w' (h : Below wr.heap.size wr w') => (hbz.on (hbl.trans (h.mono hbl.size)))) (And.intro hy (hbx.wide y (List.mem_of_getElem? hy)))))
          have q0 : Hid (Below wr.heap.size wr wr.drew) := Lib.hid (on_drew wr)
          clear hbx hbz hy hbl
          go_wp2_with fail
          clear r1 r2 s1 s2
          refine wp_region_held_drew (S := fun w' => Hid (Below wr.heap.size wr w')) (by kernel_rfl) q0 fun q0 => ?_
          refine take_to (i := 0) (v := .pointer (some ⟨g1, 0, none⟩)) rfl (by kernel_rfl) (by kernel_rfl) (by kernel_rfl) (fun _ _ _ h => h) (Or.inl ⟨by rfl, fun w' hS => by go_simp⟩) q0 (some 44) rfl ?_
          try simp only [Act.put, List.setIfInBounds_toArray, List.set_cons_zero, List.set_cons_succ]
          refine take_to (i := 1) (v := .slice (some ⟨ba, oa, none⟩) n c) rfl (by kernel_rfl) (by kernel_rfl) (by kernel_rfl) (fun _ _ _ h => h) (Or.inl ⟨by rfl, fun w' hS => by have := (HC.out w' hS.out).1; go_simp⟩) q0 (some 45) rfl ?_
          try simp only [Act.put, List.setIfInBounds_toArray, List.set_cons_zero, List.set_cons_succ]
          refine take_to (i := 2) (v := .int .i64 (k : Int)) rfl (by kernel_rfl) (by kernel_rfl) (by kernel_rfl) (fun _ _ _ h => h) (Or.inl ⟨by rfl, fun w' hS => by go_simp⟩) q0 (some 46) rfl ?_
          try simp only [Act.put, List.setIfInBounds_toArray, List.set_cons_zero, List.set_cons_succ]
          refine take_to (i := 3) (v := .pointer (some ⟨ba, oa + k, none⟩)) rfl (by kernel_rfl) (by kernel_rfl) (by kernel_rfl) (fun _ _ _ h => h) (Or.inl ⟨by rfl, fun w' hS => by go_simp⟩) q0 (some 47) rfl ?_
          try simp only [Act.put, List.setIfInBounds_toArray, List.set_cons_zero, List.set_cons_succ]
          refine take_to (i := 4) (v := .slice (some ⟨bx, ox, none⟩) m xc) rfl (by kernel_rfl) (by kernel_rfl) (by kernel_rfl) (fun _ _ _ h => h) (Or.inl ⟨by rfl, fun w' hS => by have := (HC.out w' hS.out).2.2.1; go_simp⟩) q0 (some 48) rfl ?_
          try simp only [Act.put, List.setIfInBounds_toArray, List.set_cons_zero, List.set_cons_succ]
          refine take_to (i := 5) (v := .int .i64 (j : Int)) rfl (by kernel_rfl) (by kernel_rfl) (by kernel_rfl) (fun _ _ _ h => h) (Or.inl ⟨by rfl, fun w' hS => by go_simp⟩) q0 (some 49) rfl ?_
          try simp only [Act.put, List.setIfInBounds_toArray, List.set_cons_zero, List.set_cons_succ]
          refine take_to (i := 6) (v := .pointer (some ⟨bx, ox + j * 64, none⟩)) rfl (by kernel_rfl) (by kernel_rfl) (by kernel_rfl) (fun _ _ _ h => h) (Or.inl ⟨by rfl, fun w' hS => by go_simp⟩) q0 (some 50) rfl ?_
          try simp only [Act.put, List.setIfInBounds_toArray, List.set_cons_zero, List.set_cons_succ]
          refine take_to (i := 7) (v := blkV y) rfl (by kernel_rfl) (by kernel_rfl) (by kernel_rfl) (fun _ _ _ h => h) (yieldsIf_load7 (by rfl) 25 (.tmp 50) rfl (.pointer (some ⟨bx, ox + j * 64, none⟩)) rfl (blkV y) (fun w' hS => (HY.out.1 w' hS.out).load HY.out.2.2.1)) q0 (some 51) rfl ?_
          try simp only [Act.put, List.setIfInBounds_toArray, List.set_cons_zero, List.set_cons_succ]
          refine take_to (i := 8) (v := .pointer (some ⟨g1 + 1, 0, none⟩)) rfl (by kernel_rfl) (by kernel_rfl) (by kernel_rfl) (fun _ _ _ h => h) (Or.inl ⟨by rfl, fun w' hS => by go_simp⟩) q0 (some 52) rfl ?_
          try simp only [Act.put, List.setIfInBounds_toArray, List.set_cons_zero, List.set_cons_succ]
          refine take_to (i := 9) (v := .slice (some ⟨bb, ob, none⟩) n c') rfl (by kernel_rfl) (by kernel_rfl) (by kernel_rfl) (fun _ _ _ h => h) (Or.inl ⟨by rfl, fun w' hS => by have := (HC.out w' hS.out).2.1; go_simp⟩) q0 (some 53) rfl ?_
          try simp only [Act.put, List.setIfInBounds_toArray, List.set_cons_zero, List.set_cons_succ]
          refine take_to (i := 10) (v := .int .i64 (k : Int)) rfl (by kernel_rfl) (by kernel_rfl) (by kernel_rfl) (fun _ _ _ h => h) (Or.inl ⟨by rfl, fun w' hS => by go_simp⟩) q0 (some 54) rfl ?_
          try simp only [Act.put, List.setIfInBounds_toArray, List.set_cons_zero, List.set_cons_succ]
          refine take_to (i := 11) (v := .pointer (some ⟨bb, ob + k, none⟩)) rfl (by kernel_rfl) (by kernel_rfl) (by kernel_rfl) (fun _ _ _ h => h) (Or.inl ⟨by rfl, fun w' hS => by go_simp⟩) q0 (some 55) rfl ?_
          try simp only [Act.put, List.setIfInBounds_toArray, List.set_cons_zero, List.set_cons_succ]
          refine take_to (i := 12) (v := .slice (some ⟨bz, oz, none⟩) m zc) rfl (by kernel_rfl) (by kernel_rfl) (by kernel_rfl) (fun _ _ _ h => h) (Or.inl ⟨by rfl, fun w' hS => by have := (HC.out w' hS.out).2.2.2; go_simp⟩) q0 (some 56) rfl ?_
          try simp only [Act.put, List.setIfInBounds_toArray, List.set_cons_zero, List.set_cons_succ]
          refine take_to (i := 13) (v := .int .i64 (j : Int)) rfl (by kernel_rfl) (by kernel_rfl) (by kernel_rfl) (fun _ _ _ h => h) (Or.inl ⟨by rfl, fun w' hS => by go_simp⟩) q0 (some 57) rfl ?_
          try simp only [Act.put, List.setIfInBounds_toArray, List.set_cons_zero, List.set_cons_succ]
          refine take_to (i := 14) (v := .pointer (some ⟨bz, oz + j * 64, none⟩)) rfl (by kernel_rfl) (by kernel_rfl) (by kernel_rfl) (fun _ _ _ h => h) (Or.inl ⟨by rfl, fun w' hS => by go_simp⟩) q0 (some 58) rfl ?_
          try simp only [Act.put, List.setIfInBounds_toArray, List.set_cons_zero, List.set_cons_succ]
          refine take_to (i := 15) (v := blkV y) rfl (by kernel_rfl) (by kernel_rfl) (by kernel_rfl) (fun _ _ _ h => h) (yieldsIf_load7 (by rfl) 25 (.tmp 58) rfl (.pointer (some ⟨bz, oz + j * 64, none⟩)) rfl (blkV y) (fun w' hS => (HY.out.2.1 w' hS.out).load HY.out.2.2.1)) q0 (some 59) rfl ?_
          try simp only [Act.put, List.setIfInBounds_toArray, List.set_cons_zero, List.set_cons_succ]
          refine take_to (i := 16) (v := .bool false) rfl (by kernel_rfl) (by kernel_rfl) (by kernel_rfl) (fun _ _ _ h => h) (yieldsIf_neq25 (by rfl) (.tmp 51) (.tmp 59) rfl y HY.out.2.2.2 rfl rfl) q0 (some 60) rfl ?_
          try simp only [Act.put, List.setIfInBounds_toArray, List.set_cons_zero, List.set_cons_succ]
          refine wpAnyH_done (by kernel_rfl) ?_ _
          have HN := Lib.hid (HW.out.trans ((on_drew wr).mono HW.out.size))
          go_wp2_with fail
          go_roundw
          case rel => exact ⟨j + 1, by omega, by go_num, HN.out⟩
          case measure => simp [intOf]; omega
        · have HN := Lib.hid (HX.out.1.trans (HW.out.mono HX.out.1.size))
          clear hbl
          go_wp2_with fail
          go_roundw
          case rel => exact ⟨k + 1, by omega, by go_num, HN.out⟩
          case measure => simp [intOf]; omega
    · have HW := Lib.hid hbl
      clear hbl
      go_wp2_with fail
      go_ret
      exact ⟨rfl, by rw [HG.out]; exact HB.out.2.2.1.trans (HW.out.mono (by have := HB.out.2.2.1.size; have := HG.out; omega))⟩
end
end Go.Proofs.YtdnjnbfmmgkpjaaDoor
