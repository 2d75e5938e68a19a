/-
  A writer in memory; the contracts of NewWriter, Count and add.
-/
import Derived.Test.YthfpdebpepbejaaDoorTake
namespace Go.Proofs.YthfpdebpepbejaaDoor
open Go.RowKit

/-- a writer's cells: no pages, the open bytes, how many, the part's value and count -/
def cellsW (op : List Int) (n v c : Nat) : Array Value := (Value.pointer none :: (cellsOf op ++ [.int .i64 (n : Int), .int .i64 (v : Int), .int .i64 (c : Int)])).toArray

section
variable {op : List Int} {n v c : Nat}
theorem cellsW_size (h : op.length = 256) : (cellsW op n v c).size = 260 := by simp [cellsW, cellsOf_len, h]
theorem cellsW_0 : (cellsW op n v c)[0]? = some (.pointer none) := by simp [cellsW]
theorem cellsW_n (h : op.length = 256) : (cellsW op n v c)[257]? = some (.int .i64 (n : Int)) := by
  simp only [cellsW, List.getElem?_toArray, List.getElem?_cons_succ]
  rw [List.getElem?_append_right (by rw [cellsOf_len, h]; omega), cellsOf_len, h]; rfl
theorem cellsW_v (h : op.length = 256) : (cellsW op n v c)[258]? = some (.int .i64 (v : Int)) := by
  simp only [cellsW, List.getElem?_toArray, List.getElem?_cons_succ]
  rw [List.getElem?_append_right (by rw [cellsOf_len, h]; omega), cellsOf_len, h]; rfl
theorem cellsW_c (h : op.length = 256) : (cellsW op n v c)[259]? = some (.int .i64 (c : Int)) := by
  simp only [cellsW, List.getElem?_toArray, List.getElem?_cons_succ]
  rw [List.getElem?_append_right (by rw [cellsOf_len, h]; omega), cellsOf_len, h]; rfl
theorem cellsW_at (h : op.length = 256) (i : Nat) (hi : i < 256) : (cellsW op n v c)[1 + i]? = some (.int .u8 (op.getD i 0)) := by
  simp only [cellsW, List.getElem?_toArray, Nat.add_comm 1 i, List.getElem?_cons_succ]
  rw [List.getElem?_append_left (by rw [cellsOf_len, h]; omega)]
  simp [cellsOf, List.getD_eq_getElem?_getD, List.getElem?_eq_getElem (show i < op.length by omega)]
theorem cellsW_set_n (h : op.length = 256) (m : Nat) : (cellsW op n v c).setIfInBounds 257 (.int .i64 (m : Int)) = cellsW op m v c := by
  simp only [cellsW, List.setIfInBounds_toArray, List.set_cons_succ]
  rw [List.set_append_right _ _ (by rw [cellsOf_len, h]; omega), cellsOf_len, h]; rfl
theorem cellsW_set_v (h : op.length = 256) (m : Nat) : (cellsW op n v c).setIfInBounds 258 (.int .i64 (m : Int)) = cellsW op n m c := by
  simp only [cellsW, List.setIfInBounds_toArray, List.set_cons_succ]
  rw [List.set_append_right _ _ (by rw [cellsOf_len, h]; omega), cellsOf_len, h]; rfl
theorem cellsW_set_c (h : op.length = 256) (m : Nat) : (cellsW op n v c).setIfInBounds 259 (.int .i64 (m : Int)) = cellsW op n v m := by
  simp only [cellsW, List.setIfInBounds_toArray, List.set_cons_succ]
  rw [List.set_append_right _ _ (by rw [cellsOf_len, h]; omega), cellsOf_len, h]; rfl
theorem cellsW_set_at (h : op.length = 256) (i : Nat) (hi : i < 256) (z : Int) : (cellsW op n v c).setIfInBounds (1 + i) (.int .u8 z) = cellsW (op.set i z) n v c := by
  simp only [cellsW, List.setIfInBounds_toArray, Nat.add_comm 1 i, List.set_cons_succ]
  rw [List.set_append_left _ _ (by rw [cellsOf_len, h]; omega)]
  simp [cellsOf, List.map_set]
end

theorem zero64 (w : World) : (zeroValue 88).run Tryd.prog w = .ok (.agg (cellsW (List.replicate 256 0) 0 0 0)) w := by kernel_rfl

set_option maxHeartbeats 400000 in
theorem newWriter_any (w : World) :
    Calls Tryd.prog 21 #[] w fun e w' => e = .returned (.pointer (some ⟨w.heap.size, 0, none⟩)) ∧ Box w' w.heap.size 88 (cellsW (List.replicate 256 0) 0 0 0) ∧ Below w.heap.size w w' := by
  have hz := zero64
  obtain ⟨M, hM⟩ : ∃ M, M = cellsW (List.replicate 256 0) 0 0 0 := ⟨_, rfl⟩
  rw [← hM] at hz ⊢
  clear hM
  go_enter Tryd.func21, Tryd.ntmps21
  go_wp2
  go_ret
  exact ⟨rfl, Box.made _ _ _, on_alloc _ _⟩

set_option maxHeartbeats 400000 in
theorem count_any (w : World) (d : Nat) (op : List Int) (n v c : Nat) (hb : Box w d 88 (cellsW op n v c)) (ho : op.length = 256) (hn : n ≤ 1000) (hc : c ≤ 1000) :
    Calls Tryd.prog 25 #[.pointer (some ⟨d, 0, none⟩)] w fun e w' => e = .returned (.int .i64 ((8 * n + c : Nat) : Int)) ∧ Below w.heap.size w w' := by
  have c1 : w.cell? ⟨d, 257, none⟩ = some (.int .i64 (n : Int)) := (hb.cell 257).trans (cellsW_n ho)
  have c2 : w.cell? ⟨d, 259, none⟩ = some (.int .i64 (c : Int)) := (hb.cell 259).trans (cellsW_c ho)
  clear hb ho
  go_enter Tryd.func25, Tryd.ntmps25
  go_wp2_with fail
  go_quiet (fail)
  go_wp2
  go_ret
  exact ⟨by simp, below_drewN_refl _ _⟩

set_option maxHeartbeats 400000 in
theorem count_nil (w : World) :
    Calls Tryd.prog 25 #[.pointer none] w fun e w' => e = .returned (.int .i64 0) ∧ w = w' := by
  go_enter Tryd.func25, Tryd.ntmps25
  go_wp2
  go_ret
  exact ⟨rfl, rfl⟩

/-- what add leaves -/
def Added (w : World) (d : Nat) (cs : Array Value) (e : Ending) (w' : World) : Prop := e = .returned (.tuple #[]) ∧ Box w' d 88 cs ∧ Kept (fun i => i = d) w w'

set_option maxHeartbeats 800000 in
theorem add_any (w : World) (d : Nat) (op : List Int) (n v c : Nat) (x : Int) (hb : Box w d 88 (cellsW op n v c)) (ho : op.length = 256) (hn : n < 255) :
    Calls Tryd.prog 39 #[.pointer (some ⟨d, 0, none⟩), .int .u8 x] w (Added w d (cellsW (op.set n x) (n + 1) v c)) := by
  have c1 : w.cell? ⟨d, 257, none⟩ = some (.int .i64 (n : Int)) := (hb.cell 257).trans (cellsW_n ho)
  have c2 := (hb.cell (1 + n)).trans (cellsW_at ho n (by omega))
  have f1 := hb.free (1 + n)
  have f2 := hb.free 257
  have e1 : (n : Int) % 256 = n := by omega
  have e2 : ((n : Int) + 1) % 256 = n + 1 := by omega
  have e3 : ¬ ((n : Int) + 1 = 0) := by omega
  have H := Lib.hid (And.intro hb ho)
  clear hb ho
  go_enter Tryd.func39, Tryd.ntmps39
  go_wp2_with fail
  go_region
  all_goals
    (go_wp2
     go_end0
     refine ⟨rfl, ?_, (((Kept.refl (fun i => i = d) w).setCell (p := ⟨d, 1 + n, none⟩) (fun _ => rfl) _).setCell (p := ⟨d, 257, none⟩) (fun _ => rfl) _).drew⟩
     have h := (H.out.1.put (1 + n) (.int .u8 x)).put 257 (.int .i64 ((n + 1 : Nat) : Int))
     rw [cellsW_set_at H.out.2 n (by omega), cellsW_set_n (by rw [List.length_set]; exact H.out.2)] at h
     exact h)
end Go.Proofs.YthfpdebpepbejaaDoor
