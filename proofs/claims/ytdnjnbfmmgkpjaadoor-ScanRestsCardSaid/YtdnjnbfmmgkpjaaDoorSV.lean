/-
  Tables (196 cells) in memory: told by their cells one by one; what is read of them. The law's own few and small, and the reference's Same.
-/
import Derived.Test.YtdnjnbfmmgkpjaaDoorSU
namespace Go.Proofs.YtdnjnbfmmgkpjaaDoor
open Go.RowKit

/-- tables: of brightness (0) and of colour (1) the steps; the specifications: DC 0 and 1, AC 2 and 3 -/
structure Tbs where
  t : Nat → List Int
  B : Nat → List Int
  V : Nat → List Int
/-- lists as long as they must be -/
structure Wt (T : Tbs) : Prop where
  st : ∀ i, i < 2 → (T.t i).length = 64
  sb : ∀ j, j < 4 → (T.B j).length = 16
/-- the cells of tables: X are the four slices -/
def tbAt (T : Tbs) (X : Nat → Value) (k : Nat) : Value :=
  if k < 128 then .int .i64 ((T.t (k / 64)).getD (k % 64) 0) else if (k - 128) % 17 < 16 then .int .i64 ((T.B ((k - 128) / 17)).getD ((k - 128) % 17) 0) else X ((k - 128) / 17)
def tbC (T : Tbs) (X : Nat → Value) : List Value := (List.range 196).map (tbAt T X)
def tbV (T : Tbs) (X : Nat → Value) : Value := .agg (tbC T X).toArray
theorem tbC_len (T : Tbs) (X : Nat → Value) : (tbC T X).length = 196 := by rw [tbC, List.length_map, List.length_range]
theorem tbC_get (T : Tbs) (X : Nat → Value) {k : Nat} (h : k < 196) : (tbC T X)[k]? = some (tbAt T X k) := by rw [tbC, List.getElem?_map, List.getElem?_range h]; rfl
section
variable {w w' : World} {g : Nat} {T : Tbs} {X : Nat → Value}
theorem tbAt_t {i k : Nat} (hi : i < 2) (hk : k < 64) : tbAt T X (64 * i + k) = .int .i64 ((T.t i).getD k 0) := by
  unfold tbAt
  rw [if_pos (by omega), show (64 * i + k) / 64 = i by omega, show (64 * i + k) % 64 = k by omega]
theorem tbAt_b {j k : Nat} (hk : k < 16) : tbAt T X (128 + 17 * j + k) = .int .i64 ((T.B j).getD k 0) := by
  unfold tbAt
  rw [if_neg (by omega), show (128 + 17 * j + k - 128) % 17 = k by omega, if_pos hk, show (128 + 17 * j + k - 128) / 17 = j by omega]
theorem tbAt_x {j : Nat} : tbAt T X (128 + 17 * j + 16) = X j := by
  unfold tbAt
  rw [if_neg (by omega), show (128 + 17 * j + 16 - 128) % 17 = 16 by omega, if_neg (by omega), show (128 + 17 * j + 16 - 128) / 17 = j by omega]
theorem tb_one (hX : ∀ j, (X j).oneCell' = true) : ∀ u ∈ tbC T X, u.oneCell' = true := by
  intro u hu
  obtain ⟨k, _, rfl⟩ := List.mem_map.1 hu
  unfold tbAt
  split
  · rfl
  · split
    · rfl
    · exact hX _
/-- tables at the head of a block -/
def TbR (w : World) (g : Nat) (T : Tbs) (X : Nat → Value) : Prop := w.rangeAt g 0 (tbC T X)
theorem TbR.cell (h : TbR w g T X) {k : Nat} (hk : k < 196) : w.cell? ⟨g, k, none⟩ = some (tbAt T X k) := by
  have := h k _ (tbC_get T X hk)
  rwa [Nat.zero_add] at this
theorem TbR.steps (h : TbR w g T X) (hT : Wt T) {i : Nat} (hi : i < 2) : w.rangeAt g (64 * i) (cellsI (T.t i)) := by
  intro k u hu
  have hk := (List.getElem?_eq_some_iff.1 hu).1
  rw [cellsI_len, hT.st i hi] at hk
  rw [h.cell (by omega), tbAt_t hi hk, ← hu, cellsI_get _ _ (by rw [hT.st i hi]; exact hk)]
theorem TbR.spec (h : TbR w g T X) (hT : Wt T) {j : Nat} (hj : j < 4) : w.rangeAt g (128 + 17 * j) (cellsI (T.B j) ++ [X j]) := by
  intro k u hu
  have hl := hT.sb j hj
  have hk := (List.getElem?_eq_some_iff.1 hu).1
  rw [List.length_append, cellsI_len, hl] at hk
  have hk' : k < 17 := hk
  rcases Nat.lt_or_ge k 16 with h16 | h16
  · rw [List.getElem?_append_left (by rw [cellsI_len, hl]; exact h16)] at hu
    rw [h.cell (by omega), tbAt_b h16, ← hu, cellsI_get _ _ (by rw [hl]; exact h16)]
  · obtain rfl : k = 16 := by omega
    rw [List.getElem?_append_right (by rw [cellsI_len, hl]; exact Nat.le_refl _), cellsI_len, hl] at hu
    rw [h.cell (by omega), tbAt_x, ← hu]
    rfl
theorem Box.tb (h : Box w g 33 (tbC T X).toArray) : TbR w g T X := by
  intro k u hu
  rw [Nat.zero_add, h.cell k]
  simpa using hu
theorem tb_size : (Tryd.prog.info? 33).map (·.size) = some 196 := by kernel_rfl
theorem TbR.load (h : TbR w g T X) : (Instr.loadAt 33 (.pointer (some ⟨g, 0, none⟩))).run Tryd.prog w = .ok (tbV T X) w :=
  run_loadAt_mid w g 0 33 (tbC T X) _ h Tryd.underlying33 rfl (by rw [tb_size, tbC_len])
theorem TbR.loadT (h : TbR w g T X) (hT : Wt T) {i : Nat} (hi : i < 2) : (Instr.loadAt 25 (.pointer (some ⟨g, 64 * i, none⟩))).run Tryd.prog w = .ok (blkV (T.t i)) w :=
  run_loadAt_mid w g (64 * i) 25 (cellsI (T.t i)) _ (h.steps hT hi) Tryd.underlying25 rfl (by rw [arr23_size, cellsI_len, hT.st i hi])
theorem TbR.loadS (h : TbR w g T X) (hT : Wt T) {j : Nat} (hj : j < 4) : (Instr.loadAt 30 (.pointer (some ⟨g, 128 + 17 * j, none⟩))).run Tryd.prog w = .ok (specV (T.B j) (X j)) w :=
  run_loadAt_mid w g (128 + 17 * j) 30 (cellsI (T.B j) ++ [X j]) _ (h.spec hT hj) Tryd.underlying30 rfl (by rw [spec_size, List.length_append, cellsI_len, hT.sb j hj]; rfl)
theorem loadVar_tb (h : Box w g 33 (tbC T X).toArray) : (loadVar 33 ⟨g, 0, none⟩).run Tryd.prog w = .ok (tbV T X) w :=
  run_loadVar_row w g 33 33 _ (0, 0) _ h Tryd.underlying33 rfl (by rw [tb_size, List.size_toArray, tbC_len])
end
theorem TbR.on {w w' : World} {g : Nat} {T : Tbs} {X : Nat → Value} (h : TbR w g T X) (k : Below w.heap.size w w') : TbR w' g T X := by
  intro i u hu
  have h1 := h i u hu
  exact (k.cell (p := ⟨g, 0 + i, none⟩) (World.block_lt_of_cell? _ _ h1)).trans h1
/-- the slices of tables -/
def Xs (w : World) (T : Tbs) (X : Nat → Value) : Prop := ∀ j, j < 4 → ∃ A n c, X j = .slice A n c ∧ Ia w A n c (T.V j)
theorem Xs.on {w w' : World} {T : Tbs} {X : Nat → Value} (h : Xs w T X) (k : Below w.heap.size w w') : Xs w' T X := fun j hj => by
  obtain ⟨A, n, c, e, hi⟩ := h j hj
  exact ⟨A, n, c, e, hi.on k⟩

section
variable (w : World) (W H K R : Int) (A : Option Addr) (n c : Nat) (L : List (Option Addr × Nat × Nat)) (T : List (List (List Int)))
def FewY (w : World) (n : Nat) (T : List (List (List Int))) (e : Ending) (w' : World) : Prop := ∃ r, e = .returned (.bool r) ∧ (r = true → n ≤ 4 ∧ ∀ (p : Nat) (t : List (List Int)), T[p]? = some t → t.length ≤ 80) ∧ Below w.heap.size w w'
set_option maxHeartbeats 1600000 in
theorem few_any (hT : Ti w A n L T) : Calls Tryd.prog 7 #[tileV A n c] w (FewY w n T) := by
  obtain ⟨w1, hw1⟩ : ∃ w1, w.alloc (.cells #[.slice A n c] 36) = w1 := ⟨_, rfl⟩
  have b1 : Box w1 w.heap.size 36 #[.slice A n c] := by rw [← hw1]; exact Box.made _ _ _
  have k1 : Below w.heap.size w w1 := by rw [← hw1]; exact on_alloc _ _
  have r0 : w1.cell? ⟨w.heap.size, 0, none⟩ = some (.slice A n c) := b1.cell 0
  have HB := Lib.hid (And.intro k1 (hT.on k1))
  clear b1 k1 hT
  unfold tileV
  go_enter Tryd.func7, Tryd.ntmps7
  go_wp2_with fail
  clear hw1
  go_loopw [3, 4] (fun s i wr => ∃ k z : Nat, k ≤ n ∧ k ≤ 5 ∧ i = .int .i64 (k : Int) ∧ s = .int .i64 (z : Int) ∧ z ≤ 100 * k ∧ (∀ (p : Nat) (t : List (List Int)), p < k → T[p]? = some t → min t.length 100 ≤ z) ∧ w1 = wr) (fun _ i _ => 6 - (intOf i).toNat)
  case atStart => exact ⟨0, 0, Nat.zero_le _, Nat.zero_le _, rfl, rfl, Nat.zero_le _, fun p t hp => absurd hp (by omega), rfl⟩
  case round =>
    obtain ⟨k, z, hk, hk5, rfl, rfl, hz, hmin, rfl⟩ := hrel
    have HZ := Lib.hid hmin
    clear hmin
    by_cases hlt : k < n
    · have hlti : (k : Int) < n := by omega
      by_cases h4 : k ≤ 4
      · have h4i : (k : Int) ≤ 4 := by omega
        obtain ⟨t, ht⟩ : ∃ t, T[k]? = some t := ⟨_, List.getElem?_eq_getElem (by rw [HB.out.2.len]; exact hlt)⟩
        obtain ⟨x, hx⟩ : ∃ x, L[k]? = some x := ⟨_, List.getElem?_eq_getElem (by rw [HB.out.2.pt.len]; exact hlt)⟩
        obtain ⟨x1, x2, x3⟩ := x
        obtain ⟨bb, off, rfl, hbb, hcell⟩ := HB.out.2.pt.at_ (by omega)
        have s1 := hcell k _ hx
        obtain ⟨hbs, hx23, hxm, hxn⟩ := HB.out.2.row k _ t hx ht
        dsimp only at s1 hbs hx23 hxm hxn
        have hlen := hbs.len
        have HX := Lib.hid (And.intro ht hlen)
        have hx63 : x2 ≤ 9223372036854775807 := Nat.le_trans hx23 hxm
        clear hcell hbs hx ht hlen
        by_cases h100 : x2 ≤ 100
        · have h1 : (x2 : Int) ≤ 100 := by omega
          have h1' : ¬ (100 : Int) < x2 := by omega
          go_wp2
          refine ⟨⟨k + 1, z + x2, by omega, by omega, by go_num, by go_num, by omega, fun p t' hp ht' => ?_, trivial⟩, by simp [intOf]; omega⟩
          rcases Nat.lt_or_ge p k with h2 | h2
          · have := HZ.out p t' h2 ht'; omega
          · obtain rfl : p = k := by omega
            have := HX.out.1.symm.trans ht'
            cases this
            rw [HX.out.2]
            omega
        · have h1 : ¬ (x2 : Int) ≤ 100 := by omega
          have h1' : (100 : Int) < x2 := by omega
          go_wp2
          refine ⟨⟨k + 1, z + 100, by omega, by omega, by go_num, by go_num, by omega, fun p t' hp ht' => ?_, trivial⟩, by simp [intOf]; omega⟩
          rcases Nat.lt_or_ge p k with h2 | h2
          · have := HZ.out p t' h2 ht'; omega
          · omega
      · have h4i : ¬ (k : Int) ≤ 4 := by omega
        have hn4 : ¬ (n : Int) ≤ 4 := by omega
        go_wp2
        go_ret
        exact ⟨false, rfl, (fun h => by cases h), HB.out.1⟩
    · have hlti : ¬ (k : Int) < n := by omega
      by_cases h4 : n ≤ 4
      · have h4i : (n : Int) ≤ 4 := by omega
        by_cases h80 : z ≤ 80
        · have h80i : (z : Int) ≤ 80 := by omega
          go_wp2
          go_ret
          refine ⟨true, rfl, fun _ => ⟨h4, fun p t ht => ?_⟩, HB.out.1⟩
          have hp := (List.getElem?_eq_some_iff.1 ht).1
          rw [HB.out.2.len] at hp
          have := HZ.out p t (by omega) ht
          omega
        · have h80i : ¬ (z : Int) ≤ 80 := by omega
          go_wp2
          go_ret
          exact ⟨false, rfl, (fun h => by cases h), HB.out.1⟩
      · have h4i : ¬ (n : Int) ≤ 4 := by omega
        go_wp2
        go_ret
        exact ⟨false, rfl, (fun h => by cases h), HB.out.1⟩
end
end Go.Proofs.YtdnjnbfmmgkpjaaDoor
