/-
  Tables (196 cells) and what is known (210 cells) in memory: told by their cells one by one; what is read of them, and what is written into them. Layer 13's mathematics: streams of segments as lists of bytes; what is known behind one. No code.
-/
import Derived.Test.YtgipngedmblnmaaDoorOrder
namespace Go.Proofs.YtgipngedmblnmaaDoor
open Go.RowKit

/-- tables: of brightness (0) and of colour (1) the steps; the specifications: DC 0 and 1, AC 2 and 3 -/
structure Tb where
  t : Nat → List Int
  B : Nat → List Int
  V : Nat → List Int
/-- what is known: the flags 0 to 8 (HasSteps, HasDC, HasAC, Frame, Started, Over), the numbers 0 to 4 (W, H, Kind, Restart, At) -/
structure Kv where
  tb : Tb
  F : Nat → Bool
  N : Nat → Int
/-- lists as long as they must be -/
structure Wt (T : Tb) : Prop where
  st : ∀ i, i < 2 → (T.t i).length = 64
  sb : ∀ j, j < 4 → (T.B j).length = 16
/-- the cells of tables: X are the four slices -/
def tbAt (T : Tb) (X : Nat → Value) (k : Nat) : Value :=
  if k < 128 then .int .i64 ((T.t (k / 64)).getD (k % 64) 0) else if (k - 128) % 17 < 16 then .int .i64 ((T.B ((k - 128) / 17)).getD ((k - 128) % 17) 0) else X ((k - 128) / 17)
def kvAt (K : Kv) (X : Nat → Value) (k : Nat) : Value :=
  if k < 196 then tbAt K.tb X k else if k < 205 then .bool (K.F (k - 196)) else .int .i64 (K.N (k - 205))
def tbC (T : Tb) (X : Nat → Value) : List Value := (List.range 196).map (tbAt T X)
def kvC (K : Kv) (X : Nat → Value) : List Value := (List.range 210).map (kvAt K X)
def tbV (T : Tb) (X : Nat → Value) : Value := .agg (tbC T X).toArray
def kvV (K : Kv) (X : Nat → Value) : Value := .agg (kvC K X).toArray
theorem tbC_len (T : Tb) (X : Nat → Value) : (tbC T X).length = 196 := by rw [tbC, List.length_map, List.length_range]
theorem kvC_len (K : Kv) (X : Nat → Value) : (kvC K X).length = 210 := by rw [kvC, List.length_map, List.length_range]
theorem tbC_get (T : Tb) (X : Nat → Value) {k : Nat} (h : k < 196) : (tbC T X)[k]? = some (tbAt T X k) := by rw [tbC, List.getElem?_map, List.getElem?_range h]; rfl
theorem kvC_get (K : Kv) (X : Nat → Value) {k : Nat} (h : k < 210) : (kvC K X)[k]? = some (kvAt K X k) := by rw [kvC, List.getElem?_map, List.getElem?_range h]; rfl
section
variable {T : Tb} {K : Kv} {X : Nat → Value}
theorem tbAt_t {i k : Nat} (hi : i < 2) (hk : k < 64) : tbAt T X (64 * i + k) = .int .i64 ((T.t i).getD k 0) := by
  unfold tbAt
  rw [if_pos (by omega), show (64 * i + k) / 64 = i by omega, show (64 * i + k) % 64 = k by omega]
theorem tbAt_b {j k : Nat} (hk : k < 16) : tbAt T X (128 + 17 * j + k) = .int .i64 ((T.B j).getD k 0) := by
  unfold tbAt
  rw [if_neg (by omega), show (128 + 17 * j + k - 128) % 17 = k by omega, if_pos hk, show (128 + 17 * j + k - 128) / 17 = j by omega]
theorem tbAt_x {j : Nat} : tbAt T X (128 + 17 * j + 16) = X j := by
  unfold tbAt
  rw [if_neg (by omega), show (128 + 17 * j + 16 - 128) % 17 = 16 by omega, if_neg (by omega), show (128 + 17 * j + 16 - 128) / 17 = j by omega]
theorem kvAt_f {k : Nat} (h : k < 9) : kvAt K X (196 + k) = .bool (K.F k) := by
  unfold kvAt
  rw [if_neg (by omega), if_pos (by omega), show 196 + k - 196 = k by omega]
theorem kvAt_n {k : Nat} : kvAt K X (205 + k) = .int .i64 (K.N k) := by
  unfold kvAt
  rw [if_neg (by omega), if_neg (by omega), show 205 + k - 205 = k by omega]
theorem kvAt_tb {k : Nat} (h : k < 196) : kvAt K X k = tbAt K.tb X k := if_pos h
theorem tb_one (hX : ∀ j, (X j).oneCell' = true) : ∀ u ∈ tbC T X, u.oneCell' = true := by
  intro u hu
  obtain ⟨k, _, rfl⟩ := List.mem_map.1 hu
  unfold tbAt
  split
  · rfl
  · split
    · rfl
    · exact hX _
theorem kv_one (hX : ∀ j, (X j).oneCell' = true) : ∀ u ∈ kvC K X, u.oneCell' = true := by
  intro u hu
  obtain ⟨k, hk, rfl⟩ := List.mem_map.1 hu
  rw [List.mem_range] at hk
  unfold kvAt
  split
  · rename_i h
    exact tb_one hX _ (List.mem_of_getElem? (tbC_get K.tb X h))
  · split <;> rfl
end
/-- tables at the head of a block -/
def TbR (w : World) (g : Nat) (T : Tb) (X : Nat → Value) : Prop := w.rangeAt g 0 (tbC T X)
section
variable {w w' : World} {g : Nat} {T : Tb} {K : Kv} {X : Nat → Value}
theorem TbR.cell (h : TbR w g T X) {k : Nat} (hk : k < 196) : w.cell? ⟨g, k, none⟩ = some (tbAt T X k) := by
  have := h k _ (tbC_get T X hk)
  rwa [Nat.zero_add] at this
theorem TbR.steps (h : TbR w g T X) (hT : Wt T) {i : Nat} (hi : i < 2) : w.rangeAt g (64 * i) (cellsI (T.t i)) := by
  intro k u hu
  have hk := (List.getElem?_eq_some_iff.1 hu).1
  rw [cellsI_len, hT.st i hi] at hk
  rw [h.cell (by omega), tbAt_t hi hk, ← hu, cellsI_get _ _ (by rw [hT.st i hi]; exact hk)]
theorem TbR.spec (h : TbR w g T X) (hT : Wt T) {j : Nat} (hj : j < 4) : w.rangeAt g (128 + 17 * j) (cellsI (T.B j) ++ [X j]) := by
  intro k u hu
  have hl := hT.sb j hj
  have hk := (List.getElem?_eq_some_iff.1 hu).1
  rw [List.length_append, cellsI_len, hl] at hk
  have hk' : k < 17 := hk
  rcases Nat.lt_or_ge k 16 with h16 | h16
  · rw [List.getElem?_append_left (by rw [cellsI_len, hl]; exact h16)] at hu
    rw [h.cell (by omega), tbAt_b h16, ← hu, cellsI_get _ _ (by rw [hl]; exact h16)]
  · obtain rfl : k = 16 := by omega
    rw [List.getElem?_append_right (by rw [cellsI_len, hl]; exact Nat.le_refl _), cellsI_len, hl] at hu
    rw [h.cell (by omega), tbAt_x, ← hu]
    rfl
theorem Box.tb (h : Box w g 31 (tbC T X).toArray) : TbR w g T X := by
  intro k u hu
  rw [Nat.zero_add, h.cell k]
  simpa using hu
theorem Box.kv (h : Box w g 46 (kvC K X).toArray) {k : Nat} (hk : k < 210) : w.cell? ⟨g, k, none⟩ = some (kvAt K X k) := by
  rw [h.cell k, List.getElem?_toArray, kvC_get K X hk]
theorem Box.kvtb (h : Box w g 46 (kvC K X).toArray) : TbR w g K.tb X := by
  intro k u hu
  have hk := (List.getElem?_eq_some_iff.1 hu).1
  rw [tbC_len] at hk
  rw [Nat.zero_add, h.kv (by omega), kvAt_tb hk, ← hu, tbC_get _ _ hk]
theorem Box.kvF (h : Box w g 46 (kvC K X).toArray) {k : Nat} (hk : k < 9) : w.cell? ⟨g, 196 + k, none⟩ = some (.bool (K.F k)) := by rw [h.kv (by omega), kvAt_f hk]
theorem Box.kvN (h : Box w g 46 (kvC K X).toArray) {k : Nat} (hk : k < 5) : w.cell? ⟨g, 205 + k, none⟩ = some (.int .i64 (K.N k)) := by rw [h.kv (by omega), kvAt_n]
theorem Box.kvX (h : Box w g 46 (kvC K X).toArray) {j : Nat} (hj : j < 4) : w.cell? ⟨g, 128 + 17 * j + 16, none⟩ = some (X j) := by rw [h.kv (by omega), kvAt_tb (by omega), tbAt_x]
end
theorem tb_size : (Tryd.prog.info? 31).map (·.size) = some 196 := by kernel_rfl
theorem kv_size : (Tryd.prog.info? 46).map (·.size) = some 210 := by kernel_rfl
section
variable {w w' : World} {g : Nat} {T : Tb} {K : Kv} {X : Nat → Value}
theorem TbR.load (h : TbR w g T X) : (Instr.loadAt 31 (.pointer (some ⟨g, 0, none⟩))).run Tryd.prog w = .ok (tbV T X) w :=
  run_loadAt_mid w g 0 31 (tbC T X) _ h Tryd.underlying31 rfl (by rw [tb_size, tbC_len])
theorem TbR.loadT (h : TbR w g T X) (hT : Wt T) {i : Nat} (hi : i < 2) : (Instr.loadAt 23 (.pointer (some ⟨g, 64 * i, none⟩))).run Tryd.prog w = .ok (blkV (T.t i)) w :=
  run_loadAt_mid w g (64 * i) 23 (cellsI (T.t i)) _ (h.steps hT hi) Tryd.underlying23 rfl (by rw [arr23_size, cellsI_len, hT.st i hi])
theorem TbR.loadS (h : TbR w g T X) (hT : Wt T) {j : Nat} (hj : j < 4) : (Instr.loadAt 28 (.pointer (some ⟨g, 128 + 17 * j, none⟩))).run Tryd.prog w = .ok (specV (T.B j) (X j)) w :=
  run_loadAt_mid w g (128 + 17 * j) 28 (cellsI (T.B j) ++ [X j]) _ (h.spec hT hj) Tryd.underlying28 rfl (by rw [spec_size, List.length_append, cellsI_len, hT.sb j hj]; rfl)
theorem Box.loadK (h : Box w g 46 (kvC K X).toArray) : (Instr.loadAt 46 (.pointer (some ⟨g, 0, none⟩))).run Tryd.prog w = .ok (kvV K X) w := by
  refine run_loadAt_mid w g 0 46 (kvC K X) _ (fun k u hu => ?_) Tryd.underlying46 rfl (by rw [kv_size, kvC_len])
  rw [Nat.zero_add, h.cell k]
  simpa using hu
theorem loadVar_kv (h : Box w g 46 (kvC K X).toArray) : (loadVar 46 ⟨g, 0, none⟩).run Tryd.prog w = .ok (kvV K X) w :=
  run_loadVar_row w g 46 46 _ (0, 0) _ h Tryd.underlying46 rfl (by rw [kv_size, List.size_toArray, kvC_len])
theorem loadVar_tb (h : Box w g 31 (tbC T X).toArray) : (loadVar 31 ⟨g, 0, none⟩).run Tryd.prog w = .ok (tbV T X) w :=
  run_loadVar_row w g 31 31 _ (0, 0) _ h Tryd.underlying31 rfl (by rw [tb_size, List.size_toArray, tbC_len])
end
/-- what is known is written whole -/
theorem wp_store_kv {o : Oper} {a : Act} {w : World} {Kp : Act → World → Prop} {Q : Exit → Act → World → Prop} (x y : Operand) (ho : o.op = .store 46 x y) (hd : o.dst = none)
    (g : Nat) (K : Kv) (X : Nat → Value) (hX : ∀ j, (X j).oneCell' = true) (hx : a.eval x = .pointer (some ⟨g, 0, none⟩)) (hy : a.eval y = kvV K X) (old : Array Value) (hg : Box w g 46 old) (hold : old.size = 210)
    (h : ∀ w', Box w' g 46 (kvC K X).toArray → Kept (fun i => i = g) w w' → Kp a w') : Oper.wp Tryd.prog o a w Kp Q := by
  refine wp_store_row 46 x y ho g (kvC K X).toArray hx hy 46 old hg (by rw [kv_size, List.size_toArray, kvC_len]) (by rw [hold, List.size_toArray, kvC_len]) (all_oneCell_toArray (kv_one hX)) ?_
  rw [hd]
  exact h _ (setRow_heap w g old _ 46 _ hg) ⟨rfl, rfl, rfl, by simp, fun k _ hk => setRow_other w g k _ hk⟩
theorem wpList_store_kv {ops : Array Oper} {rest : List Oper} {o : Oper} {a : Act} {w : World} {Q : Exit → Act → World → Prop} (hgd : o.guard = none) (x y : Operand) (ho : o.op = .store 46 x y) (hd : o.dst = none)
    (g : Nat) (K : Kv) (X : Nat → Value) (hX : ∀ j, (X j).oneCell' = true) (hx : a.eval x = .pointer (some ⟨g, 0, none⟩)) (hy : a.eval y = kvV K X) (old : Array Value) (hg : Box w g 46 old) (hold : old.size = 210)
    (h : ∀ w', Box w' g 46 (kvC K X).toArray → Kept (fun i => i = g) w w' → wpList Tryd.prog ops Q rest a w') : wpList Tryd.prog ops Q (o :: rest) a w :=
  wpList_plain hgd fun _ hK => wp_store_kv x y ho hd g K X hX hx hy old hg hold fun w' h1 h2 => hK _ _ (h w' h1 h2)

/-- cells written one behind the other -/
def layA (cs : Array Value) (o : Nat) : List Value → Array Value
  | [] => cs
  | v :: r => layA (cs.setIfInBounds o v) (o + 1) r
theorem layA_get : ∀ (vs : List Value) (o : Nat) (cs : Array Value), o + vs.length ≤ cs.size → ∀ k, (layA cs o vs)[k]? = if o ≤ k ∧ k < o + vs.length then vs[k - o]? else cs[k]?
  | [], o, cs, _, k => by rw [layA, if_neg (by simp)]
  | v :: r, o, cs, h, k => by
    simp only [List.length_cons] at h ⊢
    rw [layA, layA_get r (o + 1) _ (by simp; omega)]
    by_cases hk : k = o
    · subst hk
      rw [if_neg (by omega), if_pos (by omega), Array.getElem?_setIfInBounds_self_of_lt (by omega), Nat.sub_self]
      rfl
    · by_cases h1 : o + 1 ≤ k ∧ k < o + 1 + r.length
      · rw [if_pos h1, if_pos (by omega), show k - o = (k - (o + 1)) + 1 by omega, List.getElem?_cons_succ]
      · rw [if_neg h1, if_neg (by omega), Array.getElem?_setIfInBounds_ne (by omega)]
theorem kept_setCells (b : Nat) : ∀ (vs : List Value) (o : Nat) (w : World), Kept (fun i => i = b) w (w.setCells b o vs)
  | [], _, w => Kept.refl _ w
  | v :: r, o, w => ((Kept.refl (fun i => i = b) w).setCell (p := ⟨b, o, none⟩) (fun _ => rfl) v).trans (kept_setCells b r (o + 1) _) (fun _ _ h => h)
theorem box_setCells {g t : Nat} : ∀ (vs : List Value) (o : Nat) {w : World} {cs : Array Value}, Box w g t cs → Box (w.setCells g o vs) g t (layA cs o vs)
  | [], _, _, _, h => h
  | v :: r, o, _, _, h => box_setCells r (o + 1) (h.put o v)
theorem box_there {w : World} {g t : Nat} {cs : Array Value} (h : Box w g t cs) {o n : Nat} (hn : o + n ≤ cs.size) : w.there g o n := fun j hj => by
  refine ⟨?_, h.free _⟩
  rw [h.cell (o + j), Array.getElem?_eq_getElem (by omega)]
  rfl
/-- a list is told by its cells -/
theorem kv_ext {cs : Array Value} {K : Kv} {X : Nat → Value} (hs : cs.size = 210) (h : ∀ k, k < 210 → cs[k]? = some (kvAt K X k)) : cs = (kvC K X).toArray := by
  apply Array.ext_getElem?
  intro k
  rcases Nat.lt_or_ge k 210 with hk | hk
  · rw [h k hk, List.getElem?_toArray, kvC_get K X hk]
  · rw [Array.getElem?_eq_none (by omega), Array.getElem?_eq_none (by rw [List.size_toArray, kvC_len]; exact hk)]
theorem layA_size : ∀ (vs : List Value) (o : Nat) (cs : Array Value), (layA cs o vs).size = cs.size
  | [], _, _ => rfl
  | v :: r, o, cs => by rw [layA, layA_size r, Array.size_setIfInBounds]
theorem kvC_size (K : Kv) (X : Nat → Value) : (kvC K X).toArray.size = 210 := by rw [List.size_toArray, kvC_len]
/-- other steps -/
def Tb.setT (T : Tb) (i : Nat) (s : List Int) : Tb := { T with t := fun k => if k = i then s else T.t k }
/-- another specification -/
def Tb.setS (T : Tb) (j : Nat) (B V : List Int) : Tb := { T with B := fun k => if k = j then B else T.B k, V := fun k => if k = j then V else T.V k }
def Kv.setT (K : Kv) (i : Nat) (s : List Int) : Kv := { K with tb := K.tb.setT i s }
def Kv.setS (K : Kv) (j : Nat) (B V : List Int) : Kv := { K with tb := K.tb.setS j B V }
def Kv.setF (K : Kv) (i : Nat) (b : Bool) : Kv := { K with F := fun k => if k = i then b else K.F k }
def Kv.setN (K : Kv) (i : Nat) (z : Int) : Kv := { K with N := fun k => if k = i then z else K.N k }
def updX (X : Nat → Value) (j : Nat) (v : Value) : Nat → Value := fun k => if k = j then v else X k
theorem Wt.setT {T : Tb} (h : Wt T) (i : Nat) {s : List Int} (hs : s.length = 64) : Wt (T.setT i s) := ⟨fun k hk => by unfold Tb.setT; dsimp only; split; exact hs; exact h.st k hk, h.sb⟩
theorem Wt.setS {T : Tb} (h : Wt T) (j : Nat) {B V : List Int} (hB : B.length = 16) : Wt (T.setS j B V) := ⟨h.st, fun k hk => by unfold Tb.setS; dsimp only; split; exact hB; exact h.sb k hk⟩
section
variable {w : World} {g : Nat} {K : Kv} {X : Nat → Value}
theorem Box.putT (h : Box w g 46 (kvC K X).toArray) {i : Nat} (hi : i < 2) {s : List Int} (hs : s.length = 64) : Box (w.setCells g (64 * i) (cellsI s)) g 46 (kvC (K.setT i s) X).toArray := by
  have hb := box_setCells (cellsI s) (64 * i) h
  suffices e : layA (kvC K X).toArray (64 * i) (cellsI s) = (kvC (K.setT i s) X).toArray by rwa [e] at hb
  refine kv_ext (by rw [layA_size, kvC_size]) fun k hk => ?_
  rw [layA_get _ _ _ (by rw [cellsI_len, hs, kvC_size]; omega), cellsI_len, hs]
  by_cases c : 64 * i ≤ k ∧ k < 64 * i + 64
  · obtain ⟨r, rfl⟩ : ∃ r, k = 64 * i + r := ⟨k - 64 * i, by omega⟩
    rw [if_pos c, show 64 * i + r - 64 * i = r by omega, cellsI_get _ _ (by omega), kvAt_tb (by omega), tbAt_t hi (by omega)]
    simp [Kv.setT, Tb.setT]
  · rw [if_neg c, List.getElem?_toArray, kvC_get K X hk]
    unfold kvAt
    split
    · rename_i h196
      unfold tbAt
      split
      · have hne : k / 64 ≠ i := fun e => c (by omega)
        simp [Kv.setT, Tb.setT, hne]
      · rfl
    · rfl
theorem Box.putS (h : Box w g 46 (kvC K X).toArray) {j : Nat} (hj : j < 4) {B V : List Int} (hB : B.length = 16) (v : Value) : Box (w.setCells g (128 + 17 * j) (cellsI B ++ [v])) g 46 (kvC (K.setS j B V) (updX X j v)).toArray := by
  have hb := box_setCells (cellsI B ++ [v]) (128 + 17 * j) h
  suffices e : layA (kvC K X).toArray (128 + 17 * j) (cellsI B ++ [v]) = (kvC (K.setS j B V) (updX X j v)).toArray by rwa [e] at hb
  refine kv_ext (by rw [layA_size, kvC_size]) fun k hk => ?_
  have hl : (cellsI B ++ [v]).length = 17 := by rw [List.length_append, cellsI_len, hB]; rfl
  rw [layA_get _ _ _ (by rw [hl, kvC_size]; omega), hl]
  by_cases c : 128 + 17 * j ≤ k ∧ k < 128 + 17 * j + 17
  · obtain ⟨r, rfl⟩ : ∃ r, k = 128 + 17 * j + r := ⟨k - (128 + 17 * j), by omega⟩
    rw [if_pos c, show 128 + 17 * j + r - (128 + 17 * j) = r by omega, kvAt_tb (by omega)]
    rcases Nat.lt_or_ge r 16 with h16 | h16
    · rw [List.getElem?_append_left (by rw [cellsI_len, hB]; exact h16), cellsI_get _ _ (by omega), tbAt_b h16]
      simp [Kv.setS, Tb.setS]
    · obtain rfl : r = 16 := by omega
      rw [List.getElem?_append_right (by rw [cellsI_len, hB]; exact Nat.le_refl _), cellsI_len, hB, tbAt_x]
      simp [updX]
  · rw [if_neg c, List.getElem?_toArray, kvC_get K X hk]
    unfold kvAt
    split
    · rename_i h196
      unfold tbAt
      split
      · rfl
      · have hne : (k - 128) / 17 ≠ j := fun e => c (by omega)
        split
        · simp [Kv.setS, Tb.setS, hne]
        · simp [updX, hne]
    · rfl
theorem Box.putF (h : Box w g 46 (kvC K X).toArray) {i : Nat} (hi : i < 9) (b : Bool) : Box (w.setCell ⟨g, 196 + i, none⟩ (.bool b)) g 46 (kvC (K.setF i b) X).toArray := by
  have hb := h.put (196 + i) (.bool b)
  suffices e : (kvC K X).toArray.setIfInBounds (196 + i) (.bool b) = (kvC (K.setF i b) X).toArray by rwa [e] at hb
  refine kv_ext (by rw [Array.size_setIfInBounds, kvC_size]) fun k hk => ?_
  by_cases c : k = 196 + i
  · subst c
    rw [Array.getElem?_setIfInBounds_self_of_lt (by rw [kvC_size]; omega), kvAt_f hi]
    simp [Kv.setF]
  · rw [Array.getElem?_setIfInBounds_ne (by omega), List.getElem?_toArray, kvC_get K X hk]
    unfold kvAt
    split
    · rfl
    · split
      · have hne : k - 196 ≠ i := by omega
        simp [Kv.setF, hne]
      · rfl
theorem Box.putN (h : Box w g 46 (kvC K X).toArray) {i : Nat} (z : Int) : Box (w.setCell ⟨g, 205 + i, none⟩ (.int .i64 z)) g 46 (kvC (K.setN i z) X).toArray := by
  have hb := h.put (205 + i) (.int .i64 z)
  suffices e : (kvC K X).toArray.setIfInBounds (205 + i) (.int .i64 z) = (kvC (K.setN i z) X).toArray by rwa [e] at hb
  refine kv_ext (by rw [Array.size_setIfInBounds, kvC_size]) fun k hk => ?_
  by_cases c : k = 205 + i
  · subst c
    rw [Array.getElem?_setIfInBounds_self_of_lt (by rw [kvC_size]; omega), kvAt_n]
    simp [Kv.setN]
  · rw [Array.getElem?_setIfInBounds_ne (by omega), List.getElem?_toArray, kvC_get K X hk]
    unfold kvAt
    split
    · rfl
    · split
      · rfl
      · have hne : k - 205 ≠ i := by omega
        simp [Kv.setN, hne]
end
end Go.Proofs.YtgipngedmblnmaaDoor

namespace Go.Proofs.YtgipngedmblnmaaDoor
open Go.RowKit

/-- a number in two bytes -/
def be2 (n : Int) : List Int := [n / 256 % 256, n % 256]
/-- a segment -/
def segB (m : Int) (b : List Int) : List Int := [255, m] ++ be2 ((b.length : Int) + 2) ++ b
theorem be2_len (n : Int) : (be2 n).length = 2 := rfl
theorem segB_len (m : Int) (b : List Int) : (segB m b).length = b.length + 4 := by simp [segB, be2]
/-- steps, and a specification, as bytes -/
def stepsB (i : Int) (s : List Int) : List Int := i :: (List.range 64).map fun k => s.getD (zn k) 0 % 256
def specB (i : Int) (B V : List Int) : List Int := (i :: B.map (· % 256)) ++ V.map (· % 256)
theorem stepsB_len (i : Int) (s : List Int) : (stepsB i s).length = 65 := by simp [stepsB]
theorem specB_len (i : Int) (B V : List Int) : (specB i B V).length = B.length + V.length + 1 := by simp [specB]; try omega
/-- a header that may be -/
def RightS (W H K R : Int) : Prop := (1 ≤ W ∧ W ≤ 128) ∧ (1 ≤ H ∧ H ≤ 128) ∧ (0 ≤ K ∧ K ≤ 3) ∧ 0 ≤ R ∧ R ≤ 65535
instance (W H K R : Int) : Decidable (RightS W H K R) := by unfold RightS; infer_instance
def howB (K : Int) : Int := if K = 1 then 17 else if K = 2 then 33 else 34
def frameB (W H K : Int) : List Int := [8] ++ be2 H ++ be2 W ++ (if K = 0 then [1, 1, 17, 0] else [3, 1, howB K, 0, 2, 17, 1, 3, 17, 1])
def scanB (K : Int) : List Int := if K = 0 then [1, 1, 0, 0, 63, 0] else [3, 1, 0, 2, 17, 3, 17, 0, 63, 0]
def headB (W H K R : Int) : List Int := [255, 216] ++ segB 192 (frameB W H K) ++ (if 0 < R then segB 221 (be2 R) else []) ++ segB 218 (scanB K)
/-- steps that are right -/
def StepOk (s : List Int) : Prop := ∀ j, j < 64 → 1 ≤ s.getD j 0 ∧ s.getD j 0 ≤ 255
instance (s : List Int) : Decidable (StepOk s) := by unfold StepOk; infer_instance
/-- tables that may be written -/
def OkT (T : Tb) (n : Nat) : Prop := ∀ i, i < n → StepOk (T.t i) ∧ Valid (T.B i) (T.V i) ∧ Valid (T.B (2 + i)) (T.V (2 + i))
def qB (T : Tb) (n : Nat) : List Int := (List.range n).flatMap fun (i : Nat) => stepsB (i : Int) (T.t i)
def hB (T : Tb) (n : Nat) : List Int := (List.range n).flatMap fun (i : Nat) => specB (i : Int) (T.B i) (T.V i) ++ specB (16 + (i : Int)) (T.B (2 + i)) (T.V (2 + i))
def tablesB (T : Tb) (n : Nat) : List Int := [255, 216] ++ segB 219 (qB T n) ++ segB 196 (hB T n) ++ [255, 217]
theorem qB_more (T : Tb) (n : Nat) : qB T (n + 1) = qB T n ++ stepsB (n : Int) (T.t n) := by simp [qB, List.range_succ]
theorem hB_more (T : Tb) (n : Nat) : hB T (n + 1) = hB T n ++ (specB (n : Int) (T.B n) (T.V n) ++ specB (16 + (n : Int)) (T.B (2 + n)) (T.V (2 + n))) := by simp [hB, List.range_succ]
/-- the steps that 64 bytes tell: behind k of them -/
def stF (b : List Int) : Nat → List Int
  | 0 => List.replicate 64 0
  | k + 1 => (stF b k).set (zn k) (b.getD k 0)
theorem stF_len (b : List Int) : ∀ k, (stF b k).length = 64
  | 0 => List.length_replicate
  | k + 1 => by rw [stF, List.length_set, stF_len b k]
/-- nothing is known -/
def kz : Kv := ⟨⟨fun _ => List.replicate 64 0, fun _ => List.replicate 16 0, fun _ => []⟩, fun _ => false, fun _ => 0⟩
theorem kz_wt : Wt kz.tb := ⟨fun _ _ => List.length_replicate, fun _ _ => List.length_replicate⟩
/-- a body of steps: f is how many tables at most -/
def rdSteps : Nat → List Int → Kv → Option Kv
  | 0, _, _ => none
  | f + 1, b, K => if b = [] then some K else if b.length < 65 ∨ 1 < b.getD 0 0 then none else
      if StepOk (stF (b.drop 1) 64) then rdSteps f (b.drop 65) ((K.setT (b.getD 0 0).toNat (stF (b.drop 1) 64)).setF (b.getD 0 0).toNat true) else none
/-- how many values 16 counts tell -/
def allN (b : List Int) : Nat → Nat
  | 0 => 0
  | k + 1 => allN b k + (b.getD k 0).toNat
open Classical in
/-- a body of specifications -/
noncomputable def rdSpecs : Nat → List Int → Kv → Option Kv
  | 0, _, _ => none
  | f + 1, b, K => if b = [] then some K else if b.length < 17 then none else if b.length < 17 + allN (b.drop 1) 16 then none else
      if ¬ Valid ((b.drop 1).take 16) ((b.drop 17).take (allN (b.drop 1) 16)) then none else
      if 1 < b.getD 0 0 % 16 ∨ 1 < b.getD 0 0 / 16 then none else
      rdSpecs f (b.drop (17 + allN (b.drop 1) 16)) ((K.setS (2 * (b.getD 0 0 / 16) + b.getD 0 0 % 16).toNat ((b.drop 1).take 16) ((b.drop 17).take (allN (b.drop 1) 16))).setF (2 + 2 * (b.getD 0 0 / 16) + b.getD 0 0 % 16).toNat true)
/-- a frame's size -/
def frH (b : List Int) : Int := if 5 ≤ b.length then 256 * b.getD 1 0 + b.getD 2 0 else 1
def frW (b : List Int) : Int := if 5 ≤ b.length then 256 * b.getD 3 0 + b.getD 4 0 else 1
def FrOk (b : List Int) (k : Int) : Prop := RightS (frW b) (frH b) k 0 ∧ frameB (frW b) (frH b) k = b
instance (b : List Int) (k : Int) : Decidable (FrOk b k) := by unfold FrOk; infer_instance
def Kv.frame (K : Kv) (b : List Int) (k : Int) : Kv := (((K.setN 0 (frW b)).setN 1 (frH b)).setN 2 k).setF 6 true
/-- a body of a frame: the first kind from k on -/
def rdFrame (b : List Int) (K : Kv) : Option Kv :=
  if K.F 6 then none else if FrOk b 0 then some (K.frame b 0) else if FrOk b 1 then some (K.frame b 1) else if FrOk b 2 then some (K.frame b 2) else if FrOk b 3 then some (K.frame b 3) else none
def rdScan (b : List Int) (K : Kv) : Option Kv := if K.F 6 = true ∧ b = scanB (K.N 2) then some (K.setF 7 true) else none
/-- a known mark -/
def MarkOk (m : Int) : Prop := m = 219 ∨ m = 196 ∨ m = 192 ∨ m = 221 ∨ m = 218 ∨ m = 254 ∨ (224 ≤ m ∧ m ≤ 239)
instance (m : Int) : Decidable (MarkOk m) := by unfold MarkOk; infer_instance
noncomputable def rdBody (m : Int) (b : List Int) (K : Kv) : Option Kv :=
  if m = 219 then rdSteps (b.length + 1) b K else if m = 196 then rdSpecs (b.length + 1) b K else if m = 192 then rdFrame b K else if m = 218 then rdScan b K else
  if m = 221 then (if b.length = 2 then some (K.setN 3 (256 * b.getD 0 0 + b.getD 1 0)) else none) else some K
/-- the segments of a stream, from place p on: l is what is left -/
noncomputable def rdLoop : Nat → List Int → Int → Kv → Kv × Int
  | 0, _, _, _ => (kz, 99)
  | f + 1, l, p, K =>
    if l.length < 1 then (kz, 3) else if l.getD 0 0 ≠ 255 then (kz, 7) else if l.length < 2 then (kz, 3) else
    if l.getD 1 0 = 217 then (if 2 < l.length then (kz, 5) else (K.setF 8 true, 0)) else if ¬ MarkOk (l.getD 1 0) then (kz, 7) else if l.length < 4 then (kz, 3) else
    if 256 * l.getD 2 0 + l.getD 3 0 < 2 then (kz, 4) else if (l.length : Int) < 2 + (256 * l.getD 2 0 + l.getD 3 0) then (kz, 3) else
    match rdBody (l.getD 1 0) ((l.drop 4).take (256 * l.getD 2 0 + l.getD 3 0 - 2).toNat) K with
    | none => (kz, 4)
    | some K' => if K'.F 7 then (K'.setN 4 (p + 2 + (256 * l.getD 2 0 + l.getD 3 0)), 0) else rdLoop f (l.drop (2 + (256 * l.getD 2 0 + l.getD 3 0)).toNat) (p + 2 + (256 * l.getD 2 0 + l.getD 3 0)) K'
/-- what of what was known ahead stays -/
def Kv.old (K : Kv) : Kv := ⟨K.tb, fun k => if k < 6 then K.F k else false, fun _ => 0⟩
/-- P13.2 -/
noncomputable def readF (b : List Int) (K : Kv) : Kv × Int :=
  if b.length < 2 then (kz, 3) else if b.getD 0 0 ≠ 255 ∨ b.getD 1 0 ≠ 216 then (kz, 4) else rdLoop (b.length + 1) (b.drop 2) 2 K.old
end Go.Proofs.YtgipngedmblnmaaDoor
