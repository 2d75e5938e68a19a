/-
  Rows of three numbers each in memory: tones, pixels; where a tone has its samples.
-/
import Derived.Test.YtmadkpnkmkajoaaDoorTG
import Derived.Test.YtmadkpnkmkajoaaDoorTH
namespace Go.Proofs.YtmadkpnkmkajoaaDoor
open Go.RowKit
set_option maxRecDepth 20000

/-- N triples of numbers in a block of memory -/
structure Tri (w : World) (t : TypeId) (g N : Nat) (f : Nat → Nat → Int) : Prop where
  box : ∃ cs, Box w g t cs
  at_ : ∀ j k, j < N → k < 3 → w.cell? ⟨g, j * 3 + k, none⟩ = some (.int .i64 (f j k))
section
variable {w w' : World} {t : TypeId} {g N : Nat} {f f' : Nat → Nat → Int}
theorem Tri.lt (h : Tri w t g N f) : g < w.heap.size := by
  obtain ⟨cs, hb⟩ := h.box
  exact hb.lt
theorem Tri.kept {S : Nat → Prop} (h : Tri w t g N f) (k : Kept S w w') (hS : ¬ S g) : Tri w' t g N f := by
  have hl := h.lt
  obtain ⟨cs, hb⟩ := h.box
  exact ⟨⟨cs, k.box hb hS⟩, fun j i hj hi => (k.cell (p := ⟨g, j * 3 + i, none⟩) hl hS).trans (h.at_ j i hj hi)⟩
theorem Tri.on (h : Tri w t g N f) (k : Below w.heap.size w w') : Tri w' t g N f := h.kept (Kept.of_below k (fun _ => False)) (fun h => h)
theorem Tri.congr (h : Tri w t g N f) (e : ∀ j k, j < N → k < 3 → f j k = f' j k) : Tri w t g N f' := ⟨h.box, fun j k hj hk => by rw [← e j k hj hk]; exact h.at_ j k hj hk⟩
theorem Tri.free (h : Tri w t g N f) (i : Nat) : w.frozen? ⟨g, i, none⟩ = false := by
  obtain ⟨cs, hb⟩ := h.box
  exact hb.free i
/-- one number is written -/
theorem Tri.put (h : Tri w t g N f) {j k : Nat} (hj : j < N) (hk : k < 3) (v : Int) : Tri (w.setCell ⟨g, j * 3 + k, none⟩ (.int .i64 v)) t g N (fun j' k' => if j' = j ∧ k' = k then v else f j' k') := by
  obtain ⟨cs, hb⟩ := h.box
  refine ⟨⟨_, hb.put _ _⟩, fun j' k' hj' hk' => ?_⟩
  by_cases e : j' = j ∧ k' = k
  · obtain ⟨rfl, rfl⟩ := e
    rw [World.cell?_setCell_same _ _ _ (h.at_ _ _ hj' hk')]
    simp
  · rw [World.cell?_setCell_other _ _ _ _ (by intro e2; injection e2 with e3 e4; apply e; omega), h.at_ _ _ hj' hk', if_neg e]
/-- a triple is written -/
theorem Tri.put3 (h : Tri w t g N f) {j : Nat} (hj : j < N) (a b c : Int) : Tri (w.setCells g (j * 3) [.int .i64 a, .int .i64 b, .int .i64 c]) t g N (fun j' k' => if j' = j then (if k' = 0 then a else if k' = 1 then b else c) else f j' k') := by
  have h1 := ((h.put hj (show 0 < 3 by omega) a).put hj (show 1 < 3 by omega) b).put hj (show 2 < 3 by omega) c
  refine Tri.congr (show Tri (w.setCells g (j * 3) [.int .i64 a, .int .i64 b, .int .i64 c]) t g N _ from h1) fun j' k' _ hk' => ?_
  by_cases e : j' = j
  · subst e
    rcases (show k' = 0 ∨ k' = 1 ∨ k' = 2 by omega) with rfl | rfl | rfl <;> simp
  · simp [e]
theorem Tri.there (h : Tri w t g N f) {j : Nat} (hj : j < N) : w.there g (j * 3) 3 := fun k hk => ⟨by rw [h.at_ j k hj hk]; rfl, h.free _⟩
end
theorem kept_cells3 (b : Nat) : ∀ (vs : List Value) (o : Nat) (w : World), Kept (fun i => i = b) w (w.setCells b o vs)
  | [], _, w => Kept.refl _ w
  | v :: r, o, w => ((Kept.refl (fun i => i = b) w).setCell (p := ⟨b, o, none⟩) (fun _ => rfl) v).trans (kept_cells3 b r (o + 1) _) (fun _ _ h => h)
/-- a triple is written whole, at a plain region's list -/
theorem wpList_store_tri3 {ops : Array Oper} {rest : List Oper} {op : Oper} {a : Act} {w : World} {Q : Exit → Act → World → Prop} (hgd : op.guard = none) (t : TypeId) (x y : Operand) (ho : op.op = .store t x y) (hd : op.dst = none)
    (g N j : Nat) (f : Nat → Nat → Int) (h : Tri w t g N f) (hj : j < N) (c0 c1 c2 : Int) (hsz : (Tryd.prog.info? t).map (·.size) = some 3) (hx : a.eval x = .pointer (some ⟨g, j * 3, none⟩)) (hy : a.eval y = .agg #[.int .i64 c0, .int .i64 c1, .int .i64 c2])
    (hK : ∀ w', Tri w' t g N (fun j' k' => if j' = j then (if k' = 0 then c0 else if k' = 1 then c1 else c2) else f j' k') → Kept (fun i => i = g) w w' → wpList Tryd.prog ops Q rest a w') : wpList Tryd.prog ops Q (op :: rest) a w := by
  refine wpList_store_mid hgd t x y ho g (j * 3) #[.int .i64 c0, .int .i64 c1, .int .i64 c2] hx hy (h.there hj) (by rw [hsz]; rfl) (by kernel_rfl) ?_
  rw [hd]
  exact hK _ (h.put3 hj c0 c1 c2) (kept_cells3 _ _ _ _)
/-- a triple is loaded -/
theorem load_tri3 {w : World} {t : TypeId} {g N j : Nat} {f : Nat → Nat → Int} (h : Tri w t g N f) (hj : j < N) {d : Array Field} (hu : Tryd.prog.underlying t = some (.struct d)) (hsz : (Tryd.prog.info? t).map (·.size) = some 3) :
    (Instr.loadAt t (.pointer (some ⟨g, j * 3, none⟩))).run Tryd.prog w = .ok (.agg #[.int .i64 (f j 0), .int .i64 (f j 1), .int .i64 (f j 2)]) w :=
  run_loadAt_mid w g (j * 3) t [.int .i64 (f j 0), .int .i64 (f j 1), .int .i64 (f j 2)] (.struct d) (fun k u hk => by
    have h3 : k < 3 := (List.getElem?_eq_some_iff.1 hk).1
    rw [h.at_ j k hj h3, ← hk]
    rcases (show k = 0 ∨ k = 1 ∨ k = 2 by omega) with rfl | rfl | rfl <;> rfl) hu rfl (by rw [hsz]; rfl)
theorem tone_size3 : (Tryd.prog.info? 63).map (·.size) = some 3 := by kernel_rfl
theorem pix_size3 : (Tryd.prog.info? 52).map (·.size) = some 3 := by kernel_rfl
theorem tone_info : (Tryd.prog.info? 63).map (fun i => (i.zero, i.size, i.bytes)) = some (some (.agg #[.int .i64 0, .int .i64 0, .int .i64 0]), 3, 24) := by kernel_rfl
theorem pix_info : (Tryd.prog.info? 52).map (fun i => (i.zero, i.size, i.bytes)) = some (some (.agg #[.int .i64 0, .int .i64 0, .int .i64 0]), 3, 24) := by kernel_rfl
theorem made3_at (n : Nat) {i : Nat} (hi : i < n * 3) : (madeCells (Value.agg #[.int .i64 0, .int .i64 0, .int .i64 0]).cells (n * 3))[i]? = some (.int .i64 0) := by
  unfold madeCells
  rw [Array.getElem?_map, Array.getElem?_range]
  rw [if_pos hi]
  have : i % 3 = 0 ∨ i % 3 = 1 ∨ i % 3 = 2 := by omega
  show some ((#[Value.int .i64 0, .int .i64 0, .int .i64 0] : Array Value)[i % 3]!) = _
  rcases this with e | e | e <;> rw [e] <;> rfl
/-- a slice of triples is made -/
theorem make_tri (ty t : TypeId) (hu : Tryd.prog.underlying ty = some (.slice t)) (hi : (Tryd.prog.info? t).map (fun i => (i.zero, i.size, i.bytes)) = some (some (.agg #[.int .i64 0, .int .i64 0, .int .i64 0]), 3, 24)) (n : Nat) (hn : n ≤ 2000) :
    ∃ M : Array Value, (∀ w, (Instr.makeSlice ty (.int .i64 (n : Int)) (.int .i64 (n : Int))).run Tryd.prog w = .ok (.slice (some ⟨w.heap.size, 0, none⟩) n n) (w.alloc (.cells M t))) ∧ ∀ w : World, Tri (w.alloc (.cells M t)) t w.heap.size n (fun _ _ => 0) := by
  obtain ⟨i0, hi0, h2⟩ := Option.map_eq_some_iff.1 hi
  simp only [Prod.mk.injEq] at h2
  obtain ⟨hz0, hz1, hz2⟩ := h2
  refine ⟨madeCells (Value.agg #[.int .i64 0, .int .i64 0, .int .i64 0]).cells (n * i0.size), fun w => ?_, fun w => ⟨⟨_, Box.made _ _ _⟩, fun j k hj hk => ?_⟩⟩
  · have := run_make (P := Tryd.prog) w ty t i0 _ hu hi0 hz0 .i64 .i64 (n : Int) (n : Int) (by omega) (Int.le_refl _) (by rw [hz2]; omega) (by omega)
    simpa using this
  · rw [(Box.made w t _).cell, hz1]
    exact made3_at n (by omega)

/-- where a tone has its samples: functions -/
def smpV (k : Nat) : Value := .func (.func (60 + k)) #[] #[]
def SamplesY (w : World) (K : Int) (e : Ending) (w' : World) : Prop := ∃ g, e = .returned (.slice (some ⟨g, 0, none⟩) (nP K) (nP K)) ∧ w.heap.size ≤ g ∧ g < w'.heap.size ∧ (∀ k, k < nP K → w'.cell? ⟨g, k, none⟩ = some (smpV k)) ∧ Below w.heap.size w w'
theorem fns_size : (Tryd.prog.info? 99).map (·.size) = some 3 := by kernel_rfl
/-- the functions are laid -/
theorem wpList_store_fns {ops : Array Oper} {rest : List Oper} {o : Oper} {a : Act} {w : World} {Q : Exit → Act → World → Prop} (hgd : o.guard = none) (x y : Operand) (ho : o.op = .store 99 x y) (hd : o.dst = none)
    (g : Nat) (hx : a.eval x = .pointer (some ⟨g, 0, none⟩)) (hy : a.eval y = .agg #[.func (.func 60) #[] #[], .func (.func 61) #[] #[], .func (.func 62) #[] #[]]) (hg : Box w g 99 #[.nilFunc, .nilFunc, .nilFunc])
    (h : ∀ w', Box w' g 99 #[.func (.func 60) #[] #[], .func (.func 61) #[] #[], .func (.func 62) #[] #[]] → Kept (fun i => i = g) w w' → wpList Tryd.prog ops Q rest a w') : wpList Tryd.prog ops Q (o :: rest) a w :=
  wpList_store_box hgd 99 x y ho hd g _ hx hy _ hg rfl fns_size (by kernel_rfl) h
set_option maxHeartbeats 1600000 in
theorem samples_any (w : World) (K : Int) : Calls Tryd.prog 31 #[.int .i64 K] w (SamplesY w K) := by
  have hz : ∀ w, (zeroValue 99).run Tryd.prog w = .ok (.agg #[.nilFunc, .nilFunc, .nilFunc]) w := fun w => by kernel_rfl
  by_cases h : K = 0
  · subst h
    go_enter Tryd.func31, Tryd.ntmps31
    go_wp2_with (first
      | ((with_reducible refine wpList_store_fns (o := ⟨none, _, _, _, _, _⟩) rfl (.tmp 3) (.tmp 5) rfl rfl w.heap.size rfl rfl (Box.made _ _ _) ?_)
         intro w9 b9 k9
         have H9 := Lib.hid (And.intro b9 (laid_below k9))
         clear b9 k9)
      | fail)
    go_ret
    exact ⟨_, rfl, Nat.le_refl _, H9.out.1.lt, fun k hk => by
      obtain rfl : k = 0 := by have : nP 0 = 1 := rfl; omega
      exact H9.out.1.cell 0, H9.out.2⟩
  · have e : nP K = 3 := if_neg h
    unfold SamplesY
    rw [e]
    clear e
    go_enter Tryd.func31, Tryd.ntmps31
    go_wp2_with (first
      | ((with_reducible refine wpList_store_fns (o := ⟨none, _, _, _, _, _⟩) rfl (.tmp 3) (.tmp 5) rfl rfl w.heap.size rfl rfl (Box.made _ _ _) ?_)
         intro w9 b9 k9
         have H9 := Lib.hid (And.intro b9 (laid_below k9))
         clear b9 k9)
      | fail)
    go_ret
    exact ⟨_, rfl, Nat.le_refl _, H9.out.1.lt, fun k hk => by
      rcases (show k = 0 ∨ k = 1 ∨ k = 2 by omega) with rfl | rfl | rfl
      · exact H9.out.1.cell 0
      · exact H9.out.1.cell 1
      · exact H9.out.1.cell 2, H9.out.2⟩
theorem smp0_any (w : World) (b o : Nat) : Calls Tryd.prog 60 #[.pointer (some ⟨b, o, none⟩)] w fun e w' => e = .returned (.pointer (some ⟨b, o, none⟩)) ∧ w = w' := by
  go_enter Tryd.func60, Tryd.ntmps60
  go_wp2_with fail
  go_ret
  exact ⟨rfl, rfl⟩
theorem smp1_any (w : World) (b o : Nat) : Calls Tryd.prog 61 #[.pointer (some ⟨b, o, none⟩)] w fun e w' => e = .returned (.pointer (some ⟨b, o + 1, none⟩)) ∧ w = w' := by
  go_enter Tryd.func61, Tryd.ntmps61
  go_wp2_with fail
  go_ret
  exact ⟨rfl, rfl⟩
theorem smp2_any (w : World) (b o : Nat) : Calls Tryd.prog 62 #[.pointer (some ⟨b, o, none⟩)] w fun e w' => e = .returned (.pointer (some ⟨b, o + 2, none⟩)) ∧ w = w' := by
  go_enter Tryd.func62, Tryd.ntmps62
  go_wp2_with fail
  go_ret
  exact ⟨rfl, rfl⟩
theorem smp_any (w : World) (b o p : Nat) (hp : p < 3) : Calls Tryd.prog (60 + p) #[.pointer (some ⟨b, o, none⟩)] w fun e w' => e = .returned (.pointer (some ⟨b, o + p, none⟩)) ∧ w = w' := by
  rcases (show p = 0 ∨ p = 1 ∨ p = 2 by omega) with rfl | rfl | rfl
  · exact smp0_any w b o
  · exact smp1_any w b o
  · exact smp2_any w b o
theorem smp_calls (p : Nat) (hp : p < 3) : ∀ (args : Array Value) (w : World), (callFunc (60 + p) args).run Tryd.prog w = .ok (.enter (60 + p) args) w := by
  rcases (show p = 0 ∨ p = 1 ∨ p = 2 by omega) with rfl | rfl | rfl
  · exact fun args w => by kernel_rfl
  · exact fun args w => by kernel_rfl
  · exact fun args w => by kernel_rfl
end Go.Proofs.YtmadkpnkmkajoaaDoor
