/-
  The contracts of Put's two functions that see each symbol.
-/
import Derived.Test.YthfpdebpepbejaaDoorSymPut
import Derived.Test.YthfpdebpepbejaaDoorOrder
namespace Go.Proofs.YthfpdebpepbejaaDoor
open Go.RowKit

theorem yieldsIf_load7 {ops : Array Oper} {S : World → Prop} {op : Oper} {a : Act} (hw : Region.wanted op (yielded ops a.tmps) = true) (t : TypeId) (x : Operand) (ho : op.op = .load t x) (u : Value) (hx : a.eval x = u) (v : Value)
    (h : ∀ w, S w → (Instr.loadAt t u).run Tryd.prog w = .ok v w) : YieldsIf Tryd.prog ops S op v a :=
  .inl ⟨hw, fun w hS => by
    unfold execOp
    simp only [ho, hx, Sem.run_bind, h w hS, Result.andThen_ok, Sem.run_pure]⟩
theorem code_pos {B V : List Int} (hv : Valid B V) (v : Int) : (fnd (codes B V) v).isSome = decide (0 < (codeOf (codes B V) v).2) := by
  unfold codeOf
  cases ho : fnd (codes B V) v with
  | none => rfl
  | some en =>
    obtain ⟨h1, _⟩ := hv.code (fnd_some ho).1
    have : 0 < en.2.2 := h1
    simpa using this

section
variable (w : World) (g11 g12 lo hi t : Nat) (B V : List Int) (s : Sym) (f : Bool) (C11 : Array Value)
set_option maxRecDepth 10000 in
set_option maxHeartbeats 1600000 in
theorem put1_any (h : Tb w lo hi t B V (codes B V)) (hv : Valid B V) (h11 : w.cell? ⟨g11, s.1, none⟩ = some (.pointer (some ⟨t, 0, none⟩))) (hs : s.1 < 2) (h12 : Box w g12 4 #[.bool f]) :
    Calls Tryd.prog 41 #[symV s, .pointer (some ⟨g11, 0, none⟩), .pointer (some ⟨g12, 0, none⟩)] w fun e w' => e = .returned (.tuple #[]) ∧ Box w' g12 4 #[.bool (f && (fnd (codes B V) (s.2.1 : Int)).isSome)] ∧ Kept (fun i => i = g12) w w' := by
  rw [code_pos hv]
  obtain ⟨tt, v, z⟩ := s
  dsimp only at hs h11 ⊢
  have hg11 : g11 < w.heap.size := World.block_lt_of_cell? w _ h11
  obtain ⟨w1, hw1⟩ : ∃ w1, w1 = w.alloc (.cells #[.int .i64 (tt : Int), .int .i64 (v : Int), .int .i64 z] 74) := ⟨_, rfl⟩
  have bel : Below w.heap.size w w1 := by rw [hw1]; exact on_alloc _ _
  have hb : Box w1 w.heap.size 74 #[.int .i64 (tt : Int), .int .i64 (v : Int), .int .i64 z] := by rw [hw1]; exact Box.made _ _ _
  have HH := Lib.hid (And.intro hb (And.intro bel (And.intro hw1 (And.intro (h.on bel) (And.intro hv (And.intro (h12.on bel) (fun w' (b : Below w1.heap.size w1 w') => (show w'.cell? ⟨g11, tt, none⟩ = some (.pointer (some ⟨t, 0, none⟩)) from ((on_trans bel b).cell (p := ⟨g11, tt, none⟩) hg11).trans h11))))))))
  have hti : (tt : Int) < 2 := by omega
  have hsv : symV (tt, v, z) = .agg #[.int .i64 (tt : Int), .int .i64 (v : Int), .int .i64 z] := rfl
  rw [hsv]
  clear hsv hb bel hw1 h hv h11 hs h12 hg11
  go_enter Tryd.func41, Tryd.ntmps41
  go_wp2_with fail
  rw [← HH.out.2.2.1]
  have q0 : Hid (Below w1.heap.size w1 w1.drew) := Lib.hid (on_drew w1)
  refine wp_region_held_drew (S := fun w' => Hid (Below w1.heap.size w1 w')) (by kernel_rfl) q0 fun q0 => ?_
  refine take_to (i := 0) (v := .pointer (some ⟨w.heap.size, 0, none⟩)) rfl (by kernel_rfl) (by kernel_rfl) (by kernel_rfl) (fun _ _ _ h => h) (Or.inl ⟨by rfl, fun w' hS => by go_simp⟩) q0 (some 8) rfl ?_
  try simp only [Act.put, List.setIfInBounds_toArray, List.set_cons_zero, List.set_cons_succ]
  refine take_to (i := 1) (v := .int .i64 (tt : Int)) rfl (by kernel_rfl) (by kernel_rfl) (by kernel_rfl) (fun _ _ _ h => h) (Or.inl ⟨by rfl, fun w' hS => by have := (HH.out.1.on hS.out).cell 0; go_simp⟩) q0 (some 9) rfl ?_
  try simp only [Act.put, List.setIfInBounds_toArray, List.set_cons_zero, List.set_cons_succ]
  refine take_to (i := 2) (v := .pointer (some ⟨g11, tt, none⟩)) rfl (by kernel_rfl) (by kernel_rfl) (by kernel_rfl) (fun _ _ _ h => h) (Or.inl ⟨by rfl, fun w' hS => by go_simp⟩) q0 (some 10) rfl ?_
  try simp only [Act.put, List.setIfInBounds_toArray, List.set_cons_zero, List.set_cons_succ]
  refine take_to (i := 3) (v := .pointer (some ⟨t, 0, none⟩)) rfl (by kernel_rfl) (by kernel_rfl) (by kernel_rfl) (fun _ _ _ h => h) (Or.inl ⟨by rfl, fun w' hS => by have := HH.out.2.2.2.2.2.2 w' hS.out; go_simp⟩) q0 (some 11) rfl ?_
  try simp only [Act.put, List.setIfInBounds_toArray, List.set_cons_zero, List.set_cons_succ]
  refine take_to (i := 4) (v := .pointer (some ⟨w.heap.size, 1, none⟩)) rfl (by kernel_rfl) (by kernel_rfl) (by kernel_rfl) (fun _ _ _ h => h) (Or.inl ⟨by rfl, fun w' hS => by go_simp⟩) q0 (some 12) rfl ?_
  try simp only [Act.put, List.setIfInBounds_toArray, List.set_cons_zero, List.set_cons_succ]
  refine take_to (i := 5) (v := .int .i64 (v : Int)) rfl (by kernel_rfl) (by kernel_rfl) (by kernel_rfl) (fun _ _ _ h => h) (Or.inl ⟨by rfl, fun w' hS => by have := (HH.out.1.on hS.out).cell 1; go_simp⟩) q0 (some 13) rfl ?_
  try simp only [Act.put, List.setIfInBounds_toArray, List.set_cons_zero, List.set_cons_succ]
  refine wpAnyH_ready (rs := [6]) (by kernel_rfl) (by simp) ?_
  refine AllReadyH.cons rfl (fun K hK => ?_) AllReadyH.nil
  go_simp
  refine (code_any _ lo hi t B V _ (v : Int) (HH.out.2.2.2.1.on q0.out) (valid_vals HH.out.2.2.2.2.1)).mono ?_
  rintro e w3 ⟨rfl, b3⟩
  have q1 : Hid (Below w1.heap.size w1 w3) := Lib.hid (on_trans q0.out b3)
  clear b3
  obtain ⟨x, hx⟩ : ∃ x, x = codeOf (codes B V) (v : Int) := ⟨_, rfl⟩
  rw [← hx]
  refine hK.out _ _ q1 fun _ => ?_
  clear hK K
  try simp only [Act.put, List.setIfInBounds_toArray, List.set_cons_zero, List.set_cons_succ]
  refine take_to (i := 7) (v := .tuple #[.int .i64 (x.1 : Int), .int .i64 (x.2 : Int), .bool (decide (0 < x.2))]) rfl (by kernel_rfl) (by kernel_rfl) (by kernel_rfl) (fun _ _ _ h => h) (Or.inl ⟨by rfl, fun w' hS => by go_simp⟩) q1 (some 7) rfl ?_
  try simp only [Act.put, List.setIfInBounds_toArray, List.set_cons_zero, List.set_cons_succ]
  refine take_to (i := 8) (v := .int .i64 (x.1 : Int)) rfl (by kernel_rfl) (by kernel_rfl) (by kernel_rfl) (fun _ _ _ h => h) (Or.inl ⟨by rfl, fun w' hS => by go_simp⟩) q1 (some 15) rfl ?_
  try simp only [Act.put, List.setIfInBounds_toArray, List.set_cons_zero, List.set_cons_succ]
  refine take_to (i := 9) (v := .int .i64 (x.2 : Int)) rfl (by kernel_rfl) (by kernel_rfl) (by kernel_rfl) (fun _ _ _ h => h) (Or.inl ⟨by rfl, fun w' hS => by go_simp⟩) q1 (some 16) rfl ?_
  try simp only [Act.put, List.setIfInBounds_toArray, List.set_cons_zero, List.set_cons_succ]
  refine take_to (i := 10) (v := .bool (decide (0 < x.2))) rfl (by kernel_rfl) (by kernel_rfl) (by kernel_rfl) (fun _ _ _ h => h) (Or.inl ⟨by rfl, fun w' hS => by go_simp⟩) q1 (some 17) rfl ?_
  try simp only [Act.put, List.setIfInBounds_toArray, List.set_cons_zero, List.set_cons_succ]
  refine take_to (i := 11) (v := .int .i64 (x.1 : Int)) rfl (by kernel_rfl) (by kernel_rfl) (by kernel_rfl) (fun _ _ _ h => h) (Or.inl ⟨by rfl, fun w' hS => by go_simp⟩) q1 (some 4) rfl ?_
  try simp only [Act.put, List.setIfInBounds_toArray, List.set_cons_zero, List.set_cons_succ]
  refine take_to (i := 12) (v := .int .i64 (x.2 : Int)) rfl (by kernel_rfl) (by kernel_rfl) (by kernel_rfl) (fun _ _ _ h => h) (Or.inl ⟨by rfl, fun w' hS => by go_simp⟩) q1 (some 5) rfl ?_
  try simp only [Act.put, List.setIfInBounds_toArray, List.set_cons_zero, List.set_cons_succ]
  refine take_to (i := 13) (v := .bool (decide (0 < x.2))) rfl (by kernel_rfl) (by kernel_rfl) (by kernel_rfl) (fun _ _ _ h => h) (Or.inl ⟨by rfl, fun w' hS => by go_simp⟩) q1 (some 6) rfl ?_
  try simp only [Act.put, List.setIfInBounds_toArray, List.set_cons_zero, List.set_cons_succ]
  refine wpAnyH_done (by kernel_rfl) ?_ _
  obtain ⟨fo, hfo⟩ : ∃ fo, fo = decide (0 < x.2) := ⟨_, rfl⟩
  rw [← hfo]
  rw [hx] at hfo
  have HFO := Lib.hid hfo
  clear hfo hx q0
  have H3 := Lib.hid (And.intro (HH.out.2.2.2.2.2.1.on q1.out) (on_trans HH.out.2.1 q1.out))
  have c0 : w3.cell? ⟨g12, 0, none⟩ = some (.bool f) := H3.out.1.cell 0
  have f0 := H3.out.1.free 0
  have hk : Kept (fun i => i = g12) w (w3.setCell ⟨g12, 0, none⟩ (.bool (f && fo))) := (Kept.of_below H3.out.2 (fun i => i = g12)).trans ((Kept.refl (fun i => i = g12) w3).setCell (p := ⟨g12, 0, none⟩) (fun _ => rfl) _) (fun _ _ h => h)
  have HK := Lib.hid (And.intro hk (H3.out.1.put 0 (.bool (f && fo))))
  clear hk
  cases f
  · go_wp2
    go_end0
    exact ⟨rfl, by rw [← HFO.out]; exact HK.out.2, HK.out.1⟩
  · cases fo
    · go_wp2
      go_end0
      exact ⟨rfl, by rw [← HFO.out]; exact HK.out.2, HK.out.1⟩
    · go_wp2
      go_end0
      exact ⟨rfl, by rw [← HFO.out]; exact HK.out.2, HK.out.1⟩
end
theorem sym74_size : (Tryd.prog.info? 74).map (·.size) = some 3 := by kernel_rfl
theorem load74 {w : World} {g : Nat} {cs : Array Value} (h : Box w g 74 cs) (hs : cs.size = 3) : (Instr.loadAt 74 (.pointer (some ⟨g, 0, none⟩))).run Tryd.prog w = .ok (.agg cs) w := by
  have := run_loadAt_mid w g 0 74 cs.toList _ (fun j u hu => by rw [Nat.zero_add, h.cell j]; simpa using hu) Tryd.underlying74 rfl (by rw [sym74_size]; simp [hs])
  simpa using this

section
variable (w : World) (g13 g5 g11 lo hi t d : Nat) (B V bs : List Int) (s : Sym)
set_option maxRecDepth 10000 in
set_option maxHeartbeats 1600000 in
theorem put2_any (h : Tb w lo hi t B V (codes B V)) (hv : Valid B V) (hw : Wr w d bs) (hl : bs.length ≤ 1900) (hn : s.2.2.natAbs ≤ 2046) (hf : (fnd (codes B V) (s.2.1 : Int)).isSome = true) (h13 : Box w g13 31 #[.int .i64 0])
    (h5 : w.cell? ⟨g5, 0, none⟩ = some (.pointer (some ⟨d, 0, none⟩))) (h11 : w.cell? ⟨g11, s.1, none⟩ = some (.pointer (some ⟨t, 0, none⟩))) (hs : s.1 < 2) (hd5 : d ≠ g5) (hd11 : d ≠ g11) (h135 : g13 ≠ g5) (h1311 : g13 ≠ g11) :
    Calls Tryd.prog 43 #[symV s, .pointer (some ⟨g13, 0, none⟩), .pointer (some ⟨g5, 0, none⟩), .pointer (some ⟨g11, 0, none⟩)] w fun e w' => e = .returned (.tuple #[]) ∧ (Box w' g13 31 #[.int .i64 0] ∧ Wr w' d (bs ++ symBits (codes B V) s)) ∧ Kept (fun i => i = d ∨ i = g13) w w' := by
  have hg11 : g11 < w.heap.size := World.block_lt_of_cell? w _ h11
  have hg5 : g5 < w.heap.size := World.block_lt_of_cell? w _ h5
  obtain ⟨cs, hcs⟩ : ∃ cs : Array Value, cs = #[.int .i64 (s.1 : Int), .int .i64 (s.2.1 : Int), .int .i64 s.2.2] := ⟨_, rfl⟩
  have hsv : symV s = .agg cs := by rw [hcs]; rfl
  have hcs3 : cs.size = 3 := by rw [hcs]; rfl
  obtain ⟨w1, hw1⟩ : ∃ w1, w1 = w.alloc (.cells cs 74) := ⟨_, rfl⟩
  have bel : Below w.heap.size w w1 := by rw [hw1]; exact on_alloc _ _
  have hb : Box w1 w.heap.size 74 cs := by rw [hw1]; exact Box.made _ _ _
  have hdw : d ≠ w.heap.size := by have := hw.lt; omega
  have h13w : g13 ≠ w.heap.size := by have := h13.lt; omega
  have hd13 : d ≠ g13 := by
    obtain ⟨_, hbd⟩ := hw.box
    exact hbd.apart h13 (by decide)
  have HF := Lib.hid (fun w' (k : Kept (fun i => i = d ∨ i = g13) w1 w') => (show Box w' w.heap.size 74 cs ∧ w'.cell? ⟨w.heap.size, 0, none⟩ = some (.int .i64 (s.1 : Int)) ∧ w'.cell? ⟨g5, 0, none⟩ = some (.pointer (some ⟨d, 0, none⟩)) ∧ w'.cell? ⟨g11, s.1, none⟩ = some (.pointer (some ⟨t, 0, none⟩)) from by
    have hb' := k.box hb (by omega)
    refine ⟨hb', by rw [hb'.cell 0, hcs]; rfl, ?_, ?_⟩
    · exact ((k.cell (p := ⟨g5, 0, none⟩) (Nat.lt_of_lt_of_le hg5 bel.size) (fun h => h.elim (fun e => hd5 e.symm) (fun e => h135 e.symm))).trans (bel.cell (p := ⟨g5, 0, none⟩) hg5)).trans h5
    · exact ((k.cell (p := ⟨g11, s.1, none⟩) (Nat.lt_of_lt_of_le hg11 bel.size) (fun h => h.elim (fun e => hd11 e.symm) (fun e => h1311 e.symm))).trans (bel.cell (p := ⟨g11, s.1, none⟩) hg11)).trans h11))
  have HC := Lib.hid (fun w' (b : Below w1.heap.size w1 w') => symPut_any w' lo hi t d B V bs s ((h.on bel).on b) hv ((hw.on bel).on b) hl hn hf)
  rw [hsv] at HC ⊢
  have c0 : (w.alloc (.cells cs 74)).cell? ⟨g13, 0, none⟩ = some (.int .i64 0) := by rw [← hw1]; exact (h13.on bel).cell 0
  have H1 := Lib.hid (And.intro bel (And.intro hw1 (And.intro (h13.on bel) (And.intro hd13 hcs3))))
  obtain ⟨tt, htt⟩ : ∃ tt, tt = s.1 := ⟨_, rfl⟩
  rw [← htt] at HF hs
  have hti : (tt : Int) < 2 := by omega
  clear hg11 hg5 hsv bel hb hdw h13w h hv hw hl hn hf h13 h5 h11 hs hd5 hd11 h135 h1311 hcs hcs3 hw1 hd13 htt
  go_enter Tryd.func43, Tryd.ntmps43
  go_wp2_with fail
  rw [← H1.out.2.1]
  have q0 : Hid (Kept (fun i => i = d ∨ i = g13) w1 w1.drew) := Lib.hid (Kept.of_below (on_drew w1) _)
  refine wp_region_held_drew (S := fun w' => Hid (Kept (fun i => i = d ∨ i = g13) w1 w')) (by kernel_rfl) q0 fun q0 => ?_
  refine take_to (i := 0) (v := .agg cs) rfl (by kernel_rfl) (by kernel_rfl) (by kernel_rfl) (fun _ _ _ h => h) (yieldsIf_load7 (by rfl) 74 (.tmp 4) rfl (.pointer (some ⟨w.heap.size, 0, none⟩)) rfl (.agg cs) (fun w' h => load74 (HF.out w' h.out).1 H1.out.2.2.2.2)) q0 (some 7) rfl ?_
  try simp only [Act.put, List.setIfInBounds_toArray, List.set_cons_zero, List.set_cons_succ]
  refine take_to (i := 1) (v := .pointer (some ⟨d, 0, none⟩)) rfl (by kernel_rfl) (by kernel_rfl) (by kernel_rfl) (fun _ _ _ h => h) (Or.inl ⟨by rfl, fun w' hS => by have := (HF.out w' hS.out).2.2.1; go_simp⟩) q0 (some 8) rfl ?_
  try simp only [Act.put, List.setIfInBounds_toArray, List.set_cons_zero, List.set_cons_succ]
  refine take_to (i := 2) (v := .pointer (some ⟨w.heap.size, 0, none⟩)) rfl (by kernel_rfl) (by kernel_rfl) (by kernel_rfl) (fun _ _ _ h => h) (Or.inl ⟨by rfl, fun w' hS => by go_simp⟩) q0 (some 9) rfl ?_
  try simp only [Act.put, List.setIfInBounds_toArray, List.set_cons_zero, List.set_cons_succ]
  refine take_to (i := 3) (v := .int .i64 (tt : Int)) rfl (by kernel_rfl) (by kernel_rfl) (by kernel_rfl) (fun _ _ _ h => h) (Or.inl ⟨by rfl, fun w' hS => by have := (HF.out w' hS.out).2.1; go_simp⟩) q0 (some 10) rfl ?_
  try simp only [Act.put, List.setIfInBounds_toArray, List.set_cons_zero, List.set_cons_succ]
  refine take_to (i := 4) (v := .pointer (some ⟨g11, tt, none⟩)) rfl (by kernel_rfl) (by kernel_rfl) (by kernel_rfl) (fun _ _ _ h => h) (Or.inl ⟨by rfl, fun w' hS => by go_simp⟩) q0 (some 11) rfl ?_
  try simp only [Act.put, List.setIfInBounds_toArray, List.set_cons_zero, List.set_cons_succ]
  refine take_to (i := 5) (v := .pointer (some ⟨t, 0, none⟩)) rfl (by kernel_rfl) (by kernel_rfl) (by kernel_rfl) (fun _ _ _ h => h) (Or.inl ⟨by rfl, fun w' hS => by have := (HF.out w' hS.out).2.2.2; go_simp⟩) q0 (some 12) rfl ?_
  try simp only [Act.put, List.setIfInBounds_toArray, List.set_cons_zero, List.set_cons_succ]
  refine wpAnyH_ready (rs := [6]) (by kernel_rfl) (by simp) ?_
  refine AllReadyH.cons rfl (fun K hK => ?_) AllReadyH.nil
  go_simp
  refine (HC.out _ (on_drew w1)).mono ?_
  rintro e w3 ⟨rfl, hw3, k3⟩
  have H3 := Lib.hid (And.intro hw3 (And.intro ((Kept.of_below (on_drew w1) (fun i => i = d)).trans k3 (fun _ _ h => h)) (k3.box (H1.out.2.2.1.on (on_drew w1)) (fun e => H1.out.2.2.2.1 e.symm))))
  have q1 : Hid (Kept (fun i => i = d ∨ i = g13) w1 w3) := Lib.hid (H3.out.2.1.mono (fun i _ h => Or.inl h))
  clear hw3 k3
  refine hK.out _ _ q1 fun _ => ?_
  clear hK K
  try simp only [Act.put, List.setIfInBounds_toArray, List.set_cons_zero, List.set_cons_succ]
  refine wpAnyH_ready (rs := [7]) (by kernel_rfl) (by simp) ?_
  refine AllReadyH.cons rfl (fun K hK => ?_) AllReadyH.nil
  have f0 := H3.out.2.2.free 0
  have c3 : w3.cell? ⟨g13, 0, none⟩ = some (.int .i64 0) := H3.out.2.2.cell 0
  rw [if_pos (by rfl)]
  go_simp
  have kk : Kept (fun i => i = g13) w3 (w3.setCell ⟨g13, 0, none⟩ (.int .i64 0)) := (Kept.refl (fun i => i = g13) w3).setCell (p := ⟨g13, 0, none⟩) (fun _ => rfl) _
  have H4 := Lib.hid (And.intro (H3.out.2.2.put 0 (.int .i64 0)) (And.intro (H3.out.1.kept kk H1.out.2.2.2.1) ((Kept.of_below H1.out.1 (fun i => i = d ∨ i = g13)).trans (q1.out.trans (kk.mono (fun i _ h => Or.inr h)) (fun _ _ h => h)) (fun _ _ h => h))))
  have q2 : Hid (Kept (fun i => i = d ∨ i = g13) w1 (w3.setCell ⟨g13, 0, none⟩ (.int .i64 0))) := Lib.hid (q1.out.trans (kk.mono (fun i _ h => Or.inr h)) (fun _ _ h => h))
  clear kk
  refine hK.out _ _ q2 fun _ => ?_
  clear hK K
  try simp only [Act.put, List.setIfInBounds_toArray, List.set_cons_zero, List.set_cons_succ]
  refine wpAnyH_done (by kernel_rfl) ?_ _
  go_wp2
  go_end0
  exact ⟨rfl, ⟨H4.out.1, H4.out.2.1⟩, H4.out.2.2⟩
end
end Go.Proofs.YthfpdebpepbejaaDoor
