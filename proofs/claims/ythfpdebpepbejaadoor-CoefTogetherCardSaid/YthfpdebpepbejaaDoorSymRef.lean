/-
  The contracts of the reference's symbol and Symbols.
-/
import Derived.Test.YthfpdebpepbejaaDoorAwake7
import Derived.Test.YthfpdebpepbejaaDoorFind
import Derived.Test.YthfpdebpepbejaaDoorRefBytes
namespace Go.Proofs.YthfpdebpepbejaaDoor
open Go.RowKit

/-- a symbol as the reference has it -/
def syE (s : Sym) : En := ((s.2.1 : Int), numB s.2.2, sz s.2.2)
def syV (e : En) : Value := .agg #[.int .i64 e.1, .int .i64 (e.2.1 : Int), .int .i64 (e.2.2 : Int)]
theorem sym_size : (Tryd.prog.info? 38).map (·.size) = some 3 := by kernel_rfl
/-- what symbol tells -/
def Symd (w : World) (run : Nat) (z : Int) (e : Ending) (w' : World) : Prop := e = .returned (syV (((16 * run + sz z : Nat) : Int), numB z, sz z)) ∧ Below w.heap.size w w'

set_option maxHeartbeats 800000 in
theorem symbol_any (w : World) (run : Nat) (z : Int) (hr : run ≤ 1000) (hz : z.natAbs ≤ 2046) : Calls Tryd.prog 36 #[.int .i64 (run : Int), .int .i64 z] w (Symd w run z) := by
  have hs := diff_size hz
  have hz38 : ∀ w, (zeroValue 38).run Tryd.prog w = .ok (.agg #[.int .i64 0, .int .i64 0, .int .i64 0]) w := fun w => by kernel_rfl
  obtain ⟨y, hy⟩ : ∃ y, y = sz z := ⟨_, rfl⟩
  obtain ⟨x, hx⟩ : ∃ x, x = numB z := ⟨_, rfl⟩
  unfold Symd
  rw [← hx, ← hy]
  rw [← hy] at hs
  have hzi : isInt z := by unfold isInt; omega
  have HZ := Lib.hid (And.intro hy (And.intro hx hzi))
  obtain ⟨w1, hw1⟩ : ∃ w1, w1 = w.alloc (.cells #[.int .i64 0, .int .i64 0, .int .i64 0] 38) := ⟨_, rfl⟩
  have bel : Below w.heap.size w w1 := by rw [hw1]; exact on_alloc _ _
  have hb : Box w1 w.heap.size 38 #[.int .i64 0, .int .i64 0, .int .i64 0] := by rw [hw1]; exact Box.made _ _ _
  have HB := Lib.hid (And.intro hb (And.intro bel hw1))
  have f0 := hb.free 0
  have f1 := hb.free 1
  have f2 := hb.free 2
  have c0 : w1.cell? ⟨w.heap.size, 0, none⟩ = some (.int .i64 0) := hb.cell 0
  have c1 : w1.cell? ⟨w.heap.size, 1, none⟩ = some (.int .i64 0) := hb.cell 1
  have c2 : w1.cell? ⟨w.heap.size, 2, none⟩ = some (.int .i64 0) := hb.cell 2
  clear hy hx hzi hb bel hw1
  by_cases hneg : z < 0
  · have hp24 : y ≤ 24 := by omega
    have hP := power_any w1 y hp24
    have hx2 : ((2 ^ y : Nat) : Int) - 1 + z = (x : Int) := by
      have h1 := (sz_le (z := z)).1 (Nat.le_refl _)
      rw [HZ.out.2.1, HZ.out.1]
      unfold numB
      rw [if_pos hneg]
      omega
    obtain ⟨q, hq⟩ : ∃ q : Nat, q = 2 ^ y := ⟨_, rfl⟩
    have hq1 : q ≤ 16777216 := by rw [hq]; exact Nat.le_trans (Nat.pow_le_pow_right (by omega) hp24) (by decide)
    rw [← hq] at hP hx2
    have HP := Lib.hid hP
    clear hP hq
    go_enter Tryd.func36, Tryd.ntmps36
    go_wp2_with fail
    rw [← HB.out.2.2]
    refine (refSize_any w1 z HZ.out.2.2).mono ?_
    rintro e w2 ⟨rfl, rfl⟩
    rw [← HZ.out.1]
    go_wp2_with fail
    refine HP.out.mono ?_
    rintro e w2 ⟨rfl, rfl⟩
    go_wp2_with fail
    have hbx := ((HB.out.1.put 0 (.int .i64 (16 * (run : Int) + y))).put 1 (.int .i64 (x : Int))).put 2 (.int .i64 (y : Int))
    have ecast : ((16 * run + y : Nat) : Int) = 16 * (run : Int) + y := by omega
    refine bodyPost_ret (v := .agg #[.int .i64 (16 * (run : Int) + y), .int .i64 (x : Int), .int .i64 (y : Int)]) (results_cell_row (fn := Tryd.f36) Tryd.results36 _ _ w.heap.size 38 _ (0, 0) _ rfl hbx Tryd.underlying38 rfl sym_size) rfl ?_
    refine ⟨by rw [syV, ecast], (((HB.out.2.1.setCell (p := ⟨w.heap.size, 0, none⟩) (Nat.le_refl _) _).setCell (p := ⟨w.heap.size, 1, none⟩) (Nat.le_refl _) _).setCell (p := ⟨w.heap.size, 2, none⟩) (Nat.le_refl _) _)⟩
  · have hx2 : z = (x : Int) := by
      rw [HZ.out.2.1]
      unfold numB
      rw [if_neg hneg]
      omega
    have HX := Lib.hid hx2
    clear hx2
    go_enter Tryd.func36, Tryd.ntmps36
    go_wp2_with fail
    rw [← HB.out.2.2]
    refine (refSize_any w1 z HZ.out.2.2).mono ?_
    rintro e w2 ⟨rfl, rfl⟩
    rw [← HZ.out.1]
    go_wp2_with fail
    have hbx := ((HB.out.1.put 0 (.int .i64 (16 * (run : Int) + y))).put 1 (.int .i64 z)).put 2 (.int .i64 (y : Int))
    have ecast : ((16 * run + y : Nat) : Int) = 16 * (run : Int) + y := by omega
    refine bodyPost_ret (v := .agg #[.int .i64 (16 * (run : Int) + y), .int .i64 z, .int .i64 (y : Int)]) (results_cell_row (fn := Tryd.f36) Tryd.results36 _ _ w.heap.size 38 _ (0, 0) _ rfl hbx Tryd.underlying38 rfl sym_size) rfl ?_
    refine ⟨by rw [syV, ecast, ← HX.out], (((HB.out.2.1.setCell (p := ⟨w.heap.size, 0, none⟩) (Nat.le_refl _) _).setCell (p := ⟨w.heap.size, 1, none⟩) (Nat.le_refl _) _).setCell (p := ⟨w.heap.size, 2, none⟩) (Nat.le_refl _) _)⟩

theorem sy_info : (Tryd.prog.info? 38).map (fun i => (i.zero, i.size, i.bytes)) = some (some (.agg #[.int .i64 0, .int .i64 0, .int .i64 0]), 3, 24) := by kernel_rfl
theorem te_of_own38 {w : World} {base : Nat} {v : Value} {n : Nat} {L : List En} (h : w.ownsRow base 38 3 v n (cellsE L)) : ∃ A c, v = .slice A n c ∧ Te w A n L ∧ ∀ b off, A = some ⟨b, off, none⟩ → base ≤ b ∧ ∃ cs fr, w.heap[b]? = some (.cells cs 38 fr) := by
  have hl : L.length = n := by have := h.1; rw [cellsE_len] at this; omega
  have hown := h
  rcases h.2 with ⟨rfl, rfl⟩ | ⟨g, cap, cur, rfl, hg, hh, hn, hm, _, _⟩
  · exact ⟨_, 0, rfl, ⟨hl, fun h0 => by omega⟩, fun b off e => by cases e⟩
  · refine ⟨some ⟨g, 0, none⟩, cap, rfl, ⟨hl, fun _ => ⟨g, 0, rfl, (Array.getElem?_eq_some_iff.1 hh).1, fun i e he => ?_⟩⟩, fun b off e => by cases e; exact ⟨hg, _, _, hh⟩⟩
    have hi : i < n := by have := (List.getElem?_eq_some_iff.1 he).1; omega
    obtain ⟨h1, h2, h3⟩ := cellsE_at L i e he
    refine ⟨?_, ?_, ?_⟩
    · rw [Nat.zero_add, hown.cellAt (i * 3) (by omega), h1]
    · rw [Nat.zero_add, hown.cellAt (i * 3 + 1) (by omega), h2]
    · rw [Nat.zero_add, hown.cellAt (i * 3 + 2) (by omega), h3]
/-- an append of one symbol to a row of one's own -/
theorem wpList_append_sy {w : World} {ops : Array Oper} {rest : List Oper} {o : Oper} {a : Act} {Q : Exit → Act → World → Prop} (hgd : o.guard = none) (s x : Operand)
    (ho : o.op = .call { callee := .builtin .append, args := #[s, x], argTypes := #[35, 35] })
    (base : Nat) (v : Value) (n : Nat) (L : List En) (e : En) (hs : a.eval s = v) (hown : w.ownsRow base 38 3 v n (cellsE L)) (g : Nat)
    (hx : a.eval x = .slice (some ⟨g, 0, none⟩) 1 1) (hb : Box w g 38 (cellsEn e).toArray) (hn : n ≤ 1000) (hbase : base ≤ w.heap.size)
    (h : ∀ v' w', w'.ownsRow base 38 3 v' (n + 1) (cellsE (L ++ [e])) → Below base w w' → wpList Tryd.prog ops Q rest (a.put o.dst v') w') : wpList Tryd.prog ops Q (o :: rest) a w := by
  obtain ⟨i0, hi0, h2⟩ := Option.map_eq_some_iff.1 sy_info
  simp only [Prod.mk.injEq] at h2
  obtain ⟨hz0, hz1, hz2⟩ := h2
  refine wpList_append_own _ hgd s x 35 ho base 38 i0 _ 3 24 Tryd.underlying35 hi0 hz0 hz1 hz2 rfl (by omega) v n (cellsE L) hs hown ⟨g, 0, none⟩ 1 1 (cellsEn e) hx rfl ?_ ?_ (by unfold maxLen; omega) (by omega) hbase ?_
  · intro j u hu
    rw [plain_add, Nat.zero_add, hb.cell j]
    simpa using hu
  · intro u hu
    simp [cellsEn] at hu
    rcases hu with rfl | rfl | rfl <;> rfl
  · intro v' w' h1 h2 _
    have e1 : cellsE (L ++ [e]) = cellsE L ++ cellsEn e := by rw [cellsE_app]; simp [cellsE]
    rw [← e1] at h1
    exact h v' w' h1 ((Below.refl base w).grown h2 hbase (fun j hj => (hown.lt j hj).1))

/-- a row of symbols of one's own, at w0 and behind it -/
structure RowS (w0 w : World) (v : Value) (l : List Sym) : Prop where
  own : w.ownsRow w0.heap.size 38 3 v l.length (cellsE (l.map syE))
  bel : Below w0.heap.size w0 w
theorem RowS.on {w0 w w' : World} {v : Value} {l : List Sym} (h : RowS w0 w v l) (k : Below w.heap.size w w') : RowS w0 w' v l :=
  ⟨ownsRow_block h.own fun g _ _ hb => k.block g (Array.getElem?_eq_some_iff.1 hb).1, on_trans h.bel k⟩
end Go.Proofs.YthfpdebpepbejaaDoor
