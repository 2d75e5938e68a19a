/-
  The contract of the reference's Symbols.
-/
import Derived.Test.YthfpdebpepbejaaDoorSymRef
namespace Go.Proofs.YthfpdebpepbejaaDoor
open Go.RowKit

/-- an append of one symbol, and what it keeps -/
theorem wpList_append_sk {w : World} {ops : Array Oper} {rest : List Oper} {o : Oper} {a : Act} {Q : Exit → Act → World → Prop} (hgd : o.guard = none) (s x : Operand)
    (ho : o.op = .call { callee := .builtin .append, args := #[s, x], argTypes := #[35, 35] })
    (base : Nat) (v : Value) (n : Nat) (L : List En) (e : En) (hs : a.eval s = v) (hown : w.ownsRow base 38 3 v n (cellsE L)) (g : Nat)
    (hx : a.eval x = .slice (some ⟨g, 0, none⟩) 1 1) (hb : Box w g 38 (cellsEn e).toArray) (hn : n ≤ 1000) (hbase : base ≤ w.heap.size)
    (h : ∀ v' w', w'.ownsRow base 38 3 v' (n + 1) (cellsE (L ++ [e])) → Kept (fun i => v.ownBlock = some i) w w' → wpList Tryd.prog ops Q rest (a.put o.dst v') w') : wpList Tryd.prog ops Q (o :: rest) a w := by
  obtain ⟨i0, hi0, h2⟩ := Option.map_eq_some_iff.1 sy_info
  simp only [Prod.mk.injEq] at h2
  obtain ⟨hz0, hz1, hz2⟩ := h2
  refine wpList_append_own _ hgd s x 35 ho base 38 i0 _ 3 24 Tryd.underlying35 hi0 hz0 hz1 hz2 rfl (by omega) v n (cellsE L) hs hown ⟨g, 0, none⟩ 1 1 (cellsEn e) hx rfl ?_ ?_ (by unfold maxLen; omega) (by omega) hbase ?_
  · intro j u hu
    rw [plain_add, Nat.zero_add, hb.cell j]
    simpa using hu
  · intro u hu
    simp [cellsEn] at hu
    rcases hu with rfl | rfl | rfl <;> rfl
  · intro v' w' h1 h2 _
    have e1 : cellsE (L ++ [e]) = cellsE L ++ cellsEn e := by rw [cellsE_app]; simp [cellsE]
    rw [← e1] at h1
    exact h v' w' h1 ⟨h2.os, h2.tape, h2.output, h2.size, fun k hk hn => h2.block k hk (fun e => hn e.symm)⟩
theorem own_block {w : World} {base e size n i : Nat} {v : Value} {xs : List Value} (h : w.ownsRow base e size v n xs) (hi : v.ownBlock = some i) : base ≤ i ∧ ∃ cs, w.heap[i]? = some (.cells cs e (0, 0)) := by
  rcases h.2 with ⟨rfl, _⟩ | ⟨g, cap, cur, rfl, hg, hh, _⟩
  · cases hi
  · cases hi
    exact ⟨hg, _, hh⟩

theorem numB_zero : numB 0 = 0 := by unfold numB; rw [if_neg (by omega)]; rfl
/-- how things stand when the symbols l are in the row -/
structure SymSt (w wr : World) (g : Nat) (b : List Int) (A : Option Addr) (c : Nat) (v : Value) (l : List Sym) : Prop where
  row : RowS w wr v l
  blk : Blk wr g b
  ord : Il wr A 64 c zz
section
variable {w wr w' : World} {g c : Nat} {b : List Int} {A : Option Addr} {v v' : Value} {l : List Sym}
theorem SymSt.on (h : SymSt w wr g b A c v l) (k : Below wr.heap.size wr w') : SymSt w w' g b A c v l := ⟨h.row.on k, h.blk.on k, h.ord.on k⟩
theorem SymSt.app (h : SymSt w wr g b A c v l) (s : Sym) (hown : w'.ownsRow w.heap.size 38 3 v' (l.length + 1) (cellsE (l.map syE ++ [syE s]))) (k : Kept (fun i => v.ownBlock = some i) wr w') : SymSt w w' g b A c v' (l ++ [s]) := by
  refine ⟨⟨?_, h.row.bel.trans (k.below h.row.bel.size (fun i hi e => ?_))⟩, h.blk.kept k (fun e => ?_), h.ord.kept k (fun bb off e1 e => ?_)⟩
  · rw [List.length_append, List.map_append]
    exact hown
  · have := (own_block h.row.own e).1
    omega
  · obtain ⟨_, cs, hh⟩ := own_block h.row.own e
    have hb : wr.heap[g]? = some (.cells (cellsI b).toArray 23 (0, 0)) := h.blk.box
    rw [hh] at hb
    simp at hb
  · obtain ⟨_, cs, hh⟩ := own_block h.row.own e
    obtain ⟨cs2, fr, h2⟩ := h.ord.typ bb off e1
    rw [hh] at h2
    simp at h2
end

/-- what Symbols tells -/
def RefSyms (w : World) (prev : Int) (b : List Int) (e : Ending) (w' : World) : Prop :=
  ∃ A n c, e = .returned (.slice A n c) ∧ Te w' A n ((allS prev b).map syE) ∧ n = (allS prev b).length ∧ (∀ bb off, A = some ⟨bb, off, none⟩ → w.heap.size ≤ bb ∧ ∃ cs fr, w'.heap[bb]? = some (.cells cs 38 fr)) ∧ Below w.heap.size w w'

set_option maxRecDepth 10000 in
set_option maxHeartbeats 3200000 in
theorem symbols_any (w : World) (prev : Int) (b : List Int) (hb : b.length = 64) (hr : RightB b) (hp : In prev) : Calls Tryd.prog 19 #[.int .i64 prev, blkV b] w (RefSyms w prev b) := by
  obtain ⟨g, hg⟩ : ∃ g, g = w.heap.size := ⟨_, rfl⟩
  obtain ⟨w1, hw1⟩ : ∃ w1, w1 = w.alloc (.cells (cellsI b).toArray 23) := ⟨_, rfl⟩
  have bel : Below w.heap.size w w1 := by rw [hw1]; exact on_alloc _ _
  have hB : Blk w1 g b := ⟨by rw [hw1, hg]; exact Box.made _ _ _, hb⟩
  obtain ⟨d, hd⟩ : ∃ d, d = b.getD 0 0 - prev := ⟨_, rfl⟩
  have c0 := hB.cell (k := 0) (by omega)
  have hdn := diff_small hr hp
  obtain ⟨x, hx⟩ : ∃ x, x = b.getD 0 0 := ⟨_, rfl⟩
  have hxr := hr 0 (by omega)
  rw [← hx] at c0 hd hdn hxr
  rw [← hd] at hdn
  have hall : allS prev b = (0, sz d, d) :: symsF b 63 1 0 := by rw [hd, hx]; rfl
  have HH := Lib.hid (And.intro hB (And.intro bel (And.intro hw1 hg)))
  have HA := Lib.hid (And.intro hall (And.intro hr hdn))
  have hxp : x - prev = d := hd.symm
  obtain ⟨cs, hcs⟩ : ∃ cs, cs = (cellsI b).toArray := ⟨_, rfl⟩
  have hvc : blkV b = .agg cs := by rw [hcs]; rfl
  rw [hvc]
  have HV := Lib.hid hcs
  unfold In at hp hxr
  obtain ⟨p0, p1⟩ := hp
  obtain ⟨x0, x1⟩ := hxr
  have c0' : (w.alloc (.cells cs 23)).cell? ⟨w.heap.size, 0, none⟩ = some (.int .i64 x) := by rw [hcs, ← hw1, ← hg]; exact c0
  clear hB bel hw1 hall hr hcs hvc hg hb hd hx c0
  go_enter Tryd.func19, Tryd.ntmps19
  go_wp2_with fail
  refine (symbol_any _ 0 d (by omega) HA.out.2.2).mono ?_
  rintro e w2 ⟨rfl, b2⟩
  rw [HV.out, ← HH.out.2.2.1] at b2
  rw [HV.out, ← HH.out.2.2.2]
  have H2 := Lib.hid b2
  clear c0' b2
  unfold syV
  dsimp only
  obtain ⟨w3, hw3⟩ : ∃ w3, w3 = w2.alloc (.cells #[.int .i64 (sz d : Int), .int .i64 (numB d : Int), .int .i64 (sz d : Int)] 38) := ⟨_, rfl⟩
  have b3 : Below w2.heap.size w2 w3 := by rw [hw3]; exact on_alloc _ _
  have hb12 := on_trans HH.out.2.1 H2.out
  have hrow : RowS w w3 (.slice (some ⟨w2.heap.size, 0, none⟩) 1 1) [(0, sz d, d)] := by
    refine ⟨⟨rfl, .inr ⟨w2.heap.size, 1, _, rfl, hb12.size, by rw [hw3]; exact heap_alloc_new w2 _, Nat.le_refl _, by unfold maxLen; omega, rfl, rfl⟩⟩, on_trans hb12 b3⟩
  have H3 := Lib.hid (And.intro hrow (And.intro ((HH.out.1.on H2.out).on b3) hw3))
  clear b3 hb12 hrow hw3
  go_wp2_with fail
  rw [← H3.out.2.2]
  refine (refOrder_any w3).mono ?_
  rintro e w4 ⟨A, c, rfl, hI, hlo, b4⟩
  obtain ⟨o4, ho4⟩ : ∃ o4, o4 = Value.slice (some ⟨w2.heap.size, 0, none⟩) 1 1 := ⟨_, rfl⟩
  have hS4 := SymSt.mk (c := c) (A := A) (H3.out.1.on b4) (H3.out.2.1.on b4) hI
  rw [← ho4] at hS4
  have H4 := Lib.hid (And.intro hS4 ho4)
  have hA0 := hI.at_ (by omega)
  clear hlo b4 hS4 ho4 hI
  obtain ⟨bb, off, hAe, hA1⟩ := hA0
  subst hAe
  clear hA1
  go_wp2_with fail
  rw [← H4.out.2]
  go_loopw [5, 7, 8] (fun o r i wr => ∃ (k run : Nat) (l : List Sym), 1 ≤ k ∧ k ≤ 64 ∧ run < k ∧ i = .int .i64 (k : Int) ∧ r = .int .i64 (run : Int) ∧ l ++ symsF b (64 - k) k run = allS prev b ∧ SymSt w wr g b (some ⟨bb, off, none⟩) c o l) (fun _ _ i _ => 64 - (intOf i).toNat)
  case atStart => exact ⟨1, 0, [(0, sz d, d)], by omega, by omega, by omega, rfl, rfl, by rw [HA.out.1]; rfl, H4.out.1⟩
  case round =>
    obtain ⟨k, run, l, hk1, hk, hrun, rfl, rfl, hl, hP⟩ := hrel
    have hll : l.length ≤ 64 := by have := allS_len prev b; rw [← hl, List.length_append] at this; omega
    obtain ⟨Av, cv, hv⟩ := own_slice hP.row.own
    have HP := Lib.hid (And.intro hl (And.intro hP hll))
    clear hl hP
    subst hv
    by_cases hlt : k < 64
    · obtain ⟨bb', off', hA', hA2, hA3⟩ := HP.out.2.1.ord.at_ (by omega)
      cases hA'
      have c1 := hA3 k hlt
      obtain ⟨hz1, hz2⟩ := zn_at k hlt
      rw [hz1] at c1
      obtain ⟨q, hq⟩ : ∃ q, q = zn k := ⟨_, rfl⟩
      rw [← hq] at c1 hz2
      have c2 := HP.out.2.1.blk.cell hz2
      obtain ⟨z, hz⟩ : ∃ z, z = zig b k := ⟨_, rfl⟩
      have hzz : b.getD q 0 = z := by rw [hz, hq]; rfl
      rw [hzz] at c2
      have hzin := HA.out.2.1.zig hlt
      rw [← hz] at hzin
      obtain ⟨n, hn⟩ : ∃ n, 64 - k = n + 1 := ⟨64 - k - 1, by omega⟩
      have hki : (k : Int) < 64 := by omega
      have hin := hzin
      unfold In at hin
      obtain ⟨z0, z1⟩ := hin
      have HZ := Lib.hid (And.intro hz (And.intro hzin hn))
      clear hz1 hq hz hzz hzin hn hA2 hA3
      by_cases he : z = 0
      · subst he
        go_wp2_with fail
        go_roundw
        case rel =>
          refine ⟨k + 1, run + 1, l, by omega, by omega, by omega, by go_num, by go_num, ?_, HP.out.2.1⟩
          have hl := HP.out.1
          rw [HZ.out.2.2, symsF_zero HZ.out.1.symm] at hl
          rw [show 64 - (k + 1) = n by have := HZ.out.2.2; omega]
          exact hl
        case measure => simp [intOf]; omega
      · have hl := HP.out.1
        have hznz : zig b k ≠ 0 := by rw [← HZ.out.1]; exact he
        rw [HZ.out.2.2, symsF_some hznz, ← HZ.out.1] at hl
        have HL := Lib.hid hl
        have heb : (z == 0) = false := by simpa using he
        clear hl hznz
        go_wp2_with fail
        clear c1 c2
        obtain ⟨o5, ho5⟩ : ∃ o5, o5 = Value.slice Av l.length cv := ⟨_, rfl⟩
        rw [← ho5] at HP ⊢
        clear ho5
        go_loopw [5, 7] (fun o r w6 => ∃ (u : Nat) (l : List Sym), u ≤ run ∧ r = .int .i64 (u : Int) ∧ l ++ (runsOf u z ++ symsF b n (k + 1) 0) = allS prev b ∧ SymSt w w6 g b (some ⟨bb, off, none⟩) c o l) (fun _ r _ => (intOf r).toNat)
        case atStart => exact ⟨run, l, by omega, rfl, HL.out, HP.out.2.1⟩
        case round =>
          obtain ⟨u, l2, hu, rfl, hl2, hP2⟩ := hrel
          have hll2 : l2.length ≤ 64 := by have := allS_len prev b; rw [← hl2, List.length_append] at this; omega
          obtain ⟨Av2, cv2, hv2⟩ := own_slice hP2.row.own
          subst hv2
          by_cases h15 : 15 < u
          · have h15i : (15 : Int) < u := by omega
            rw [runsOf_big z h15, List.cons_append] at hl2
            have HP2 := Lib.hid (And.intro hl2 hP2)
            clear hl2 hP2
            have e0 : syE (1, 240, 0) = (240, 0, 0) := by unfold syE; rw [numB_zero, sz_zero]; rfl
            have HE0 := Lib.hid e0
            clear e0
            go_wp2_with (first
              | (at_builtin; refine wpList_append_sk rfl (.tmp 33) (.tmp 35) rfl w.heap.size _ l2.length (l2.map syE) (240, 0, 0) rfl (HP2.out.2.on (on_alloc wr (.cells #[.int .i64 240, .int .i64 0, .int .i64 0] 38))).row.own wr.heap.size rfl (Box.made _ _ _) (by omega) (by have := HP2.out.2.row.bel.size; simp; omega) ?_; intro v6 w6 hown6 k6; have H6 := Lib.hid ((HP2.out.2.on (on_alloc wr (.cells #[.int .i64 240, .int .i64 0, .int .i64 0] 38))).app (1, 240, 0) (by rw [HE0.out]; exact hown6) k6); clear hown6 k6)
              | fail)
            go_roundw
            case rel =>
              refine ⟨u - 16, l2 ++ [(1, 240, 0)], by omega, by go_num, ?_, H6.out⟩
              rw [← HP2.out.1]
              simp
            case measure => simp [intOf]; omega
          · have h15i : ¬ (15 : Int) < u := by omega
            rw [runsOf_small z (by omega)] at hl2
            have HP2 := Lib.hid (And.intro hl2 hP2)
            clear hl2 hP2
            have HQ := Lib.hid (symbol_any wr u z (by omega) (by omega))
            unfold Symd syV at HQ
            dsimp only at HQ
            obtain ⟨y, hy⟩ : ∃ y : Nat, y = 16 * u + sz z := ⟨_, rfl⟩
            obtain ⟨y1, hy1⟩ : ∃ y1 : Nat, y1 = sz z := ⟨_, rfl⟩
            obtain ⟨y2, hy2⟩ : ∃ y2 : Nat, y2 = numB z := ⟨_, rfl⟩
            rw [← hy, ← hy1, ← hy2] at HQ
            have HY := Lib.hid (show syE (1, 16 * u + sz z, z) = ((y : Int), y2, y1) by unfold syE; rw [hy, hy1, hy2])
            clear hy hy1 hy2
            go_wp2_with fail
            refine HQ.out.mono ?_
            rintro e w7 ⟨rfl, b7⟩
            have H7 := Lib.hid (HP2.out.2.on b7)
            clear b7 HQ
            go_wp2_with (first
              | (at_builtin; refine wpList_append_sk rfl (.tmp 39) (.tmp 43) rfl w.heap.size _ l2.length (l2.map syE) ((y : Int), y2, y1) rfl (H7.out.on (on_alloc w7 (.cells #[.int .i64 (y : Int), .int .i64 (y2 : Int), .int .i64 (y1 : Int)] 38))).row.own w7.heap.size rfl (Box.made _ _ _) (by omega) (by have := H7.out.row.bel.size; simp; omega) ?_; intro v8 w8 hown8 k8; have H8 := Lib.hid ((H7.out.on (on_alloc w7 (.cells #[.int .i64 (y : Int), .int .i64 (y2 : Int), .int .i64 (y1 : Int)] 38))).app (1, 16 * u + sz z, z) (by rw [HY.out]; exact hown8) k8); clear hown8 k8)
              | fail)
            go_roundw
            case rel =>
              refine ⟨k + 1, 0, _, by omega, by omega, by omega, by go_num, rfl, ?_, H8.out⟩
              rw [← HP2.out.1, show 64 - (k + 1) = n by have := HZ.out.2.2; omega]
              simp
            case measure => simp [intOf]; omega
    · obtain rfl : k = 64 := by omega
      obtain ⟨hl, hP, _⟩ := HP.out
      by_cases h0 : 0 < run
      · have h0i : (0 : Int) < run := by omega
        rw [Nat.sub_self, symsF_nil, if_pos h0] at hl
        have HL := Lib.hid (And.intro hl hP)
        have e0 : syE (1, 0, 0) = (0, 0, 0) := by unfold syE; rw [numB_zero, sz_zero]; rfl
        have HE0 := Lib.hid e0
        clear e0 hl hP
        go_wp2_with (first
          | (at_builtin; refine wpList_append_sk rfl (.tmp 47) (.tmp 49) rfl w.heap.size _ l.length (l.map syE) (0, 0, 0) rfl (HL.out.2.on (on_alloc wr (.cells #[.int .i64 0, .int .i64 0, .int .i64 0] 38))).row.own wr.heap.size rfl (Box.made _ _ _) (by omega) (by have := HL.out.2.row.bel.size; simp; omega) ?_; intro v6 w6 hown6 k6; have H6 := Lib.hid ((HL.out.2.on (on_alloc wr (.cells #[.int .i64 0, .int .i64 0, .int .i64 0] 38))).app (1, 0, 0) (by rw [HE0.out]; exact hown6) k6); clear hown6 k6)
          | fail)
        have hown := H6.out.row.own
        obtain ⟨A6, c6, rfl, hT6, hlo6⟩ := te_of_own38 hown
        have HF := Lib.hid (And.intro hT6 hlo6)
        clear hown hT6 hlo6
        go_wp2_with fail
        go_ret
        have hT := HF.out.1
        rw [HL.out.1] at hT
        exact ⟨A6, _, c6, rfl, by rw [HL.out.1]; exact hT, by rw [HL.out.1], HF.out.2, H6.out.row.bel⟩
      · have h0i : ¬ (0 : Int) < run := by omega
        rw [Nat.sub_self, symsF_nil, if_neg h0, List.append_nil] at hl
        have hown := hP.row.own
        obtain ⟨A6, c6, e6, hT6, hlo6⟩ := te_of_own38 hown
        cases e6
        have HF := Lib.hid (And.intro hT6 (And.intro hlo6 (And.intro hl hP.row.bel)))
        clear hown hT6 hlo6 hl hP
        go_wp2_with fail
        go_ret
        have hT := HF.out.1
        rw [HF.out.2.2.1] at hT
        exact ⟨_, _, _, rfl, by rw [HF.out.2.2.1]; exact hT, by rw [HF.out.2.2.1], HF.out.2.1, HF.out.2.2.2⟩
end Go.Proofs.YthfpdebpepbejaaDoor
