/-
  Numbers told by steps, and what they are: mathematics, and the contracts of Down and Up, the program's.
-/
import Derived.Test.YtjkmbiieagmjkaaDoorLists
namespace Go.Proofs.YtjkmbiieagmjkaaDoor
open Go.RowKit

/-- 64 numbers by their places -/
def tab (f : Nat → Int) : List Int := (List.range 64).map f
theorem tab_len (f : Nat → Int) : (tab f).length = 64 := by simp [tab]
theorem tab_at (f : Nat → Int) {k : Nat} (hk : k < 64) : (tab f).getD k 0 = f k := by
  unfold tab
  rw [List.getD_eq_getElem?_getD, List.getElem?_map, List.getElem?_range hk]
  rfl
/-- two blocks of the same numbers are one -/
theorem list_eq {x y : List Int} (hx : x.length = 64) (hy : y.length = 64) (h : ∀ k, k < 64 → x.getD k 0 = y.getD k 0) : x = y := by
  apply List.ext_getElem?
  intro i
  by_cases hi : i < 64
  · have := h i hi
    rw [List.getD_eq_getElem?_getD, List.getD_eq_getElem?_getD, List.getElem?_eq_getElem (by omega), List.getElem?_eq_getElem (by omega)] at this
    rw [List.getElem?_eq_getElem (by omega), List.getElem?_eq_getElem (by omega)]
    exact congrArg some this
  · rw [List.getElem?_eq_none (by omega), List.getElem?_eq_none (by omega)]

/-- a number told by a step -/
def dnOf (n d : Int) : Int := held (rnd n d) (-1023) 1023
/-- numbers told by steps -/
def downL (b s : List Int) : List Int := tab fun k => dnOf (b.getD k 0) (s.getD k 0)
/-- what numbers told by steps are -/
def upL (b s : List Int) : List Int := tab fun k => b.getD k 0 * s.getD k 0
theorem downL_len (b s : List Int) : (downL b s).length = 64 := tab_len _
theorem upL_len (b s : List Int) : (upL b s).length = 64 := tab_len _
/-- what Down tells -/
def downF (b s : List Int) : List Int × Int := if checkF b s 16777216 = 0 then (downL b s, 0) else (zeros64, checkF b s 16777216)
/-- what Up tells -/
def upF (b s : List Int) : List Int × Int := if checkF b s 1023 = 0 then (upL b s, 0) else (zeros64, checkF b s 1023)
theorem downF_len (b s : List Int) : (downF b s).1.length = 64 := by unfold downF; split; exact tab_len _; exact zeros_len
theorem upF_len (b s : List Int) : (upF b s).1.length = 64 := by unfold upF; split; exact tab_len _; exact zeros_len
theorem checkF_zero {b s : List Int} {most : Int} (h : checkF b s most = 0) : Wi s 1 255 ∧ Wi b (-most) most := by
  unfold checkF at h
  split at h
  · split at h
    · exact ⟨by assumption, by assumption⟩
    · omega
  · omega
theorem checkF_yes {b s : List Int} {most : Int} (h : Wi s 1 255) (h' : Wi b (-most) most) : checkF b s most = 0 := by unfold checkF; rw [if_pos h, if_pos h']
theorem checkF_vals (b s : List Int) (most : Int) : checkF b s most = 0 ∨ checkF b s most = 1 ∨ checkF b s most = 2 := by
  unfold checkF
  split
  · split <;> omega
  · omega

/-- two blocks that are boxed, and one for the answer -/
structure Thr (w wr : World) (b s : List Int) : Prop where
  b1 : Blk wr w.heap.size b
  b2 : Blk wr (w.heap.size + 1) s
  ans : Blk wr (w.heap.size + 1 + 1) zeros64
  bel : Below w.heap.size w wr
section
variable {w wr w' : World} {b s : List Int}
theorem Thr.on (h : Thr w wr b s) (k : Below wr.heap.size wr w') : Thr w w' b s := ⟨h.b1.on k, h.b2.on k, h.ans.on k, on_trans h.bel k⟩
theorem Thr.put (h : Thr w wr b s) (k : Nat) (z : Int) : Thr w (wr.setCell ⟨w.heap.size, k, none⟩ (.int .i64 z)) (b.set k z) s :=
  ⟨h.b1.put k z, ⟨h.b2.box.beside (by show w.heap.size + 1 ≠ w.heap.size; omega) _, h.b2.len⟩, ⟨h.ans.box.beside (by show w.heap.size + 1 + 1 ≠ w.heap.size; omega) _, h.ans.len⟩,
    ((Kept.of_below h.bel (fun i => i = w.heap.size)).setCell (p := ⟨w.heap.size, k, none⟩) (fun _ => rfl) _).below (Nat.le_refl _) (fun i hi e => by omega)⟩
theorem Thr.done (h : Thr w wr b s) {c : List Int} (hc : Blk w' (w.heap.size + 1 + 1) c) (k : Kept (fun i => i = w.heap.size + 1 + 1) wr w') : Below w.heap.size w w' ∧ Blk w' (w.heap.size + 1 + 1) c :=
  ⟨h.bel.trans (k.below h.bel.size (fun i hi e => by omega)), hc⟩
end
theorem thr_boxed (w : World) (b s : List Int) (hb : b.length = 64) (hs : s.length = 64) : ∃ cs cu Z w3, blkV b = .agg cs ∧ blkV s = .agg cu ∧ blkV zeros64 = .agg Z ∧ (∀ w, (zeroValue 23).run Tryd.prog w = .ok (.agg Z) w) ∧ ((w.alloc (.cells cs 23)).alloc (.cells cu 23)).alloc (.cells Z 23) = w3 ∧ Z.size = 64 ∧ Thr w w3 b s := by
  obtain ⟨cs, cu, w2, h1, h2, h⟩ := two_boxed w b s hb hs
  have hA : Blk (w2.alloc (.cells (cellsI zeros64).toArray 23)) (w.heap.size + 1 + 1) zeros64 := by have := h.size; rw [show w.heap.size + 1 + 1 = w2.heap.size by omega]; exact Blk.made _ _ zeros_len
  refine ⟨cs, cu, (cellsI zeros64).toArray, _, h1, h2, rfl, fun w => zero23 w, rfl, rfl, ?_⟩
  rw [h.e]
  exact ⟨h.b1.on (on_alloc _ _), h.b2.on (on_alloc _ _), hA, on_trans h.bel (on_alloc _ _)⟩

theorem mul_small {n d : Int} (n0 : -1023 ≤ n) (n1 : n ≤ 1023) (s0 : 1 ≤ d) (s1 : d ≤ 255) : -260865 ≤ n * d ∧ n * d ≤ 260865 := by
  have h1 : n * d ≤ 1023 * d := Int.mul_le_mul_of_nonneg_right n1 (by omega)
  have h2 : -1023 * d ≤ n * d := Int.mul_le_mul_of_nonneg_right n0 (by omega)
  omega

set_option maxRecDepth 10000 in
set_option maxHeartbeats 3200000 in
theorem down_any (w : World) (b s : List Int) (hb : b.length = 64) (hs : s.length = 64) : Calls Tryd.prog 22 #[blkV b, blkV s] w (Tells w (downF b s)) := by
  obtain ⟨cs, cu, Z, w3, hbv, hsv, hZV, hz, hw3, hZs, hT⟩ := thr_boxed w b s hb hs
  have HL1 := Lib.hid hT.b1.load
  have HL2 := Lib.hid hT.b2.load
  have HC := Lib.hid (check_any w3 b s 16777216 hb hs (by omega) (by omega))
  have H := Lib.hid (And.intro hT (And.intro hb (And.intro hs (And.intro hZV.symm hZs))))
  rw [← hw3] at HL1 HL2
  have HW := Lib.hid hw3
  rw [hbv, hsv]
  have hbd : ∀ w, (Instr.build 23 #[]).run Tryd.prog w = .ok (.agg Z) w := fun w => by rw [← hZV]; exact build0 w
  obtain ⟨E, hE⟩ : ∃ E, E = checkF b s 16777216 := ⟨_, rfl⟩
  unfold Checkd at HC
  rw [← hE] at HC
  have HE := Lib.hid hE
  clear hT hb hs hw3 hbv hsv hZV hZs hE
  by_cases h0 : E = 0
  · have hF : downF b s = (downL b s, 0) := by unfold downF; rw [if_pos (by rw [← HE.out]; exact h0)]
    have hok := checkF_zero (HE.out.symm.trans h0)
    rw [hF]
    have HOK := Lib.hid hok
    subst h0
    clear hF hok
    go_enter Tryd.func22, Tryd.ntmps22
    go_wp2_with (first
      | (with_reducible refine wpList_load_to (op := ⟨some 9, _, _, _, _, _⟩) rfl 23 (.tmp 2) rfl (.pointer (some ⟨w.heap.size, 0, none⟩)) rfl (blkV b) HL1.out ?_)
      | (with_reducible refine wpList_load_to (op := ⟨some 10, _, _, _, _, _⟩) rfl 23 (.tmp 3) rfl (.pointer (some ⟨w.heap.size + 1, 0, none⟩)) rfl (blkV s) HL2.out ?_)
      | fail)
    rw [HW.out]
    refine HC.out.mono ?_
    rintro e w4 ⟨rfl, b4⟩
    have H4 := Lib.hid (H.out.1.on b4)
    clear b4
    go_wp2_with (first
      | (with_reducible refine wpList_load_to (op := ⟨some 16, _, _, _, _, _⟩) rfl 23 (.tmp 2) rfl (.pointer (some ⟨w.heap.size, 0, none⟩)) rfl (blkV b) H4.out.b1.load ?_)
      | fail)
    go_loopw [17] (fun i wr => ∃ k : Nat, k ≤ 64 ∧ i = .int .i64 k ∧ Thr w wr (mix k (downL b s) b) s) (fun i _ => 64 - (intOf i).toNat)
    case atStart => exact ⟨0, by omega, rfl, by rw [mix_zero]; exact H4.out⟩
    case round =>
      obtain ⟨k, hk, rfl, hR⟩ := hrel
      have HR := Lib.hid hR
      clear hR
      by_cases hlt : k < 64
      · have hs0 := HOK.out.1 k hlt
        have hb0 := HOK.out.2 k hlt
        have hfr := HR.out.b1.free k
        have c1 := HR.out.b1.cell hlt
        have c2 := HR.out.b2.cell hlt
        rw [mix_at (downL_len b s) hk (Nat.le_refl k)] at c1
        have hidx := fun w => index23 w (l := b) H.out.2.1 hlt
        have hst : (downL b s).getD k 0 = dnOf (b.getD k 0) (s.getD k 0) := tab_at _ hlt
        obtain ⟨n, hn⟩ : ∃ n, n = b.getD k 0 := ⟨_, rfl⟩
        obtain ⟨d, hd⟩ : ∃ d, d = s.getD k 0 := ⟨_, rfl⟩
        try rw [← hn] at hidx
        try rw [← hd] at hidx
        rw [← hn] at hb0 c1 hst
        rw [← hd] at hs0 c2 hst
        clear hn hd
        obtain ⟨s0, s1⟩ := hs0
        obtain ⟨n0, n1⟩ := hb0
        obtain ⟨r, hr⟩ : ∃ r, r = rnd n d := ⟨_, rfl⟩
        unfold dnOf at hst
        rw [← hr] at hst
        obtain ⟨z, hz'⟩ : ∃ z, z = held r (-1023) 1023 := ⟨_, rfl⟩
        rw [← hz'] at hst
        have HS := Lib.hid hst
        have HR2 := Lib.hid (And.intro hr hz')
        clear hst hr hz'
        go_wp2_with fail
        refine (round_any wr n d (by unfold isInt; omega) (by unfold isInt; omega)).mono ?_
        rintro e w7 ⟨rfl, rfl⟩
        rw [← HR2.out.1]
        go_wp2_with fail
        refine (hold_any wr r (-1023) 1023 (by omega)).mono ?_
        rintro e w7 ⟨rfl, rfl⟩
        rw [← HR2.out.2]
        go_wp2_with fail
        go_roundw
        case rel =>
          refine ⟨k + 1, by omega, by go_num, ?_⟩
          rw [← mix_more (downL_len b s) H.out.2.1 hlt, HS.out]
          exact HR.out.put k z
        case measure => simp [intOf]; omega
      · obtain rfl : k = 64 := by omega
        have hR := HR.out
        rw [mix_all (downL_len b s) H.out.2.1] at hR
        have HR := Lib.hid hR
        clear hR
        go_wp2_with (first
          | (with_reducible refine wpList_load_to (op := ⟨some 30, _, _, _, _, _⟩) rfl 23 (.tmp 2) rfl (.pointer (some ⟨w.heap.size, 0, none⟩)) rfl (blkV (downL b s)) HR.out.b1.load ?_)
          | ((with_reducible refine wpList_store_blk (o := ⟨none, _, _, _, _, _⟩) rfl (.tmp 4) (.tmp 30) rfl rfl (w.heap.size + 1 + 1) (downL b s) rfl rfl _ HR.out.ans.box rfl (downL_len b s) ?_)
             intro w9 b9 k9
             have H9 := Lib.hid (HR.out.done b9 k9)
             clear b9 k9)
          | fail)
        refine bodyPost_ret (v := .tuple #[blkV (downL b s), .int .i64 0]) (results_ct (fn := Tryd.f22) Tryd.results22 _ _ (w.heap.size + 1 + 1) _ _ rfl rfl (loadVar_blk H9.out.2)) rfl ?_
        exact ⟨rfl, H9.out.1⟩
  · have hF : downF b s = (zeros64, E) := by unfold downF; rw [if_neg (by rw [← HE.out]; exact h0), ← HE.out]
    rw [hF]
    have hb0 : (E == 0) = false := by simpa using h0
    have hb1 : (E != 0) = true := by simpa using h0
    clear hF
    go_enter Tryd.func22, Tryd.ntmps22
    go_wp2_with (first
      | (with_reducible refine wpList_load_to (op := ⟨some 9, _, _, _, _, _⟩) rfl 23 (.tmp 2) rfl (.pointer (some ⟨w.heap.size, 0, none⟩)) rfl (blkV b) HL1.out ?_)
      | (with_reducible refine wpList_load_to (op := ⟨some 10, _, _, _, _, _⟩) rfl 23 (.tmp 3) rfl (.pointer (some ⟨w.heap.size + 1, 0, none⟩)) rfl (blkV s) HL2.out ?_)
      | fail)
    rw [HW.out]
    refine HC.out.mono ?_
    rintro e w4 ⟨rfl, b4⟩
    have H4 := Lib.hid (H.out.1.on b4)
    clear b4
    go_wp2_with (first
      | ((with_reducible refine wpList_store_blk (o := ⟨none, _, _, _, _, _⟩) rfl (.tmp 4) (.tmp 14) rfl rfl (w.heap.size + 1 + 1) zeros64 rfl ?hy _ H4.out.ans.box rfl zeros_len ?_)
         case hy => exact H.out.2.2.2.1
         intro w9 b9 k9
         have H9 := Lib.hid (H4.out.done b9 k9)
         clear b9 k9)
      | fail)
    refine bodyPost_ret (v := .tuple #[blkV zeros64, .int .i64 E]) (results_ct (fn := Tryd.f22) Tryd.results22 _ _ (w.heap.size + 1 + 1) _ _ rfl rfl (loadVar_blk H9.out.2)) rfl ?_
    exact ⟨rfl, H9.out.1⟩

set_option maxRecDepth 10000 in
set_option maxHeartbeats 3200000 in
theorem up_any (w : World) (b s : List Int) (hb : b.length = 64) (hs : s.length = 64) : Calls Tryd.prog 21 #[blkV b, blkV s] w (Tells w (upF b s)) := by
  obtain ⟨cs, cu, Z, w3, hbv, hsv, hZV, hz, hw3, hZs, hT⟩ := thr_boxed w b s hb hs
  have HL1 := Lib.hid hT.b1.load
  have HL2 := Lib.hid hT.b2.load
  have HC := Lib.hid (check_any w3 b s 1023 hb hs (by omega) (by omega))
  have H := Lib.hid (And.intro hT (And.intro hb (And.intro hs (And.intro hZV.symm hZs))))
  rw [← hw3] at HL1 HL2
  have HW := Lib.hid hw3
  rw [hbv, hsv]
  have hbd : ∀ w, (Instr.build 23 #[]).run Tryd.prog w = .ok (.agg Z) w := fun w => by rw [← hZV]; exact build0 w
  obtain ⟨E, hE⟩ : ∃ E, E = checkF b s 1023 := ⟨_, rfl⟩
  unfold Checkd at HC
  rw [← hE] at HC
  have HE := Lib.hid hE
  clear hT hb hs hw3 hbv hsv hZV hZs hE
  by_cases h0 : E = 0
  · have hF : upF b s = (upL b s, 0) := by unfold upF; rw [if_pos (by rw [← HE.out]; exact h0)]
    have hok := checkF_zero (HE.out.symm.trans h0)
    rw [hF]
    have HOK := Lib.hid hok
    subst h0
    clear hF hok
    go_enter Tryd.func21, Tryd.ntmps21
    go_wp2_with (first
      | (with_reducible refine wpList_load_to (op := ⟨some 9, _, _, _, _, _⟩) rfl 23 (.tmp 2) rfl (.pointer (some ⟨w.heap.size, 0, none⟩)) rfl (blkV b) HL1.out ?_)
      | (with_reducible refine wpList_load_to (op := ⟨some 10, _, _, _, _, _⟩) rfl 23 (.tmp 3) rfl (.pointer (some ⟨w.heap.size + 1, 0, none⟩)) rfl (blkV s) HL2.out ?_)
      | fail)
    rw [HW.out]
    refine HC.out.mono ?_
    rintro e w4 ⟨rfl, b4⟩
    have H4 := Lib.hid (H.out.1.on b4)
    clear b4
    go_wp2_with (first
      | (with_reducible refine wpList_load_to (op := ⟨some 16, _, _, _, _, _⟩) rfl 23 (.tmp 3) rfl (.pointer (some ⟨w.heap.size + 1, 0, none⟩)) rfl (blkV s) H4.out.b2.load ?_)
      | fail)
    go_loopw [17] (fun i wr => ∃ k : Nat, k ≤ 64 ∧ i = .int .i64 k ∧ Thr w wr (mix k (upL b s) b) s) (fun i _ => 64 - (intOf i).toNat)
    case atStart => exact ⟨0, by omega, rfl, by rw [mix_zero]; exact H4.out⟩
    case round =>
      obtain ⟨k, hk, rfl, hR⟩ := hrel
      have HR := Lib.hid hR
      clear hR
      by_cases hlt : k < 64
      · have hs0 := HOK.out.1 k hlt
        have hb0 := HOK.out.2 k hlt
        have hfr := HR.out.b1.free k
        have c1 := HR.out.b1.cell hlt
        have c2 := HR.out.b2.cell hlt
        rw [mix_at (upL_len b s) hk (Nat.le_refl k)] at c1
        have hidx := fun w => index23 w (l := s) H.out.2.2.1 hlt
        have hst : (upL b s).getD k 0 = b.getD k 0 * s.getD k 0 := tab_at _ hlt
        obtain ⟨n, hn⟩ : ∃ n, n = b.getD k 0 := ⟨_, rfl⟩
        obtain ⟨d, hd⟩ : ∃ d, d = s.getD k 0 := ⟨_, rfl⟩
        try rw [← hn] at hidx
        try rw [← hd] at hidx
        rw [← hn] at hb0 c1 hst
        rw [← hd] at hs0 c2 hst
        clear hn hd
        obtain ⟨s0, s1⟩ := hs0
        obtain ⟨n0, n1⟩ := hb0
        obtain ⟨z, hz'⟩ : ∃ z, z = n * d := ⟨_, rfl⟩
        rw [← hz'] at hst
        have hm : -260865 ≤ z ∧ z ≤ 260865 := by rw [hz']; exact mul_small n0 n1 s0 s1
        obtain ⟨m0, m1⟩ := hm
        have hnd := hz'.symm
        have HS := Lib.hid hst
        clear hst hz'
        go_wp2_with fail
        go_roundw
        case rel =>
          refine ⟨k + 1, by omega, by go_num, ?_⟩
          rw [← mix_more (upL_len b s) H.out.2.1 hlt, HS.out]
          exact HR.out.put k z
        case measure => simp [intOf]; omega
      · obtain rfl : k = 64 := by omega
        have hR := HR.out
        rw [mix_all (upL_len b s) H.out.2.1] at hR
        have HR := Lib.hid hR
        clear hR
        go_wp2_with (first
          | (with_reducible refine wpList_load_to (op := ⟨some 28, _, _, _, _, _⟩) rfl 23 (.tmp 2) rfl (.pointer (some ⟨w.heap.size, 0, none⟩)) rfl (blkV (upL b s)) HR.out.b1.load ?_)
          | ((with_reducible refine wpList_store_blk (o := ⟨none, _, _, _, _, _⟩) rfl (.tmp 4) (.tmp 28) rfl rfl (w.heap.size + 1 + 1) (upL b s) rfl rfl _ HR.out.ans.box rfl (upL_len b s) ?_)
             intro w9 b9 k9
             have H9 := Lib.hid (HR.out.done b9 k9)
             clear b9 k9)
          | fail)
        refine bodyPost_ret (v := .tuple #[blkV (upL b s), .int .i64 0]) (results_ct (fn := Tryd.f21) Tryd.results21 _ _ (w.heap.size + 1 + 1) _ _ rfl rfl (loadVar_blk H9.out.2)) rfl ?_
        exact ⟨rfl, H9.out.1⟩
  · have hF : upF b s = (zeros64, E) := by unfold upF; rw [if_neg (by rw [← HE.out]; exact h0), ← HE.out]
    rw [hF]
    have hb0 : (E == 0) = false := by simpa using h0
    have hb1 : (E != 0) = true := by simpa using h0
    clear hF
    go_enter Tryd.func21, Tryd.ntmps21
    go_wp2_with (first
      | (with_reducible refine wpList_load_to (op := ⟨some 9, _, _, _, _, _⟩) rfl 23 (.tmp 2) rfl (.pointer (some ⟨w.heap.size, 0, none⟩)) rfl (blkV b) HL1.out ?_)
      | (with_reducible refine wpList_load_to (op := ⟨some 10, _, _, _, _, _⟩) rfl 23 (.tmp 3) rfl (.pointer (some ⟨w.heap.size + 1, 0, none⟩)) rfl (blkV s) HL2.out ?_)
      | fail)
    rw [HW.out]
    refine HC.out.mono ?_
    rintro e w4 ⟨rfl, b4⟩
    have H4 := Lib.hid (H.out.1.on b4)
    clear b4
    go_wp2_with (first
      | ((with_reducible refine wpList_store_blk (o := ⟨none, _, _, _, _, _⟩) rfl (.tmp 4) (.tmp 14) rfl rfl (w.heap.size + 1 + 1) zeros64 rfl ?hy _ H4.out.ans.box rfl zeros_len ?_)
         case hy => exact H.out.2.2.2.1
         intro w9 b9 k9
         have H9 := Lib.hid (H4.out.done b9 k9)
         clear b9 k9)
      | fail)
    refine bodyPost_ret (v := .tuple #[blkV zeros64, .int .i64 E]) (results_ct (fn := Tryd.f21) Tryd.results21 _ _ (w.heap.size + 1 + 1) _ _ rfl rfl (loadVar_blk H9.out.2)) rfl ?_
    exact ⟨rfl, H9.out.1⟩

end Go.Proofs.YtjkmbiieagmjkaaDoor
