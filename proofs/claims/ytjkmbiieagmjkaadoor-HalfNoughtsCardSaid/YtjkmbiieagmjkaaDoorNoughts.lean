/-
  HalfNoughts: the walk.
-/
import Derived.Test.YtjkmbiieagmjkaaDoorTold10
namespace Go.Proofs.YtjkmbiieagmjkaaDoor
open Go.RowKit

theorem fo_set {f : List Int} (hf : f.length = 256) {k : Nat} (hk : k < 64) (z : Int) {m j : Nat} (hj : j < 64) : fo (f.set k z) m j = if m = 0 ∧ j = k then z else fo f m j := by
  unfold fo
  rw [List.getD_eq_getElem?_getD, List.getD_eq_getElem?_getD]
  by_cases e : m = 0 ∧ j = k
  · rw [if_pos e, show 64 * m + j = k by omega, List.getElem?_set_self (by omega)]
    rfl
  · rw [if_neg e, List.getElem?_set_ne (by omega)]
theorem noughts_same {f : List Int} (hf : f.length = 256) {k : Nat} (hk : k < 64) (ho : 4 ≤ k / 8 ∨ 4 ≤ k % 8) {z : Int} (z0 : -1048576 ≤ z) (z1 : z ≤ 1048576) (f0 : -1048576 ≤ f.getD k 0) (f1 : f.getD k 0 ≤ 1048576) : mrgF (f.set k z) = mrgF f := by
  have e : fo f 0 k = f.getD k 0 := by unfold fo; rw [show 64 * 0 + k = k by omega]
  refine mrg_beyond ⟨fun h m hm j hj => ?_, fun h m hm j hj => ?_⟩ fun m hm i hi q hq => ?_
  · have := h m hm j hj
    rw [fo_set hf hk z hj] at this
    by_cases c : m = 0 ∧ j = k
    · obtain ⟨rfl, rfl⟩ := c
      rw [e]
      omega
    · rwa [if_neg c] at this
  · rw [fo_set hf hk z hj]
    by_cases c : m = 0 ∧ j = k
    · rw [if_pos c]; omega
    · rw [if_neg c]; exact h m hm j hj
  · rw [fo_set hf hk z (by omega), if_neg (by omega)]
theorem merge_none : mrgF zeros256 = (zeros64, 0) := mrg_none fun m _ j _ => zeros256_at m j
/-- two equal blocks are not unlike -/
theorem wpList_neq23 {ops : Array Oper} {rest : List Oper} {op : Oper} {a : Act} {w : World} {Q : Exit → Act → World → Prop} (hw : Region.wanted op (yielded ops a.tmps) = true) (x y : Operand) (ho : op.op = .binOp .neq 23 x y 23)
    (B : List Int) (hB : B.length = 64) (hx : a.eval x = blkV B) (hy : a.eval y = blkV B)
    (hK : wpList Tryd.prog ops Q rest (a.put op.dst (.bool false)) w) : wpList Tryd.prog ops Q (op :: rest) a w :=
  wpList_step fun _ hQ => by
    have hg : Tryd.prog.eqGuardType Tryd.prog.depth 23 = false := by kernel_rfl
    rw [if_pos hw]
    unfold Oper.wp execOp
    unfold blkV at hx hy
    have he := blk_equal w hB
    unfold blkV at he
    simp only [ho, hx, hy, Sem.run_bind, run_eqGuard_agg w .neq 23 x y _ _ hg, run_neq_struct, he, Result.andThen_ok]
    exact hQ _ _ hK

set_option maxRecDepth 10000 in
set_option maxHeartbeats 6400000 in
theorem noughts_calls (w : World) (f : List Int) (t by' : Int) (hT : Tab w) (hf : f.length = 256) (ht : 0 ≤ t ∧ t ≤ 255) (hb : isInt by') : Calls Tryd.prog 5 #[fourV f, .int .u8 t, .int .i64 by'] w (Law w) := by
  obtain ⟨cs, w1, hfv, hw1, hk, _⟩ := one4_boxed w f hT hf
  obtain ⟨Z, hZ⟩ : ∃ Z, Z = (cellsI zeros64).toArray := ⟨_, rfl⟩
  have hz' : ∀ w, (zeroValue 23).run Tryd.prog w = .ok (.agg Z) w := fun w => by rw [hZ]; exact zero23 w
  have hbd : ∀ w, (Instr.build 23 #[]).run Tryd.prog w = .ok (.agg Z) w := fun w => by rw [hZ]; exact build0 w
  have hZs : Z.size = 64 := by rw [hZ]; rfl
  have hZV : Value.agg Z = blkV zeros64 := by rw [hZ]; rfl
  obtain ⟨Z4, hZ4⟩ : ∃ Z, Z = (cellsI zeros256).toArray := ⟨_, rfl⟩
  have hz4 : ∀ w, (zeroValue 24).run Tryd.prog w = .ok (.agg Z4) w := fun w => by rw [hZ4]; exact zero24 w
  have hbd4 : ∀ w, (Instr.build 24 #[]).run Tryd.prog w = .ok (.agg Z4) w := fun w => by rw [hZ4]; exact build24 w
  have hZs4 : Z4.size = 256 := by rw [hZ4]; simp [cellsI_len, zeros256_len]
  have hM0 := fun w hT => merge_any w zeros256 hT zeros256_len
  rw [merge_none, show fourV zeros256 = .agg Z4 by rw [hZ4]; rfl] at hM0
  have H := Lib.hid (And.intro hk (And.intro hT (And.intro hf (And.intro hw1 (And.intro hZV (And.intro hZs (And.intro hZs4 hM0)))))))
  rw [hfv]
  obtain ⟨n, rfl⟩ := Int.eq_ofNat_of_zero_le ht.1
  have hn : n ≤ 255 := by omega
  obtain ⟨y0, y1⟩ := hb
  clear hT hk hf hfv hZ hZs hw1 hZV hZ4 hZs4 hM0 ht
  go_enter Tryd.func5, Tryd.ntmps5
  go_wp2_with fail
  rw [H.out.2.2.2.1]
  refine (H.out.2.2.2.2.2.2.2 w1 H.out.1.tab).mono ?_
  rintro r w2 ⟨rfl, bb⟩
  have H2 := Lib.hid (H.out.1.on bb)
  clear bb
  dsimp only
  go_upto_region 6 with (first
    | ((with_reducible refine wpList_store_blk (o := ⟨none, _, _, _, _, _⟩) rfl (.tmp 7) (.tmp 18) rfl rfl w2.heap.size zeros64 rfl rfl Z (Box.made _ _ _) H.out.2.2.2.2.2.1 zeros_len ?_)
       intro w3 b3 k3
       have H3 := Lib.hid (H2.out.laid b3 k3)
       have H4 := Lib.hid H3.out.less
       clear b3 k3)
    | (with_reducible refine wpList_load_to (op := ⟨some 20, _, _, _, _, _⟩) rfl 23 (.tmp 7) rfl (.pointer (some ⟨w2.heap.size, 0, none⟩)) rfl (blkV zeros64) H3.out.b0.load ?_)
    | ((with_reducible refine wpList_neq23 (op := ⟨some 22, _, _, _, _, _⟩) rfl (.tmp 20) (.tmp 21) rfl zeros64 zeros_len rfl ?hy ?_); (case hy => exact H.out.2.2.2.2.1))
    | (with_reducible refine wpList_load_to (op := ⟨some 27, _, _, _, _, _⟩) rfl 24 (.tmp 3) rfl (.pointer (some ⟨w.heap.size, 0, none⟩)) rfl (fourV f) H4.out.f0.load ?_)
    | ((with_reducible refine wpList_store_four (o := ⟨none, _, _, _, _, _⟩) rfl (.tmp 9) (.tmp 27) rfl rfl w3.heap.size f rfl rfl Z4 (Box.made _ _ _) H.out.2.2.2.2.2.2.1 H.out.2.2.1 ?_)
       intro w5 b5 k5
       have H5 := Lib.hid (And.intro (H4.out.laid4 b5 k5) (show w.heap.size < w3.heap.size from H4.out.f0.box.lt))
       clear b5 k5)
    | fail)
  obtain ⟨k, hk⟩ : ∃ k : Nat, k = n % 64 := ⟨_, rfl⟩
  rw [show ((n : Int) % 64) = (k : Int) by omega]
  have hk64 : k < 64 := by omega
  clear hk hn
  obtain ⟨g5, hg5⟩ : ∃ g, g = w3.heap.size := ⟨_, rfl⟩
  rw [← hg5] at H5 ⊢
  clear hg5
  have c1 := H5.out.1.f1.cell (k := k) (by omega)
  obtain ⟨z, hzz⟩ : ∃ z, z = f.getD k 0 := ⟨_, rfl⟩
  rw [← hzz] at c1
  have HZZ := Lib.hid hzz
  clear hzz
  by_cases hgo : (4 ≤ k / 8 ∨ (k / 8 < 4 ∧ 4 ≤ k % 8)) ∧ (-1048576 ≤ by' ∧ by' ≤ 1048576) ∧ -1048576 ≤ z ∧ z ≤ 1048576
  · obtain ⟨ho, ⟨v0, v1⟩, q0, q1⟩ := hgo
    have hs := noughts_same H.out.2.2.1 hk64 (by omega) v0 v1 (by rw [← HZZ.out]; exact q0) (by rw [← HZZ.out]; exact q1)
    have HP := Lib.hid (fun (w : World) (h : Tab w) => merge_any w f h H.out.2.2.1)
    have HQ := Lib.hid (fun (w : World) (h : Tab w) => merge_any w (f.set k by') h (by rw [List.length_set]; exact H.out.2.2.1))
    rw [hs] at HQ
    have hxl := mrgF_len f
    obtain ⟨⟨x, e⟩, hx⟩ : ∃ R, R = mrgF f := ⟨_, rfl⟩
    rw [← hx] at HP HQ hxl
    dsimp only at hxl
    have HX := Lib.hid hxl
    have c2 := H5.out.1.f0.cell (k := k) (by omega)
    have hfr := H5.out.1.f0.free k
    obtain ⟨o, hoo⟩ : ∃ o, o = f.getD k 0 := ⟨_, rfl⟩
    rw [← hoo] at c2
    have h6 := H5.out.1.turn (p' := .four g5 (f.set k by')) H.out.2.1 (Nat.le_of_lt H5.out.2) (fun q hq => by rw [List.mem_singleton] at hq; subst hq; exact Nat.ne_of_lt H5.out.2) ((Kept.refl (fun i => i = g5) _).setCell (p := ⟨g5, k, none⟩) (fun _ => rfl) (.int .i64 by')) (H5.out.1.f0.put k by')
    obtain ⟨w6, hw6⟩ : ∃ w6, w6 = w5.setCell ⟨g5, k, none⟩ (.int .i64 by') := ⟨_, rfl⟩
    rw [← hw6] at h6
    have H6 := Lib.hid h6
    have HW6 := Lib.hid hw6
    have HL6 := Lib.hid h6.f1.load
    rw [hw6] at HL6
    clear hs hx hxl hoo h6 hw6
    rcases ho with ho | ⟨ho, ho2⟩
    all_goals
      go_wp2_with (first
        | (with_reducible refine wpList_load_to (op := ⟨some 67, _, _, _, _, _⟩) rfl 24 (.tmp 3) rfl (.pointer (some ⟨w.heap.size, 0, none⟩)) rfl (fourV f) HL6.out ?_)
        | fail)
      rw [← HW6.out]
      refine (HP.out w6 H6.out.tab).mono ?_
      rintro r w7 ⟨rfl, bb⟩
      have H7 := Lib.hid (H6.out.on bb)
      clear bb
      dsimp only
      go_wp2_with (first
        | ((with_reducible refine wpList_store_blk (o := ⟨none, _, _, _, _, _⟩) rfl (.tmp 11) (.tmp 69) rfl rfl w7.heap.size x rfl rfl Z (Box.made _ _ _) H.out.2.2.2.2.2.1 HX.out ?_)
           intro w8 b8 k8
           have H8 := Lib.hid (H7.out.laid b8 k8)
           clear b8 k8)
        | (with_reducible refine wpList_load_to (op := ⟨some 72, _, _, _, _, _⟩) rfl 24 (.tmp 9) rfl (.pointer (some ⟨g5, 0, none⟩)) rfl (fourV (f.set k by')) H8.out.f1.load ?_)
        | fail)
      obtain ⟨g8, hg8⟩ : ∃ g, g = w7.heap.size := ⟨_, rfl⟩
      rw [← hg8] at H8 ⊢
      clear hg8
      refine (HQ.out w8 H8.out.tab).mono ?_
      rintro r w9 ⟨rfl, bb⟩
      have H9 := Lib.hid (H8.out.on bb)
      clear bb
      dsimp only
      go_wp2_with (first
        | ((with_reducible refine wpList_store_blk (o := ⟨none, _, _, _, _, _⟩) rfl (.tmp 13) (.tmp 74) rfl rfl w9.heap.size x rfl rfl Z (Box.made _ _ _) H.out.2.2.2.2.2.1 HX.out ?_)
           intro w10 b10 k10
           have H10 := Lib.hid (H9.out.laid b10 k10)
           clear b10 k10)
        | (with_reducible refine wpList_load_to (op := ⟨some 76, _, _, _, _, _⟩) rfl 23 (.tmp 11) rfl (.pointer (some ⟨g8, 0, none⟩)) rfl (blkV x) H10.out.b1.load ?_)
        | (with_reducible refine wpList_load_to (op := ⟨some 77, _, _, _, _, _⟩) rfl 23 (.tmp 13) rfl (.pointer (some ⟨w9.heap.size, 0, none⟩)) rfl (blkV x) H10.out.b0.load ?_)
        | (with_reducible refine wpList_eql23_when (op := ⟨some 78, _, _, _, _, _⟩) rfl (.tmp 76) (.tmp 77) rfl x HX.out rfl rfl ?_)
        | fail)
      refine (awake_any w10 H10.out.tab).mono ?_
      rintro r w11 ⟨rfl, b11⟩
      have H11 := Lib.hid (on_trans H10.out.bel b11)
      clear b11
      go_wp2
      go_ret
      exact ⟨rfl, H11.out⟩
  · have hq : (k / 8 < 4 ∧ k % 8 < 4) ∨ ((4 ≤ k / 8 ∨ (k / 8 < 4 ∧ 4 ≤ k % 8)) ∧ (by' < -1048576 ∨ (-1048576 ≤ by' ∧ 1048576 < by') ∨ (-1048576 ≤ by' ∧ by' ≤ 1048576 ∧ z < -1048576) ∨ (-1048576 ≤ by' ∧ by' ≤ 1048576 ∧ -1048576 ≤ z ∧ 1048576 < z))) := by omega
    clear hgo
    rcases hq with ⟨a, b⟩ | ⟨a | ⟨a, b⟩, c | ⟨c, d⟩ | ⟨c, d, q⟩ | ⟨c, d, q, v⟩⟩
    all_goals
      go_wp2_with fail
      refine (awake_any w5 H5.out.1.tab).mono ?_
      rintro r w11 ⟨rfl, b11⟩
      have H11 := Lib.hid (on_trans H5.out.1.bel b11)
      clear b11
      go_wp2
      go_ret
      exact ⟨rfl, H11.out⟩
end Go.Proofs.YtjkmbiieagmjkaaDoor
