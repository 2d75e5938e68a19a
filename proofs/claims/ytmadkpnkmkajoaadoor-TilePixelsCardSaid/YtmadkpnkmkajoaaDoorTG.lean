/-
  A part's samples for all pixels: the contract of shown.
-/
import Derived.Test.YtmadkpnkmkajoaaDoorTF
import Derived.Test.YtmadkpnkmkajoaaDoorTS
import Derived.Test.YtmadkpnkmkajoaaDoorP9A
import Derived.Test.YtmadkpnkmkajoaaDoorP12C
namespace Go.Proofs.YtmadkpnkmkajoaaDoor
open Go.RowKit
set_option maxRecDepth 20000

/-- the first k of n blocks, and noughts -/
def mixB (f : Nat → List Int) (n k : Nat) : List (List Int) := (List.range n).map fun i => if i < k then f i else zeros64
theorem mixB_len (f : Nat → List Int) (n k : Nat) : (mixB f n k).length = n := by simp [mixB]
theorem mixB_get (f : Nat → List Int) {n k i : Nat} (h : i < n) : (mixB f n k)[i]? = some (if i < k then f i else zeros64) := by
  rw [mixB, List.getElem?_map, List.getElem?_range h]
  rfl
theorem mixB_zero (f : Nat → List Int) (n : Nat) : List.replicate n zeros64 = mixB f n 0 := by
  apply List.ext_getElem?
  intro i
  by_cases h : i < n
  · rw [mixB_get f h, List.getElem?_replicate, if_pos h, if_neg (by omega)]
  · rw [List.getElem?_eq_none (by simpa using h), List.getElem?_eq_none (by rw [mixB_len]; omega)]
theorem mixB_set (f : Nat → List Int) {n k : Nat} (_ : k < n) : (mixB f n k).set k (f k) = mixB f n (k + 1) := by
  apply List.ext_getElem?
  intro i
  by_cases h : i < n
  · rw [List.getElem?_set, mixB_get f h, mixB_get f h, mixB_len]
    by_cases e : k = i
    · subst e
      rw [if_pos rfl, if_pos h, if_pos (by omega)]
    · rw [if_neg e]
      by_cases h2 : i < k
      · rw [if_pos h2, if_pos (by omega)]
      · rw [if_neg h2, if_neg (by omega)]
  · rw [List.getElem?_eq_none (by simpa [mixB_len] using h), List.getElem?_eq_none (by rw [mixB_len]; omega)]
theorem mixB_all (f : Nat → List Int) (n : Nat) : mixB f n n = (List.range n).map f := by
  unfold mixB
  apply List.map_congr_left
  intro i hi
  rw [if_pos (List.mem_range.1 hi)]
theorem map_range (g : List Int → List Int) (bl : List (List Int)) : bl.map g = (List.range bl.length).map fun i => g (bl.getD i []) := by
  apply List.ext_getElem?
  intro i
  rw [List.getElem?_map, List.getElem?_map]
  by_cases h : i < bl.length
  · rw [List.getElem?_range h, List.getElem?_eq_getElem h]
    simp [List.getD_eq_getElem?_getD, List.getElem?_eq_getElem h]
  · rw [List.getElem?_eq_none (by omega), List.getElem?_eq_none (by simp; omega)]
    rfl
theorem kept_cells (b : Nat) : ∀ (vs : List Value) (o : Nat) (w : World), Kept (fun i => i = b) w (w.setCells b o vs)
  | [], _, w => Kept.refl _ w
  | v :: r, o, w => ((Kept.refl (fun i => i = b) w).setCell (p := ⟨b, o, none⟩) (fun _ => rfl) v).trans (kept_cells b r (o + 1) _) (fun _ _ h => h)
/-- a block is written into a row of blocks -/
theorem wpList_store_bkm {ops : Array Oper} {rest : List Oper} {op : Oper} {a : Act} {w : World} {Q : Exit → Act → World → Prop} (hgd : op.guard = none) (x y : Operand) (ho : op.op = .store 29 x y) (hd : op.dst = none)
    (b n k : Nat) (bl : List (List Int)) (h : Bk w b n bl) (hk : k < n) (z : List Int) (hz : z.length = 64) (hx : a.eval x = .pointer (some ⟨b, k * 64, none⟩)) (hy : a.eval y = blkV z)
    (hK : ∀ w', Bk w' b n (bl.set k z) → Kept (fun i => i = b) w w' → wpList Tryd.prog ops Q rest a w') : wpList Tryd.prog ops Q (op :: rest) a w := by
  have hl : (cellsI z).length = 64 := by rw [cellsI_len, hz]
  refine wpList_store_mid hgd 29 x y ho b (k * 64) (cellsI z).toArray hx hy ?_ (by rw [arr26_size, List.size_toArray, hl]) (all_oneCell_toArray (cellsI_one _)) ?_
  · rw [List.size_toArray, hl]
    exact h.there hk
  · rw [hd]
    exact hK _ (h.put hk hz) (kept_cells _ _ _ _)
/-- what lies in memory while a part is shown -/
structure ShE (w wr : World) (g1 g8 g9 : Nat) (P : Array Value) (s : List Int) (n : Nat) (L : List (List Int)) : Prop where
  geo : Box wr g1 23 P
  ans : Box wr (g1 + 1) 69 #[.int .i64 0, .int .i64 0, .slice none 0 0]
  st : Blk wr g8 s
  made : Bk wr g9 n L
  bel : Below w.heap.size w wr
  o1 : w.heap.size ≤ g1
  o2 : g1 + 1 < g8
  o3 : g8 < g9
section
variable {w wr w' : World} {g1 g8 g9 n : Nat} {P : Array Value} {s : List Int} {L : List (List Int)}
theorem ShE.on (h : ShE w wr g1 g8 g9 P s n L) (k : Below wr.heap.size wr w') : ShE w w' g1 g8 g9 P s n L :=
  ⟨h.geo.on k, h.ans.on k, h.st.on k, h.made.on k, on_trans h.bel k, h.o1, h.o2, h.o3⟩
theorem ShE.put {L' : List (List Int)} (h : ShE w wr g1 g8 g9 P s n L) (hb : Bk w' g9 n L') (k : Kept (fun i => i = g9) wr w') : ShE w w' g1 g8 g9 P s n L' :=
  ⟨k.box h.geo (by have := h.o2; have := h.o3; omega), k.box h.ans (by have := h.o2; have := h.o3; omega), h.st.kept k (by have := h.o3; omega), hb, h.bel.trans (k.below h.bel.size (fun i hi e => by have := h.o1; have := h.o2; have := h.o3; omega)), h.o1, h.o2, h.o3⟩
end
theorem idx_step (w : World) (Q : Int) (p m : Nat) (hm : m = if p = 0 then 0 else 1) : (Instr.index 30 (blkV (stQ Q 0 ++ stQ Q 1)) (.int .i64 (m : Int))).run Tryd.prog w = .ok (blkV (stQ Q p)) w := by
  have h := index30 w (stQ_len Q 0) (stQ_len Q 1) (m := m) (by rw [hm]; split <;> omega)
  by_cases e : p = 0
  · subst e
    rw [if_pos rfl] at hm
    subst hm
    exact h
  · rw [if_neg e] at hm
    subst hm
    rw [if_neg (by omega)] at h
    have e2 : stQ Q 1 = stQ Q p := by
      unfold stQ
      rw [decide_eq_true (show 0 < 1 by omega), decide_eq_true (show 0 < p by omega)]
    rw [e2] at h
    rw [e2]
    exact h

set_option maxHeartbeats 6400000 in
theorem shown_any (w : World) (W H : Int) (T : Nat) (K Q : Int) (B : Bool) (p : Nat) (A : Option Addr) (n c : Nat) (bl : List (List Int)) (hG : RightG W H T K Q) (hp : p < nP K) (hTb : Tab w) (hT9 : Tab9_ w) (hB : Bs w A n bl) (hn : bl.length = (uW (T : Int) K * uA K p) * (uH (T : Int) K * uD K p)) (hr : ∀ b ∈ bl, RightB b) :
    Calls Tryd.prog 32 #[geoV W H T K Q B, .int .i64 (p : Int), .slice A n c] w (PTells w ((T : Int), (T : Int), planeQ K T Q p bl, 0)) := by
  obtain ⟨hT, hK, hS⟩ : (T = 16 ∨ T = 32) ∧ (0 ≤ K ∧ K ≤ 3) ∧ RightS T T K 0 := by
    obtain ⟨_, _, h3, h4, _⟩ := hG
    unfold RightS
    omega
  have hp3 : p < 3 := by have := nP_le K; omega
  have hn16 : n ≤ 256 := by
    have h1 := part_wide hT hK.1 hK.2 hp
    have a := side_small hT (aH K p)
    have b := side_small hT (dH K p)
    rw [← hB.len, hn, h1.1, h1.2]
    have : nb (sideN T (aH K p)) * nb (sideN T (dH K p)) ≤ 16 * 16 := Nat.mul_le_mul (by unfold nb; omega) (by unfold nb; omega)
    omega
  obtain ⟨Z, hZ, hZs, hzb⟩ := blk_zero
  have e0 : ∀ i, stG W H T K Q i = stQ Q i := fun i => if_pos hG
  obtain ⟨g1, hg1⟩ : ∃ g1, w.heap.size = g1 := ⟨_, rfl⟩
  obtain ⟨w0, hw0⟩ : ∃ w1, (w.alloc (.cells #[.int .i64 W, .int .i64 H, .int .i64 (T : Int), .int .i64 K, .int .i64 Q, .bool B] 23)).alloc (.cells #[.int .i64 0, .int .i64 0, .slice none 0 0] 69) = w1 := ⟨_, rfl⟩
  have b1 : Box w0 g1 23 #[.int .i64 W, .int .i64 H, .int .i64 (T : Int), .int .i64 K, .int .i64 Q, .bool B] := by rw [← hw0, ← hg1]; exact (Box.made _ _ _).alloc _
  have b2 : Box w0 (g1 + 1) 69 #[.int .i64 0, .int .i64 0, .slice none 0 0] := by rw [← hw0, ← hg1]; have := Box.made (w.alloc (.cells #[.int .i64 W, .int .i64 H, .int .i64 (T : Int), .int .i64 K, .int .i64 Q, .bool B] 23)) 69 #[.int .i64 0, .int .i64 0, .slice none 0 0]; simpa using this
  have k1 : Below w.heap.size w w0 := by rw [← hw0]; exact on_trans (on_alloc _ _) (on_alloc _ _)
  have HL := Lib.hid (load_geo b1)
  have HB := Lib.hid (And.intro b1 (And.intro b2 (And.intro k1 hg1)))
  have HS := Lib.hid (fun (w1 : World) (k : Below w.heap.size w w1) => gsteps_any w1 W H T K Q B (hTb.on k))
  unfold StepsY at HS
  simp only [e0] at HS
  obtain ⟨m, hm⟩ : ∃ m, m = if p = 0 then 0 else 1 := ⟨_, rfl⟩
  have HW := Lib.hid (fun w1 => which_any w1 p hp3)
  rw [← hm] at HW
  have hidx := fun w => idx_step w Q p m hm
  have HD := Lib.hid (fun w1 => halved_any w1 K p hK.1 hK.2 hp3)
  have HSd := Lib.hid (fun w1 b => side_any w1 W H T K Q B b hT)
  have HJ := Lib.hid (join_ok hT hK.1 hK.2 hp hn Q)
  have HGr := Lib.hid (grow_ok hT K Q p bl)
  have HC := Lib.hid (And.intro hTb (And.intro hT9 (And.intro hB (And.intro hr hn))))
  obtain ⟨s, hs⟩ : ∃ s, s = stQ Q p := ⟨_, rfl⟩
  obtain ⟨ss, hss⟩ : ∃ ss, ss = stQ Q 0 ++ stQ Q 1 := ⟨_, rfl⟩
  rw [← hs] at hidx
  rw [← hss] at hidx HS
  have HSL := Lib.hid (And.intro hs (show s.length = 64 by rw [hs]; exact stQ_len Q p))
  obtain ⟨M, hM⟩ : ∃ M, M = (blocksC (List.replicate n zeros64)).toArray := ⟨_, rfl⟩
  have hmk : ∀ w, (Instr.makeSlice 54 (.int .i64 (n : Int)) (.int .i64 (n : Int))).run Tryd.prog w = .ok (.slice (some ⟨w.heap.size, 0, none⟩) n n) (w.alloc (.cells M 29)) := fun w => by
    rw [hM]
    exact make_blksT n (by omega) w
  have HM := Lib.hid hM
  have HZ := Lib.hid (And.intro hZ hZs)
  unfold geoV at HS HSd ⊢
  obtain ⟨F, hF⟩ : ∃ F : Nat → List Int, F = fun i => invL (upL (bl.getD i []) s) := ⟨_, rfl⟩
  have HF := Lib.hid hF
  clear b1 b2 k1 hn hTb hT9 hB hr hG hS hp3 e0 hm hs hss hM hZ hZs hF hK hp
  go_enter Tryd.func32, Tryd.ntmps32
  go_wp2_with (first
    | (with_reducible refine wpList_load_to (op := ⟨some 18, _, _, _, _, _⟩) rfl 23 (.tmp 3) rfl (.pointer (some ⟨g1, 0, none⟩)) ?hx (.agg #[.int .i64 W, .int .i64 H, .int .i64 (T : Int), .int .i64 K, .int .i64 Q, .bool B]) HL.out ?_)
    | fail)
  case hx => simp [Act.eval]
  clear hw0
  refine (HS.out w0 HB.out.2.2.1).mono ?_
  rintro e w1 ⟨rfl, kk⟩
  have H1 := Lib.hid (And.intro (HB.out.1.on kk) (And.intro (HB.out.2.1.on kk) (on_trans HB.out.2.2.1 kk)))
  clear kk
  go_wp2_with fail
  refine (HW.out w1).mono ?_
  rintro e wx ⟨rfl, rfl⟩
  go_wp2_with (first
    | ((with_reducible refine wpList_store_blk12_ (o := ⟨none, _, _, _, _, _⟩) rfl (.tmp 8) (.tmp 22) rfl rfl w1.heap.size s rfl rfl Z (Box.made _ _ _) HZ.out.2 HSL.out.2 ?_)
       intro w2 bb kk
       have K2 := laid_below kk
       have H2 := Lib.hid (And.intro (H1.out.1.on K2) (And.intro (H1.out.2.1.on K2) (And.intro bb (on_trans H1.out.2.2 K2))))
       clear bb kk K2)
    | fail)
  have R0 : ShE w (w2.alloc (.cells M 29)) g1 w1.heap.size w2.heap.size #[.int .i64 W, .int .i64 H, .int .i64 (T : Int), .int .i64 K, .int .i64 Q, .bool B] s n (mixB F n 0) := by
    have k := on_alloc w2 (.cells M 29)
    refine ⟨H2.out.1.on k, H2.out.2.1.on k, H2.out.2.2.1.on k, ?_, on_trans H2.out.2.2.2 k, by have := HB.out.2.2.2; omega, H1.out.2.1.lt, H2.out.2.2.1.box.lt⟩
    rw [HM.out, ← mixB_zero]
    exact bk_made _ _
  obtain ⟨g8, hg8⟩ : ∃ g, g = w1.heap.size := ⟨_, rfl⟩
  obtain ⟨g9, hg9⟩ : ∃ g, g = w2.heap.size := ⟨_, rfl⟩
  rw [← hg8, ← hg9] at R0
  simp only [← hg8, ← hg9]
  have HR0 := Lib.hid R0
  clear R0 hg8 hg9 hmk H2 H1 hidx
  go_loopw [28, 13] (fun i e wr => ∃ k : Nat, k ≤ n ∧ i = .int .i64 (k : Int) ∧ ShE w wr g1 g8 g9 #[.int .i64 W, .int .i64 H, .int .i64 (T : Int), .int .i64 K, .int .i64 Q, .bool B] s n (mixB F n k)) (fun i _ _ => n - (intOf i).toNat)
  case atStart => exact ⟨0, Nat.zero_le _, rfl, HR0.out⟩
  case round =>
    obtain ⟨k, hk, rfl, hR⟩ := hrel
    by_cases hlt : k < n
    · have hbs := HC.out.2.2.1.on hR.bel
      obtain ⟨x, hx⟩ : ∃ x, bl[k]? = some x := ⟨_, List.getElem?_eq_getElem (by rw [hbs.len]; exact hlt)⟩
      obtain ⟨bb, off, rfl, hbb, _⟩ := hbs.at_ (by omega)
      have hxl : x.length = 64 := hbs.wide x (List.mem_of_getElem? hx)
      have hxr := HC.out.2.2.2.1 x (List.mem_of_getElem? hx)
      have hFk : F k = invL (upL x s) := by rw [HF.out]; simp only [List.getD_eq_getElem?_getD, hx, Option.getD_some]
      have hup : upF x s = (upL x s, 0) := by rw [HSL.out.1]; exact up_ok hxr Q p
      have hin : invF (upL x s) = (invL (upL x s), 0) := by rw [HSL.out.1]; exact inv_ok hxr Q p
      have HLx := Lib.hid (hbs.load hx)
      have CU := Lib.hid (fun w1 => up_any w1 x s hxl HSL.out.2)
      have CI := Lib.hid (fun (w1 : World) (k : Below w.heap.size w w1) => inverse_any w1 (upL x s) (HC.out.2.1.on k) (upL_len x s))
      rw [hup] at CU
      rw [hin, ← hFk] at CI
      unfold Tells8_ at CU
      unfold Tells9_ at CI
      dsimp only at CU CI
      have HX := Lib.hid (And.intro hxl (And.intro (upL_len x s) (show (F k).length = 64 by rw [hFk]; exact invL_len _)))
      obtain ⟨u, hu⟩ : ∃ u, u = upL x s := ⟨_, rfl⟩
      rw [← hu] at CU CI HX
      obtain ⟨y, hy⟩ : ∃ y, y = F k := ⟨_, rfl⟩
      rw [← hy] at CI HX
      have hset := mixB_set F hlt
      rw [← hy] at hset
      have HSet := Lib.hid hset
      have HR := Lib.hid hR
      clear hbs hx hxl hxr hFk hup hin hu hy hset hR
      go_wp2_with (first
        | (with_reducible refine wpList_load_to (op := ⟨some 32, _, _, _, _, _⟩) rfl 29 (.tmp 31) rfl (.pointer (some ⟨bb, off + k * 64, none⟩)) ?hx (blkV x) HLx.out ?_)
        | ((with_reducible refine wpList_store_blk12_ (o := ⟨none, _, _, _, _, _⟩) rfl (.tmp 11) (.tmp 32) rfl rfl wr.heap.size x rfl rfl Z (Box.made _ _ _) HZ.out.2 HX.out.1 ?_)
           intro w3 b3 k3
           have K3 := laid_below k3
           have H3 := Lib.hid (And.intro (HR.out.on K3) b3)
           clear b3 k3 K3)
        | (with_reducible refine wpList_load_to (op := ⟨some 34, _, _, _, _, _⟩) rfl 29 (.tmp 11) rfl (.pointer (some ⟨wr.heap.size, 0, none⟩)) rfl (blkV x) H3.out.2.load ?_)
        | (with_reducible refine wpList_load_to (op := ⟨some 35, _, _, _, _, _⟩) rfl 29 (.tmp 8) rfl (.pointer (some ⟨g8, 0, none⟩)) rfl (blkV s) H3.out.1.st.load ?_)
        | fail)
      all_goals try (first | (case hx => simp [Act.eval]))
      refine (CU.out w3).mono ?_
      rintro r w4 ⟨rfl, k4⟩
      have H4 := Lib.hid (H3.out.1.on k4)
      clear k4 HLx H3
      dsimp only
      go_wp2_with (first
        | ((with_reducible refine wpList_store_blk12_ (o := ⟨none, _, _, _, _, _⟩) rfl (.tmp 12) (.tmp 37) rfl rfl w4.heap.size u rfl rfl Z (Box.made _ _ _) HZ.out.2 HX.out.2.1 ?_)
           intro w5 b5 k5
           have K5 := laid_below k5
           have H5 := Lib.hid (And.intro (H4.out.on K5) b5)
           clear b5 k5 K5)
        | (with_reducible refine wpList_load_to (op := ⟨some 46, _, _, _, _, _⟩) rfl 29 (.tmp 12) rfl (.pointer (some ⟨w4.heap.size, 0, none⟩)) rfl (blkV u) H5.out.2.load ?_)
        | fail)
      refine (CI.out w5 H5.out.1.bel).mono ?_
      rintro r w6 ⟨rfl, k6⟩
      have H6 := Lib.hid (H5.out.1.on k6)
      clear k6 H5
      dsimp only
      go_wp2_with (first
        | ((with_reducible refine wpList_store_bkm (op := ⟨none, _, _, _, _, _⟩) rfl (.tmp 50) (.tmp 48) rfl rfl g9 n k _ H6.out.made hlt y HX.out.2.2 ?hx rfl ?_)
           case hx => simp [Act.eval]
           intro w7 b7 k7
           rw [HSet.out] at b7
           have H7 := Lib.hid (H6.out.put b7 k7)
           clear b7 k7)
        | fail)
      all_goals try (first | (case hx => simp [Act.eval]))
      go_roundw
      case rel => exact ⟨k + 1, by omega, by go_num, H7.out⟩
      case measure => simp [intOf]; omega
    · skip
      obtain rfl : k = n := by omega
      have hall : mixB F k k = shownL Q p bl := by rw [mixB_all, shownL, map_range, HC.out.2.2.1.len, HF.out, HSL.out.1]
      rw [hall] at hR
      have HR := Lib.hid hR
      have q3 : wr.cell? ⟨g1, 3, none⟩ = some (.int .i64 K) := hR.geo.cell 3
      clear hR hall
      go_wp2_with fail
      refine (HD.out wr).mono ?_
      rintro e wx ⟨rfl, rfl⟩
      dsimp only
      go_upto_region 14 with fail
      go_cut [16, 17] (fun q e wx => ∃ g A6 n6 c6, q = .pointer (some ⟨g, 0, none⟩) ∧ e = .int .i64 0 ∧ Box wx g 69 #[.int .i64 ((sideN T (aH K p) : Nat) : Int), .int .i64 ((sideN T (dH K p) : Nat) : Int), .slice A6 n6 c6] ∧ Os wx w.heap.size A6 n6 c6 (joinL (shownL Q p bl) (sideN T (aH K p)) (sideN T (dH K p))) ∧ ShE w wx g1 g8 g9 #[.int .i64 W, .int .i64 H, .int .i64 (T : Int), .int .i64 K, .int .i64 Q, .bool B] s k (shownL Q p bl))
      case first =>
        refine wp_region_held_drew (S := fun w' => Hid (Below wr.heap.size wr w')) (by kernel_rfl) (Lib.hid (on_drew wr)) fun s0 => ?_
        refine take_to (i := 0) (v := .slice (some ⟨g9, 0, none⟩) k k) rfl (by kernel_rfl) (by kernel_rfl) (by kernel_rfl) (fun _ _ _ h => h) (Or.inl ⟨by rfl, fun w' hS => by go_simp⟩) s0 (some 64) rfl ?_
        try simp only [Act.put, List.setIfInBounds_toArray, List.set_cons_zero, List.set_cons_succ]
        refine take_to (i := 1) rfl (by kernel_rfl) (by kernel_rfl) (by kernel_rfl) (fun _ _ _ h => h) (yieldsIf_load (by rfl) 23 _ rfl (.pointer (some ⟨g1, 0, none⟩)) rfl (.agg #[.int .i64 W, .int .i64 H, .int .i64 (T : Int), .int .i64 K, .int .i64 Q, .bool B]) (fun w' h => load_geo (HR.out.on h.out).geo)) s0 (some 65) rfl ?_
        try simp only [Act.put, List.setIfInBounds_toArray, List.set_cons_zero, List.set_cons_succ]
        refine take_to (i := 2) (v := .bool (aH K p)) rfl (by kernel_rfl) (by kernel_rfl) (by kernel_rfl) (fun _ _ _ h => h) (Or.inl ⟨by rfl, fun w' hS => by go_simp⟩) s0 (some 66) rfl ?_
        try simp only [Act.put, List.setIfInBounds_toArray, List.set_cons_zero, List.set_cons_succ]
        refine take_to (i := 4) rfl (by kernel_rfl) (by kernel_rfl) (by kernel_rfl) (fun _ _ _ h => h) (yieldsIf_load (by rfl) 23 _ rfl (.pointer (some ⟨g1, 0, none⟩)) rfl (.agg #[.int .i64 W, .int .i64 H, .int .i64 (T : Int), .int .i64 K, .int .i64 Q, .bool B]) (fun w' h => load_geo (HR.out.on h.out).geo)) s0 (some 68) rfl ?_
        try simp only [Act.put, List.setIfInBounds_toArray, List.set_cons_zero, List.set_cons_succ]
        refine take_to (i := 5) (v := .bool (dH K p)) rfl (by kernel_rfl) (by kernel_rfl) (by kernel_rfl) (fun _ _ _ h => h) (Or.inl ⟨by rfl, fun w' hS => by go_simp⟩) s0 (some 69) rfl ?_
        try simp only [Act.put, List.setIfInBounds_toArray, List.set_cons_zero, List.set_cons_succ]
        generalize wr.drew = v0 at s0 ⊢
        refine wpAnyH_ready (rs := [3, 11]) (by kernel_rfl) (by simp) ?_
        refine AllReadyH.cons rfl (fun Kq hKq => ?_) (AllReadyH.cons rfl (fun Kq hKq => ?_) AllReadyH.nil)
        · skip
          go_simp
          refine Calls.mono (HSd.out v0 (aH K p)) ?_
          rintro r u1 ⟨rfl, k1⟩
          have s1 := Lib.hid (on_trans s0.out k1)
          clear k1
          refine hKq.out _ _ s1 fun _ => ?_
          clear hKq Kq
          try simp only [Act.put, List.setIfInBounds_toArray, List.set_cons_zero, List.set_cons_succ]
          refine wpAnyH_ready (rs := [6, 11]) (by kernel_rfl) (by simp) ?_
          refine AllReadyH.cons rfl (fun Kq hKq => ?_) (AllReadyH.cons rfl (fun Kq hKq => ?_) AllReadyH.nil)
          · skip
            go_simp
            refine Calls.mono (HSd.out u1 (dH K p)) ?_
            rintro r u2 ⟨rfl, k2⟩
            have s2 := Lib.hid (on_trans s1.out k2)
            clear k2
            refine hKq.out _ _ s2 fun _ => ?_
            clear hKq Kq
            try simp only [Act.put, List.setIfInBounds_toArray, List.set_cons_zero, List.set_cons_succ]
            refine wpAnyH_ready (rs := [7, 11]) (by kernel_rfl) (by simp) ?_
            refine AllReadyH.cons rfl (fun Kq hKq => ?_) (AllReadyH.cons rfl (fun Kq hKq => ?_) AllReadyH.nil)
            · skip
              go_simp
              have hJ := join_any u2 ((sideN T (aH K p) : Nat) : Int) ((sideN T (dH K p) : Nat) : Int) _ k k _ ((HR.out.on s2.out).made.bs) (by omega)
              rw [HJ.out] at hJ
              unfold PTells at hJ
              dsimp only at hJ
              refine Calls.mono hJ ?_
              clear hJ
              rintro r u3 ⟨A6, n6, c6, rfl, hO, k3⟩
              have s3 := Lib.hid (on_trans s2.out k3)
              have o3 := Lib.hid (hO.down (Nat.le_trans (show w.heap.size ≤ wr.heap.size from HR.out.bel.size) s2.out.size))
              clear k3 hO
              refine hKq.out _ _ s3 fun _ => ?_
              clear hKq Kq
              try simp only [Act.put, List.setIfInBounds_toArray, List.set_cons_zero, List.set_cons_succ]
              refine take_to (i := 8) (v := .tuple #[.agg #[.int .i64 ((sideN T (aH K p) : Nat) : Int), .int .i64 ((sideN T (dH K p) : Nat) : Int), .slice A6 n6 c6], .int .i64 0]) rfl (by kernel_rfl) (by kernel_rfl) (by kernel_rfl) (fun _ _ _ h => h) (Or.inl ⟨by rfl, fun w' hS => by go_simp⟩) s3 (some 63) rfl ?_
              try simp only [Act.put, List.setIfInBounds_toArray, List.set_cons_zero, List.set_cons_succ]
              refine take_to (i := 9) (v := .agg #[.int .i64 ((sideN T (aH K p) : Nat) : Int), .int .i64 ((sideN T (dH K p) : Nat) : Int), .slice A6 n6 c6]) rfl (by kernel_rfl) (by kernel_rfl) (by kernel_rfl) (fun _ _ _ h => h) (Or.inl ⟨by rfl, fun w' hS => by go_simp⟩) s3 (some 72) rfl ?_
              try simp only [Act.put, List.setIfInBounds_toArray, List.set_cons_zero, List.set_cons_succ]
              refine take_to (i := 10) (v := .int .i64 0) rfl (by kernel_rfl) (by kernel_rfl) (by kernel_rfl) (fun _ _ _ h => h) (Or.inl ⟨by rfl, fun w' hS => by go_simp⟩) s3 (some 73) rfl ?_
              try simp only [Act.put, List.setIfInBounds_toArray, List.set_cons_zero, List.set_cons_succ]
              refine wpAnyH_ready (rs := [11]) (by kernel_rfl) (by simp) ?_
              refine AllReadyH.cons rfl (fun Kq hKq => ?_) AllReadyH.nil
              · skip
                go_simp
                have kb4 : Below u3.heap.size u3 (u3.alloc (.cells #[.int .i64 0, .int .i64 0, .slice none 0 0] 69)) := on_alloc _ _
                have bb4 : Box (u3.alloc (.cells #[.int .i64 0, .int .i64 0, .slice none 0 0] 69)) u3.heap.size 69 #[.int .i64 0, .int .i64 0, .slice none 0 0] := Box.made _ _ _
                obtain ⟨gb, hgb⟩ : ∃ gb, gb = u3.heap.size := ⟨_, rfl⟩
                obtain ⟨u4, hu4⟩ : ∃ x, x = (u3.alloc (.cells #[.int .i64 0, .int .i64 0, .slice none 0 0] 69)) := ⟨_, rfl⟩
                simp only [← hgb, ← hu4] at bb4 ⊢
                rw [← hu4] at kb4
                have x4 := Lib.hid (And.intro bb4 (show wr.heap.size ≤ gb by rw [hgb]; exact s3.out.size))
                have s4 := Lib.hid (on_trans s3.out kb4)
                have ne4 := Lib.hid (show ∀ b off, A6 = some ⟨b, off, none⟩ → ¬ b = gb from fun b off e => by have := (o3.out.new b off e).2.1; omega)
                have o4 := Lib.hid (o3.out.on kb4)
                clear kb4 bb4 hu4 hgb
                refine hKq.out _ _ s4 fun _ => ?_
                clear hKq Kq
                try simp only [Act.put, List.setIfInBounds_toArray, List.set_cons_zero, List.set_cons_succ]
                refine wpAnyH_ready (rs := [12]) (by kernel_rfl) (by simp) ?_
                refine AllReadyH.cons rfl (fun Kq hKq => ?_) AllReadyH.nil
                refine if_then (by rfl) ?_
                refine wp_store_plane (.tmp 16) (.tmp 72) rfl rfl gb #[.int .i64 ((sideN T (aH K p) : Nat) : Int), .int .i64 ((sideN T (dH K p) : Nat) : Int), .slice A6 n6 c6] rfl (by simp [Value.oneCell']) rfl rfl #[.int .i64 0, .int .i64 0, .slice none 0 0] x4.out.1 rfl fun w9 b9 k9 => ?_
                have s5 := Lib.hid (s4.out.trans (k9.below s4.out.size (fun i hi e => by have := x4.out.2; omega)))
                have HO := Lib.hid (And.intro b9 (o4.out.kept k9 ne4.out))
                refine hKq.out _ _ s5 fun _ => ?_
                clear hKq Kq b9 k9
                try simp only [Act.put, List.setIfInBounds_toArray, List.set_cons_zero, List.set_cons_succ]
                refine take_to (i := 13) (v := .int .i64 0) rfl (by kernel_rfl) (by kernel_rfl) (by kernel_rfl) (fun _ _ _ h => h) (Or.inl ⟨by rfl, fun w' hS => by go_simp⟩) s5 (some 17) rfl ?_
                try simp only [Act.put, List.setIfInBounds_toArray, List.set_cons_zero, List.set_cons_succ]
                refine wpAnyH_done (by kernel_rfl) ?_ _
                go_wp2_with fail
                go_meet
                exact ⟨gb, A6, n6, c6, rfl, rfl, HO.out.1, HO.out.2, HR.out.on s5.out⟩
            · skip
              go_simp
              have kb6 : Below u2.heap.size u2 (u2.alloc (.cells #[.int .i64 0, .int .i64 0, .slice none 0 0] 69)) := on_alloc _ _
              have bb6 : Box (u2.alloc (.cells #[.int .i64 0, .int .i64 0, .slice none 0 0] 69)) u2.heap.size 69 #[.int .i64 0, .int .i64 0, .slice none 0 0] := Box.made _ _ _
              obtain ⟨gb, hgb⟩ : ∃ gb, gb = u2.heap.size := ⟨_, rfl⟩
              obtain ⟨u6, hu6⟩ : ∃ x, x = (u2.alloc (.cells #[.int .i64 0, .int .i64 0, .slice none 0 0] 69)) := ⟨_, rfl⟩
              simp only [← hgb, ← hu6] at bb6 ⊢
              rw [← hu6] at kb6
              have x6 := Lib.hid (And.intro bb6 (show wr.heap.size ≤ gb by rw [hgb]; exact s2.out.size))
              have s6 := Lib.hid (on_trans s2.out kb6)
              clear kb6 bb6 hu6 hgb
              refine hKq.out _ _ s6 fun _ => ?_
              clear hKq Kq
              try simp only [Act.put, List.setIfInBounds_toArray, List.set_cons_zero, List.set_cons_succ]
              refine wpAnyH_ready (rs := [7]) (by kernel_rfl) (by simp) ?_
              refine AllReadyH.cons rfl (fun Kq hKq => ?_) AllReadyH.nil
              · skip
                go_simp
                have hJ := join_any u6 ((sideN T (aH K p) : Nat) : Int) ((sideN T (dH K p) : Nat) : Int) _ k k _ ((HR.out.on s6.out).made.bs) (by omega)
                rw [HJ.out] at hJ
                unfold PTells at hJ
                dsimp only at hJ
                refine Calls.mono hJ ?_
                clear hJ
                rintro r u7 ⟨A6, n6, c6, rfl, hO, k7⟩
                have s7 := Lib.hid (on_trans s6.out k7)
                have o7 := Lib.hid (hO.down (Nat.le_trans (show w.heap.size ≤ wr.heap.size from HR.out.bel.size) s6.out.size))
                have ne7 := Lib.hid (show ∀ b off, A6 = some ⟨b, off, none⟩ → ¬ b = gb from fun b off e => by have := (hO.new b off e).1; have := x6.out.1.lt; omega)
                have x7 := Lib.hid (And.intro (x6.out.1.on k7) x6.out.2)
                clear k7 hO
                refine hKq.out _ _ s7 fun _ => ?_
                clear hKq Kq
                try simp only [Act.put, List.setIfInBounds_toArray, List.set_cons_zero, List.set_cons_succ]
                refine take_to (i := 8) (v := .tuple #[.agg #[.int .i64 ((sideN T (aH K p) : Nat) : Int), .int .i64 ((sideN T (dH K p) : Nat) : Int), .slice A6 n6 c6], .int .i64 0]) rfl (by kernel_rfl) (by kernel_rfl) (by kernel_rfl) (fun _ _ _ h => h) (Or.inl ⟨by rfl, fun w' hS => by go_simp⟩) s7 (some 63) rfl ?_
                try simp only [Act.put, List.setIfInBounds_toArray, List.set_cons_zero, List.set_cons_succ]
                refine take_to (i := 9) (v := .agg #[.int .i64 ((sideN T (aH K p) : Nat) : Int), .int .i64 ((sideN T (dH K p) : Nat) : Int), .slice A6 n6 c6]) rfl (by kernel_rfl) (by kernel_rfl) (by kernel_rfl) (fun _ _ _ h => h) (Or.inl ⟨by rfl, fun w' hS => by go_simp⟩) s7 (some 72) rfl ?_
                try simp only [Act.put, List.setIfInBounds_toArray, List.set_cons_zero, List.set_cons_succ]
                refine take_to (i := 10) (v := .int .i64 0) rfl (by kernel_rfl) (by kernel_rfl) (by kernel_rfl) (fun _ _ _ h => h) (Or.inl ⟨by rfl, fun w' hS => by go_simp⟩) s7 (some 73) rfl ?_
                try simp only [Act.put, List.setIfInBounds_toArray, List.set_cons_zero, List.set_cons_succ]
                refine wpAnyH_ready (rs := [12]) (by kernel_rfl) (by simp) ?_
                refine AllReadyH.cons rfl (fun Kq hKq => ?_) AllReadyH.nil
                refine if_then (by rfl) ?_
                refine wp_store_plane (.tmp 16) (.tmp 72) rfl rfl gb #[.int .i64 ((sideN T (aH K p) : Nat) : Int), .int .i64 ((sideN T (dH K p) : Nat) : Int), .slice A6 n6 c6] rfl (by simp [Value.oneCell']) rfl rfl #[.int .i64 0, .int .i64 0, .slice none 0 0] x7.out.1 rfl fun w9 b9 k9 => ?_
                have s8 := Lib.hid (s7.out.trans (k9.below s7.out.size (fun i hi e => by have := x7.out.2; omega)))
                have HO := Lib.hid (And.intro b9 (o7.out.kept k9 ne7.out))
                refine hKq.out _ _ s8 fun _ => ?_
                clear hKq Kq b9 k9
                try simp only [Act.put, List.setIfInBounds_toArray, List.set_cons_zero, List.set_cons_succ]
                refine take_to (i := 13) (v := .int .i64 0) rfl (by kernel_rfl) (by kernel_rfl) (by kernel_rfl) (fun _ _ _ h => h) (Or.inl ⟨by rfl, fun w' hS => by go_simp⟩) s8 (some 17) rfl ?_
                try simp only [Act.put, List.setIfInBounds_toArray, List.set_cons_zero, List.set_cons_succ]
                refine wpAnyH_done (by kernel_rfl) ?_ _
                go_wp2_with fail
                go_meet
                exact ⟨gb, A6, n6, c6, rfl, rfl, HO.out.1, HO.out.2, HR.out.on s8.out⟩
          · skip
            go_simp
            have kb9 : Below u1.heap.size u1 (u1.alloc (.cells #[.int .i64 0, .int .i64 0, .slice none 0 0] 69)) := on_alloc _ _
            have bb9 : Box (u1.alloc (.cells #[.int .i64 0, .int .i64 0, .slice none 0 0] 69)) u1.heap.size 69 #[.int .i64 0, .int .i64 0, .slice none 0 0] := Box.made _ _ _
            obtain ⟨gb, hgb⟩ : ∃ gb, gb = u1.heap.size := ⟨_, rfl⟩
            obtain ⟨u9, hu9⟩ : ∃ x, x = (u1.alloc (.cells #[.int .i64 0, .int .i64 0, .slice none 0 0] 69)) := ⟨_, rfl⟩
            simp only [← hgb, ← hu9] at bb9 ⊢
            rw [← hu9] at kb9
            have x9 := Lib.hid (And.intro bb9 (show wr.heap.size ≤ gb by rw [hgb]; exact s1.out.size))
            have s9 := Lib.hid (on_trans s1.out kb9)
            clear kb9 bb9 hu9 hgb
            refine hKq.out _ _ s9 fun _ => ?_
            clear hKq Kq
            try simp only [Act.put, List.setIfInBounds_toArray, List.set_cons_zero, List.set_cons_succ]
            refine wpAnyH_ready (rs := [6]) (by kernel_rfl) (by simp) ?_
            refine AllReadyH.cons rfl (fun Kq hKq => ?_) AllReadyH.nil
            · skip
              go_simp
              refine Calls.mono (HSd.out u9 (dH K p)) ?_
              rintro r u10 ⟨rfl, k10⟩
              have s10 := Lib.hid (on_trans s9.out k10)
              have x10 := Lib.hid (And.intro (x9.out.1.on k10) x9.out.2)
              clear k10
              refine hKq.out _ _ s10 fun _ => ?_
              clear hKq Kq
              try simp only [Act.put, List.setIfInBounds_toArray, List.set_cons_zero, List.set_cons_succ]
              refine wpAnyH_ready (rs := [7]) (by kernel_rfl) (by simp) ?_
              refine AllReadyH.cons rfl (fun Kq hKq => ?_) AllReadyH.nil
              · skip
                go_simp
                have hJ := join_any u10 ((sideN T (aH K p) : Nat) : Int) ((sideN T (dH K p) : Nat) : Int) _ k k _ ((HR.out.on s10.out).made.bs) (by omega)
                rw [HJ.out] at hJ
                unfold PTells at hJ
                dsimp only at hJ
                refine Calls.mono hJ ?_
                clear hJ
                rintro r u11 ⟨A6, n6, c6, rfl, hO, k11⟩
                have s11 := Lib.hid (on_trans s10.out k11)
                have o11 := Lib.hid (hO.down (Nat.le_trans (show w.heap.size ≤ wr.heap.size from HR.out.bel.size) s10.out.size))
                have ne11 := Lib.hid (show ∀ b off, A6 = some ⟨b, off, none⟩ → ¬ b = gb from fun b off e => by have := (hO.new b off e).1; have := x10.out.1.lt; omega)
                have x11 := Lib.hid (And.intro (x10.out.1.on k11) x10.out.2)
                clear k11 hO
                refine hKq.out _ _ s11 fun _ => ?_
                clear hKq Kq
                try simp only [Act.put, List.setIfInBounds_toArray, List.set_cons_zero, List.set_cons_succ]
                refine take_to (i := 8) (v := .tuple #[.agg #[.int .i64 ((sideN T (aH K p) : Nat) : Int), .int .i64 ((sideN T (dH K p) : Nat) : Int), .slice A6 n6 c6], .int .i64 0]) rfl (by kernel_rfl) (by kernel_rfl) (by kernel_rfl) (fun _ _ _ h => h) (Or.inl ⟨by rfl, fun w' hS => by go_simp⟩) s11 (some 63) rfl ?_
                try simp only [Act.put, List.setIfInBounds_toArray, List.set_cons_zero, List.set_cons_succ]
                refine take_to (i := 9) (v := .agg #[.int .i64 ((sideN T (aH K p) : Nat) : Int), .int .i64 ((sideN T (dH K p) : Nat) : Int), .slice A6 n6 c6]) rfl (by kernel_rfl) (by kernel_rfl) (by kernel_rfl) (fun _ _ _ h => h) (Or.inl ⟨by rfl, fun w' hS => by go_simp⟩) s11 (some 72) rfl ?_
                try simp only [Act.put, List.setIfInBounds_toArray, List.set_cons_zero, List.set_cons_succ]
                refine take_to (i := 10) (v := .int .i64 0) rfl (by kernel_rfl) (by kernel_rfl) (by kernel_rfl) (fun _ _ _ h => h) (Or.inl ⟨by rfl, fun w' hS => by go_simp⟩) s11 (some 73) rfl ?_
                try simp only [Act.put, List.setIfInBounds_toArray, List.set_cons_zero, List.set_cons_succ]
                refine wpAnyH_ready (rs := [12]) (by kernel_rfl) (by simp) ?_
                refine AllReadyH.cons rfl (fun Kq hKq => ?_) AllReadyH.nil
                refine if_then (by rfl) ?_
                refine wp_store_plane (.tmp 16) (.tmp 72) rfl rfl gb #[.int .i64 ((sideN T (aH K p) : Nat) : Int), .int .i64 ((sideN T (dH K p) : Nat) : Int), .slice A6 n6 c6] rfl (by simp [Value.oneCell']) rfl rfl #[.int .i64 0, .int .i64 0, .slice none 0 0] x11.out.1 rfl fun w9 b9 k9 => ?_
                have s12 := Lib.hid (s11.out.trans (k9.below s11.out.size (fun i hi e => by have := x11.out.2; omega)))
                have HO := Lib.hid (And.intro b9 (o11.out.kept k9 ne11.out))
                refine hKq.out _ _ s12 fun _ => ?_
                clear hKq Kq b9 k9
                try simp only [Act.put, List.setIfInBounds_toArray, List.set_cons_zero, List.set_cons_succ]
                refine take_to (i := 13) (v := .int .i64 0) rfl (by kernel_rfl) (by kernel_rfl) (by kernel_rfl) (fun _ _ _ h => h) (Or.inl ⟨by rfl, fun w' hS => by go_simp⟩) s12 (some 17) rfl ?_
                try simp only [Act.put, List.setIfInBounds_toArray, List.set_cons_zero, List.set_cons_succ]
                refine wpAnyH_done (by kernel_rfl) ?_ _
                go_wp2_with fail
                go_meet
                exact ⟨gb, A6, n6, c6, rfl, rfl, HO.out.1, HO.out.2, HR.out.on s12.out⟩
        · skip
          go_simp
          have kb13 : Below v0.heap.size v0 (v0.alloc (.cells #[.int .i64 0, .int .i64 0, .slice none 0 0] 69)) := on_alloc _ _
          have bb13 : Box (v0.alloc (.cells #[.int .i64 0, .int .i64 0, .slice none 0 0] 69)) v0.heap.size 69 #[.int .i64 0, .int .i64 0, .slice none 0 0] := Box.made _ _ _
          obtain ⟨gb, hgb⟩ : ∃ gb, gb = v0.heap.size := ⟨_, rfl⟩
          obtain ⟨u13, hu13⟩ : ∃ x, x = (v0.alloc (.cells #[.int .i64 0, .int .i64 0, .slice none 0 0] 69)) := ⟨_, rfl⟩
          simp only [← hgb, ← hu13] at bb13 ⊢
          rw [← hu13] at kb13
          have x13 := Lib.hid (And.intro bb13 (show wr.heap.size ≤ gb by rw [hgb]; exact s0.out.size))
          have s13 := Lib.hid (on_trans s0.out kb13)
          clear kb13 bb13 hu13 hgb
          refine hKq.out _ _ s13 fun _ => ?_
          clear hKq Kq
          try simp only [Act.put, List.setIfInBounds_toArray, List.set_cons_zero, List.set_cons_succ]
          refine wpAnyH_ready (rs := [3]) (by kernel_rfl) (by simp) ?_
          refine AllReadyH.cons rfl (fun Kq hKq => ?_) AllReadyH.nil
          · skip
            go_simp
            refine Calls.mono (HSd.out u13 (aH K p)) ?_
            rintro r u14 ⟨rfl, k14⟩
            have s14 := Lib.hid (on_trans s13.out k14)
            have x14 := Lib.hid (And.intro (x13.out.1.on k14) x13.out.2)
            clear k14
            refine hKq.out _ _ s14 fun _ => ?_
            clear hKq Kq
            try simp only [Act.put, List.setIfInBounds_toArray, List.set_cons_zero, List.set_cons_succ]
            refine wpAnyH_ready (rs := [6]) (by kernel_rfl) (by simp) ?_
            refine AllReadyH.cons rfl (fun Kq hKq => ?_) AllReadyH.nil
            · skip
              go_simp
              refine Calls.mono (HSd.out u14 (dH K p)) ?_
              rintro r u15 ⟨rfl, k15⟩
              have s15 := Lib.hid (on_trans s14.out k15)
              have x15 := Lib.hid (And.intro (x14.out.1.on k15) x14.out.2)
              clear k15
              refine hKq.out _ _ s15 fun _ => ?_
              clear hKq Kq
              try simp only [Act.put, List.setIfInBounds_toArray, List.set_cons_zero, List.set_cons_succ]
              refine wpAnyH_ready (rs := [7]) (by kernel_rfl) (by simp) ?_
              refine AllReadyH.cons rfl (fun Kq hKq => ?_) AllReadyH.nil
              · skip
                go_simp
                have hJ := join_any u15 ((sideN T (aH K p) : Nat) : Int) ((sideN T (dH K p) : Nat) : Int) _ k k _ ((HR.out.on s15.out).made.bs) (by omega)
                rw [HJ.out] at hJ
                unfold PTells at hJ
                dsimp only at hJ
                refine Calls.mono hJ ?_
                clear hJ
                rintro r u16 ⟨A6, n6, c6, rfl, hO, k16⟩
                have s16 := Lib.hid (on_trans s15.out k16)
                have o16 := Lib.hid (hO.down (Nat.le_trans (show w.heap.size ≤ wr.heap.size from HR.out.bel.size) s15.out.size))
                have ne16 := Lib.hid (show ∀ b off, A6 = some ⟨b, off, none⟩ → ¬ b = gb from fun b off e => by have := (hO.new b off e).1; have := x15.out.1.lt; omega)
                have x16 := Lib.hid (And.intro (x15.out.1.on k16) x15.out.2)
                clear k16 hO
                refine hKq.out _ _ s16 fun _ => ?_
                clear hKq Kq
                try simp only [Act.put, List.setIfInBounds_toArray, List.set_cons_zero, List.set_cons_succ]
                refine take_to (i := 8) (v := .tuple #[.agg #[.int .i64 ((sideN T (aH K p) : Nat) : Int), .int .i64 ((sideN T (dH K p) : Nat) : Int), .slice A6 n6 c6], .int .i64 0]) rfl (by kernel_rfl) (by kernel_rfl) (by kernel_rfl) (fun _ _ _ h => h) (Or.inl ⟨by rfl, fun w' hS => by go_simp⟩) s16 (some 63) rfl ?_
                try simp only [Act.put, List.setIfInBounds_toArray, List.set_cons_zero, List.set_cons_succ]
                refine take_to (i := 9) (v := .agg #[.int .i64 ((sideN T (aH K p) : Nat) : Int), .int .i64 ((sideN T (dH K p) : Nat) : Int), .slice A6 n6 c6]) rfl (by kernel_rfl) (by kernel_rfl) (by kernel_rfl) (fun _ _ _ h => h) (Or.inl ⟨by rfl, fun w' hS => by go_simp⟩) s16 (some 72) rfl ?_
                try simp only [Act.put, List.setIfInBounds_toArray, List.set_cons_zero, List.set_cons_succ]
                refine take_to (i := 10) (v := .int .i64 0) rfl (by kernel_rfl) (by kernel_rfl) (by kernel_rfl) (fun _ _ _ h => h) (Or.inl ⟨by rfl, fun w' hS => by go_simp⟩) s16 (some 73) rfl ?_
                try simp only [Act.put, List.setIfInBounds_toArray, List.set_cons_zero, List.set_cons_succ]
                refine wpAnyH_ready (rs := [12]) (by kernel_rfl) (by simp) ?_
                refine AllReadyH.cons rfl (fun Kq hKq => ?_) AllReadyH.nil
                refine if_then (by rfl) ?_
                refine wp_store_plane (.tmp 16) (.tmp 72) rfl rfl gb #[.int .i64 ((sideN T (aH K p) : Nat) : Int), .int .i64 ((sideN T (dH K p) : Nat) : Int), .slice A6 n6 c6] rfl (by simp [Value.oneCell']) rfl rfl #[.int .i64 0, .int .i64 0, .slice none 0 0] x16.out.1 rfl fun w9 b9 k9 => ?_
                have s17 := Lib.hid (s16.out.trans (k9.below s16.out.size (fun i hi e => by have := x16.out.2; omega)))
                have HO := Lib.hid (And.intro b9 (o16.out.kept k9 ne16.out))
                refine hKq.out _ _ s17 fun _ => ?_
                clear hKq Kq b9 k9
                try simp only [Act.put, List.setIfInBounds_toArray, List.set_cons_zero, List.set_cons_succ]
                refine take_to (i := 13) (v := .int .i64 0) rfl (by kernel_rfl) (by kernel_rfl) (by kernel_rfl) (fun _ _ _ h => h) (Or.inl ⟨by rfl, fun w' hS => by go_simp⟩) s17 (some 17) rfl ?_
                try simp only [Act.put, List.setIfInBounds_toArray, List.set_cons_zero, List.set_cons_succ]
                refine wpAnyH_done (by kernel_rfl) ?_ _
                go_wp2_with fail
                go_meet
                exact ⟨gb, A6, n6, c6, rfl, rfl, HO.out.1, HO.out.2, HR.out.on s17.out⟩
      case rest =>
        obtain ⟨gq, A6, n6, c6, rfl, rfl, hbx, hO, hS⟩ := hcut
        have q2 := hS.geo.cell 2
        simp at q2
        have H8 := Lib.hid (And.intro hbx (And.intro hO hS))
        have hn6 : n6 ≤ 1000000 := by
          have h1 := hO.il.len
          have h2 := (joined_right hT K Q p bl).len
          have h3 := (joined_right hT K Q p bl).small
          omega
        have hC := grow_any wc ((sideN T (aH K p) : Nat) : Int) ((sideN T (dH K p) : Nat) : Int) (T : Int) (T : Int) (aH K p) (dH K p) A6 n6 c6 _ hO.ia hn6
        rw [HGr.out] at hC
        unfold PTells at hC
        dsimp only at hC
        have HCg := Lib.hid hC
        clear hbx hO hS hn6 hC
        go_wp2_with (first
          | (with_reducible refine wpList_load_to (op := ⟨some 78, _, _, _, _, _⟩) rfl 69 (.tmp 16) rfl (.pointer (some ⟨gq, 0, none⟩)) rfl (.agg #[.int .i64 ((sideN T (aH K p) : Nat) : Int), .int .i64 ((sideN T (dH K p) : Nat) : Int), .slice A6 n6 c6]) (load_plane H8.out.1 rfl) ?_)
          | fail)
        refine HCg.out.mono ?_
        rintro r w9 ⟨A9, n9, c9, rfl, hO, k9⟩
        have H9 := Lib.hid (And.intro hO (And.intro (H8.out.2.2.on k9) (And.intro (show g1 + 1 < wc.heap.size from H8.out.2.2.ans.lt) (show w.heap.size ≤ wc.heap.size from H8.out.2.2.bel.size))))
        clear hO k9 q2
        dsimp only
        go_wp2_with (first
          | ((with_reducible refine wpList_store_plane (o := ⟨none, _, _, _, _, _⟩) rfl (.tmp 6) (.tmp 86) rfl rfl (g1 + 1) #[.int .i64 (T : Int), .int .i64 (T : Int), .slice A9 n9 c9] rfl ?ho rfl rfl _ H9.out.2.1.ans rfl ?_)
             case ho => simp [Value.oneCell']
             intro w10 b10 k10
             have H10 := Lib.hid (And.intro b10 k10)
             clear b10 k10)
          | fail)
        refine bodyPost_ret (v := .tuple #[.agg #[.int .i64 (T : Int), .int .i64 (T : Int), .slice A9 n9 c9], .int .i64 0]) (results_ct (fn := Tryd.f32) Tryd.results32 _ _ (g1 + 1) _ _ rfl rfl (loadVar_plane H10.out.1 rfl)) rfl ?_
        exact ⟨A9, n9, c9, rfl, (H9.out.1.down H9.out.2.2.2).kept H10.out.2 (fun b off e hb => by have := (H9.out.1.new b off e).1; have := H9.out.2.2.1; omega), H9.out.2.1.bel.trans (H10.out.2.below H9.out.2.1.bel.size (fun i hi e => by have := HB.out.2.2.2; omega))⟩
end Go.Proofs.YtmadkpnkmkajoaaDoor
