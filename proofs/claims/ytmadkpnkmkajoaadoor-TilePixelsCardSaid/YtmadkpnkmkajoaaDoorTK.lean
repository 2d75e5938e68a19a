/-
  The pixels of a tile that may not be; those of a tile of noughts; the law's own awake.
-/
import Derived.Test.YtmadkpnkmkajoaaDoorTJ
import Derived.Test.YtmadkpnkmkajoaaDoorTE
namespace Go.Proofs.YtmadkpnkmkajoaaDoor
open Go.RowKit
set_option maxRecDepth 20000

set_option maxHeartbeats 3200000 in
theorem pixels_bad (w : World) (W H T K Q : Int) (B : Bool) (A : Option Addr) (n c : Nat) (L : List (Option Addr × Nat × Nat)) (tl : List (List (List Int))) (hTi : Ti w A n L tl) (hno : ¬ OkT W H T K Q tl) :
    Calls Tryd.prog 20 #[geoV W H T K Q B, tileV A n c] w fun e w' => e = .returned (.tuple #[.slice none 0 0, .int .i64 1]) ∧ Below w.heap.size w w' := by
  obtain ⟨g1, hg1⟩ : ∃ g1, w.heap.size = g1 := ⟨_, rfl⟩
  obtain ⟨w0, hw0⟩ : ∃ w1, (w.alloc (.cells #[.int .i64 W, .int .i64 H, .int .i64 T, .int .i64 K, .int .i64 Q, .bool B] 23)).alloc (.cells #[.slice A n c] 35) = w1 := ⟨_, rfl⟩
  have b1 : Box w0 g1 23 #[.int .i64 W, .int .i64 H, .int .i64 T, .int .i64 K, .int .i64 Q, .bool B] := by rw [← hw0, ← hg1]; exact (Box.made _ _ _).alloc _
  have b2 : Box w0 (g1 + 1) 35 #[.slice A n c] := by rw [← hw0, ← hg1]; have := Box.made (w.alloc (.cells #[.int .i64 W, .int .i64 H, .int .i64 T, .int .i64 K, .int .i64 Q, .bool B] 23)) 35 #[.slice A n c]; simpa using this
  have k1 : Below w.heap.size w w0 := by rw [← hw0]; exact on_trans (on_alloc _ _) (on_alloc _ _)
  have HL := Lib.hid (And.intro (load_geo b1) (load_tile b2))
  have HB := Lib.hid (And.intro k1 hno)
  have HV := Lib.hid (valid_any w0 W H T K Q B A n c L tl (hTi.on k1))
  unfold ValidY at HV
  unfold geoV at HV ⊢
  unfold tileV at HV ⊢
  clear b1 b2 k1 hTi hno
  go_enter Tryd.func20, Tryd.ntmps20
  go_wp2_with (first
    | (with_reducible refine wpList_load_to (op := ⟨some 19, _, _, _, _, _⟩) rfl 23 (.tmp 2) rfl (.pointer (some ⟨g1, 0, none⟩)) ?hx (.agg #[.int .i64 W, .int .i64 H, .int .i64 T, .int .i64 K, .int .i64 Q, .bool B]) HL.out.1 ?_)
    | (with_reducible refine wpList_load_to (op := ⟨some 20, _, _, _, _, _⟩) rfl 35 (.tmp 3) rfl (.pointer (some ⟨g1 + 1, 0, none⟩)) ?hx2 (.agg #[.slice A n c]) HL.out.2 ?_)
    | fail)
  all_goals try (first | (case hx => simp [Act.eval]) | (case hx2 => simp [Act.eval]))
  clear hw0
  refine HV.out.mono ?_
  rintro e w1 ⟨r, rfl, hr, k1⟩
  obtain rfl : r = false := by
    cases r with
    | false => rfl
    | true => exact absurd (hr.1 rfl) HB.out.2
  have H1 := Lib.hid (on_trans HB.out.1 k1)
  clear k1 hr HV
  go_wp2_with fail
  go_ret2
  exact ⟨rfl, H1.out⟩

theorem up_none (Q : Int) (p k : Nat) (hk : k < 64) : (upL zeros64 (stQ Q p)).getD k 0 = 0 := by
  unfold upL
  rw [tab_at _ hk, zeros_at12_ k, Int.zero_mul]
theorem inv_none (Q : Int) (p k : Nat) (hk : k < 64) : (invL (upL zeros64 (stQ Q p))).getD k 0 = 0 := by
  have h : invT (upL zeros64 (stQ Q p)) (k / 8) (k % 8) = 0 := by
    unfold invT
    rw [su_congr (g := fun _ => 0) (fun a ha => ?_), su_none]
    rw [su_congr (g := fun _ => 0) (fun b hb => ?_), su_none]
    rw [up_none Q p _ (by omega), Int.mul_zero]
  unfold invL
  rw [tab_at _ hk, h]
  decide
/-- the blocks of a tile of noughts -/
theorem noughts_at (T : Nat) (K : Int) {p : Nat} (hp : p < nP K) : (zeroG T T K).getD p [] = List.replicate (nB T T K p) zeros64 := by
  rw [zeroG, List.getD_eq_getElem?_getD, List.getElem?_map, List.getElem?_range hp]
  rfl
theorem join_none (Q : Int) (p n w h : Nat) : joinL (shownL Q p (List.replicate n zeros64)) w h = flatP 128 w h := by
  unfold joinL flatP
  refine grid_congr fun y _ x _ => ?_
  unfold joinT
  have e : ((shownL Q p (List.replicate n zeros64)).getD (nb w * (y / 8) + x / 8) []).getD (8 * (y % 8) + x % 8) 0 = 0 := by
    unfold shownL
    rw [List.map_replicate]
    generalize nb w * (y / 8) + x / 8 = i
    rcases Nat.lt_or_ge i n with h1 | h1
    · have e1 : (List.replicate n (invL (upL zeros64 (stQ Q p)))).getD i [] = invL (upL zeros64 (stQ Q p)) := by rw [List.getD_eq_getElem?_getD, List.getElem?_replicate, if_pos h1, Option.getD_some]
      rw [e1]
      exact inv_none Q p _ (by omega)
    · have e1 : (List.replicate n (invL (upL zeros64 (stQ Q p)))).getD i [] = [] := by rw [List.getD_eq_getElem?_getD, List.getElem?_replicate, if_neg (by omega), Option.getD_none]
      rw [e1]
      rfl
  rw [e]
  rfl
theorem smp_none {T : Nat} (hT : T = 16 ∨ T = 32) (K Q : Int) {j : Nat} (hj : j < T * T) (k : Nat) : smp K T Q (zeroG T T K) j k = 128 := by
  unfold smp
  by_cases h : k < nP K
  · rw [if_pos h, noughts_at T K h]
    unfold planeQ
    rw [join_none]
    exact grow_flat 128 (side_small hT _).1 (side_small hT _).1 _ _ _ _ hj
  · rw [if_neg h]
theorem pix_none {T : Nat} (hT : T = 16 ∨ T = 32) (K Q : Int) {j : Nat} (hj : j < T * T) (k : Nat) : pxc K T Q (zeroG T T K) j k = 128 := by
  have e : pixQ K T Q (zeroG T T K) j = (128, 128, 128) := by
    unfold pixQ
    rw [smp_none hT K Q hj, smp_none hT K Q hj, smp_none hT K Q hj, pix_grey (by decide)]
  unfold pxc
  rw [e]
  split
  · rfl
  · split <;> rfl
theorem none_right {T : Nat} (hT : T = 16 ∨ T = 32) {K : Int} (h0 : 0 ≤ K) (h3 : K ≤ 3) : RightT T T K 0 (zeroG T T K) := by
  have hz := zeroG_len T T K
  refine ⟨by unfold RightS; omega, hz.1, fun p hp => ⟨hz.2 p hp, fun b hb => ?_⟩⟩
  rw [noughts_at T K hp] at hb
  rw [List.eq_of_mem_replicate hb]
  intro j hj
  rw [zeros_at12_ j]
  decide

/-- what awake answers -/
def WokeT (w : World) (e : Ending) (w' : World) : Prop := e = .returned (.bool true) ∧ Below w.heap.size w w'
set_option maxHeartbeats 6400000 in
theorem awake_any (w : World) (hTb : Tab w) (hT9 : Tab9_ w) (hTP : TabP w) : Calls Tryd.prog 17 #[] w (WokeT w) := by
  have hG : RightG 1 1 (16 : Nat) 3 50 := by decide
  have hT : (16 : Nat) = 16 ∨ (16 : Nat) = 32 := .inl rfl
  have hR : RightT (16 : Nat) (16 : Nat) 3 0 (zeroG (16 : Nat) (16 : Nat) 3) := none_right hT (by omega) (by omega)
  obtain ⟨g1, hg1⟩ : ∃ g1, w.heap.size = g1 := ⟨_, rfl⟩
  obtain ⟨v0, hv0⟩ : ∃ w1, w.alloc (.cells #[.int .i64 1, .int .i64 1, .int .i64 16, .int .i64 3, .int .i64 50, .bool false] 23) = w1 := ⟨_, rfl⟩
  have b0 : Box v0 g1 23 #[.int .i64 1, .int .i64 1, .int .i64 16, .int .i64 3, .int .i64 50, .bool false] := by rw [← hv0, ← hg1]; exact Box.made _ _ _
  have k0 : Below w.heap.size w v0 := by rw [← hv0]; exact on_alloc _ _
  have c5 : v0.cell? ⟨g1, 5, none⟩ = some (.bool false) := b0.cell 5
  have f5 : v0.frozen? ⟨g1, 5, none⟩ = false := b0.free 5
  obtain ⟨w0, hw0⟩ : ∃ w1, v0.setCell ⟨g1, 5, none⟩ (.bool false) = w1 := ⟨_, rfl⟩
  have b1 : Box w0 g1 23 #[.int .i64 1, .int .i64 1, .int .i64 16, .int .i64 3, .int .i64 50, .bool false] := by rw [← hw0]; exact b0.put 5 _
  have k1 : Below w.heap.size w w0 := by
    rw [← hw0]
    have hK : Kept (fun i => i = g1) v0 (v0.setCell ⟨g1, 5, none⟩ (.bool false)) := (Kept.refl (fun i => i = g1) v0).setCell (p := ⟨g1, 5, none⟩) (fun _ => rfl) _
    exact k0.trans (hK.below k0.size (fun i hi e => by omega))
  have HB := Lib.hid (And.intro b1 (And.intro k1 hg1))
  have HN := Lib.hid (fun w1 => none_good w1 1 1 (16 : Nat) 3 50 false hG)
  have HP := Lib.hid (fun (w1 : World) (k : Below w.heap.size w w1) (A : Option Addr) (c : Nat) (bd : Nat → Nat) (lo : Nat) (hM : TlM w1 lo (16 : Nat) (16 : Nat) 3 A bd (zeroG (16 : Nat) (16 : Nat) 3)) => pixels_good w1 1 1 16 3 50 false A 3 c _ _ hG (hM.ti (fun p _ => Nat.le_trans (nB_le hR.1 p) (by unfold maxLen; omega))) hR (hTb.on k) (hT9.on k) (hTP.on k))
  have HRt := Lib.hid (fun w1 => rightG_any w1 1 1 (16 : Nat) 3 50 false)
  rw [decide_eq_true hG] at HRt
  have HPx := Lib.hid (fun j k (hj : j < 256) => pix_none hT 3 50 (j := j) hj k)
  unfold BlankY at HN
  unfold PixY at HP
  unfold geoV tileV at HN HP
  unfold geoV at HRt
  rw [show nP 3 = 3 from rfl] at HN
  rw [show ((16 : Nat) : Int) = 16 from rfl] at HN HP HRt
  rw [show 16 * 16 = 256 from rfl] at HP
  have HLg := Lib.hid (load_geo b1)
  clear b0 k0 b1 k1 hG hT hR hTb hT9 hTP
  go_enter Tryd.func17, Tryd.ntmps17
  go_upto_region 2 with fail
  clear hv0 hw0 c5 f5
  refine wp_region_held_drew (S := fun w' => Hid (Below w0.heap.size w0 w')) (by kernel_rfl) (Lib.hid (on_drew w0)) fun s0 => ?_
  refine take_to (i := 0) rfl (by kernel_rfl) (by kernel_rfl) (by kernel_rfl) (fun _ _ _ h => h) (yieldsIf_load (by rfl) 23 _ rfl (.pointer (some ⟨g1, 0, none⟩)) (by simp [Act.eval]) (.agg #[.int .i64 1, .int .i64 1, .int .i64 16, .int .i64 3, .int .i64 50, .bool false]) (fun w' h => load_geo (HB.out.1.on h.out))) s0 (some 6) rfl ?_
  try simp only [Act.put, List.setIfInBounds_toArray, List.set_cons_zero, List.set_cons_succ]
  refine take_to (i := 1) rfl (by kernel_rfl) (by kernel_rfl) (by kernel_rfl) (fun _ _ _ h => h) (yieldsIf_load (by rfl) 23 _ rfl (.pointer (some ⟨g1, 0, none⟩)) (by simp [Act.eval]) (.agg #[.int .i64 1, .int .i64 1, .int .i64 16, .int .i64 3, .int .i64 50, .bool false]) (fun w' h => load_geo (HB.out.1.on h.out))) s0 (some 7) rfl ?_
  try simp only [Act.put, List.setIfInBounds_toArray, List.set_cons_zero, List.set_cons_succ]
  generalize w0.drew = u0 at s0 ⊢
  refine wpAnyH_ready (rs := [2]) (by kernel_rfl) (by simp) ?_
  refine AllReadyH.cons rfl (fun Kq hKq => ?_) AllReadyH.nil
  go_simp
  refine Calls.mono (HN.out u0) ?_
  rintro r u1 ⟨A, c, bd, rfl, hM, k1⟩
  have s1 := Lib.hid (on_trans s0.out k1)
  have HMz := Lib.hid hM
  clear k1 hM
  refine hKq.out _ _ s1 fun _ => ?_
  clear hKq Kq
  try simp only [Act.put, List.setIfInBounds_toArray, List.set_cons_zero, List.set_cons_succ]
  refine wpAnyH_ready (rs := [3]) (by kernel_rfl) (by simp) ?_
  refine AllReadyH.cons rfl (fun Kq hKq => ?_) AllReadyH.nil
  go_simp
  refine Calls.mono (HP.out u1 (on_trans HB.out.2.1 s1.out) A c bd _ HMz.out) ?_
  rintro r u2 ⟨gP, rfl, hP, hgP, k2⟩
  have s2 := Lib.hid (on_trans s1.out k2)
  have HPP := Lib.hid hP
  clear k2 hP hgP
  refine hKq.out _ _ s2 fun _ => ?_
  clear hKq Kq
  try simp only [Act.put, List.setIfInBounds_toArray, List.set_cons_zero, List.set_cons_succ]
  refine take_to (i := 4) (v := .tuple #[.slice (some ⟨gP, 0, none⟩) 256 256, .int .i64 0]) rfl (by kernel_rfl) (by kernel_rfl) (by kernel_rfl) (fun _ _ _ h => h) (Or.inl ⟨by rfl, fun w' hS => by go_simp⟩) s2 (some 5) rfl ?_
  try simp only [Act.put, List.setIfInBounds_toArray, List.set_cons_zero, List.set_cons_succ]
  refine take_to (i := 5) (v := .slice (some ⟨gP, 0, none⟩) 256 256) rfl (by kernel_rfl) (by kernel_rfl) (by kernel_rfl) (fun _ _ _ h => h) (Or.inl ⟨by rfl, fun w' hS => by go_simp⟩) s2 (some 10) rfl ?_
  try simp only [Act.put, List.setIfInBounds_toArray, List.set_cons_zero, List.set_cons_succ]
  refine take_to (i := 6) (v := .int .i64 0) rfl (by kernel_rfl) (by kernel_rfl) (by kernel_rfl) (fun _ _ _ h => h) (Or.inl ⟨by rfl, fun w' hS => by go_simp⟩) s2 (some 11) rfl ?_
  try simp only [Act.put, List.setIfInBounds_toArray, List.set_cons_zero, List.set_cons_succ]
  refine take_to (i := 7) (v := .slice (some ⟨gP, 0, none⟩) 256 256) rfl (by kernel_rfl) (by kernel_rfl) (by kernel_rfl) (fun _ _ _ h => h) (Or.inl ⟨by rfl, fun w' hS => by go_simp⟩) s2 (some 2) rfl ?_
  try simp only [Act.put, List.setIfInBounds_toArray, List.set_cons_zero, List.set_cons_succ]
  refine take_to (i := 8) (v := .int .i64 0) rfl (by kernel_rfl) (by kernel_rfl) (by kernel_rfl) (fun _ _ _ h => h) (Or.inl ⟨by rfl, fun w' hS => by go_simp⟩) s2 (some 3) rfl ?_
  try simp only [Act.put, List.setIfInBounds_toArray, List.set_cons_zero, List.set_cons_succ]
  refine wpAnyH_done (by kernel_rfl) ?_ _
  have c0 : u2.cell? ⟨gP, 21, none⟩ = some (.int .i64 128) := by rw [← HPx.out 7 0 (by omega)]; exact HPP.out.at_ 7 0 (by omega) (by omega)
  have c1 : u2.cell? ⟨gP, 22, none⟩ = some (.int .i64 128) := by rw [← HPx.out 7 1 (by omega)]; exact HPP.out.at_ 7 1 (by omega) (by omega)
  have c2 : u2.cell? ⟨gP, 23, none⟩ = some (.int .i64 128) := by rw [← HPx.out 7 2 (by omega)]; exact HPP.out.at_ 7 2 (by omega) (by omega)
  have HG2 := Lib.hid (HB.out.1.on s2.out)
  have d0 : u2.cell? ⟨g1, 0, none⟩ = some (.int .i64 1) := HG2.out.cell 0
  have d1 : u2.cell? ⟨g1, 1, none⟩ = some (.int .i64 1) := HG2.out.cell 1
  have d2 : u2.cell? ⟨g1, 2, none⟩ = some (.int .i64 16) := HG2.out.cell 2
  have d3 : u2.cell? ⟨g1, 3, none⟩ = some (.int .i64 3) := HG2.out.cell 3
  have d4 : u2.cell? ⟨g1, 4, none⟩ = some (.int .i64 50) := HG2.out.cell 4
  have d5 : u2.cell? ⟨g1, 5, none⟩ = some (.bool false) := HG2.out.cell 5
  go_wp2_with fail
  refine (HRt.out u2).mono ?_
  rintro r u3 ⟨rfl, k3⟩
  have H3 := Lib.hid (on_trans HB.out.2.1 (on_trans s2.out k3))
  clear k3
  go_wp2_with fail
  go_ret
  exact ⟨rfl, H3.out⟩
end Go.Proofs.YtmadkpnkmkajoaaDoor
