/-
  The pixels of a tile: the contract of Pixels.
-/
import Derived.Test.YtmadkpnkmkajoaaDoorTI
import Derived.Test.YtmadkpnkmkajoaaDoorP11A
namespace Go.Proofs.YtmadkpnkmkajoaaDoor
open Go.RowKit
set_option maxRecDepth 20000

/-- part k of pixel j -/
def pxc (K : Int) (T : Nat) (Q : Int) (tl : List (List (List Int))) (j k : Nat) : Int := if k = 0 then (pixQ K T Q tl j).1 else if k = 1 then (pixQ K T Q tl j).2.1 else (pixQ K T Q tl j).2.2
/-- the samples while they are laid: all of the parts ahead of p, and the first i of part p -/
def ph (K : Int) (T : Nat) (Q : Int) (tl : List (List (List Int))) (p i j k : Nat) : Int := if k < p ∨ (k = p ∧ j < i) then smp K T Q tl j k else if k = 0 then 0 else 128
theorem ph_next (K : Int) (T : Nat) (Q : Int) (tl : List (List (List Int))) (p N j k : Nat) (hj : j < N) : ph K T Q tl p N j k = ph K T Q tl (p + 1) 0 j k := by
  have e : (k < p ∨ (k = p ∧ j < N)) ↔ (k < p + 1 ∨ (k = p + 1 ∧ j < 0)) := by omega
  unfold ph
  simp only [e]
theorem ph_put (K : Int) (T : Nat) (Q : Int) (tl : List (List (List Int))) (p i j k : Nat) : (if j = i ∧ k = p then smp K T Q tl i p else ph K T Q tl p i j k) = ph K T Q tl p (i + 1) j k := by
  unfold ph
  by_cases h : j = i ∧ k = p
  · obtain ⟨rfl, rfl⟩ := h
    rw [if_pos ⟨rfl, rfl⟩, if_pos (show k < k ∨ k = k ∧ j < j + 1 by omega)]
  · have e : (k < p ∨ (k = p ∧ j < i)) ↔ (k < p ∨ (k = p ∧ j < i + 1)) := by omega
    rw [if_neg h]
    simp only [e]
theorem ph_all (K : Int) (T : Nat) (Q : Int) (tl : List (List (List Int))) (j k : Nat) (_ : k < 3) : ph K T Q tl (nP K) 0 j k = smp K T Q tl j k := by
  unfold ph
  by_cases h : k < nP K
  · rw [if_pos (.inl h)]
  · rw [if_neg (by omega)]
    have : 1 ≤ nP K := by unfold nP; split <;> omega
    rw [if_neg (by omega)]
    unfold smp
    rw [if_neg h]
/-- what lies in memory -/
structure PxE (w wr : World) (g1 gT N : Nat) (P : Array Value) (V : Value) (f : Nat → Nat → Int) : Prop where
  geo : Box wr g1 23 P
  tile : Box wr (g1 + 1) 35 #[V]
  tri : Tri wr 63 gT N f
  bel : Below w.heap.size w wr
  o1 : w.heap.size ≤ g1
  o2 : g1 + 1 < gT
section
variable {w wr w' : World} {g1 gT N : Nat} {P : Array Value} {V : Value} {f f' : Nat → Nat → Int}
theorem PxE.on (h : PxE w wr g1 gT N P V f) (k : Below wr.heap.size wr w') : PxE w w' g1 gT N P V f := ⟨h.geo.on k, h.tile.on k, h.tri.on k, on_trans h.bel k, h.o1, h.o2⟩
theorem PxE.put (h : PxE w wr g1 gT N P V f) (t : Tri w' 63 gT N f') (k : Kept (fun i => i = gT) wr w') : PxE w w' g1 gT N P V f' :=
  ⟨k.box h.geo (by have := h.o2; omega), k.box h.tile (by have := h.o2; omega), t, h.bel.trans (k.below h.bel.size (fun i hi e => by have := h.o1; have := h.o2; omega)), h.o1, h.o2⟩
theorem PxE.kept {g : Nat} (h : PxE w wr g1 gT N P V f) (k : Kept (fun i => i = g) wr w') (hg : gT < g) : PxE w w' g1 gT N P V f :=
  ⟨k.box h.geo (by have := h.o2; omega), k.box h.tile (by have := h.o2; omega), h.tri.kept k (by omega), h.bel.trans (k.below h.bel.size (fun i hi e => by have := h.o1; have := h.o2; omega)), h.o1, h.o2⟩
theorem PxE.congr (h : PxE w wr g1 gT N P V f) (e : ∀ j k, j < N → k < 3 → f j k = f' j k) : PxE w wr g1 gT N P V f' := ⟨h.geo, h.tile, h.tri.congr e, h.bel, h.o1, h.o2⟩
end
def PixY (w : World) (K : Int) (T : Nat) (Q : Int) (tl : List (List (List Int))) (e : Ending) (w' : World) : Prop := ∃ g, e = .returned (.tuple #[.slice (some ⟨g, 0, none⟩) (T * T) (T * T), .int .i64 0]) ∧ Tri w' 52 g (T * T) (pxc K T Q tl) ∧ w.heap.size ≤ g ∧ Below w.heap.size w w'

set_option maxHeartbeats 12800000 in
theorem pixels_good (w : World) (W H : Int) (T : Nat) (K Q : Int) (B : Bool) (A : Option Addr) (n c : Nat) (L : List (Option Addr × Nat × Nat)) (tl : List (List (List Int))) (hG : RightG W H T K Q) (hTi : Ti w A n L tl) (hR : RightT T T K 0 tl) (hTb : Tab w) (hT9 : Tab9_ w) (hTP : TabP w) :
    Calls Tryd.prog 20 #[geoV W H T K Q B, tileV A n c] w (PixY w K T Q tl) := by
  obtain ⟨hT, hK⟩ : (T = 16 ∨ T = 32) ∧ (0 ≤ K ∧ K ≤ 3) := by
    obtain ⟨_, _, h3, h4, _⟩ := hG
    omega
  have hnP : n = nP K := by rw [← hTi.len]; exact hR.2.1
  have hm3 := nP_le K
  unfold PixY
  obtain ⟨N, hN⟩ : ∃ N, N = T * T := ⟨_, rfl⟩
  have hN2 : N ≤ 1024 := by
    rw [hN]
    rcases hT with rfl | rfl <;> omega
  have hwp : IntKind.i64.wrap ((T : Int) * (T : Int)) = (N : Int) := by rw [← Int.natCast_mul, ← hN, IntKind.wrap_i64]; omega
  have HOK := Lib.hid (show ∀ j, j < N → pixF (smp K T Q tl j 0) (smp K T Q tl j 1) (smp K T Q tl j 2) = (pixQ K T Q tl j, 0) from fun j hj => pix_ok hT K Q tl (by rw [← hN]; exact hj))
  have HPL := Lib.hid (show ∀ p bl, (planeQ K T Q p bl).length = N from fun p bl => by rw [hN]; exact plane_len hT K Q p bl)
  rw [← hN]
  obtain ⟨g1, hg1⟩ : ∃ g1, w.heap.size = g1 := ⟨_, rfl⟩
  obtain ⟨w0, hw0⟩ : ∃ w1, (w.alloc (.cells #[.int .i64 W, .int .i64 H, .int .i64 (T : Int), .int .i64 K, .int .i64 Q, .bool B] 23)).alloc (.cells #[.slice A n c] 35) = w1 := ⟨_, rfl⟩
  have b1 : Box w0 g1 23 #[.int .i64 W, .int .i64 H, .int .i64 (T : Int), .int .i64 K, .int .i64 Q, .bool B] := by rw [← hw0, ← hg1]; exact (Box.made _ _ _).alloc _
  have b2 : Box w0 (g1 + 1) 35 #[.slice A n c] := by rw [← hw0, ← hg1]; have := Box.made (w.alloc (.cells #[.int .i64 W, .int .i64 H, .int .i64 (T : Int), .int .i64 K, .int .i64 Q, .bool B] 23)) 35 #[.slice A n c]; simpa using this
  have k1 : Below w.heap.size w w0 := by rw [← hw0]; exact on_trans (on_alloc _ _) (on_alloc _ _)
  have HL := Lib.hid (And.intro (load_geo b1) (load_tile b2))
  have HB := Lib.hid (And.intro b1 (And.intro b2 (And.intro k1 hg1)))
  have HV := Lib.hid (valid_any w0 W H T K Q B A n c L tl (hTi.on k1))
  have HSm := Lib.hid (fun w1 => samples_any w1 K)
  have HSh := Lib.hid (fun (w1 : World) (k : Below w.heap.size w w1) (p : Nat) (x : Option Addr × Nat × Nat) (t : List (List Int)) (hp : p < nP K) (hx : L[p]? = some x) (ht : tl[p]? = some t) => by
    have hrow := (hTi.row p x t hx ht).1
    have hpo := hR.2.2 p hp
    unfold PartOk at hpo
    rw [show tl.getD p [] = t by rw [List.getD_eq_getElem?_getD, ht]; rfl] at hpo
    exact shown_any w1 W H T K Q B p x.1 x.2.1 x.2.2 t hG hp (hTb.on k) (hT9.on k) (hrow.on k) hpo.1 hpo.2)
  have HC := Lib.hid (And.intro hTi (And.intro (show OkT W H T K Q tl from ⟨hG, hR⟩) (And.intro hTP hnP)))
  have HN := Lib.hid hN
  obtain ⟨M, hmk, hM⟩ := make_tri 61 63 Tryd.underlying61 tone_info N (by omega)
  obtain ⟨M', hmk', hM'⟩ := make_tri 40 52 Tryd.underlying40 pix_info N (by omega)
  have HM := Lib.hid (And.intro hM hM')
  unfold ValidY at HV
  unfold geoV at HV HSh ⊢
  unfold tileV at HV ⊢
  clear b1 b2 k1 hTi hR hG hTb hT9 hTP hN hnP hM hM' hT hK
  go_enter Tryd.func20, Tryd.ntmps20
  go_wp2_with (first
    | (with_reducible refine wpList_load_to (op := ⟨some 19, _, _, _, _, _⟩) rfl 23 (.tmp 2) rfl (.pointer (some ⟨g1, 0, none⟩)) ?hx (.agg #[.int .i64 W, .int .i64 H, .int .i64 (T : Int), .int .i64 K, .int .i64 Q, .bool B]) HL.out.1 ?_)
    | (with_reducible refine wpList_load_to (op := ⟨some 20, _, _, _, _, _⟩) rfl 35 (.tmp 3) rfl (.pointer (some ⟨g1 + 1, 0, none⟩)) ?hx2 (.agg #[.slice A n c]) HL.out.2 ?_)
    | fail)
  all_goals try (first | (case hx => simp [Act.eval]) | (case hx2 => simp [Act.eval]))
  clear hw0
  refine HV.out.mono ?_
  rintro e w1 ⟨r, rfl, hr, k1⟩
  obtain rfl := hr.2 HC.out.2.1
  have H1 := Lib.hid (And.intro (HB.out.1.on k1) (And.intro (HB.out.2.1.on k1) (on_trans HB.out.2.2.1 k1)))
  have q2 : w1.cell? ⟨g1, 2, none⟩ = some (.int .i64 (T : Int)) := H1.out.1.cell 2
  clear k1 hr HV
  go_wp2_with fail
  have R0 : PxE w (w1.alloc (.cells M 63)) g1 w1.heap.size N #[.int .i64 W, .int .i64 H, .int .i64 (T : Int), .int .i64 K, .int .i64 Q, .bool B] (.slice A n c) (fun _ _ => 0) := by
    have k := on_alloc w1 (.cells M 63)
    exact ⟨H1.out.1.on k, H1.out.2.1.on k, HM.out.1 w1, on_trans H1.out.2.2 k, by have := HB.out.2.2.2; omega, H1.out.2.1.lt⟩
  obtain ⟨gT, hgT⟩ : ∃ g, g = w1.heap.size := ⟨_, rfl⟩
  rw [← hgT] at R0
  simp only [← hgT]
  have HR0 := Lib.hid R0
  clear R0 hgT hmk H1 q2
  go_loopw [31] (fun i wr => ∃ j : Nat, j ≤ N ∧ i = .int .i64 (j : Int) ∧ PxE w wr g1 gT N #[.int .i64 W, .int .i64 H, .int .i64 (T : Int), .int .i64 K, .int .i64 Q, .bool B] (.slice A n c) (fun j' k' => if j' < j then (if k' = 0 then 0 else 128) else 0)) (fun i _ => N - (intOf i).toNat)
  case atStart => exact ⟨0, Nat.zero_le _, rfl, HR0.out.congr (fun j k _ _ => by rw [if_neg (by omega)])⟩
  case round =>
    obtain ⟨j, hj, rfl, hR⟩ := hrel
    have HR := Lib.hid hR
    clear hR
    by_cases hlt : j < N
    · have hcg : ∀ j' k', j' < N → k' < 3 → (if j' = j then (if k' = 0 then (0 : Int) else if k' = 1 then 128 else 128) else (if j' < j then (if k' = 0 then 0 else 128) else 0)) = if j' < j + 1 then (if k' = 0 then 0 else 128) else 0 := by
        intro j' k' _ hk
        by_cases e : j' = j
        · rw [if_pos e, if_pos (show j' < j + 1 by omega)]
          by_cases e0 : k' = 0
          · simp [e0]
          · simp [e0]
        · rw [if_neg e]
          have e2 : (j' < j) ↔ (j' < j + 1) := by omega
          simp only [e2]
      have HCg := Lib.hid hcg
      clear hcg
      go_wp2_with (first
        | ((with_reducible refine wpList_store_tri3 (op := ⟨none, _, _, _, _, _⟩) rfl 63 (.tmp 37) (.tmp 36) rfl rfl gT N j _ HR.out.tri hlt 0 128 128 tone_size3 ?hx ?hy ?_)
           case hx => simp [Act.eval]
           case hy => simp [Act.eval]
           intro w7 b7 k7
           have H7 := Lib.hid (HR.out.put (b7.congr HCg.out) k7)
           clear b7 k7)
        | fail)
      go_roundw
      case rel => exact ⟨j + 1, by omega, by go_num, H7.out⟩
      case measure => simp [intOf]; omega
    · obtain rfl : N = j := by omega
      have HR1 := Lib.hid (HR.out.congr (f' := ph K T Q tl 0 0) (fun j' k' hj' _ => by unfold ph; rw [if_pos hj', if_neg (show ¬ (k' < 0 ∨ k' = 0 ∧ j' < 0) by omega)]))
      have q3 : wr.cell? ⟨g1, 3, none⟩ = some (.int .i64 K) := HR1.out.geo.cell 3
      clear hlt
      go_wp2_with fail
      refine (HSm.out wr).mono ?_
      rintro e w2 ⟨gF, rfl, hF0, hF1, hF2, k2⟩
      have H2 := Lib.hid (And.intro (HR1.out.on k2) (And.intro hF2 (And.intro hF1 (show gT < gF from Nat.lt_of_lt_of_le HR1.out.tri.lt hF0))))
      obtain ⟨m, hm⟩ : ∃ m, m = nP K := ⟨_, rfl⟩
      rw [← hm] at hm3 ⊢
      have HMm := Lib.hid hm
      clear hF0 hF1 hF2 k2 hm q3 HR1 HR
      go_wp2_with fail
      go_loopw [43, 8, 9, 12, 13] (fun i a8 a9 a12 a13 wr => ∃ p : Nat, p ≤ m ∧ i = .int .i64 (p : Int) ∧ PxE w wr g1 gT N #[.int .i64 W, .int .i64 H, .int .i64 (T : Int), .int .i64 K, .int .i64 Q, .bool B] (.slice A n c) (ph K T Q tl p 0) ∧ (∀ k, k < m → wr.cell? ⟨gF, k, none⟩ = some (smpV k)) ∧ gF < wr.heap.size) (fun i _ _ _ _ _ => m - (intOf i).toNat)
      case atStart => exact ⟨0, Nat.zero_le _, rfl, H2.out.1, fun k hk => H2.out.2.1 k (by rw [← HMm.out]; exact hk), H2.out.2.2.1⟩
      case round =>
        obtain ⟨p, hp, rfl, hR, hcl, hgF⟩ := hrel
        have HR := Lib.hid (And.intro hR (And.intro hcl hgF))
        clear hR hcl hgF
        by_cases hpm : p < m
        · have hTw := HC.out.1
          obtain ⟨x, hx⟩ : ∃ x, L[p]? = some x := ⟨_, List.getElem?_eq_getElem (by rw [hTw.pt.len, HC.out.2.2.2, ← HMm.out]; exact hpm)⟩
          obtain ⟨t, ht⟩ : ∃ t, tl[p]? = some t := ⟨_, List.getElem?_eq_getElem (by rw [hTw.len, HC.out.2.2.2, ← HMm.out]; exact hpm)⟩
          have hpn : p < n := by rw [HC.out.2.2.2, ← HMm.out]; exact hpm
          obtain ⟨ba, oa, rfl, hba, hpc⟩ := hTw.pt.at_ (by omega)
          obtain ⟨x1, x2, x3⟩ := x
          have HCl := Lib.hid (fun (w' : World) (k : Below w.heap.size w w') => (k.cell (p := ⟨ba, oa + p, none⟩) hba).trans (hpc p _ hx))
          have HSp := Lib.hid (fun (w1 : World) (k : Below w.heap.size w w1) => HSh.out w1 k p _ t (by rw [← HMm.out]; exact hpm) hx ht)
          have HtD := Lib.hid (show tl.getD p [] = t by rw [List.getD_eq_getElem?_getD, ht]; rfl)
          have s0 : wr.cell? ⟨gF, p, none⟩ = some (.func (.func (60 + p)) #[] #[]) := HR.out.2.1 p hpm
          have hp3' : p < 3 := by omega
          have hcf := smp_calls p hp3'
          have HSM := Lib.hid (fun (w1 : World) (o : Nat) => smp_any w1 gT o p hp3')
          obtain ⟨Gf, hGf⟩ : ∃ g : FuncId, g = 60 + p := ⟨_, rfl⟩
          rw [← hGf] at s0 hcf HSM
          dsimp only at HCl HSp
          clear hTw hpc hba hx ht hGf hp3'
          go_upto_region 12 with fail
          go_cut [10, 11] (fun q e wx => ∃ g A6 n6 c6, q = .pointer (some ⟨g, 0, none⟩) ∧ e = .int .i64 0 ∧ Box wx g 69 #[.int .i64 (T : Int), .int .i64 (T : Int), .slice A6 n6 c6] ∧ Os wx (gT + 1) A6 n6 c6 (planeQ K T Q p t) ∧ PxE w wx g1 gT N #[.int .i64 W, .int .i64 H, .int .i64 (T : Int), .int .i64 K, .int .i64 Q, .bool B] (.slice (some ⟨ba, oa, none⟩) n c) (ph K T Q tl p 0) ∧ ((∀ k, k < m → wx.cell? ⟨gF, k, none⟩ = some (smpV k)) ∧ gF < wx.heap.size) ∧ gT < g)
          case first =>
            have HT := Lib.hid HR.out.1.tri.lt
            refine wp_region_held_drew (S := fun w' => Hid (Below wr.heap.size wr w')) (by kernel_rfl) (Lib.hid (on_drew wr)) fun s0 => ?_
            refine take_to (i := 0) rfl (by kernel_rfl) (by kernel_rfl) (by kernel_rfl) (fun _ _ _ h => h) (yieldsIf_load (by rfl) 23 _ rfl (.pointer (some ⟨g1, 0, none⟩)) rfl (.agg #[.int .i64 W, .int .i64 H, .int .i64 (T : Int), .int .i64 K, .int .i64 Q, .bool B]) (fun w' h => load_geo (HR.out.1.on h.out).geo)) s0 (some 49) rfl ?_
            try simp only [Act.put, List.setIfInBounds_toArray, List.set_cons_zero, List.set_cons_succ]
            refine take_to (i := 1) (v := .int .i64 (p : Int)) rfl (by kernel_rfl) (by kernel_rfl) (by kernel_rfl) (fun _ _ _ h => h) (Or.inl ⟨by rfl, fun w' hS => by go_simp⟩) s0 (some 50) rfl ?_
            try simp only [Act.put, List.setIfInBounds_toArray, List.set_cons_zero, List.set_cons_succ]
            refine take_to (i := 2) (v := .pointer (some ⟨g1 + 1, 0, none⟩)) rfl (by kernel_rfl) (by kernel_rfl) (by kernel_rfl) (fun _ _ _ h => h) (Or.inl ⟨by rfl, fun w' hS => by go_simp⟩) s0 (some 51) rfl ?_
            try simp only [Act.put, List.setIfInBounds_toArray, List.set_cons_zero, List.set_cons_succ]
            refine take_to (i := 3) (v := .slice (some ⟨ba, oa, none⟩) n c) rfl (by kernel_rfl) (by kernel_rfl) (by kernel_rfl) (fun _ _ _ h => h) (Or.inl ⟨by rfl, fun w' hS => by have hc := (HR.out.1.on hS.out).tile.cell 0; simp at hc; go_simp⟩) s0 (some 52) rfl ?_
            try simp only [Act.put, List.setIfInBounds_toArray, List.set_cons_zero, List.set_cons_succ]
            refine take_to (i := 4) (v := .int .i64 (p : Int)) rfl (by kernel_rfl) (by kernel_rfl) (by kernel_rfl) (fun _ _ _ h => h) (Or.inl ⟨by rfl, fun w' hS => by go_simp⟩) s0 (some 53) rfl ?_
            try simp only [Act.put, List.setIfInBounds_toArray, List.set_cons_zero, List.set_cons_succ]
            refine take_to (i := 5) (v := .pointer (some ⟨ba, oa + p, none⟩)) rfl (by kernel_rfl) (by kernel_rfl) (by kernel_rfl) (fun _ _ _ h => h) (Or.inl ⟨by rfl, fun w' hS => by go_simp⟩) s0 (some 54) rfl ?_
            try simp only [Act.put, List.setIfInBounds_toArray, List.set_cons_zero, List.set_cons_succ]
            refine take_to (i := 6) (v := .slice x1 x2 x3) rfl (by kernel_rfl) (by kernel_rfl) (by kernel_rfl) (fun _ _ _ h => h) (Or.inl ⟨by rfl, fun w' hS => by have hc := HCl.out w' (HR.out.1.on hS.out).bel; go_simp⟩) s0 (some 55) rfl ?_
            try simp only [Act.put, List.setIfInBounds_toArray, List.set_cons_zero, List.set_cons_succ]
            generalize wr.drew = v0 at s0 ⊢
            refine wpAnyH_ready (rs := [7, 11]) (by kernel_rfl) (by simp) ?_
            refine AllReadyH.cons rfl (fun Kq hKq => ?_) (AllReadyH.cons rfl (fun Kq hKq => ?_) AllReadyH.nil)
            · skip
              go_simp
              have hJ := HSp.out v0 (HR.out.1.on s0.out).bel
              unfold PTells at hJ
              dsimp only at hJ
              refine Calls.mono hJ ?_
              clear hJ
              rintro r u1 ⟨A6, n6, c6, rfl, hO, k1⟩
              have s1 := Lib.hid (on_trans s0.out k1)
              have o1 := Lib.hid (hO.down (show gT + 1 ≤ v0.heap.size from Nat.lt_of_lt_of_le HT.out s0.out.size))
              clear k1 hO
              refine hKq.out _ _ s1 fun _ => ?_
              clear hKq Kq
              try simp only [Act.put, List.setIfInBounds_toArray, List.set_cons_zero, List.set_cons_succ]
              refine take_to (i := 8) (v := .tuple #[.agg #[.int .i64 (T : Int), .int .i64 (T : Int), .slice A6 n6 c6], .int .i64 0]) rfl (by kernel_rfl) (by kernel_rfl) (by kernel_rfl) (fun _ _ _ h => h) (Or.inl ⟨by rfl, fun w' hS => by go_simp⟩) s1 (some 48) rfl ?_
              try simp only [Act.put, List.setIfInBounds_toArray, List.set_cons_zero, List.set_cons_succ]
              refine take_to (i := 9) (v := .agg #[.int .i64 (T : Int), .int .i64 (T : Int), .slice A6 n6 c6]) rfl (by kernel_rfl) (by kernel_rfl) (by kernel_rfl) (fun _ _ _ h => h) (Or.inl ⟨by rfl, fun w' hS => by go_simp⟩) s1 (some 57) rfl ?_
              try simp only [Act.put, List.setIfInBounds_toArray, List.set_cons_zero, List.set_cons_succ]
              refine take_to (i := 10) (v := .int .i64 0) rfl (by kernel_rfl) (by kernel_rfl) (by kernel_rfl) (fun _ _ _ h => h) (Or.inl ⟨by rfl, fun w' hS => by go_simp⟩) s1 (some 58) rfl ?_
              try simp only [Act.put, List.setIfInBounds_toArray, List.set_cons_zero, List.set_cons_succ]
              refine wpAnyH_ready (rs := [11]) (by kernel_rfl) (by simp) ?_
              refine AllReadyH.cons rfl (fun Kq hKq => ?_) AllReadyH.nil
              · skip
                go_simp
                have kb2 : Below u1.heap.size u1 (u1.alloc (.cells #[.int .i64 0, .int .i64 0, .slice none 0 0] 69)) := on_alloc _ _
                have bb2 : Box (u1.alloc (.cells #[.int .i64 0, .int .i64 0, .slice none 0 0] 69)) u1.heap.size 69 #[.int .i64 0, .int .i64 0, .slice none 0 0] := Box.made _ _ _
                obtain ⟨gb, hgb⟩ : ∃ gb, gb = u1.heap.size := ⟨_, rfl⟩
                obtain ⟨u2, hu2⟩ : ∃ x, x = (u1.alloc (.cells #[.int .i64 0, .int .i64 0, .slice none 0 0] 69)) := ⟨_, rfl⟩
                simp only [← hgb, ← hu2] at bb2 ⊢
                rw [← hu2] at kb2
                have x2 := Lib.hid (And.intro bb2 (show wr.heap.size ≤ gb by rw [hgb]; exact s1.out.size))
                have s2 := Lib.hid (on_trans s1.out kb2)
                have ne2 := Lib.hid (show ∀ b off, A6 = some ⟨b, off, none⟩ → ¬ b = gb from fun b off e => by have := (o1.out.new b off e).2.1; omega)
                have o2 := Lib.hid (o1.out.on kb2)
                clear kb2 bb2 hu2 hgb
                refine hKq.out _ _ s2 fun _ => ?_
                clear hKq Kq
                try simp only [Act.put, List.setIfInBounds_toArray, List.set_cons_zero, List.set_cons_succ]
                refine wpAnyH_ready (rs := [12]) (by kernel_rfl) (by simp) ?_
                refine AllReadyH.cons rfl (fun Kq hKq => ?_) AllReadyH.nil
                refine if_then (by rfl) ?_
                refine wp_store_plane (.tmp 10) (.tmp 57) rfl rfl gb #[.int .i64 (T : Int), .int .i64 (T : Int), .slice A6 n6 c6] rfl (by simp [Value.oneCell']) rfl rfl #[.int .i64 0, .int .i64 0, .slice none 0 0] x2.out.1 rfl fun w9 b9 k9 => ?_
                have s3 := Lib.hid (s2.out.trans (k9.below s2.out.size (fun i hi e => by have := x2.out.2; omega)))
                have HO := Lib.hid (And.intro b9 (o2.out.kept k9 ne2.out))
                refine hKq.out _ _ s3 fun _ => ?_
                clear hKq Kq b9 k9
                try simp only [Act.put, List.setIfInBounds_toArray, List.set_cons_zero, List.set_cons_succ]
                refine take_to (i := 13) (v := .int .i64 0) rfl (by kernel_rfl) (by kernel_rfl) (by kernel_rfl) (fun _ _ _ h => h) (Or.inl ⟨by rfl, fun w' hS => by go_simp⟩) s3 (some 11) rfl ?_
                try simp only [Act.put, List.setIfInBounds_toArray, List.set_cons_zero, List.set_cons_succ]
                refine wpAnyH_done (by kernel_rfl) ?_ _
                go_wp2_with fail
                go_meet
                exact ⟨gb, A6, n6, c6, rfl, rfl, HO.out.1, HO.out.2, HR.out.1.on s3.out, ⟨fun k hk => (s3.out.cell (p := ⟨gF, k, none⟩) HR.out.2.2).trans (HR.out.2.1 k hk), Nat.lt_of_lt_of_le HR.out.2.2 s3.out.size⟩, Nat.lt_of_lt_of_le HT.out x2.out.2⟩
            · skip
              go_simp
              have kb4 : Below v0.heap.size v0 (v0.alloc (.cells #[.int .i64 0, .int .i64 0, .slice none 0 0] 69)) := on_alloc _ _
              have bb4 : Box (v0.alloc (.cells #[.int .i64 0, .int .i64 0, .slice none 0 0] 69)) v0.heap.size 69 #[.int .i64 0, .int .i64 0, .slice none 0 0] := Box.made _ _ _
              obtain ⟨gb, hgb⟩ : ∃ gb, gb = v0.heap.size := ⟨_, rfl⟩
              obtain ⟨u4, hu4⟩ : ∃ x, x = (v0.alloc (.cells #[.int .i64 0, .int .i64 0, .slice none 0 0] 69)) := ⟨_, rfl⟩
              simp only [← hgb, ← hu4] at bb4 ⊢
              rw [← hu4] at kb4
              have x4 := Lib.hid (And.intro bb4 (show wr.heap.size ≤ gb by rw [hgb]; exact s0.out.size))
              have s4 := Lib.hid (on_trans s0.out kb4)
              clear kb4 bb4 hu4 hgb
              refine hKq.out _ _ s4 fun _ => ?_
              clear hKq Kq
              try simp only [Act.put, List.setIfInBounds_toArray, List.set_cons_zero, List.set_cons_succ]
              refine wpAnyH_ready (rs := [7]) (by kernel_rfl) (by simp) ?_
              refine AllReadyH.cons rfl (fun Kq hKq => ?_) AllReadyH.nil
              · skip
                go_simp
                have hJ := HSp.out u4 (HR.out.1.on s4.out).bel
                unfold PTells at hJ
                dsimp only at hJ
                refine Calls.mono hJ ?_
                clear hJ
                rintro r u5 ⟨A6, n6, c6, rfl, hO, k5⟩
                have s5 := Lib.hid (on_trans s4.out k5)
                have o5 := Lib.hid (hO.down (show gT + 1 ≤ u4.heap.size from Nat.lt_of_lt_of_le HT.out s4.out.size))
                have ne5 := Lib.hid (show ∀ b off, A6 = some ⟨b, off, none⟩ → ¬ b = gb from fun b off e => by have := (hO.new b off e).1; have := x4.out.1.lt; omega)
                have x5 := Lib.hid (And.intro (x4.out.1.on k5) x4.out.2)
                clear k5 hO
                refine hKq.out _ _ s5 fun _ => ?_
                clear hKq Kq
                try simp only [Act.put, List.setIfInBounds_toArray, List.set_cons_zero, List.set_cons_succ]
                refine take_to (i := 8) (v := .tuple #[.agg #[.int .i64 (T : Int), .int .i64 (T : Int), .slice A6 n6 c6], .int .i64 0]) rfl (by kernel_rfl) (by kernel_rfl) (by kernel_rfl) (fun _ _ _ h => h) (Or.inl ⟨by rfl, fun w' hS => by go_simp⟩) s5 (some 48) rfl ?_
                try simp only [Act.put, List.setIfInBounds_toArray, List.set_cons_zero, List.set_cons_succ]
                refine take_to (i := 9) (v := .agg #[.int .i64 (T : Int), .int .i64 (T : Int), .slice A6 n6 c6]) rfl (by kernel_rfl) (by kernel_rfl) (by kernel_rfl) (fun _ _ _ h => h) (Or.inl ⟨by rfl, fun w' hS => by go_simp⟩) s5 (some 57) rfl ?_
                try simp only [Act.put, List.setIfInBounds_toArray, List.set_cons_zero, List.set_cons_succ]
                refine take_to (i := 10) (v := .int .i64 0) rfl (by kernel_rfl) (by kernel_rfl) (by kernel_rfl) (fun _ _ _ h => h) (Or.inl ⟨by rfl, fun w' hS => by go_simp⟩) s5 (some 58) rfl ?_
                try simp only [Act.put, List.setIfInBounds_toArray, List.set_cons_zero, List.set_cons_succ]
                refine wpAnyH_ready (rs := [12]) (by kernel_rfl) (by simp) ?_
                refine AllReadyH.cons rfl (fun Kq hKq => ?_) AllReadyH.nil
                refine if_then (by rfl) ?_
                refine wp_store_plane (.tmp 10) (.tmp 57) rfl rfl gb #[.int .i64 (T : Int), .int .i64 (T : Int), .slice A6 n6 c6] rfl (by simp [Value.oneCell']) rfl rfl #[.int .i64 0, .int .i64 0, .slice none 0 0] x5.out.1 rfl fun w9 b9 k9 => ?_
                have s6 := Lib.hid (s5.out.trans (k9.below s5.out.size (fun i hi e => by have := x5.out.2; omega)))
                have HO := Lib.hid (And.intro b9 (o5.out.kept k9 ne5.out))
                refine hKq.out _ _ s6 fun _ => ?_
                clear hKq Kq b9 k9
                try simp only [Act.put, List.setIfInBounds_toArray, List.set_cons_zero, List.set_cons_succ]
                refine take_to (i := 13) (v := .int .i64 0) rfl (by kernel_rfl) (by kernel_rfl) (by kernel_rfl) (fun _ _ _ h => h) (Or.inl ⟨by rfl, fun w' hS => by go_simp⟩) s6 (some 11) rfl ?_
                try simp only [Act.put, List.setIfInBounds_toArray, List.set_cons_zero, List.set_cons_succ]
                refine wpAnyH_done (by kernel_rfl) ?_ _
                go_wp2_with fail
                go_meet
                exact ⟨gb, A6, n6, c6, rfl, rfl, HO.out.1, HO.out.2, HR.out.1.on s6.out, ⟨fun k hk => (s6.out.cell (p := ⟨gF, k, none⟩) HR.out.2.2).trans (HR.out.2.1 k hk), Nat.lt_of_lt_of_le HR.out.2.2 s6.out.size⟩, Nat.lt_of_lt_of_le HT.out x5.out.2⟩
          case rest =>
            obtain ⟨gq, A6, n6, c6, rfl, rfl, hbx, hO, hS, hce, hgq⟩ := hcut
            obtain rfl : n6 = N := by rw [← hO.il.len]; exact HPL.out p t
            have q5 := hbx.cell 2
            simp at q5
            have HQ := Lib.hid (And.intro hbx (And.intro hO (And.intro hS (And.intro hce hgq))))
            clear hbx hO hS hce hgq s0
            go_wp2_with fail
            clear q5
            go_loopw [65, 12, 13] (fun i a12 a13 wr => ∃ k : Nat, k ≤ n6 ∧ i = .int .i64 (k : Int) ∧ PxE w wr g1 gT n6 #[.int .i64 W, .int .i64 H, .int .i64 (T : Int), .int .i64 K, .int .i64 Q, .bool B] (.slice (some ⟨ba, oa, none⟩) n c) (ph K T Q tl p k) ∧ Os wr (gT + 1) A6 n6 c6 (planeQ K T Q p t) ∧ (∀ q, q < m → wr.cell? ⟨gF, q, none⟩ = some (smpV q)) ∧ gF < wr.heap.size) (fun i _ _ _ => n6 - (intOf i).toNat)
            case atStart => exact ⟨0, Nat.zero_le _, rfl, HQ.out.2.2.1, HQ.out.2.1, HQ.out.2.2.2.1.1, HQ.out.2.2.2.1.2⟩
            case round =>
              obtain ⟨k, hk, rfl, hR3, hO3, hcl3, hgF3⟩ := hrel
              have HR3 := Lib.hid (And.intro hR3 (And.intro hO3 (And.intro hcl3 hgF3)))
              clear hR3 hO3 hcl3 hgF3
              by_cases hkn : k < n6
              · obtain ⟨b6, o6, rfl, hb6, hc6⟩ := HR3.out.2.1.ia.at_ (by omega)
                have s6 := hc6 k hkn
                have hp3 : p < 3 := by omega
                obtain ⟨z, hz⟩ : ∃ z, z = (planeQ K T Q p t).getD k 0 := ⟨_, rfl⟩
                rw [← hz] at s6
                have hzs : z = smp K T Q tl k p := by
                  unfold smp
                  rw [if_pos (by rw [← HMm.out]; exact hpm), HtD.out, hz]
                have cT := HR3.out.1.tri.at_ k p hkn hp3
                have fT := HR3.out.1.tri.free (k * 3 + p)
                have HN7 := Lib.hid (show PxE w (wr.setCell ⟨gT, k * 3 + p, none⟩ (.int .i64 z)) g1 gT n6 #[.int .i64 W, .int .i64 H, .int .i64 (T : Int), .int .i64 K, .int .i64 Q, .bool B] (.slice (some ⟨ba, oa, none⟩) n c) (ph K T Q tl p (k + 1)) ∧ Os (wr.setCell ⟨gT, k * 3 + p, none⟩ (.int .i64 z)) (gT + 1) (some ⟨b6, o6, none⟩) n6 c6 (planeQ K T Q p t) ∧ (∀ q, q < m → (wr.setCell ⟨gT, k * 3 + p, none⟩ (.int .i64 z)).cell? ⟨gF, q, none⟩ = some (smpV q)) ∧ gF < (wr.setCell ⟨gT, k * 3 + p, none⟩ (.int .i64 z)).heap.size from by
                  have hK : Kept (fun i => i = gT) wr (wr.setCell ⟨gT, k * 3 + p, none⟩ (.int .i64 z)) := (Kept.refl (fun i => i = gT) wr).setCell (p := ⟨gT, k * 3 + p, none⟩) (fun _ => rfl) _
                  refine ⟨HR3.out.1.put ((HR3.out.1.tri.put hkn hp3 z).congr (fun j' k' _ _ => by rw [hzs]; exact ph_put K T Q tl p k j' k')) hK, HR3.out.2.1.kept hK (fun b off e => by have := (HR3.out.2.1.new b off e).1; omega), fun q hq => (hK.cell (p := ⟨gF, q, none⟩) HR3.out.2.2.2 (by show ¬ gF = gT; have := H2.out.2.2.2; omega)).trans (HR3.out.2.2.1 q hq), Nat.lt_of_lt_of_le HR3.out.2.2.2 hK.size⟩)
                clear hb6 hc6 hz hzs
                go_wp2_with fail
                refine (HSM.out wr (k * 3)).mono ?_
                rintro e wx ⟨rfl, rfl⟩
                go_wp2_with fail
                go_roundw
                case rel => exact ⟨k + 1, by omega, by go_num, HN7.out⟩
                case measure => simp [intOf]; omega
              · obtain rfl : k = n6 := by omega
                go_wp2_with fail
                go_roundw
                case rel => exact ⟨p + 1, by omega, by go_num, HR3.out.1.congr (fun j' k' hj' _ => ph_next K T Q tl p _ j' k' hj'), HR3.out.2.2.1, HR3.out.2.2.2⟩
                case measure => simp [intOf]; omega
        · obtain rfl : p = m := by omega
          have HE := Lib.hid (HR.out.1.congr (f' := smp K T Q tl) (fun j' k' _ hk' => by rw [HMm.out]; exact ph_all K T Q tl j' k' hk'))
          clear HR
          go_wp2_with fail
          have R2 : PxE w (wr.alloc (.cells M' 52)) g1 gT N #[.int .i64 W, .int .i64 H, .int .i64 (T : Int), .int .i64 K, .int .i64 Q, .bool B] (.slice A n c) (smp K T Q tl) ∧ Tri (wr.alloc (.cells M' 52)) 52 wr.heap.size N (fun _ _ => 0) ∧ gT < wr.heap.size := ⟨HE.out.on (on_alloc _ _), HM.out.2 wr, HE.out.tri.lt⟩
          obtain ⟨gL, hgL⟩ : ∃ g, g = wr.heap.size := ⟨_, rfl⟩
          rw [← hgL] at R2
          simp only [← hgL]
          have HR2 := Lib.hid R2
          clear R2 hgL hmk'
          go_loopw [84, 15, 18] (fun i a15 a18 wx => ∃ j : Nat, j ≤ N ∧ i = .int .i64 (j : Int) ∧ PxE w wx g1 gT N #[.int .i64 W, .int .i64 H, .int .i64 (T : Int), .int .i64 K, .int .i64 Q, .bool B] (.slice A n c) (smp K T Q tl) ∧ Tri wx 52 gL N (fun j' k' => if j' < j then pxc K T Q tl j' k' else 0)) (fun i _ _ _ => N - (intOf i).toNat)
          case atStart => exact ⟨0, Nat.zero_le _, rfl, HR2.out.1, HR2.out.2.1.congr (fun j k _ _ => by rw [if_neg (show ¬ j < 0 by omega)])⟩
          case round =>
            obtain ⟨j, hj, rfl, hR, hTr⟩ := hrel
            have HR := Lib.hid (And.intro hR hTr)
            clear hR hTr
            by_cases hlt : j < N
            · have hld := load_tri3 HR.out.1.tri hlt Tryd.underlying63 tone_size3
              have hpx := HOK.out j hlt
              obtain ⟨y, hy⟩ : ∃ y, y = smp K T Q tl j 0 := ⟨_, rfl⟩
              obtain ⟨b, hb⟩ : ∃ y, y = smp K T Q tl j 1 := ⟨_, rfl⟩
              obtain ⟨r, hr⟩ : ∃ y, y = smp K T Q tl j 2 := ⟨_, rfl⟩
              rw [← hy, ← hb, ← hr] at hld hpx
              have hcg : ∀ j' k', j' < N → k' < 3 → (if j' = j then (if k' = 0 then (pixQ K T Q tl j).1 else if k' = 1 then (pixQ K T Q tl j).2.1 else (pixQ K T Q tl j).2.2) else (if j' < j then pxc K T Q tl j' k' else 0)) = if j' < j + 1 then pxc K T Q tl j' k' else 0 := by
                intro j' k' _ _
                by_cases e : j' = j
                · subst e
                  rw [if_pos rfl, if_pos (show j' < j' + 1 by omega)]
                  rfl
                · have e2 : (j' < j) ↔ (j' < j + 1) := by omega
                  rw [if_neg e]
                  simp only [e2]
              obtain ⟨⟨z1, z2, z3⟩, hP⟩ : ∃ P, P = pixQ K T Q tl j := ⟨_, rfl⟩
              rw [← hP] at hpx hcg
              have HPx := Lib.hid (fun (w1 : World) (k : Below w.heap.size w w1) => pix_any w1 y b r (HC.out.2.2.1.on k))
              rw [hpx] at HPx
              unfold Tells triV at HPx
              dsimp only at HPx hcg
              have HLd := Lib.hid hld
              have HCg := Lib.hid hcg
              clear hld hpx hy hb hr hcg hP
              go_wp2_with (first
                | (with_reducible refine wpList_load_to (op := ⟨some 88, _, _, _, _, _⟩) rfl 63 (.tmp 87) rfl (.pointer (some ⟨gT, j * 3, none⟩)) ?hx (.agg #[.int .i64 y, .int .i64 b, .int .i64 r]) HLd.out ?_)
                | fail)
              all_goals try (first | (case hx => simp [Act.eval]))
              refine (HPx.out _ (on_trans HR.out.1.bel (on_alloc _ _))).mono ?_
              rintro e w5 ⟨rfl, k5⟩
              have K5 := on_trans (on_alloc wr (.cells #[.int .i64 y, .int .i64 b, .int .i64 r] 63)) k5
              have H5 := Lib.hid (And.intro (HR.out.1.on K5) (HR.out.2.on K5))
              clear k5 K5
              dsimp only
              go_wp2_with (first
                | ((with_reducible refine wpList_store_tri3 (op := ⟨none, _, _, _, _, _⟩) rfl 52 (.tmp 100) (.tmp 99) rfl rfl gL N j _ (H5.out.2.on (on_alloc _ _)) hlt z1 z2 z3 pix_size3 ?hx ?hy ?_)
                   case hx => simp [Act.eval]
                   case hy => simp [Act.eval]
                   intro w7 b7 k7
                   have H7 := Lib.hid (And.intro ((H5.out.1.on (on_alloc _ _)).kept k7 HR2.out.2.2) (b7.congr HCg.out))
                   clear b7 k7)
                | fail)
              go_roundw
              case rel => exact ⟨j + 1, by omega, by go_num, H7.out⟩
              case measure => simp [intOf]; omega
            · obtain rfl : N = j := by omega
              go_wp2_with fail
              go_ret2
              exact ⟨gL, rfl, HR.out.2.congr (fun j' k' hj' _ => by rw [if_pos hj']), by have := HR2.out.2.2; have := HR.out.1.o1; have := HR.out.1.o2; omega, HR.out.1.bel⟩
end Go.Proofs.YtmadkpnkmkajoaaDoor
