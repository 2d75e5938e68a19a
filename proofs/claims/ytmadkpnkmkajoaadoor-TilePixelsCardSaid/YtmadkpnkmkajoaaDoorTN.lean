/-
  The reference's May, across and down; the law's own few and pixels.
-/
import Derived.Test.YtmadkpnkmkajoaaDoorTI
import Derived.Test.YtmadkpnkmkajoaaDoorSU
namespace Go.Proofs.YtmadkpnkmkajoaaDoor
open Go.RowKit
set_option maxRecDepth 20000

theorem racross_any (w : World) (K : Int) (p : Nat) (h0 : 0 ≤ K) (h3 : K ≤ 3) (hp : p < 3) : Calls Tryd.prog 37 #[.int .i64 K, .int .i64 (p : Int)] w fun e w' => e = .returned (.bool (aH K p)) ∧ w = w' := by
  rcases (show K = 0 ∨ K = 1 ∨ K = 2 ∨ K = 3 by omega) with rfl | rfl | rfl | rfl <;> rcases (show p = 0 ∨ p = 1 ∨ p = 2 by omega) with rfl | rfl | rfl
  all_goals
    go_enter Tryd.func37, Tryd.ntmps37
    go_wp2_with fail
    go_ret
    exact ⟨rfl, rfl⟩
theorem rdown_any (w : World) (K : Int) (p : Nat) (h0 : 0 ≤ K) (h3 : K ≤ 3) (hp : p < 3) : Calls Tryd.prog 38 #[.int .i64 K, .int .i64 (p : Int)] w fun e w' => e = .returned (.bool (dH K p)) ∧ w = w' := by
  rcases (show K = 0 ∨ K = 1 ∨ K = 2 ∨ K = 3 by omega) with rfl | rfl | rfl | rfl <;> rcases (show p = 0 ∨ p = 1 ∨ p = 2 by omega) with rfl | rfl | rfl
  all_goals
    go_enter Tryd.func38, Tryd.ntmps38
    go_wp2_with fail
    go_ret
    exact ⟨rfl, rfl⟩
set_option maxHeartbeats 3200000 in
theorem may_any (w : World) (W H T K Q : Int) (B : Bool) (A : Option Addr) (n c : Nat) (L : List (Option Addr × Nat × Nat)) (tl : List (List (List Int))) (hTi : Ti w A n L tl) : Calls Tryd.prog 34 #[geoV W H T K Q B, tileV A n c] w (ValidY w W H T K Q tl) := by
  obtain ⟨g1, hg1⟩ : ∃ g1, w.heap.size = g1 := ⟨_, rfl⟩
  obtain ⟨w0, hw0⟩ : ∃ w1, (w.alloc (.cells #[.int .i64 W, .int .i64 H, .int .i64 T, .int .i64 K, .int .i64 Q, .bool B] 23)).alloc (.cells #[.slice A n c] 35) = w1 := ⟨_, rfl⟩
  have b1 : Box w0 g1 23 #[.int .i64 W, .int .i64 H, .int .i64 T, .int .i64 K, .int .i64 Q, .bool B] := by rw [← hw0, ← hg1]; exact (Box.made _ _ _).alloc _
  have b2 : Box w0 (g1 + 1) 35 #[.slice A n c] := by rw [← hw0, ← hg1]; have := Box.made (w.alloc (.cells #[.int .i64 W, .int .i64 H, .int .i64 T, .int .i64 K, .int .i64 Q, .bool B] 23)) 35 #[.slice A n c]; simpa using this
  have k1 : Below w.heap.size w w0 := by rw [← hw0]; exact on_trans (on_alloc _ _) (on_alloc _ _)
  have HB := Lib.hid (And.intro b1 (And.intro b2 (And.intro k1 hTi)))
  have HR1 := Lib.hid (fun w1 => refRightG_any w1 W H T K Q B)
  have HH := Lib.hid (fun w' => refHead_any w' W H T K Q B)
  have HR := Lib.hid (fun (w' : World) (k : Below w.heap.size w w') => refRightT_any w' (hT W H T K Q) (hT W H T K Q) (hK W H T K Q) 0 A n c L tl (hTi.on k))
  unfold RightY at HR
  unfold scanV tileV at HR
  unfold scanV at HH
  unfold geoV at HR1 HH ⊢
  unfold tileV
  clear b1 b2 k1 hTi
  go_enter Tryd.func34, Tryd.ntmps34
  go_upto_region 1 with fail
  refine wp_region_held_drew (S := fun w' => Hid (Below w0.heap.size w0 w')) (by kernel_rfl) (Lib.hid (on_drew w0)) fun s0 => ?_
  refine take_to (i := 0) rfl (by kernel_rfl) (by kernel_rfl) (by kernel_rfl) (fun _ _ _ h => h) (yieldsIf_load (by rfl) 23 _ rfl (.pointer (some ⟨g1, 0, none⟩)) (by simp [Act.eval]) (.agg #[.int .i64 W, .int .i64 H, .int .i64 T, .int .i64 K, .int .i64 Q, .bool B]) (fun w' h => load_geo (HB.out.1.on h.out))) s0 (some 5) rfl ?_
  try simp only [Act.put, List.setIfInBounds_toArray, List.set_cons_zero, List.set_cons_succ]
  generalize w0.drew = u0 at s0 ⊢
  refine wpAnyH_ready (rs := [1]) (by kernel_rfl) (by simp) ?_
  refine AllReadyH.cons rfl (fun Kq hKq => ?_) AllReadyH.nil
  try refine if_then (by rfl) ?_
  go_simp
  refine Calls.mono (HR1.out u0) ?_
  rintro e u1 ⟨rfl, k1⟩
  have s1 := Lib.hid (on_trans s0.out k1)
  clear k1
  refine hKq.out _ _ s1 fun _ => ?_
  clear hKq Kq
  try simp only [Act.put, List.setIfInBounds_toArray, List.set_cons_zero, List.set_cons_succ]
  by_cases hG : RightG W H T K Q
  · rw [decide_eq_true hG]
    refine take_to (i := 2) (v := .bool true) rfl (by kernel_rfl) (by kernel_rfl) (by kernel_rfl) (fun _ _ _ h => h) (Or.inl ⟨by rfl, fun w' hS => by go_simp⟩) s1 (some 7) rfl ?_
    try simp only [Act.put, List.setIfInBounds_toArray, List.set_cons_zero, List.set_cons_succ]
    refine take_to (i := 3) rfl (by kernel_rfl) (by kernel_rfl) (by kernel_rfl) (fun _ _ _ h => h) (yieldsIf_load (by rfl) 23 _ rfl (.pointer (some ⟨g1, 0, none⟩)) (by simp [Act.eval]) (.agg #[.int .i64 W, .int .i64 H, .int .i64 T, .int .i64 K, .int .i64 Q, .bool B]) (fun w' h => load_geo (HB.out.1.on h.out))) s1 (some 8) rfl ?_
    try simp only [Act.put, List.setIfInBounds_toArray, List.set_cons_zero, List.set_cons_succ]
    refine take_to (i := 5) rfl (by kernel_rfl) (by kernel_rfl) (by kernel_rfl) (fun _ _ _ h => h) (yieldsIf_load (by rfl) 35 _ rfl (.pointer (some ⟨g1 + 1, 0, none⟩)) (by simp [Act.eval]) (.agg #[.slice A n c]) (fun w' h => load_tile (HB.out.2.1.on h.out))) s1 (some 10) rfl ?_
    try simp only [Act.put, List.setIfInBounds_toArray, List.set_cons_zero, List.set_cons_succ]
    refine wpAnyH_ready (rs := [4]) (by kernel_rfl) (by simp) ?_
    refine AllReadyH.cons rfl (fun Kq hKq => ?_) AllReadyH.nil
    try refine if_then (by rfl) ?_
    go_simp
    refine Calls.mono (HH.out u1) ?_
    rintro e u2 ⟨rfl, k2⟩
    have s2 := Lib.hid (on_trans s1.out k2)
    clear k2
    refine hKq.out _ _ s2 fun _ => ?_
    clear hKq Kq
    try simp only [Act.put, List.setIfInBounds_toArray, List.set_cons_zero, List.set_cons_succ]
    refine wpAnyH_ready (rs := [6]) (by kernel_rfl) (by simp) ?_
    refine AllReadyH.cons rfl (fun Kq hKq => ?_) AllReadyH.nil
    try refine if_then (by rfl) ?_
    go_simp
    refine Calls.mono (HR.out u2 (on_trans HB.out.2.2.1 s2.out)) ?_
    rintro e u3 ⟨r, rfl, hr, k3⟩
    have s3 := Lib.hid (on_trans s2.out k3)
    have HF := Lib.hid (hr.trans (ok_head W H T K Q tl))
    clear hr
    clear k3
    refine hKq.out _ _ s3 fun _ => ?_
    clear hKq Kq
    try simp only [Act.put, List.setIfInBounds_toArray, List.set_cons_zero, List.set_cons_succ]
    refine take_to (i := 7) (v := .bool r) rfl (by kernel_rfl) (by kernel_rfl) (by kernel_rfl) (fun _ _ _ h => h) (Or.inl ⟨by rfl, fun w' hS => by go_simp⟩) s3 (some 12) rfl ?_
    try simp only [Act.put, List.setIfInBounds_toArray, List.set_cons_zero, List.set_cons_succ]
    refine take_to (i := 8) (v := .bool r) rfl (by kernel_rfl) (by kernel_rfl) (by kernel_rfl) (fun _ _ _ h => h) (Or.inl ⟨by rfl, fun w' hS => by go_simp⟩) s3 (some 4) rfl ?_
    try simp only [Act.put, List.setIfInBounds_toArray, List.set_cons_zero, List.set_cons_succ]
    refine wpAnyH_done (by kernel_rfl) ?_ _
    go_wp2_with fail
    go_ret
    exact ⟨r, rfl, HF.out, on_trans HB.out.2.2.1 s3.out⟩
  · rw [decide_eq_false hG]
    refine take_to (i := 2) (v := .bool false) rfl (by kernel_rfl) (by kernel_rfl) (by kernel_rfl) (fun _ _ _ h => h) (Or.inl ⟨by rfl, fun w' hS => by go_simp⟩) s1 (some 7) rfl ?_
    try simp only [Act.put, List.setIfInBounds_toArray, List.set_cons_zero, List.set_cons_succ]
    refine take_to (i := 3) (v := undef) rfl (by kernel_rfl) (by kernel_rfl) (by kernel_rfl) (fun _ _ _ h => h) (Or.inr ⟨by rfl, rfl⟩) s1 (some 8) rfl ?_
    try simp only [Act.put, List.setIfInBounds_toArray, List.set_cons_zero, List.set_cons_succ]
    refine take_to (i := 4) (v := undef) rfl (by kernel_rfl) (by kernel_rfl) (by kernel_rfl) (fun _ _ _ h => h) (Or.inr ⟨by rfl, rfl⟩) s1 (some 9) rfl ?_
    try simp only [Act.put, List.setIfInBounds_toArray, List.set_cons_zero, List.set_cons_succ]
    refine take_to (i := 5) (v := undef) rfl (by kernel_rfl) (by kernel_rfl) (by kernel_rfl) (fun _ _ _ h => h) (Or.inr ⟨by rfl, rfl⟩) s1 (some 10) rfl ?_
    try simp only [Act.put, List.setIfInBounds_toArray, List.set_cons_zero, List.set_cons_succ]
    refine take_to (i := 6) (v := undef) rfl (by kernel_rfl) (by kernel_rfl) (by kernel_rfl) (fun _ _ _ h => h) (Or.inr ⟨by rfl, rfl⟩) s1 (some 11) rfl ?_
    try simp only [Act.put, List.setIfInBounds_toArray, List.set_cons_zero, List.set_cons_succ]
    refine take_to (i := 7) (v := .bool false) rfl (by kernel_rfl) (by kernel_rfl) (by kernel_rfl) (fun _ _ _ h => h) (Or.inl ⟨by rfl, fun w' hS => by go_simp⟩) s1 (some 12) rfl ?_
    try simp only [Act.put, List.setIfInBounds_toArray, List.set_cons_zero, List.set_cons_succ]
    refine take_to (i := 8) (v := .bool false) rfl (by kernel_rfl) (by kernel_rfl) (by kernel_rfl) (fun _ _ _ h => h) (Or.inl ⟨by rfl, fun w' hS => by go_simp⟩) s1 (some 4) rfl ?_
    try simp only [Act.put, List.setIfInBounds_toArray, List.set_cons_zero, List.set_cons_succ]
    refine wpAnyH_done (by kernel_rfl) ?_ _
    go_wp2_with fail
    go_ret
    exact ⟨false, rfl, ⟨(fun h => absurd h (by decide)), (fun h => absurd h.1 hG)⟩, on_trans HB.out.2.2.1 s1.out⟩

/-- a slice that reads as n triples -/
def Px3 (w : World) (A : Option Addr) (n : Nat) (f : Nat → Nat → Int) : Prop := 0 < n → ∃ b off, A = some ⟨b, off, none⟩ ∧ b < w.heap.size ∧ ∀ j k, j < n → k < 3 → w.cell? ⟨b, off + j * 3 + k, none⟩ = some (.int .i64 (f j k))
theorem Px3.on {w w' : World} {A : Option Addr} {n : Nat} {f : Nat → Nat → Int} (h : Px3 w A n f) (k : Below w.heap.size w w') : Px3 w' A n f := fun h0 => by
  obtain ⟨b, off, e, hb, hc⟩ := h h0
  exact ⟨b, off, e, Nat.lt_of_lt_of_le hb k.size, fun j i hj hi => (k.cell (p := ⟨b, off + j * 3 + i, none⟩) hb).trans (hc j i hj hi)⟩
theorem Tri.px3 {w : World} {t : TypeId} {g N : Nat} {f : Nat → Nat → Int} (h : Tri w t g N f) : Px3 w (some ⟨g, 0, none⟩) N f := fun _ => ⟨g, 0, rfl, h.lt, fun j k hj hk => by rw [Nat.zero_add]; exact h.at_ j k hj hk⟩
set_option maxHeartbeats 3200000 in
theorem samePx_any (w : World) (A A' : Option Addr) (n c c' : Nat) (f : Nat → Nat → Int) (h : Px3 w A n f) (h' : Px3 w A' n f) (hn : n ≤ 2000) : Calls Tryd.prog 22 #[.slice A n c, .slice A' n c'] w fun e w' => e = .returned (.bool true) ∧ Below w.heap.size w w' := by
  have HX := Lib.hid (And.intro h h')
  have e0 : ((n : Int) != (n : Int)) = false := by simp
  clear h h'
  go_enter Tryd.func22, Tryd.ntmps22
  go_wp2_with fail
  go_loopw [13, 5] (fun i _ wr => ∃ k : Nat, k ≤ n ∧ i = .int .i64 (k : Int) ∧ Below w.heap.size w wr) (fun i _ _ => n - (intOf i).toNat)
  case atStart => exact ⟨0, Nat.zero_le _, rfl, Below.refl _ _⟩
  case round =>
    obtain ⟨k, hk, rfl, hb⟩ := hrel
    by_cases hlt : k < n
    · obtain ⟨b, off, rfl, hb1, hc⟩ := HX.out.1.on hb (by omega)
      obtain ⟨b', off', rfl, hb2, hc'⟩ := HX.out.2.on hb (by omega)
      have c0 := hc k 0 hlt (by omega)
      have c1 := hc k 1 hlt (by omega)
      have c2 := hc k 2 hlt (by omega)
      have d0 := hc' k 0 hlt (by omega)
      have d1 := hc' k 1 hlt (by omega)
      have d2 := hc' k 2 hlt (by omega)
      rw [Nat.add_zero] at c0 d0
      obtain ⟨x, hx⟩ : ∃ x, x = f k 0 := ⟨_, rfl⟩
      obtain ⟨y, hy⟩ : ∃ x, x = f k 1 := ⟨_, rfl⟩
      obtain ⟨z, hz⟩ : ∃ x, x = f k 2 := ⟨_, rfl⟩
      rw [← hx] at c0 d0
      rw [← hy] at c1 d1
      rw [← hz] at c2 d2
      have HBb := Lib.hid hb
      clear hx hy hz hc hc' hb1 hb2 hb
      go_upto_region 6 with fail
      go_quiet (fail)
      go_wp2_with fail
      go_roundw
      case rel => exact ⟨k + 1, by omega, by go_num, on_trans HBb.out (show Below wr.heap.size wr (wr.drewN nq) from ⟨rfl, rfl, rfl, Nat.le_refl _, fun _ _ => rfl⟩)⟩
      case measure => simp [intOf]; omega
    · obtain rfl : k = n := by omega
      go_wp2_with fail
      go_ret
      exact ⟨rfl, hb⟩

/-- a slice of m tiles -/
structure Tls (w : World) (b off m : Nat) (xs : Nat → Option Addr × Nat × Nat) (Ls : Nat → List (Option Addr × Nat × Nat)) (Ts : Nat → List (List (List Int))) : Prop where
  lt : b < w.heap.size
  cell : ∀ i, i < m → w.cell? ⟨b, off + i, none⟩ = some (.slice (xs i).1 (xs i).2.1 (xs i).2.2)
  ti : ∀ i, i < m → Ti w (xs i).1 (xs i).2.1 (Ls i) (Ts i)
theorem Tls.on {w w' : World} {b off m : Nat} {xs : Nat → Option Addr × Nat × Nat} {Ls : Nat → List (Option Addr × Nat × Nat)} {Ts : Nat → List (List (List Int))} (h : Tls w b off m xs Ls Ts) (k : Below w.heap.size w w') : Tls w' b off m xs Ls Ts :=
  ⟨Nat.lt_of_lt_of_le h.lt k.size, fun i hi => (k.cell (p := ⟨b, off + i, none⟩) h.lt).trans (h.cell i hi), fun i hi => (h.ti i hi).on k⟩
def FewT (T : List (List (List Int))) : Prop := T.length ≤ 4 ∧ ∀ (p : Nat) (t : List (List Int)), T[p]? = some t → t.length ≤ 20
def FewsY (w : World) (m : Nat) (Ts : Nat → List (List (List Int))) (e : Ending) (w' : World) : Prop := ∃ r, e = .returned (.bool r) ∧ (r = true → ∀ i, i < m → FewT (Ts i)) ∧ Below w.heap.size w w'
set_option maxHeartbeats 6400000 in
theorem fews_any (w : World) (b off m c : Nat) (xs : Nat → Option Addr × Nat × Nat) (Ls : Nat → List (Option Addr × Nat × Nat)) (Ts : Nat → List (List (List Int))) (hT : Tls w b off m xs Ls Ts) (hm : m ≤ 4) : Calls Tryd.prog 18 #[.slice (some ⟨b, off, none⟩) m c] w (FewsY w m Ts) := by
  have HT := Lib.hid hT
  clear hT
  go_enter Tryd.func18, Tryd.ntmps18
  go_wp2_with fail
  go_loopw [9] (fun i wr => ∃ k : Nat, k ≤ m ∧ i = .int .i64 (k : Int) ∧ (∀ q, q < k → FewT (Ts q)) ∧ Below w.heap.size w wr) (fun i _ => m - (intOf i).toNat)
  case atStart => exact ⟨0, Nat.zero_le _, rfl, fun q hq => absurd hq (by omega), Below.refl _ _⟩
  case round =>
    obtain ⟨k, hk, rfl, hq, hb⟩ := hrel
    have HR := Lib.hid (And.intro hq hb)
    clear hq hb
    by_cases hlt : k < m
    · have hW := HT.out.on HR.out.2
      have s1 := hW.cell k hlt
      have hti := hW.ti k hlt
      obtain ⟨⟨A, n, cc⟩, hx⟩ : ∃ x, x = xs k := ⟨_, rfl⟩
      rw [← hx] at s1 hti
      dsimp only at s1 hti
      obtain ⟨w1, hw1⟩ : ∃ w1, wr.alloc (.cells #[.slice A n cc] 35) = w1 := ⟨_, rfl⟩
      obtain ⟨g4, hg4⟩ : ∃ g, wr.heap.size = g := ⟨_, rfl⟩
      have k1 : Below wr.heap.size wr w1 := by rw [← hw1]; exact on_alloc _ _
      have b1 : Box w1 g4 35 #[.slice A n cc] := by rw [← hw1, ← hg4]; exact Box.made _ _ _
      have r0 : w1.cell? ⟨g4, 0, none⟩ = some (.slice A n cc) := b1.cell 0
      have H1 := Lib.hid (And.intro (hti.on k1) (And.intro (on_trans HR.out.2 k1) b1))
      have hln := hti.len
      clear hW hti hx k1 b1
      by_cases h4 : n ≤ 4
      · go_wp2_with fail
        go_loopw [20] (fun i wx => ∃ p : Nat, p ≤ n ∧ i = .int .i64 (p : Int) ∧ (∀ (q : Nat) (t : List (List Int)), q < p → (Ts k)[q]? = some t → t.length ≤ 20) ∧ wx = w1) (fun i _ => n - (intOf i).toNat)
        case atStart => exact ⟨0, Nat.zero_le _, rfl, fun q t hq => absurd hq (by omega), rfl⟩
        case round =>
          obtain ⟨p, hp, rfl, hq, rfl⟩ := hrel
          by_cases hpn : p < n
          · obtain ⟨x, hx⟩ : ∃ x, (Ls k)[p]? = some x := ⟨_, List.getElem?_eq_getElem (by rw [H1.out.1.pt.len]; exact hpn)⟩
            obtain ⟨t, ht⟩ : ∃ t, (Ts k)[p]? = some t := ⟨_, List.getElem?_eq_getElem (by rw [H1.out.1.len]; exact hpn)⟩
            obtain ⟨ba, oa, rfl, hba, hpc⟩ := H1.out.1.pt.at_ (by omega)
            obtain ⟨x1, x2, x3⟩ := x
            have s2 := hpc p _ hx
            have hrw := (H1.out.1.row p _ t hx ht).1.len
            dsimp only at s2 hrw
            have HQ := Lib.hid (And.intro hq (And.intro ht hrw))
            clear hpc hx ht hq hrw
            by_cases h20 : x2 ≤ 20
            · go_wp2_with fail
              go_roundw
              case rel => exact ⟨p + 1, by omega, by go_num, (fun q t' hq' ht' => by
                rcases Nat.lt_or_ge q p with h1 | h1
                · exact HQ.out.1 q t' h1 ht'
                · obtain rfl : q = p := by omega
                  rw [HQ.out.2.1] at ht'
                  cases ht'
                  rw [HQ.out.2.2]
                  exact h20), trivial⟩
              case measure => simp [intOf]; omega
            · have h20' : 20 < x2 := by omega
              go_wp2_with fail
              go_ret
              exact ⟨false, rfl, (fun h => absurd h (by decide)), H1.out.2.1⟩
          · obtain rfl : p = n := by omega
            have HQ := Lib.hid hq
            clear hq
            go_wp2_with fail
            go_roundw
            case rel => exact ⟨k + 1, by omega, by go_num, (fun q hq' => by
              rcases Nat.lt_or_ge q k with h1 | h1
              · exact HR.out.1 q h1
              · obtain rfl : q = k := by omega
                exact ⟨by rw [hln]; exact h4, fun p t ht => HQ.out p t (by have := (List.getElem?_eq_some_iff.1 ht).1; omega) ht⟩), H1.out.2.1⟩
            case measure => simp [intOf]; omega
      · have h4' : 4 < n := by omega
        go_wp2_with fail
        go_ret
        exact ⟨false, rfl, (fun h => absurd h (by decide)), H1.out.2.1⟩
    · obtain rfl : k = m := by omega
      go_wp2_with fail
      go_ret
      exact ⟨true, rfl, (fun _ => HR.out.1), HR.out.2⟩
end Go.Proofs.YtmadkpnkmkajoaaDoor
