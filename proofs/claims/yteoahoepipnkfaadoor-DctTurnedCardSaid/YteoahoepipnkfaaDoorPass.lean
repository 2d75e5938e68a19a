/-
  The contract of pass: the sums of the products of each row of factors and each column of a block.
-/
import Derived.Test.YteoahoepipnkfaaDoorTabs
import Derived.BigRegion
namespace Go.Proofs.YteoahoepipnkfaaDoor
open Go.RowKit

/-- the first j terms of the number at index n -/
def psT (f b : List Int) (n j : Nat) : Int := su (fun m => f.getD (8 * (n % 8) + m) 0 * b.getD (8 * m + n / 8) 0) j
/-- what pass tells -/
def passL (f b : List Int) : List Int := tab fun n => psT f b n 8
/-- what it has when it has come to column i, row k and term j -/
def partL (f b : List Int) (i k j : Nat) : List Int := tab fun n => if n % 8 < i ∨ (n % 8 = i ∧ n / 8 < k) then psT f b n 8 else if n = 8 * k + i then psT f b n j else 0
theorem passL_len (f b : List Int) : (passL f b).length = 64 := tab_len _
theorem partL_len (f b : List Int) (i k j : Nat) : (partL f b i k j).length = 64 := tab_len _
theorem tab_set (g : Nat → Int) {k : Nat} (hk : k < 64) (z : Int) : (tab g).set k z = tab fun n => if n = k then z else g n := by
  refine list_eq (by rw [List.length_set, tab_len]) (tab_len _) fun j hj => ?_
  rw [tab_at _ hj, List.getD_eq_getElem?_getD, List.getElem?_set]
  by_cases e : k = j
  · subst e; simp [tab_len, hk]
  · rw [if_neg e, if_neg (fun h => e h.symm), ← List.getD_eq_getElem?_getD, tab_at _ hj]
theorem tab_congr {g h : Nat → Int} (e : ∀ n, n < 64 → g n = h n) : tab g = tab h := list_eq (tab_len _) (tab_len _) fun k hk => by rw [tab_at _ hk, tab_at _ hk, e k hk]
section
variable {f b : List Int} {i k j : Nat}
theorem partL_zero : partL f b 0 0 0 = zeros64 := list_eq (tab_len _) zeros_len fun n hn => by
  unfold partL
  rw [tab_at _ hn, zeros_at, if_neg (by omega)]
  split <;> rfl
theorem partL_all : partL f b 8 0 0 = passL f b := tab_congr fun n hn => by rw [if_pos (by omega)]
theorem partL_row : partL f b i 8 0 = partL f b (i + 1) 0 0 := tab_congr fun n hn => by
  by_cases h : n % 8 < i ∨ (n % 8 = i ∧ n / 8 < 8)
  · rw [if_pos h, if_pos (by omega)]
  · rw [if_neg h, if_neg (by omega)]
    rw [if_neg (by omega)]
    split <;> rfl
theorem partL_num (hi : i < 8) : partL f b i k 8 = partL f b i (k + 1) 0 := tab_congr fun n hn => by
  by_cases h : n % 8 < i ∨ (n % 8 = i ∧ n / 8 < k)
  · rw [if_pos h, if_pos (by omega)]
  · rw [if_neg h]
    by_cases e : n = 8 * k + i
    · rw [if_pos e, if_pos (by omega)]
    · rw [if_neg e, if_neg (by omega)]
      split <;> rfl
theorem partL_at (hi : i < 8) (hk : k < 8) : (partL f b i k j).getD (8 * k + i) 0 = psT f b (8 * k + i) j := by
  unfold partL
  rw [tab_at _ (by omega), if_neg (by omega), if_pos rfl]
theorem partL_more (hi : i < 8) (hk : k < 8) : (partL f b i k j).set (8 * k + i) (psT f b (8 * k + i) j + f.getD (8 * i + j) 0 * b.getD (8 * j + k) 0) = partL f b i k (j + 1) := by
  unfold partL
  rw [tab_set _ (by omega)]
  refine tab_congr fun n hn => ?_
  by_cases e : n = 8 * k + i
  · subst e
    rw [if_pos rfl, if_neg (by omega), if_pos rfl]
    unfold psT
    rw [su_succ, show (8 * k + i) % 8 = i by omega, show (8 * k + i) / 8 = k by omega]
  · rw [if_neg e, if_neg e, if_neg e]
end
/-- amounts of the sums' terms -/
theorem term_small {c z M : Int} (c0 : -4017 ≤ c) (c1 : c ≤ 4017) (z0 : -M ≤ z) (z1 : z ≤ M) : -(4017 * M) ≤ c * z ∧ c * z ≤ 4017 * M := by
  have a := mul_abs (c := c) z0 z1
  have h : (c.natAbs : Int) * M ≤ 4017 * M := Int.mul_le_mul_of_nonneg_right (by omega) (by omega)
  omega
theorem psT_small {f b : List Int} {M : Int} (hf : Wi f (-4017) 4017) (hb : Wi b (-M) M) {n : Nat} (hn : n < 64) : ∀ {j : Nat}, j ≤ 8 → -(4017 * M * j) ≤ psT f b n j ∧ psT f b n j ≤ 4017 * M * j
  | 0, _ => by unfold psT; rw [su_zero]; omega
  | j + 1, hj => by
    have ih := psT_small hf hb hn (j := j) (by omega)
    have h1 := hf (8 * (n % 8) + j) (by omega)
    have h2 := hb (8 * j + n / 8) (by omega)
    have t := term_small h1.1 h1.2 h2.1 h2.2
    unfold psT at ih ⊢
    rw [su_succ]
    have e : 4017 * M * ((j + 1 : Nat) : Int) = 4017 * M * j + 4017 * M := by rw [Int.natCast_add, Int.mul_add]; omega
    rw [e]
    omega
theorem passL_small {f b : List Int} {M : Int} (hf : Wi f (-4017) 4017) (hb : Wi b (-M) M) : Wi (passL f b) (-(32136 * M)) (32136 * M) := fun n hn => by
  have := psT_small hf hb hn (j := 8) (by omega)
  unfold passL
  rw [tab_at _ hn]
  omega

/-- two blocks that are boxed, and one that is worked on -/
structure Tre (w wr : World) (b f o : List Int) : Prop where
  b1 : Blk wr w.heap.size b
  b2 : Blk wr (w.heap.size + 1) f
  out : Blk wr (w.heap.size + 1 + 1) o
  bel : Below w.heap.size w wr
section
variable {w wr w' : World} {b f o : List Int}
theorem Tre.on (h : Tre w wr b f o) (k : Below wr.heap.size wr w') : Tre w w' b f o := ⟨h.b1.on k, h.b2.on k, h.out.on k, on_trans h.bel k⟩
theorem Tre.put (h : Tre w wr b f o) (k : Nat) (z : Int) : Tre w (wr.setCell ⟨w.heap.size + 1 + 1, k, none⟩ (.int .i64 z)) b f (o.set k z) :=
  ⟨⟨h.b1.box.beside (by show w.heap.size ≠ w.heap.size + 1 + 1; omega) _, h.b1.len⟩, ⟨h.b2.box.beside (by show w.heap.size + 1 ≠ w.heap.size + 1 + 1; omega) _, h.b2.len⟩, h.out.put k z,
    ((Kept.of_below h.bel (fun i => i = w.heap.size + 1 + 1)).setCell (p := ⟨w.heap.size + 1 + 1, k, none⟩) (fun _ => rfl) _).below (Nat.le_refl _) (fun i hi e => by omega)⟩
theorem Tre.done (h : Tre w wr b f o) {c : List Int} (hc : Blk w' (w.heap.size + 1 + 1) c) (k : Kept (fun i => i = w.heap.size + 1 + 1) wr w') : Below w.heap.size w w' ∧ Blk w' (w.heap.size + 1 + 1) c :=
  ⟨h.bel.trans (k.below h.bel.size (fun i hi e => by omega)), hc⟩
end
theorem tre_boxed (w : World) (b f : List Int) (hb : b.length = 64) (hf : f.length = 64) : ∃ cs cu Z w3, blkV b = .agg cs ∧ blkV f = .agg cu ∧ (∀ w, (zeroValue 23).run Tryd.prog w = .ok (.agg Z) w) ∧ ((w.alloc (.cells cs 23)).alloc (.cells cu 23)).alloc (.cells Z 23) = w3 ∧ Z.size = 64 ∧ Tre w w3 b f zeros64 := by
  obtain ⟨cs, cu, w2, h1, h2, h⟩ := two_boxed w b f hb hf
  have hA : Blk (w2.alloc (.cells (cellsI zeros64).toArray 23)) (w.heap.size + 1 + 1) zeros64 := by have := h.size; rw [show w.heap.size + 1 + 1 = w2.heap.size by omega]; exact Blk.made _ _ zeros_len
  refine ⟨cs, cu, (cellsI zeros64).toArray, _, h1, h2, fun w => zero23 w, rfl, rfl, ?_⟩
  rw [h.e]
  exact ⟨h.b1.on (on_alloc _ _), h.b2.on (on_alloc _ _), hA, on_trans h.bel (on_alloc _ _)⟩
/-- what a call answers that answers a block -/
def Gives (w : World) (R : List Int) (e : Ending) (w' : World) : Prop := e = .returned (blkV R) ∧ Below w.heap.size w w'
theorem results_c {fn : Func} {p : Tmp} {ty : TypeId} (h : fn.results = #[.cell p ty]) (tmps : Array Value) (w : World) (g : Nat) (x : Value)
    (hp : tmps.getD p undef = .pointer (some ⟨g, 0, none⟩)) (hl : (loadVar ty ⟨g, 0, none⟩).run Tryd.prog w = .ok x w) : (results fn tmps).run Tryd.prog w = .ok x w := by
  have hp' : tmps[p]?.getD undef = .pointer (some ⟨g, 0, none⟩) := by simpa using hp
  simp [results, h, hp', asAddr, hl]

set_option maxRecDepth 10000 in
set_option maxHeartbeats 3200000 in
theorem pass_any (w : World) (b f : List Int) (M : Int) (hb : b.length = 64) (hf : f.length = 64) (wb : Wi b (-M) M) (wf : Wi f (-4017) 4017) (m0 : 0 ≤ M) (m1 : M ≤ 100000000000) : Calls Tryd.prog 21 #[blkV b, blkV f] w (Gives w (passL f b)) := by
  obtain ⟨cs, cu, Z, w3, hbv, hsv, hz, hw3, _, hT⟩ := tre_boxed w b f hb hf
  have H := Lib.hid (And.intro hT (And.intro wb wf))
  rw [hbv, hsv]
  have HW := Lib.hid hw3
  clear hb hf wb wf hbv hsv hw3 hT
  go_enter Tryd.func21, Tryd.ntmps21
  go_wp2_with fail
  rw [HW.out]
  go_loopw [8] (fun i wr => ∃ i' : Nat, i' ≤ 8 ∧ i = .int .i64 i' ∧ Tre w wr b f (partL f b i' 0 0)) (fun i _ => 8 - (intOf i).toNat)
  case atStart => exact ⟨0, by omega, rfl, by rw [partL_zero]; exact H.out.1⟩
  case round =>
    obtain ⟨i, hi, rfl, hR⟩ := hrel
    have HR := Lib.hid hR
    clear hR
    by_cases hi8 : i < 8
    · go_wp2_with fail
      go_loopw [11] (fun k wr => ∃ k' : Nat, k' ≤ 8 ∧ k = .int .i64 k' ∧ Tre w wr b f (partL f b i k' 0)) (fun k _ => 8 - (intOf k).toNat)
      case atStart => exact ⟨0, by omega, rfl, HR.out⟩
      case round =>
        obtain ⟨k, hk, rfl, hR⟩ := hrel
        have HR := Lib.hid hR
        clear hR
        by_cases hk8 : k < 8
        · go_wp2_with fail
          go_loopw [14] (fun j wr => ∃ j' : Nat, j' ≤ 8 ∧ j = .int .i64 j' ∧ Tre w wr b f (partL f b i k j')) (fun j _ => 8 - (intOf j).toNat)
          case atStart => exact ⟨0, by omega, rfl, HR.out⟩
          case round =>
            obtain ⟨j, hj, rfl, hR⟩ := hrel
            have HR := Lib.hid hR
            clear hR
            by_cases hj8 : j < 8
            · have c1 := HR.out.out.cell (k := 8 * k + i) (by omega)
              have c2 := HR.out.b2.cell (k := 8 * i + j) (by omega)
              have c3 := HR.out.b1.cell (k := 8 * j + k) (by omega)
              have hfr := HR.out.out.free (8 * k + i)
              rw [partL_at hi8 hk8] at c1
              have a1 := psT_small H.out.2.2 H.out.2.1 (n := 8 * k + i) (by omega) (j := j) (by omega)
              have a2 := H.out.2.2 (8 * i + j) (by omega)
              have a3 := H.out.2.1 (8 * j + k) (by omega)
              have a4 := term_small a2.1 a2.2 a3.1 a3.2
              have hm := partL_more (f := f) (b := b) (j := j) hi8 hk8
              obtain ⟨s, hs⟩ : ∃ s, s = psT f b (8 * k + i) j := ⟨_, rfl⟩
              obtain ⟨x, hx⟩ : ∃ x, x = f.getD (8 * i + j) 0 := ⟨_, rfl⟩
              obtain ⟨y, hy⟩ : ∃ y, y = b.getD (8 * j + k) 0 := ⟨_, rfl⟩
              rw [← hs] at c1 a1 hm
              rw [← hx] at c2 a2 a4 hm
              rw [← hy] at c3 a3 a4 hm
              obtain ⟨z, hz'⟩ : ∃ z, z = x * y := ⟨_, rfl⟩
              rw [← hz'] at a4 hm
              have hxy := hz'.symm
              obtain ⟨a10, a11⟩ := a1
              obtain ⟨a40, a41⟩ := a4
              have t1 : 4017 * M * j ≤ 4017 * M * 8 := Int.mul_le_mul_of_nonneg_left (by omega) (by omega)
              have s0 : -3213600000000000 ≤ s := by omega
              have s1 : s ≤ 3213600000000000 := by omega
              have z0 : -401700000000000 ≤ z := by omega
              have z1 : z ≤ 401700000000000 := by omega
              have HM := Lib.hid hm
              clear hs hx hy hz' hm a10 a11 a2 a3 a40 a41 t1
              go_wp2_with fail
              go_region
              go_wp2_with fail
              go_roundw
              case rel =>
                refine ⟨j + 1, by omega, by go_num, ?_⟩
                rw [← HM.out]
                exact (HR.out.on (below_drewN_refl _ _)).put _ _
              case measure => simp [intOf]; omega
            · obtain rfl : j = 8 := by omega
              have hR := HR.out
              rw [partL_num hi8] at hR
              have HR := Lib.hid hR
              clear hR
              go_wp2_with fail
              go_roundw
              case rel => exact ⟨k + 1, by omega, by go_num, HR.out⟩
              case measure => simp [intOf]; omega
        · obtain rfl : k = 8 := by omega
          have hR := HR.out
          rw [partL_row] at hR
          have HR := Lib.hid hR
          clear hR
          go_wp2_with fail
          go_roundw
          case rel => exact ⟨i + 1, by omega, by go_num, HR.out⟩
          case measure => simp [intOf]; omega
    · obtain rfl : i = 8 := by omega
      have hR := HR.out
      rw [partL_all] at hR
      have HR := Lib.hid hR
      clear hR
      go_wp2_with (first
        | (with_reducible refine wpList_load_to (op := ⟨some 41, _, _, _, _, _⟩) rfl 23 (.tmp 4) rfl (.pointer (some ⟨w.heap.size + 1 + 1, 0, none⟩)) rfl (blkV (passL f b)) HR.out.out.load ?_)
        | ((with_reducible refine wpList_store_blk (o := ⟨none, _, _, _, _, _⟩) rfl (.tmp 4) (.tmp 41) rfl rfl (w.heap.size + 1 + 1) (passL f b) rfl rfl _ HR.out.out.box rfl (passL_len f b) ?_)
           intro w9 b9 k9
           have H9 := Lib.hid (HR.out.done b9 k9)
           clear b9 k9)
        | fail)
      refine bodyPost_ret (v := blkV (passL f b)) (results_c (fn := Tryd.f21) Tryd.results21 _ _ (w.heap.size + 1 + 1) _ rfl (loadVar_blk H9.out.2)) rfl ?_
      exact ⟨rfl, H9.out.1⟩
end Go.Proofs.YteoahoepipnkfaaDoor
