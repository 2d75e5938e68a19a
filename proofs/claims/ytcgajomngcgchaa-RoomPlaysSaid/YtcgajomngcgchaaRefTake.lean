/-
  The reference's Take.
-/
import Derived.Test.YtcgajomngcgchaaRefMark
import Derived.Test.YtcgajomngcgchaaGive
namespace Go.Proofs.Ytcgajomngcgchaa
open Go.RowKit

/-- what lies in memory: the map, and the extent -/
structure Bt (w wr : World) (A : Option Addr) (n c g9 : Nat) (X0 size : Int) : Prop where
  bel : Below w.heap.size w wr
  b0 : Box wr w.heap.size 30 #[.slice A n c]
  lo : w.heap.size + 3 ≤ wr.heap.size
  b9 : Box wr g9 42 #[.int .i64 X0, .int .i64 size]
theorem Bt.on {w wr w' : World} {A : Option Addr} {n c g9 : Nat} {X0 size : Int} (h : Bt w wr A n c g9 X0 size) (k : Below wr.heap.size wr w') : Bt w w' A n c g9 X0 size := ⟨on_trans h.bel k, h.b0.on k, Nat.le_trans h.lo k.size, h.b9.on k⟩
theorem Bt.beside {w wr : World} {A : Option Addr} {n c g9 : Nat} {X0 size : Int} (h : Bt w wr A n c g9 X0 size) {p : Addr} (h0 : w.heap.size ≤ p.block) (h1 : w.heap.size ≠ p.block) (h9 : g9 ≠ p.block) (v : Value) : Bt w (wr.setCell p v) A n c g9 X0 size :=
  ⟨Below.setCell h.bel h0 v, h.b0.beside h1 v, by have := h.lo; simp [World.setCell]; omega, h.b9.beside h9 v⟩
def RTakeNone (z : Int) (A : Option Addr) (n c : Nat) (w : World) (r : Ending) (w' : World) : Prop := r = .returned (.tuple #[.agg #[.slice A n c], .agg #[.int .i64 0, .int .i64 0], .int .i64 z]) ∧ Below w.heap.size w w'
def RTakeSome (u : List Bool) (fs : List X) (size : Int) (w : World) (r : Ending) (w' : World) : Prop := ∃ A n c, r = .returned (.tuple #[.agg #[.slice A n c], .agg #[.int .i64 (fs.getD (takeI fs size) (0, 0)).1, .int .i64 size], .int .i64 0]) ∧ Bl (fun b => w.heap.size ≤ b) w' A n c (mark u ((fs.getD (takeI fs size) (0, 0)).1, size) true) ∧ Below w.heap.size w w'
def RTake (u : List Bool) (fs : List X) (A : Option Addr) (n c : Nat) (size : Int) (w : World) (r : Ending) (w' : World) : Prop :=
  (size < 1 ∧ RTakeNone 1 A n c w r w') ∨ (1 ≤ size ∧ takeI fs size = fs.length ∧ RTakeNone 9 A n c w r w') ∨ (1 ≤ size ∧ takeI fs size < fs.length ∧ RTakeSome u fs size w r w')
set_option maxHeartbeats 3200000 in
set_option maxRecDepth 20000 in
theorem refTake_any (w : World) (K : Nat → Prop) (A : Option Addr) (n c : Nat) (u : List Bool) (fs : List X) (hc : Can u fs) (hx : Bl K w A n c u) (hn : n ≤ 4096) (size : Int) : Calls Try.prog 22 #[.agg #[.slice A n c], .int .i64 size] w (RTake u fs A n c size w) := by
  have hmax := hx.max
  have hcap := hx.cap
  unfold maxLen at hmax
  obtain ⟨w3, hw3⟩ : ∃ w3, ((w.alloc (.cells #[.slice A n c] 30)).alloc (.cells #[.slice none 0 0] 30)).alloc (.cells #[.int .i64 0, .int .i64 0] 42) = w3 := ⟨_, rfl⟩
  have hz3 : w3.heap.size = w.heap.size + 3 := by rw [← hw3]; simp
  have k3 : Below w.heap.size w w3 := by rw [← hw3]; exact on_trans (on_trans (on_alloc _ _) (on_alloc _ _)) (on_alloc _ _)
  have b0 : Box w3 w.heap.size 30 #[.slice A n c] := by rw [← hw3]; exact ((Box.made _ _ _).alloc _).alloc _
  have b1 : Box w3 (w.heap.size + 1) 30 #[.slice none 0 0] := by
    have := (Box.made (w.alloc (.cells #[.slice A n c] 30)) 30 #[.slice none 0 0]).alloc (.cells #[.int .i64 0, .int .i64 0] 42)
    rw [hw3] at this
    simpa using this
  have b2 : Box w3 (w.heap.size + 1 + 1) 42 #[.int .i64 0, .int .i64 0] := by
    have := Box.made ((w.alloc (.cells #[.slice A n c] 30)).alloc (.cells #[.slice none 0 0] 30)) 42 #[.int .i64 0, .int .i64 0]
    rw [hw3] at this
    simpa using this
  have c0 : w3.cell? ⟨w.heap.size, 0, none⟩ = some (.slice A n c) := b0.cell 0
  have H3 := Lib.hid (And.intro k3 (And.intro b0 (And.intro b1 (And.intro b2 (And.intro hz3 hc)))))
  by_cases h1 : size < 1
  · have x4 : w3.cell? ⟨w.heap.size + 1, 0, none⟩ = some (.slice none 0 0) := b1.cell 0
    have y4 := b1.free 0
    obtain ⟨w4, hw4⟩ : ∃ w4, w3.setCell ⟨w.heap.size + 1, 0, none⟩ (.slice A n c) = w4 := ⟨_, rfl⟩
    have b24 : Box w4 (w.heap.size + 1 + 1) 42 #[.int .i64 0, .int .i64 0] := by rw [← hw4]; exact b2.beside (p := ⟨w.heap.size + 1, 0, none⟩) (by simp only; omega) _
    have b14 : Box w4 (w.heap.size + 1) 30 #[.slice A n c] := by rw [← hw4]; have := b1.put 0 (.slice A n c); simpa using this
    have k4 : Below w.heap.size w w4 := by rw [← hw4]; exact Below.setCell (p := ⟨w.heap.size + 1, 0, none⟩) k3 (by simp only; omega) _
    have x5 : w4.cell? ⟨w.heap.size + 1 + 1, 0, none⟩ = some (.int .i64 0) := b24.cell 0
    have x6 : w4.cell? ⟨w.heap.size + 1 + 1, 1, none⟩ = some (.int .i64 0) := b24.cell 1
    have y5 := b24.free 0
    have y6 := b24.free 1
    have H4 := Lib.hid (And.intro b24 (And.intro b14 k4))
    clear k3 b0 b1 b2 hz3 hx hc b24 b14 k4
    go_enter Try.func22, Try.ntmps22
    go_wp2_with fail
    have bz : Box ((w4.setCell ⟨w.heap.size + 1 + 1, 0, none⟩ (.int .i64 0)).setCell ⟨w.heap.size + 1 + 1, 1, none⟩ (.int .i64 0)) (w.heap.size + 1 + 1) 42 #[.int .i64 0, .int .i64 0] := by
      have := (H4.out.1.put 0 (.int .i64 0)).put 1 (.int .i64 0); simpa using this
    have bz1 := (H4.out.2.1.beside (p := ⟨w.heap.size + 1 + 1, 0, none⟩) (by simp only; omega) (.int .i64 0)).beside (p := ⟨w.heap.size + 1 + 1, 1, none⟩) (by simp only; omega) (.int .i64 0)
    have v0 := bz1.cell 0
    have v1 := bz.cell 0
    have v2 := bz.cell 1
    simp only [List.getElem?_toArray, List.getElem?_cons_succ, List.getElem?_cons_zero] at v0 v1 v2
    exact bodyPost_ret (v := .tuple #[.agg #[.slice A n c], .agg #[.int .i64 0, .int .i64 0], .int .i64 1]) (by simp [results, Try.results22, go_sem, v0, v1, v2]) rfl (.inl ⟨h1, rfl, Below.setCell (p := ⟨w.heap.size + 1 + 1, 1, none⟩) (Below.setCell (p := ⟨w.heap.size + 1 + 1, 0, none⟩) H4.out.2.2 (by simp only; omega) _) (by simp only; omega) _⟩)
  · have HF := Lib.hid (refFree_any w3 K A n c u (hx.on k3) hn)
    have HX0 := Lib.hid (And.intro hx hx.lenB)
    clear k3 b0 b1 b2 hz3 hx hc
    go_enter Try.func22, Try.ntmps22
    go_wp2_with (go_at_call 17
                 refine Calls.mono HF.out ?_
                 rintro e w5 ⟨A5, q, c5, fs5, rfl, hx5, hcan5, b5⟩
                 have hfe : fs = fs5 := H3.out.2.2.2.2.2.only hcan5
                 subst hfe
                 have hq5 := hx5.max
                 have hq6 := hx5.cap
                 unfold maxLen at hq5
                 have H5 := Lib.hid (And.intro hx5 b5)
                 clear hx5 hcan5 b5)
    go_loopw [8] (fun i wr => ∃ (k : Nat), k ≤ q ∧ i = .int .i64 (k : Int) ∧ (∀ j, j < k → (fs.getD j (0, 0)).2 < size) ∧ wr = w5) (fun i _ => q - (intOf i).toNat)
    case atStart => exact ⟨0, by omega, rfl, fun j hj => by omega, rfl⟩
    case round =>
      obtain ⟨k, hk, rfl, hno, rfl⟩ := hrel
      have HB := Lib.hid hno
      clear hno
      by_cases hkq : k < q
      · obtain ⟨b, off, rfl, hbs, hK, d0, d1⟩ := H5.out.1.getX hkq
        have hkl : k < fs.length := by rw [H5.out.1.lenX]; exact hkq
        have hrz := H3.out.2.2.2.2.2.rise.at_ _ (getD_mem hkl)
        obtain ⟨X0, X1, hxy⟩ : ∃ x y : Int, fs.getD k (0, 0) = (x, y) := ⟨_, _, rfl⟩
        rw [hxy] at d0 d1 hrz
        simp only at d0 d1 hrz
        by_cases hsz : size ≤ X1
        · have hI : takeI fs size = k := findIdx_of hkl (fun j hj => decide_eq_false (by have := HB.out j hj; omega)) (decide_eq_true (by rw [hxy]; exact hsz))
          have ok : Ok u.length (X0, size) := ⟨hrz.1, by simp only; omega, by simp only; omega⟩
          have HI := Lib.hid (And.intro hI (show fs.getD (takeI fs size) (0, 0) = (X0, X1) from by rw [hI]; exact hxy))
          have HX := Lib.hid (And.intro HX0.out.1 (And.intro hkl ok))
          obtain ⟨w6, hw6⟩ : ∃ w6, wr.alloc (.cells #[.int .i64 X0, .int .i64 size] 42) = w6 := ⟨_, rfl⟩
          clear hI ok hxy hrz hkl
          have hb6 : Below wr.heap.size wr w6 := by rw [← hw6]; exact on_alloc _ _
          have HB9 := Lib.hid (show Bt w w6 A n c wr.heap.size X0 size ∧ Box w6 (w.heap.size + 1) 30 #[.slice none 0 0] ∧ Box w6 (w.heap.size + 1 + 1) 42 #[.int .i64 0, .int .i64 0] from
            ⟨⟨on_trans (on_trans H3.out.1 H5.out.2) hb6, (H3.out.2.1.on H5.out.2).on hb6, by have := H3.out.2.2.2.2.1; have := H5.out.2.size; have := hb6.size; omega, by rw [← hw6]; exact Box.made _ _ _⟩, (H3.out.2.2.1.on H5.out.2).on hb6, (H3.out.2.2.2.1.on H5.out.2).on hb6⟩)
          have HG9 := Lib.hid (show w.heap.size + 3 ≤ wr.heap.size by have := H3.out.2.2.2.2.1; have := H5.out.2.size; omega)
          clear hb6
          go_wp2_with fail
          go_upto_region 9 with fail
          refine wp_region_held_drew (S := fun w' => Hid (Bt w w' A n c wr.heap.size X0 size)) (by kernel_rfl) (Lib.hid (HB9.out.1.on (on_drew _))) fun s0 => ?_
          refine take_to (i := 0) (v := .agg #[.slice A n c]) rfl (by kernel_rfl) (by kernel_rfl) (by kernel_rfl) (fun _ _ _ h => h) (Or.inl ⟨by rfl, fun w' hS => by have hc := hS.out.b0.cell 0; simp at hc; go_simp⟩) s0 (some 36) rfl ?_
          try simp only [Act.put, List.setIfInBounds_toArray, List.set_cons_zero, List.set_cons_succ]
          refine take_to (i := 1) (v := .agg #[.int .i64 X0, .int .i64 size]) rfl (by kernel_rfl) (by kernel_rfl) (by kernel_rfl) (fun _ _ _ h => h) (Or.inl ⟨by rfl, fun w' hS => by have hc := hS.out.b9.cell 0; have hc2 := hS.out.b9.cell 1; simp at hc hc2; go_simp⟩) s0 (some 37) rfl ?_
          try simp only [Act.put, List.setIfInBounds_toArray, List.set_cons_zero, List.set_cons_succ]
          refine take_to (i := 3) (v := .agg #[.int .i64 X0, .int .i64 size]) rfl (by kernel_rfl) (by kernel_rfl) (by kernel_rfl) (fun _ _ _ h => h) (Or.inl ⟨by rfl, fun w' hS => by have hc := hS.out.b9.cell 0; have hc2 := hS.out.b9.cell 1; simp at hc hc2; go_simp⟩) s0 (some 39) rfl ?_
          try simp only [Act.put, List.setIfInBounds_toArray, List.set_cons_zero, List.set_cons_succ]
          refine wpAnyH_ready (rs := [2]) (by kernel_rfl) (by simp) ?_
          refine AllReadyH.cons rfl (fun Kq hKq => ?_) AllReadyH.nil
          try refine if_then (by rfl) ?_
          go_simp
          refine Calls.mono (mark_any _ K A n c u (HX.out.1.on s0.out.bel) hn X0 size HX.out.2.2 true) ?_
          rintro e w10 ⟨A10, n10, c10, rfl, hx10, b10⟩
          have s1 := Lib.hid (s0.out.on b10)
          have E1 := Lib.hid (And.intro ((HB9.out.2.1.on (on_drew _)).on b10) ((HB9.out.2.2.on (on_drew _)).on b10))
          have H10 := Lib.hid (hx10.mono (K' := fun b => w.heap.size + 3 ≤ b) (fun b _ hb => Nat.le_trans s0.out.lo hb))
          refine hKq.out _ _ s1 fun _ => ?_
          clear hKq Kq b10 hx10
          try simp only [Act.put, List.setIfInBounds_toArray, List.set_cons_zero, List.set_cons_succ]
          have x4 : w10.cell? ⟨w.heap.size + 1, 0, none⟩ = some (.slice none 0 0) := E1.out.1.cell 0
          have y4 := E1.out.1.free 0
          refine wpAnyH_ready (rs := [4]) (by kernel_rfl) (by simp) ?_
          refine AllReadyH.cons rfl (fun Kq hKq => ?_) AllReadyH.nil
          try refine if_then (by rfl) ?_
          go_simp
          have s2 := Lib.hid (s1.out.beside (p := ⟨w.heap.size + 1, 0, none⟩) (by simp only; omega) (by simp only; omega) (by simp only; have := HG9.out; omega) (.slice A10 n10 c10))
          have E2 := Lib.hid (And.intro (show Box (w10.setCell ⟨w.heap.size + 1, 0, none⟩ (.slice A10 n10 c10)) (w.heap.size + 1) 30 #[.slice A10 n10 c10] from by have := E1.out.1.put 0 (.slice A10 n10 c10); simpa using this) (And.intro (E1.out.2.beside (p := ⟨w.heap.size + 1, 0, none⟩) (by simp only; omega) (.slice A10 n10 c10)) (H10.out.kept (S := fun i => i = w.heap.size + 1) (Kept.setCell (S := fun i => i = w.heap.size + 1) (p := ⟨w.heap.size + 1, 0, none⟩) (Kept.refl _ _) (fun _ => rfl) (.slice A10 n10 c10)) (fun b hb e => by omega))))
          refine hKq.out _ _ s2 fun _ => ?_
          clear hKq Kq
          try simp only [Act.put, List.setIfInBounds_toArray, List.set_cons_zero, List.set_cons_succ]
          obtain ⟨w11, hw11⟩ : ∃ w11, w10.setCell ⟨w.heap.size + 1, 0, none⟩ (.slice A10 n10 c10) = w11 := ⟨_, rfl⟩
          rw [hw11] at s2 E2 ⊢
          have x5 : w11.cell? ⟨w.heap.size + 1 + 1, 0, none⟩ = some (.int .i64 0) := E2.out.2.1.cell 0
          have x6 : w11.cell? ⟨w.heap.size + 1 + 1, 1, none⟩ = some (.int .i64 0) := E2.out.2.1.cell 1
          have y5 := E2.out.2.1.free 0
          have y6 := E2.out.2.1.free 1
          refine wpAnyH_ready (rs := [5]) (by kernel_rfl) (by simp) ?_
          refine AllReadyH.cons rfl (fun Kq hKq => ?_) AllReadyH.nil
          try refine if_then (by rfl) ?_
          go_simp
          obtain ⟨w12, hw12⟩ : ∃ w12, (w11.setCell ⟨w.heap.size + 1 + 1, 0, none⟩ (.int .i64 X0)).setCell ⟨w.heap.size + 1 + 1, 1, none⟩ (.int .i64 size) = w12 := ⟨_, rfl⟩
          have k12 : Kept (fun i => i = w.heap.size + 1 + 1) w11 w12 := by
            rw [← hw12]
            exact Kept.setCell (p := ⟨w.heap.size + 1 + 1, 1, none⟩) (Kept.setCell (S := fun i => i = w.heap.size + 1 + 1) (p := ⟨w.heap.size + 1 + 1, 0, none⟩) (Kept.refl _ _) (fun _ => rfl) _) (fun _ => rfl) _
          have s3 := Lib.hid (show Bt w w12 A n c wr.heap.size X0 size from by
            rw [← hw12]
            exact (s2.out.beside (p := ⟨w.heap.size + 1 + 1, 0, none⟩) (by simp only; omega) (by simp only; omega) (by simp only; have := HG9.out; omega) (.int .i64 X0)).beside (p := ⟨w.heap.size + 1 + 1, 1, none⟩) (by simp only; omega) (by simp only; omega) (by simp only; have := HG9.out; omega) (.int .i64 size))
          have E3 := Lib.hid (And.intro (k12.box E2.out.1 (by omega)) (And.intro (show Box w12 (w.heap.size + 1 + 1) 42 #[.int .i64 X0, .int .i64 size] from by rw [← hw12]; have := (E2.out.2.1.put 0 (.int .i64 X0)).put 1 (.int .i64 size); simpa using this) (E2.out.2.2.kept k12 (fun b hb e => by omega))))
          try rw [hw12]
          refine hKq.out _ _ s3 fun _ => ?_
          clear hKq Kq k12
          try simp only [Act.put, List.setIfInBounds_toArray, List.set_cons_zero, List.set_cons_succ]
          refine take_to (i := 6) (v := .int .i64 0) rfl (by kernel_rfl) (by kernel_rfl) (by kernel_rfl) (fun _ _ _ h => h) (Or.inl ⟨by rfl, fun w' hS => by go_simp⟩) s3 (some 6) rfl ?_
          try simp only [Act.put, List.setIfInBounds_toArray, List.set_cons_zero, List.set_cons_succ]
          refine wpAnyH_done (by kernel_rfl) ?_ _
          go_wp2_with fail
          have v0 : w12.cell? ⟨w.heap.size + 1, 0, none⟩ = some (.slice A10 n10 c10) := E3.out.1.cell 0
          have v1 : w12.cell? ⟨w.heap.size + 1 + 1, 0, none⟩ = some (.int .i64 X0) := E3.out.2.1.cell 0
          have v2 : w12.cell? ⟨w.heap.size + 1 + 1, 1, none⟩ = some (.int .i64 size) := E3.out.2.1.cell 1
          refine bodyPost_ret (v := .tuple #[.agg #[.slice A10 n10 c10], .agg #[.int .i64 X0, .int .i64 size], .int .i64 0]) (by simp [results, Try.results22, go_sem, v0, v1, v2]) rfl ?_
          exact .inr (.inr ⟨by omega, by rw [HI.out.1]; exact HX.out.2.1, A10, n10, c10, by rw [HI.out.2], by rw [HI.out.2]; exact E3.out.2.2.mono (fun b _ hb => by omega), s3.out.bel⟩)
        · have hN : ∀ j, j < k + 1 → (fs.getD j (0, 0)).2 < size := fun j hj => by
            rcases Nat.lt_or_ge j k with h | h
            · exact HB.out j h
            · obtain rfl : j = k := by omega
              rw [hxy]; simp only; omega
          have HN := Lib.hid hN
          clear hN hxy hrz hkl
          go_wp2_with fail
          go_roundw
          case rel => exact ⟨k + 1, by omega, by go_num, HN.out, trivial⟩
          case measure => simp [intOf]; omega
      · obtain rfl : k = q := by omega
        have hI : takeI fs size = fs.length := by
          have hl := H5.out.1.lenX
          exact findIdx_none (fun j hj => decide_eq_false (by have := HB.out j (by omega); omega))
        have HI := Lib.hid hI
        clear hI
        have b1 := H3.out.2.2.1.on H5.out.2
        have b2 := H3.out.2.2.2.1.on H5.out.2
        have k3 := on_trans H3.out.1 H5.out.2
        have cc := (H3.out.2.1.on H5.out.2).cell 0
        simp only [List.getElem?_toArray, List.getElem?_cons_zero] at cc
        have x4 : wr.cell? ⟨w.heap.size + 1, 0, none⟩ = some (.slice none 0 0) := b1.cell 0
        have y4 := b1.free 0
        obtain ⟨w4, hw4⟩ : ∃ w4, wr.setCell ⟨w.heap.size + 1, 0, none⟩ (.slice A n c) = w4 := ⟨_, rfl⟩
        have b24 : Box w4 (w.heap.size + 1 + 1) 42 #[.int .i64 0, .int .i64 0] := by rw [← hw4]; exact b2.beside (p := ⟨w.heap.size + 1, 0, none⟩) (by simp only; omega) _
        have b14 : Box w4 (w.heap.size + 1) 30 #[.slice A n c] := by rw [← hw4]; have := b1.put 0 (.slice A n c); simpa using this
        have k4 : Below w.heap.size w w4 := by rw [← hw4]; exact Below.setCell (p := ⟨w.heap.size + 1, 0, none⟩) k3 (by simp only; omega) _
        have x5 : w4.cell? ⟨w.heap.size + 1 + 1, 0, none⟩ = some (.int .i64 0) := b24.cell 0
        have x6 : w4.cell? ⟨w.heap.size + 1 + 1, 1, none⟩ = some (.int .i64 0) := b24.cell 1
        have y5 := b24.free 0
        have y6 := b24.free 1
        have H4 := Lib.hid (And.intro b24 (And.intro b14 k4))
        clear k3 b1 b2 b24 b14 k4
        go_wp2_with fail
        have bz : Box ((w4.setCell ⟨w.heap.size + 1 + 1, 0, none⟩ (.int .i64 0)).setCell ⟨w.heap.size + 1 + 1, 1, none⟩ (.int .i64 0)) (w.heap.size + 1 + 1) 42 #[.int .i64 0, .int .i64 0] := by
          have := (H4.out.1.put 0 (.int .i64 0)).put 1 (.int .i64 0); simpa using this
        have bz1 := (H4.out.2.1.beside (p := ⟨w.heap.size + 1 + 1, 0, none⟩) (by simp only; omega) (.int .i64 0)).beside (p := ⟨w.heap.size + 1 + 1, 1, none⟩) (by simp only; omega) (.int .i64 0)
        have v0 := bz1.cell 0
        have v1 := bz.cell 0
        have v2 := bz.cell 1
        simp only [List.getElem?_toArray, List.getElem?_cons_succ, List.getElem?_cons_zero] at v0 v1 v2
        exact bodyPost_ret (v := .tuple #[.agg #[.slice A n c], .agg #[.int .i64 0, .int .i64 0], .int .i64 9]) (by simp [results, Try.results22, go_sem, v0, v1, v2]) rfl (.inr (.inl ⟨by omega, HI.out, rfl, Below.setCell (p := ⟨w.heap.size + 1 + 1, 1, none⟩) (Below.setCell (p := ⟨w.heap.size + 1 + 1, 0, none⟩) H4.out.2.2 (by simp only; omega) _) (by simp only; omega) _⟩))
end Go.Proofs.Ytcgajomngcgchaa
