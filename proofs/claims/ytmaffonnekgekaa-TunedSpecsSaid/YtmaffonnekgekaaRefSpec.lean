/-
  How the reference's Spec counts and limits: mathematics and what memory holds. The contract of the reference's Spec.
-/
import Derived.Test.YtmaffonnekgekaaSpecT
import Derived.Test.YtmaffonnekgekaaLengths
namespace Go.Proofs.Ytmaffonnekgekaa
open Go.RowKit

/-- how many have each length, in a slice of 300 -/
structure Nums3 (w : World) (g : Nat) (N : List Int) (n : Nat → Nat) : Prop where
  box : Box w g 3 (cellsI N).toArray
  len : N.length = 300
  at_ : ∀ s, s < 300 → N.getD s 0 = (n s : Int)
theorem Nums3.cell {w : World} {g : Nat} {N : List Int} {n : Nat → Nat} (h : Nums3 w g N n) {s : Nat} (hs : s < 300) : w.cell? ⟨g, s, none⟩ = some (.int .i64 (n s : Int)) := by
  have a := h.len
  rw [h.box.cell s, List.getElem?_toArray, cellsI_get _ _ (by omega), h.at_ s hs]
theorem Nums3.put {w : World} {g : Nat} {N : List Int} {n : Nat → Nat} (h : Nums3 w g N n) {s : Nat} (hs : s < 300) (x : Nat) {z : Int} (hz : z = (x : Int)) : Nums3 (w.setCell ⟨g, s, none⟩ (.int .i64 z)) g (N.set s (x : Int)) (upd n s x) ∧ Kept (fun i => i = g) w (w.setCell ⟨g, s, none⟩ (.int .i64 z)) := by
  subst hz
  have a := h.len
  refine ⟨⟨?_, by rw [List.length_set, a], fun j hj => ?_⟩, (Kept.refl (fun i => i = g) w).setCell (p := ⟨g, s, none⟩) (fun _ => rfl) _⟩
  · have hb := h.box.put s (.int .i64 (x : Int))
    rw [put_cellsI] at hb
    exact hb
  · by_cases e : s = j
    · subst e
      rw [getD_set_same _ (by omega), upd_same]
    · rw [getD_set_ne _ e, upd_other n x (fun e' => e e'.symm)]
      exact h.at_ j hj
theorem Nums3.kept {w w' : World} {g : Nat} {N : List Int} {n : Nat → Nat} (h : Nums3 w g N n) {S : Nat → Prop} (k : Kept S w w') (hS : ¬ S g) : Nums3 w' g N n := ⟨k.box h.box hS, h.len, h.at_⟩

/-- how many are counted: lengths below size are done, of length size the first v values -/
def nAt (fin : Nat → Nat) (size v s : Nat) : Nat := if s = 0 then 0 else if s < size then cntOf fin (List.range 257) s else if s = size then cntOf fin (List.range v) s else 0
theorem nAt_yes {fin : Nat → Nat} {size v : Nat} (h0 : 1 ≤ size) (h : fin v = size) : upd (nAt fin size v) size (nAt fin size v size + 1) = nAt fin size (v + 1) := by
  funext s
  by_cases e : s = size
  · subst e
    rw [upd_same]
    unfold nAt
    rw [if_neg (by omega), if_neg (by omega), if_pos rfl, if_neg (by omega), if_neg (by omega), if_pos rfl, cntOf_more, if_pos h]
  · rw [upd_other _ _ e]
    unfold nAt
    rw [if_neg e, if_neg e]
theorem nAt_no {fin : Nat → Nat} {size v : Nat} (h : fin v ≠ size) : nAt fin size (v + 1) = nAt fin size v := by
  funext s
  unfold nAt
  by_cases e : s = size
  · subst e
    rw [cntOf_more fin v, if_neg h, Nat.add_zero]
  · rw [if_neg e, if_neg e]
theorem cntOf_none (fin : Nat → Nat) (s : Nat) : cntOf fin (List.range 0) s = 0 := rfl
theorem nAt_next {fin : Nat → Nat} {size : Nat} : nAt fin (size + 1) 0 = nAt fin size 257 := by
  funext s
  unfold nAt
  rw [cntOf_none, ite_self]
  by_cases h0 : s = 0
  · rw [if_pos h0, if_pos h0]
  · rw [if_neg h0, if_neg h0]
    rcases Nat.lt_trichotomy s size with h | h | h
    · rw [if_pos (by omega), if_pos h]
    · rw [if_pos (by omega), if_neg (by omega), if_pos h]
    · rw [if_neg (by omega), if_neg (by omega), if_neg (by omega)]
theorem nAt_start (fin : Nat → Nat) (s : Nat) : nAt fin 1 0 s = 0 := by
  unfold nAt
  rw [cntOf_none, ite_self]
  by_cases h0 : s = 0
  · rw [if_pos h0]
  · rw [if_neg h0, if_neg (by omega)]
theorem nAt_le (fin : Nat → Nat) (size v s : Nat) : nAt fin size v s ≤ 257 + v := by
  have h1 := cntOf_le fin (List.range 257) s
  have h2 := cntOf_le fin (List.range v) s
  rw [List.length_range] at h1 h2
  unfold nAt
  split
  · omega
  · split
    · omega
    · split <;> omega
theorem nAt_all {C : List Int} {fin : Nat → Nat} (h : LengthsOf (cnF C) (usF C) fin) (hg : Good C) (hne : usF C ≠ []) : nAt fin 300 0 = cntOf fin (usF C ++ [256]) := by
  have hf := h.full hg.counted hne
  funext s
  unfold nAt
  rw [cntOf_none, ite_self]
  by_cases h0 : s = 0
  · rw [if_pos h0, h0, hf.zero]
  · rw [if_neg h0]
    by_cases h1 : s < 300
    · rw [if_pos h1, cnt_all h hg hne (by omega)]
    · rw [if_neg h1, hf.above s (by omega)]
/-- the values that are listed then -/
def rowAt (fin : Nat → Nat) (k v : Nat) : List Nat := valsTo fin k ++ segTo fin (k + 1) (min v 256)
theorem rowAt_yes {fin : Nat → Nat} {k v : Nat} (h : fin v = k + 1) (hv : v < 256) : rowAt fin k (v + 1) = rowAt fin k v ++ [v] := by
  unfold rowAt
  rw [Nat.min_eq_left (by omega), Nat.min_eq_left (by omega), segTo_more, if_pos h, List.append_assoc]
theorem rowAt_no {fin : Nat → Nat} {k v : Nat} (h : fin v ≠ k + 1) : rowAt fin k (v + 1) = rowAt fin k v := by
  unfold rowAt
  rcases Nat.lt_or_ge v 256 with hv | hv
  · rw [Nat.min_eq_left (by omega), Nat.min_eq_left (by omega), segTo_more, if_neg h, List.append_nil]
  · rw [Nat.min_eq_right (by omega), Nat.min_eq_right (by omega)]
theorem rowAt_last (fin : Nat → Nat) (k : Nat) : rowAt fin k 257 = rowAt fin k 256 := rfl
theorem rowAt_start (fin : Nat → Nat) (k : Nat) : rowAt fin k 0 = valsTo fin k := by
  unfold rowAt
  rw [Nat.zero_min]
  exact List.append_nil _
theorem rowAt_next (fin : Nat → Nat) (k : Nat) : rowAt fin k 257 = rowAt fin (k + 1) 0 := by
  rw [rowAt_start]
  rfl
theorem rowAt_len (fin : Nat → Nat) (k v : Nat) : (rowAt fin k v).length ≤ 512 := by
  have h1 := valsTo_few fin k
  have h2 := segTo_len fin (k + 1) (min v 256)
  unfold rowAt
  rw [List.length_append]
  omega

/-- where the reference's Spec has its blocks -/
structure Where (w : World) (r d b base : Nat) (A7 : Option Addr) : Prop where
  lo : w.heap.size ≤ r
  rd : r < d
  db : d < b
  bb : b < base
  far : ∀ b7 off, A7 = some ⟨b7, off, none⟩ → b7 ≠ b ∧ b7 ≠ d ∧ b7 < base
/-- what turns -/
def Turned (d b base i : Nat) : Prop := i = b ∨ i = d ∨ base ≤ i
/-- how counting stands -/
structure Cnt (w wr : World) (r d b base : Nat) (A7 : Option Addr) (c7 : Nat) (L : List Int) (fin : Nat → Nat) (k v : Nat) (N : List Int) (u : Value) : Prop where
  nums : Nums3 wr b N (nAt fin (k + 1) v)
  spec : Box wr d 26 (specC (List.replicate 16 0) u)
  own : wr.ownsRow base 3 1 u (rowAt fin k v).length (cellsI (ints (rowAt fin k v)))
  lens : Il wr A7 257 c7 L
  res : Box wr r 26 zeroC
  bel : Below w.heap.size w wr
  big : base ≤ wr.heap.size
section
variable {w wr w' : World} {r d b base : Nat} {A7 : Option Addr} {c7 : Nat} {L : List Int} {fin : Nat → Nat} {k v k' v' : Nat} {N N' : List Int} {u u' : Value}
theorem Cnt.kept (h : Cnt w wr r d b base A7 c7 L fin k v N u) (hw : Where w r d b base A7) (kk : Kept (Turned d b base) wr w') (h1 : Nums3 w' b N' (nAt fin (k' + 1) v')) (h2 : Box w' d 26 (specC (List.replicate 16 0) u')) (h3 : w'.ownsRow base 3 1 u' (rowAt fin k' v').length (cellsI (ints (rowAt fin k' v')))) :
    Cnt w w' r d b base A7 c7 L fin k' v' N' u' := by
  obtain ⟨o1, o2, o3, o4, o5⟩ := hw
  refine ⟨h1, h2, h3, h.lens.kept kk (fun b7 off e e2 => ?_), kk.box h.res (fun e => ?_), h.bel.trans (kk.below h.bel.size (fun i hi e => ?_)), Nat.le_trans h.big kk.size⟩
  · have := o5 b7 off e
    unfold Turned at e2
    omega
  · unfold Turned at e
    omega
  · unfold Turned at e
    omega
theorem Cnt.no (h : Cnt w wr r d b base A7 c7 L fin k v N u) (hf : fin v ≠ k + 1) : Cnt w wr r d b base A7 c7 L fin k (v + 1) N u := by
  refine ⟨?_, h.spec, ?_, h.lens, h.res, h.bel, h.big⟩
  · rw [nAt_no hf]; exact h.nums
  · rw [rowAt_no hf]; exact h.own
theorem Cnt.next (h : Cnt w wr r d b base A7 c7 L fin k 257 N u) : Cnt w wr r d b base A7 c7 L fin (k + 1) 0 N u := by
  refine ⟨?_, h.spec, ?_, h.lens, h.res, h.bel, h.big⟩
  · rw [nAt_next]; exact h.nums
  · rw [← rowAt_next]; exact h.own
/-- one of the length is counted -/
theorem Cnt.one (h : Cnt w wr r d b base A7 c7 L fin k v N u) (hw : Where w r d b base A7) (hk : k < 299) (hf : fin v = k + 1) {x : Nat} (hx : x = k + 1) {y : Nat} (hy : y = nAt fin (k + 1) v (k + 1)) {z : Int} (hz : z = ((y + 1 : Nat) : Int)) :
    Nums3 (wr.setCell ⟨b, x, none⟩ (.int .i64 z)) b (N.set x ((y + 1 : Nat) : Int)) (nAt fin (k + 1) (v + 1)) ∧ Box (wr.setCell ⟨b, x, none⟩ (.int .i64 z)) d 26 (specC (List.replicate 16 0) u) ∧ (wr.setCell ⟨b, x, none⟩ (.int .i64 z)).ownsRow base 3 1 u (rowAt fin k v).length (cellsI (ints (rowAt fin k v))) ∧ Kept (fun i => i = b) wr (wr.setCell ⟨b, x, none⟩ (.int .i64 z)) := by
  subst hx
  obtain ⟨h1, h2⟩ := h.nums.put (show k + 1 < 300 by omega) (y + 1) hz
  rw [hy, nAt_yes (by omega) hf] at h1
  rw [hy]
  exact ⟨h1, h2.box h.spec (by have := hw.db; omega), own_kept h.own h2 (fun g hg e => by have := hw.bb; omega), h2⟩
/-- behind the last value nothing is listed -/
theorem Cnt.last (h : Cnt w wr r d b base A7 c7 L fin k 256 N u) (hw : Where w r d b base A7) (h1 : Nums3 w' b N' (nAt fin (k + 1) 257)) (h2 : Box w' d 26 (specC (List.replicate 16 0) u)) (h3 : w'.ownsRow base 3 1 u (rowAt fin k 256).length (cellsI (ints (rowAt fin k 256)))) (kk : Kept (fun i => i = b) wr w') : Cnt w w' r d b base A7 c7 L fin k 257 N' u :=
  h.kept hw (kk.mono (fun _ _ e => .inl e)) h1 h2 h3
/-- a value more is listed -/
theorem Cnt.more {w8 w9 : World} {v9 : Value} (h : Cnt w wr r d b base A7 c7 L fin k v N u) (hw : Where w r d b base A7) (hf : fin v = k + 1) (hv : v < 256) (h1 : Nums3 w8 b N' (nAt fin (k + 1) (v + 1))) (k8 : Kept (fun i => i = b) wr w8) (h2 : Box w8 d 26 (specC (List.replicate 16 0) u))
    (hown : w9.ownsRow base 3 1 v9 ((rowAt fin k v).length + 1) (cellsI (ints (rowAt fin k v) ++ [(v : Int)]))) (hb : Below base (w8.alloc (.cells #[.int .i64 (v : Int)] 3)) w9) :
    Box w9 d 26 (specC (List.replicate 16 0) u) ∧ Cnt w (w9.setCell ⟨d, 16, none⟩ v9) r d b base A7 c7 L fin k (v + 1) N' v9 := by
  have hbig : base ≤ w8.heap.size := Nat.le_trans h.big k8.size
  have hb9 : Below base w8 w9 := ((on_alloc w8 _).mono hbig).trans hb
  have k9 : Kept (fun i => base ≤ i) w8 w9 := ⟨hb9.os, hb9.tape, hb9.output, hb9.size, fun i _ hn => hb9.block i (by omega)⟩
  have hbx : Box w9 d 26 (specC (List.replicate 16 0) u) := k9.box h2 (by have := hw.db; have := hw.bb; omega)
  have k10 : Kept (fun i => i = d) w9 (w9.setCell ⟨d, 16, none⟩ v9) := (Kept.refl (fun i => i = d) w9).setCell (p := ⟨d, 16, none⟩) (fun _ => rfl) _
  have kk : Kept (Turned d b base) wr (w9.setCell ⟨d, 16, none⟩ v9) := ((k8.mono (S' := Turned d b base) (fun _ _ e => .inl e)).trans k9 (fun _ _ e => .inr (.inr e))).trans k10 (fun _ _ e => .inr (.inl e))
  refine ⟨hbx, h.kept hw kk ((h1.kept k9 (by have := hw.bb; omega)).kept k10 (by have := hw.db; omega)) ?_ ?_⟩
  · have := hbx.put 16 v9
    rw [specC_put16 rfl] at this
    exact this
  · have := own_kept hown k10 (fun g hg e => by have := hw.db; have := hw.bb; omega)
    rw [rowAt_yes hf hv, ints_app, List.length_append]
    exact this
end

theorem il_made (w : World) (z : Int) (g : Nat) (hg : g = w.heap.size) : Il (w.alloc (.cells #[.int .i64 z] 3)) (some ⟨g, 0, none⟩) 1 1 [z] := hg ▸ il_one w z
theorem cnt_start {w w4 : World} {r d : Nat} {A7 : Option Addr} {c7 : Nat} {L : List Int} {fin : Nat → Nat} {Z : List Int} (hZ : Z = List.replicate 300 0) (hi : Il w4 A7 257 c7 L) (hr : Box w4 r 26 zeroC) (hd : Box w4 d 26 (specC (List.replicate 16 0) (.slice none 0 0))) (hb : Below w.heap.size w w4) :
    Cnt w (w4.alloc (.cells (cellsI Z).toArray 3)) r d w4.heap.size (w4.heap.size + 1) A7 c7 L fin 0 0 Z (.slice none 0 0) := by
  refine ⟨⟨Box.made _ _ _, by rw [hZ, List.length_replicate], fun s _ => ?_⟩, hd.alloc _, ?_, hi.alloc _, hr.alloc _, on_trans hb (on_alloc _ _), by simp⟩
  · rw [hZ, zeros_at, nAt_start]
    rfl
  · rw [rowAt_start]
    exact ⟨rfl, .inl ⟨rfl, rfl⟩⟩
theorem where_at {w w3 w4 : World} {r d : Nat} {A7 : Option Addr} {c7 : Nat} {L : List Int} (h1 : r < d ∧ w.heap.size ≤ r) (hd : Box w3 d 26 (specC (List.replicate 16 0) (.slice none 0 0))) (hi : Il w4 A7 257 c7 L) (hlo : ∀ b off, A7 = some ⟨b, off, none⟩ → w3.heap.size ≤ b) (hs : w3.heap.size ≤ w4.heap.size) : Where w r d w4.heap.size (w4.heap.size + 1) A7 := by
  have h2 := hd.lt
  refine ⟨h1.2, h1.1, by omega, by omega, fun b7 off e => ?_⟩
  have h3 := hlo b7 off e
  obtain ⟨b', off', e', hb', _⟩ := hi.at_ (by omega)
  rw [e] at e'
  cases e'
  omega

/-- how limiting stands -/
structure Lims3 (w wr : World) (g : Nat) (n : Nat → Nat) (K : Nat) (i : Nat) (N' : List Int) (n' : Nat → Nat) : Prop where
  nums : Nums3 wr g N' n'
  full : Full n' i K
  goes : ∀ m, Lim n' i m → Lim n 299 m
  kept : Kept (fun i => i = g) w wr
  lo : 16 ≤ i
  hi : i ≤ 299
theorem Lims3.down {w wr : World} {g : Nat} {n : Nat → Nat} {K i : Nat} {N' : List Int} {n' : Nat → Nat} (h : Lims3 w wr g n K (i + 1) N' n') (h16 : 16 ≤ i) (h0 : n' (i + 1) = 0) : Lims3 w wr g n K i N' n' :=
  ⟨h.nums, h.full.down h0, fun m r => h.goes m (.down h16 h0 r), h.kept, h16, by have := h.hi; omega⟩
theorem Lims3.step {w wr w4 : World} {g : Nat} {n : Nat → Nat} {K i j : Nat} {N' N4 : List Int} {n' : Nat → Nat} (h : Lims3 w wr g n K i N' n') (h17 : 17 ≤ i) (hn : n' i ≠ 0) (hj : jof n' (i - 2) = j) (h4 : Nums3 w4 g N4 (lstep n' i j)) (k4 : Kept (fun i => i = g) wr w4) :
    Lims3 w w4 g n K i N4 (lstep n' i j) ∧ lstep n' i j i + 2 = n' i := by
  have h1 := h.hi
  have hs := h.full.step h17 (by omega) hn
  rw [hj] at hs
  exact ⟨⟨h4, hs.1, fun m r => h.goes m (.step h17 hn (by rw [hj]; exact r)), h.kept.trans k4 (fun _ _ e => e), h.lo, h.hi⟩, hs.2.1⟩
end Go.Proofs.Ytmaffonnekgekaa

namespace Go.Proofs.Ytmaffonnekgekaa
open Go.RowKit

set_option maxRecDepth 20000 in
set_option maxHeartbeats 6400000 in
theorem refSpec_anyT (w : World) (C : List Int) (A : Option Addr) (n c : Nat) (h : Ia w A n c C) (hn : n ≤ 300) : Calls Try.prog 11 #[.slice A n c] w (SpecGot w C) := by
  have hz := zero25
  obtain ⟨ZC, hZC⟩ : ∃ ZC, ZC = zeroC := ⟨_, rfl⟩
  have hz26 : ∀ w, (zeroValue 26).run Try.prog w = .ok (.agg ZC) w := by rw [hZC]; exact hz
  clear hz
  obtain ⟨r, hr⟩ : ∃ r, r = w.heap.size := ⟨_, rfl⟩
  obtain ⟨d, hd⟩ : ∃ d, d = w.heap.size + 1 := ⟨_, rfl⟩
  obtain ⟨w1, hw1⟩ : ∃ w1, w1 = (w.alloc (.cells ZC 26)).alloc (.cells ZC 26) := ⟨_, rfl⟩
  have hb1 : Box w1 r 26 zeroC ∧ Box w1 d 26 zeroC := by
    rw [hw1, hr, hd, hZC]
    refine ⟨(Box.made w 26 zeroC).alloc _, ?_⟩
    have := Box.made (w.alloc (.cells zeroC 26)) 26 zeroC
    simpa using this
  have bel1 : Below w.heap.size w w1 := by rw [hw1]; exact on_trans (on_alloc _ _) (on_alloc _ _)
  have H1 := Lib.hid (And.intro hb1 (And.intro bel1 (And.intro h (And.intro hw1 (And.intro hr (And.intro hd h.len))))))
  have HZ := Lib.hid hZC
  clear hb1 bel1 hw1 hr hd h hZC
  go_enter Try.func11, Try.ntmps11
  go_wp2_with (first
    | (with_reducible refine wpList_build_to (op := ⟨some 15, _, _, _, _, _⟩) rfl 26 _ rfl (specV (List.replicate 16 0) (.slice none 0 0)) #[] (by simp) (build_zero _) ?_)
    | ((with_reducible refine wpList_store_spec (o := ⟨none, _, _, _, _, _⟩) rfl (.tmp 4) (.tmp 15) rfl rfl (w.heap.size + 1) (List.replicate 16 0) (.slice none 0 0) rfl rfl zeroC (by rw [← H1.out.2.2.2.1, ← H1.out.2.2.2.2.2.1]; exact H1.out.1.2) rfl rfl rfl ?_)
       intro w2 b2 k2
       rw [← H1.out.2.2.2.2.2.1] at b2 k2
       rw [← H1.out.2.2.2.1] at k2
       have H2 := Lib.hid (And.intro b2 k2)
       clear b2 k2)
    | fail)
  have hdr : d = r + 1 := by have := H1.out.2.2.2.2.1; have := H1.out.2.2.2.2.2.1; omega
  rw [← H1.out.2.2.2.2.1, ← hdr]
  have hrd : r < d ∧ w.heap.size ≤ r := by have := H1.out.2.2.2.2.1; have := H1.out.2.2.2.2.2.1; omega
  have hX2 : Box w2 r 26 zeroC ∧ Below w.heap.size w w2 := ⟨H2.out.2.box H1.out.1.1 (by omega), H1.out.2.1.trans (H2.out.2.below H1.out.2.1.size (fun i hi e => by omega))⟩
  have HX2 := Lib.hid (And.intro hrd hX2)
  clear hX2 hrd hdr
  refine (rightC_any w2 C A n c (H1.out.2.2.1.on HX2.out.2.2) hn).mono ?_
  rintro e w3 ⟨p, q, rfl, hp, hq, b3⟩
  have H3 := Lib.hid (And.intro hp (And.intro hq (And.intro (HX2.out.2.1.on b3) (And.intro (H2.out.1.on b3) (on_trans HX2.out.2.2 b3)))))
  clear hp hq b3
  by_cases hpq : p = true ∧ q = true
  case neg =>
    have hbad : ¬ (Good C ∧ Any C C.length) := fun hg => hpq (by
      have h1 := H3.out.1.2 hg.1
      exact ⟨h1, (H3.out.2.1 h1).2 hg.2⟩)
    have HBad := Lib.hid hbad
    clear hbad
    cases p with
    | false =>
      go_wp2_with (first
        | (with_reducible refine wpList_load_to (op := ⟨some 27, _, _, _, _, _⟩) rfl 26 (.tmp 4) rfl (.pointer (some ⟨d, 0, none⟩)) rfl (specV (List.replicate 16 0) (.slice none 0 0)) (load_spec H3.out.2.2.2.1 rfl) ?_)
        | ((with_reducible refine wpList_store_spec (o := ⟨none, _, _, _, _, _⟩) rfl (.tmp 2) (.tmp 27) rfl rfl r (List.replicate 16 0) (.slice none 0 0) rfl rfl zeroC H3.out.2.2.1 rfl rfl rfl ?_)
           intro w4 b4 k4
           have H4 := Lib.hid (And.intro b4 k4)
           clear b4 k4)
        | fail)
      refine bodyPost_ret (v := .tuple #[specV (List.replicate 16 0) (.slice none 0 0), .int .i64 2]) (results_spec Try.results11 _ _ r _ _ _ rfl rfl H4.out.1 rfl) rfl ?_
      exact ⟨H3.out.2.2.2.2.trans (H4.out.2.below H3.out.2.2.2.2.size (fun i hi e => by have := HX2.out.1; omega)), .inl ⟨HBad.out, rfl⟩⟩
    | true =>
      cases q with
      | true => exact absurd ⟨rfl, rfl⟩ hpq
      | false =>
        go_wp2_with (first
          | (with_reducible refine wpList_load_to (op := ⟨some 27, _, _, _, _, _⟩) rfl 26 (.tmp 4) rfl (.pointer (some ⟨d, 0, none⟩)) rfl (specV (List.replicate 16 0) (.slice none 0 0)) (load_spec H3.out.2.2.2.1 rfl) ?_)
          | ((with_reducible refine wpList_store_spec (o := ⟨none, _, _, _, _, _⟩) rfl (.tmp 2) (.tmp 27) rfl rfl r (List.replicate 16 0) (.slice none 0 0) rfl rfl zeroC H3.out.2.2.1 rfl rfl rfl ?_)
             intro w4 b4 k4
             have H4 := Lib.hid (And.intro b4 k4)
             clear b4 k4)
          | fail)
        refine bodyPost_ret (v := .tuple #[specV (List.replicate 16 0) (.slice none 0 0), .int .i64 2]) (results_spec Try.results11 _ _ r _ _ _ rfl rfl H4.out.1 rfl) rfl ?_
        exact ⟨H3.out.2.2.2.2.trans (H4.out.2.below H3.out.2.2.2.2.size (fun i hi e => by have := HX2.out.1; omega)), .inl ⟨HBad.out, rfl⟩⟩
  obtain ⟨rfl, rfl⟩ := hpq
  have hgood : Good C ∧ Any C C.length := ⟨H3.out.1.1 rfl, (H3.out.2.1 rfl).1 rfl⟩
  have HG := Lib.hid hgood
  clear hgood
  go_wp2_with fail
  refine (lengthsH_any w3 C A n c (H1.out.2.2.1.on H3.out.2.2.2.2) HG.out.1).mono ?_
  rintro e w4 ⟨fin, A7, c7, L, rfl, hi, hL, hlo, b4⟩
  have H4 := Lib.hid (And.intro hi (And.intro hL (And.intro hlo (And.intro (H3.out.2.2.1.on b4) (And.intro (H3.out.2.2.2.1.on b4) (And.intro (on_trans H3.out.2.2.2.2 b4) (where_at HX2.out.1 H3.out.2.2.2.1 hi hlo b4.size)))))))
  clear hi hL hlo b4
  have hmk := make300
  obtain ⟨Z, hZ⟩ : ∃ Z : List Int, Z = List.replicate 300 0 := ⟨_, rfl⟩
  rw [← hZ] at hmk
  obtain ⟨Z1, hZ1⟩ : ∃ Z1, Z1 = (cellsI Z).toArray := ⟨_, rfl⟩
  rw [← hZ1] at hmk
  have HZZ := Lib.hid (And.intro hZ hZ1)
  clear hZ hZ1
  go_wp2_with fail
  have hC0 := cnt_start (fin := fin) HZZ.out.1 H4.out.1 H4.out.2.2.2.1 H4.out.2.2.2.2.1 H4.out.2.2.2.2.2.1
  rw [← HZZ.out.2] at hC0
  obtain ⟨b, hb⟩ : ∃ b, b = w4.heap.size := ⟨_, rfl⟩
  obtain ⟨base, hbase⟩ : ∃ base, base = w4.heap.size + 1 := ⟨_, rfl⟩
  obtain ⟨w5, hw5⟩ : ∃ w5, w5 = w4.alloc (.cells Z1 3) := ⟨_, rfl⟩
  have hWh := H4.out.2.2.2.2.2.2
  rw [← hbase, ← hb] at hC0 hWh
  rw [← hw5] at hC0
  rw [← hb, ← hw5]
  have HC0 := Lib.hid hC0
  have HW := Lib.hid hWh
  clear hC0 hWh hb hbase hw5 hmk
  go_loopw [9] (fun i wr => ∃ (k z : Nat) (N : List Int) (u : Value), k ≤ 299 ∧ z = k + 1 ∧ i = .int .i64 z ∧ Cnt w wr r d b base A7 c7 L fin k 0 N u) (fun i _ => 300 - (intOf i).toNat)
  case atStart => exact ⟨0, 1, Z, _, by omega, rfl, rfl, HC0.out⟩
  case round =>
    obtain ⟨k, z, N, u, hk, hz, rfl, hC⟩ := hrel
    have HR := Lib.hid (And.intro hC hz)
    by_cases hlt : z < 300
    · have hlti : (z : Int) < 300 := by omega
      have hz1 : 1 ≤ z := by omega
      clear hC hz
      go_wp2_with fail
      go_loopw [10] (fun i wr => ∃ (v : Nat) (N : List Int) (u : Value), v ≤ 257 ∧ i = .int .i64 v ∧ Cnt w wr r d b base A7 c7 L fin k v N u) (fun i _ => 257 - (intOf i).toNat)
      case atStart => exact ⟨0, N, u, by omega, rfl, HR.out.1⟩
      case round =>
        obtain ⟨v, N2, u2, hv, rfl, hC⟩ := hrel
        by_cases hvl : v ≤ 256
        · have hvli : (v : Int) ≤ 256 := by omega
          obtain ⟨b7, off7, hA7, hb7, hc7⟩ := hC.lens.at_ (by omega)
          have cv := hc7 v (by omega)
          rw [H4.out.2.1.at_ v (by omega)] at cv
          obtain ⟨x, hx⟩ : ∃ x, x = fin v := ⟨_, rfl⟩
          rw [← hx] at cv
          have hx256 : x ≤ 256 := by rw [hx]; exact H4.out.2.1.few HG.out.1 v
          obtain ⟨Au, cu, hu⟩ := own_slice hC.own
          have HQ := Lib.hid (And.intro hC (And.intro hx hu))
          by_cases he : x = z
          · subst he
            have hf : fin v = k + 1 := by rw [← hx]; exact HR.out.2
            have hk1 : k + 1 = x := HR.out.2.symm
            obtain ⟨y, hy⟩ : ∃ y, y = nAt fin (k + 1) v (k + 1) := ⟨_, rfl⟩
            have hyl : y ≤ 600 := by rw [hy]; have := nAt_le fin (k + 1) v (k + 1); omega
            have cy := hC.nums.cell (show k + 1 < 300 by omega)
            rw [← hy, hk1] at cy
            obtain ⟨n8, s8, o8, k8⟩ := hC.one HW.out (by omega) hf hk1.symm hy (z := (y : Int) + 1) (by omega)
            have fy := hC.nums.box.free x
            have gy := hC.nums.box.lt
            have cd := (s8.cell 16).trans (specC_last rfl)
            have H8 := Lib.hid (And.intro n8 (And.intro s8 (And.intro o8 (And.intro k8 hf))))
            clear hC hx hc7 hf hk1 hy n8 s8 o8 k8
            subst hA7 hu
            by_cases hv256 : v = 256
            · subst hv256
              go_wp2_with fail
              go_roundw
              case rel => exact ⟨257, _, _, by omega, rfl, HQ.out.1.last HW.out H8.out.1 H8.out.2.1 H8.out.2.2.1 H8.out.2.2.2.1⟩
              case measure => simp [intOf]
            · have hv255 : v < 256 := by omega
              have hvi : (v : Int) < 256 := by omega
              go_wp2_with (first
                | (at_builtin; refine wpList_append_il rfl (.tmp 54) (.tmp 56) rfl base (.slice Au (rowAt fin k v).length cu) (rowAt fin k v).length (ints (rowAt fin k v)) rfl (H8.out.2.2.1.alloc _) (some ⟨wr.heap.size, 0, none⟩) 1 1 [(v : Int)] rfl (il_made _ _ _ (by simp)) (by have := rowAt_len fin k v; omega) (by have := HQ.out.1.big; simp; omega) ?_; intro v9 w9 hown9 b9; obtain ⟨A9, c9, hv9⟩ := own_slice hown9; subst hv9; have hm := HQ.out.1.more HW.out H8.out.2.2.2.2 hv255 H8.out.1 H8.out.2.2.2.1 H8.out.2.1 hown9 b9; have d16 := (hm.1.cell 16).trans (specC_last rfl); have e16 := hm.1.free 16; have g16 := hm.1.lt; have H9 := Lib.hid hm.2; clear hm hown9 b9)
                | fail)
              go_roundw
              case rel => exact ⟨v + 1, _, _, by omega, by go_num, H9.out⟩
              case measure => simp [intOf]; omega
          · have g0 : ¬ (x : Int) = (z : Int) := by omega
            have g1 : ((x : Int) == (z : Int)) = false := beq_eq_false_iff_ne.2 g0
            have hf : fin v ≠ k + 1 := by rw [← hx]; have := HR.out.2; omega
            have HQ2 := Lib.hid (hC.no hf)
            clear hC hx hc7 hf hu
            subst hA7
            go_wp2_with fail
            go_roundw
            case rel => exact ⟨v + 1, N2, u2, by omega, by go_num, HQ2.out⟩
            case measure => simp [intOf]; omega
        · have ev : v = 257 := by omega
          subst ev
          have HQ := Lib.hid hC.next
          clear hC
          go_wp2_with fail
          go_roundw
          case rel => exact ⟨k + 1, z + 1, N2, u2, by have := HR.out.2; omega, by have := HR.out.2; omega, by go_num, HQ.out⟩
          case measure => simp [intOf]; omega
    · have ek : k = 299 := by omega
      subst ek
      clear hC hz
      have hne := usF_ne HG.out.2
      have hF := H4.out.2.1.fin.full HG.out.1.counted hne
      obtain ⟨n0, hn0⟩ : ∃ n0, n0 = cntOf fin (usF C ++ [256]) := ⟨_, rfl⟩
      obtain ⟨K, hK⟩ : ∃ K, K = (usF C).length + 1 := ⟨_, rfl⟩
      have hN : Nums3 wr b N n0 := by rw [hn0, ← nAt_all H4.out.2.1.fin HG.out.1 hne]; exact HR.out.1.nums
      rw [← hn0, ← hK] at hF
      have HN := Lib.hid (show Lims3 wr wr b n0 K 299 N n0 from ⟨hN, hF, fun _ h => h, Kept.refl _ _, by omega, Nat.le_refl _⟩)
      have Hn0 := Lib.hid hn0
      clear hne hF hn0 hK hN
      obtain ⟨w7, hw7⟩ : ∃ w7, wr = w7 := ⟨_, rfl⟩
      rw [hw7] at HR HN ⊢
      clear hw7
      go_wp2_with fail
      go_loopw [11] (fun i wr => ∃ (i0 : Nat) (N' : List Int) (n' : Nat → Nat), i = .int .i64 i0 ∧ Lims3 w7 wr b n0 K i0 N' n') (fun i _ => (intOf i).toNat)
      case atStart => exact ⟨299, N, n0, rfl, HN.out⟩
      case round =>
        obtain ⟨i, N', n', rfl, hL⟩ := hrel
        have hlo := hL.lo
        have hhi := hL.hi
        by_cases h17 : 17 ≤ i
        · have h17i : (17 : Int) ≤ (i : Int) := by omega
          have HL := Lib.hid hL
          clear hL
          obtain ⟨p, hp⟩ : ∃ p, i = p + 2 := ⟨i - 2, by omega⟩
          have hp2 : (i : Int) - 2 = (p : Int) := by omega
          have HP := Lib.hid hp
          clear hp
          go_wp2_with fail
          go_loopg [12] (n' i) (fun q u12 wr => ∃ (N' : List Int) (n' : Nat → Nat), Lims3 w7 wr b n0 K i N' n' ∧ q = n' i)
          case atStart => exact ⟨N', n', HL.out, rfl⟩
          case round =>
            obtain ⟨N1, n1, hL, hq⟩ := hrel
            have ci := hL.nums.cell (show i < 300 by omega)
            have hle := hL.full.le (by omega) i
            have fi := hL.nums.box.free i
            have gi := hL.nums.box.lt
            obtain ⟨x, hx⟩ : ∃ x, x = n1 i := ⟨_, rfl⟩
            rw [← hx] at ci hle
            have HQ := Lib.hid (And.intro hL (And.intro hq hx))
            clear hL hq hx
            by_cases hx0 : x = 0
            · subst hx0
              go_wp2_with fail
              have hp := HP.out
              go_roundw
              case rel =>
                refine ⟨p + 1, N1, n1, by have : (i : Int) - 1 = ((p + 1 : Nat) : Int) := by omega
                                          rw [this], ?_⟩
                subst hp
                exact HQ.out.1.down (by omega) HQ.out.2.2.symm
              case measure => simp [intOf]; omega
            · have hx1 : 0 < x := by omega
              have hx1i : (0 : Int) < (x : Int) := by omega
              go_wp2_with fail
              go_loopg [12] p (fun q u12 w2 => ∃ j : Nat, u12 = .int .i64 (j : Int) ∧ j ≤ p ∧ (∀ s, j < s → s ≤ p → n1 s = 0) ∧ w2 = wr ∧ q = j)
              case atStart => exact ⟨p, rfl, Nat.le_refl _, fun s h1 h2 => absurd h1 (by omega), rfl, rfl⟩
              case round =>
                obtain ⟨j, rfl, hj, hz, rfl, hq⟩ := hrel
                have HZ := Lib.hid (And.intro hz hq)
                clear hz hq
                have hL := HQ.out.1
                have cj := hL.nums.cell (show j < 300 by have := HP.out; omega)
                obtain ⟨y, hy⟩ : ∃ y, y = n1 j := ⟨_, rfl⟩
                rw [← hy] at cj
                have HY := Lib.hid hy
                have hp := HP.out
                have hj0 : j = 0 → y = 0 := fun e => by rw [hy, e]; exact hL.full.zero
                clear hy
                by_cases hy0 : y = 0
                · have hj1 : 0 < j := by
                    rcases Nat.eq_zero_or_pos j with e | e
                    · exfalso
                      have h1 := hL.full.shorter (by omega) (by omega)
                      have h2 := jof_le n1 (i - 2)
                      rcases Nat.eq_zero_or_pos (jof n1 (i - 2)) with h3 | h3
                      · rw [h3] at h1
                        exact h1 hL.full.zero
                      · exact h1 (HZ.out.1 _ (by omega) (by omega))
                    · exact e
                  clear hL hp hj0
                  subst hy0
                  go_wp2_with fail
                  obtain ⟨j2, rfl⟩ : ∃ j2, j = j2 + 1 := ⟨j - 1, by omega⟩
                  go_roundg j2
                  case rel =>
                    refine ⟨j2, by go_num, by omega, fun s h1 h2 => ?_, rfl, rfl⟩
                    by_cases e : s = j2 + 1
                    · subst e; exact HY.out.symm
                    · exact HZ.out.1 s (by omega) h2
                  case measure => rw [HZ.out.2]; omega
                · have hj1 : 0 < j := by
                    rcases Nat.eq_zero_or_pos j with e | e
                    · exact absurd (hj0 e) hy0
                    · exact e
                  have g0 : ((y : Int) == 0) = false := beq_eq_false_iff_ne.2 (by omega)
                  have g1 : ¬ (y : Int) = 0 := by omega
                  obtain ⟨q, hq⟩ : ∃ q, q = p + 1 := ⟨_, rfl⟩
                  obtain ⟨j2, hj2⟩ : ∃ j2, j2 = j + 1 := ⟨_, rfl⟩
                  obtain ⟨x2, hx2⟩ : ∃ x2, x = x2 + 2 := by
                    have h1 := hL.full.even (by omega) (by omega)
                    rw [← HQ.out.2.2] at h1
                    exact ⟨x - 2, by omega⟩
                  have e1 : (i : Int) - 1 = (q : Int) := by omega
                  have e2 : (j : Int) + 1 = (j2 : Int) := by omega
                  have e3 : (x : Int) - 2 = (x2 : Int) := by omega
                  have hq3 : q < 300 := by omega
                  have hj3 : j2 < 300 := by omega
                  have hle' := hL.full.le (by omega)
                  obtain ⟨m1, hm1⟩ : ∃ m1, m1 = upd n1 i x2 := ⟨_, rfl⟩
                  obtain ⟨m2, hm2⟩ : ∃ m2, m2 = upd m1 q (m1 q + 1) := ⟨_, rfl⟩
                  obtain ⟨m3, hm3⟩ : ∃ m3, m3 = upd m2 j2 (m2 j2 + 2) := ⟨_, rfl⟩
                  have hm4 : lstep n1 i j = upd m3 j (m3 j - 1) := by
                    rw [hm3, hm2, hm1, hj2, show q = i - 1 by omega, show x2 = n1 i - 2 by rw [← HQ.out.2.2]; omega]
                    rfl
                  have b1 : m1 q ≤ 1000 := by rw [hm1, upd_other _ _ (by omega)]; have := hle' q; omega
                  have b2 : m2 j2 ≤ 2000 := by
                    rw [hm2]
                    unfold upd
                    split
                    · omega
                    · rw [hm1]
                      unfold upd
                      split
                      · omega
                      · have := hle' j2; omega
                  have b3 : m3 j = y := by
                    rw [hm3, upd_other _ _ (by omega), hm2, upd_other _ _ (by omega), hm1, upd_other _ _ (by omega)]
                    exact HY.out.symm
                  have by1 : y ≤ 257 := by rw [HY.out]; exact hle' j
                  have hjf : jof n1 (i - 2) = j := jof_is (by omega) (by rw [← HY.out]; exact hy0) (fun s h1 h2 => HZ.out.1 s h1 (by omega))
                  obtain ⟨h1, k1⟩ := hL.nums.put (show i < 300 by omega) x2 (z := (x2 : Int)) rfl
                  rw [← hm1] at h1
                  have c1 := h1.cell hq3
                  have f1 := h1.box.free q
                  obtain ⟨s1, hs1⟩ : ∃ s1, s1 = m1 q := ⟨_, rfl⟩
                  rw [← hs1] at c1 b1
                  obtain ⟨h2, k2⟩ := h1.put hq3 (s1 + 1) (z := (s1 : Int) + 1) (by omega)
                  rw [hs1, ← hm2, ← hs1] at h2
                  have c2 := h2.cell hj3
                  have f2 := h2.box.free j2
                  obtain ⟨s2, hs2⟩ : ∃ s2, s2 = m2 j2 := ⟨_, rfl⟩
                  rw [← hs2] at c2 b2
                  obtain ⟨h3, k3⟩ := h2.put hj3 (s2 + 2) (z := (s2 : Int) + 2) (by omega)
                  rw [hs2, ← hm3, ← hs2] at h3
                  have c3 := h3.cell (show j < 300 by omega)
                  rw [b3] at c3
                  have f3 := h3.box.free j
                  obtain ⟨h4, k4⟩ := h3.put (show j < 300 by omega) (y - 1) (z := (y : Int) - 1) (by omega)
                  have e5 : upd m3 j (y - 1) = lstep n1 i j := by rw [hm4, b3]
                  rw [e5] at h4
                  have hS := hL.step h17 (by rw [← HQ.out.2.2]; exact hx0) hjf h4 (((k1.trans k2 (fun _ _ e => e)).trans k3 (fun _ _ e => e)).trans k4 (fun _ _ e => e))
                  have HS := Lib.hid hS
                  clear hL hp hj0 hq hj2 hx2 hle' hm1 hm2 hm3 hm4 b3 hjf h1 k1 hs1 h2 k2 hs2 h3 k3 h4 k4 e5 hS
                  go_wp2_with fail
                  go_roundg (lstep n1 i j i)
                  case rel => exact ⟨_, _, HS.out.1, rfl⟩
                  case measure => rw [HQ.out.2.1]; have := HS.out.2; omega
        · have e16 : i = 16 := by omega
          subst e16
          have hrow := HR.out.1.own
          rw [rowAt_start] at hrow
          obtain ⟨Au, cu, hu, hiu, hlu⟩ := il_of_own hrow
          subst hu
          have hW := HW.out
          have hi1 := hiu.kept hL.kept (fun b9 off e e2 => by have := hlu b9 off e; have := hW.bb; omega)
          have hs1 := hL.kept.box HR.out.1.spec (by have := hW.db; omega)
          have hr1 := hL.kept.box HR.out.1.res (by have := hW.db; have := hW.rd; omega)
          have hb1 := HR.out.1.bel.trans (hL.kept.below HR.out.1.bel.size (fun i hi e => by have := hW.db; have := hW.rd; have := hW.lo; omega))
          have hlim : Lim n0 299 n' := hL.goes n' (.stop n')
          have HL := Lib.hid (And.intro hL (And.intro hlim (And.intro hi1 (And.intro hs1 (And.intro hr1 (And.intro hb1 hlu))))))
          clear hL hlim hi1 hs1 hr1 hb1 hlu hrow hiu hW
          go_wp2_with fail
          go_loopw [13] (fun i w2 => ∃ q : Nat, 1 ≤ q ∧ q ≤ 16 ∧ i = .int .i64 (q : Int) ∧ (∀ s, q < s → s ≤ 16 → n' s = 0) ∧ w2 = wr) (fun i _ => (intOf i).toNat)
          case atStart => exact ⟨16, by omega, Nat.le_refl _, rfl, fun s h1 h2 => absurd h1 (by omega), rfl⟩
          case round =>
            obtain ⟨q, hq1, hq16, rfl, hz, rfl⟩ := hrel
            have cq := HL.out.1.nums.cell (show q < 300 by omega)
            have fq := HL.out.1.nums.box.free q
            have gq := HL.out.1.nums.box.lt
            have hle := HL.out.1.full.le (by omega) q
            obtain ⟨x, hx⟩ : ∃ x, x = n' q := ⟨_, rfl⟩
            rw [← hx] at cq hle
            have HX := Lib.hid (And.intro hx hz)
            clear hx hz
            by_cases hx0 : x = 0
            · subst hx0
              have hq0 : 1 < q := by
                rcases Nat.lt_or_ge 1 q with e | e
                · exact e
                · exfalso
                  have h1 := HL.out.1.full.last
                  rcases Nat.eq_zero_or_pos (jof n' 16) with h3 | h3
                  · rw [h3] at h1
                    exact h1 HL.out.1.full.zero
                  · by_cases e2 : jof n' 16 = q
                    · exact h1 (by rw [e2]; exact HX.out.1.symm)
                    · exact h1 (HX.out.2 _ (by omega) (by have := jof_le n' 16; omega))
              obtain ⟨q2, rfl⟩ : ∃ q2, q = q2 + 1 := ⟨q - 1, by omega⟩
              go_wp2_with fail
              go_roundw
              case rel =>
                refine ⟨q2, by omega, by omega, by go_num, fun s h1 h2 => ?_, trivial⟩
                by_cases e : s = q2 + 1
                · subst e; exact HX.out.1.symm
                · exact HX.out.2 s (by omega) h2
              case measure => simp [intOf]
            · have g0 : ¬ (x : Int) = 0 := by omega
              have g1 : ((x : Int) == 0) = false := beq_eq_false_iff_ne.2 g0
              have hj : jof n' 16 = q := jof_is hq16 (by rw [← HX.out.1]; exact hx0) (fun s h1 h2 => HX.out.2 s h1 h2)
              obtain ⟨h8, k8⟩ := HL.out.1.nums.put (show q < 300 by omega) (x - 1) (z := (x : Int) - 1) (by omega)
              have e8 : upd n' q (x - 1) = lessOne n' := by unfold lessOne; rw [hj, HX.out.1]
              rw [e8] at h8
              go_wp2_with fail
              obtain ⟨w8, hw8⟩ : ∃ w8, w8 = wr.setCell ⟨b, q, none⟩ (.int .i64 ((x : Int) - 1)) := ⟨_, rfl⟩
              rw [← hw8] at h8 k8 ⊢
              have hW := HW.out
              have hi8 := HL.out.2.2.1.kept k8 (fun b9 off e e2 => by have := HL.out.2.2.2.2.2.2 b9 off e; have := hW.bb; omega)
              have hs8 := k8.box HL.out.2.2.2.1 (by have := hW.db; omega)
              have hr8 := k8.box HL.out.2.2.2.2.1 (by have := hW.db; have := hW.rd; omega)
              have hb8 := HL.out.2.2.2.2.2.1.trans (k8.below HL.out.2.2.2.2.2.1.size (fun i hi e => by have := hW.db; have := hW.rd; have := hW.lo; omega))
              have H8 := Lib.hid (And.intro h8 (And.intro hi8 (And.intro hs8 (And.intro hr8 hb8))))
              clear h8 k8 e8 hj hw8 hW hi8 hs8 hr8 hb8 cq fq gq
              go_loopw [14] (fun i wr => ∃ (k : Nat) (Bk : List Int), k ≤ 16 ∧ i = .int .i64 (k : Int) ∧ Box wr d 26 (specC Bk (.slice Au (valsTo fin 299).length cu)) ∧ Bk.length = 16 ∧ (∀ i, i < k → Bk.getD i 0 = (lessOne n' (i + 1) : Int)) ∧ Kept (fun i => i = d) w8 wr) (fun i _ => 16 - (intOf i).toNat)
              case atStart => exact ⟨0, List.replicate 16 0, Nat.zero_le _, rfl, H8.out.2.2.1, rfl, fun i hi => absurd hi (by omega), Kept.refl _ _⟩
              case round =>
                obtain ⟨k, Bk, hk, rfl, hB, hBl, hBk, hK⟩ := hrel
                have hNb := H8.out.1.kept hK (by have := HW.out.db; omega)
                by_cases hlt : k < 16
                · have hlti : (k : Int) < 16 := by omega
                  have c1 := hNb.cell (show k + 1 < 300 by omega)
                  obtain ⟨k2, hk2⟩ : ∃ k2, k2 = k + 1 := ⟨_, rfl⟩
                  rw [← hk2] at c1
                  have e1 : (k : Int) + 1 = (k2 : Int) := by omega
                  have hk17 : k2 < 300 := by omega
                  have c2 := (hB.cell k).trans (specC_at hBl hlt)
                  have f2 := hB.free k
                  have g1 := hNb.box.lt
                  have g2 := hB.lt
                  obtain ⟨y, hy⟩ : ∃ y, y = lessOne n' k2 := ⟨_, rfl⟩
                  rw [← hy] at c1
                  have HQ := Lib.hid (And.intro hB (And.intro hBl (And.intro hBk (And.intro hK (And.intro hy hk2)))))
                  clear hB hBl hBk hK hy hNb hk2
                  go_wp2_with fail
                  go_roundw
                  case rel =>
                    have hp := HQ.out.1.put k (.int .i64 (y : Int))
                    rw [specC_put HQ.out.2.1 hlt] at hp
                    refine ⟨k + 1, _, by omega, by have := HQ.out.2.2.2.2.2; go_num, hp, by rw [List.length_set]; exact HQ.out.2.1, fun i hi => ?_, HQ.out.2.2.2.1.setCell (p := ⟨d, k, none⟩) (fun _ => rfl) _⟩
                    by_cases e : k = i
                    · subst e
                      rw [getD_set_same _ (by have := HQ.out.2.1; omega), HQ.out.2.2.2.2.1, HQ.out.2.2.2.2.2]
                    · rw [getD_set_ne _ e]
                      exact HQ.out.2.2.1 i (by omega)
                  case measure => simp [intOf]; omega
                · have ek : k = 16 := by omega
                  subst ek
                  have hr9 := hK.box H8.out.2.2.2.1 (by have := HW.out.rd; omega)
                  have hi9 := H8.out.2.1.kept hK (fun b9 off e e2 => by have := HL.out.2.2.2.2.2.2 b9 off e; have := HW.out.bb; have := HW.out.db; omega)
                  have hb9 := H8.out.2.2.2.2.trans (hK.below H8.out.2.2.2.2.size (fun i hi e => by have := HW.out.lo; have := HW.out.rd; omega))
                  have HQ := Lib.hid (And.intro hB (And.intro hBl (And.intro hBk (And.intro hr9 (And.intro hi9 hb9)))))
                  clear hB hBl hBk hK hNb hr9 hi9 hb9
                  go_wp2_with (first
                    | (with_reducible refine wpList_load_to (op := ⟨some 133, _, _, _, _, _⟩) rfl 26 (.tmp 4) rfl (.pointer (some ⟨d, 0, none⟩)) rfl (specV Bk (.slice Au (valsTo fin 299).length cu)) (load_spec HQ.out.1 HQ.out.2.1) ?_)
                    | ((with_reducible refine wpList_store_spec (o := ⟨none, _, _, _, _, _⟩) rfl (.tmp 2) (.tmp 133) rfl rfl r Bk (.slice Au (valsTo fin 299).length cu) rfl rfl zeroC HQ.out.2.2.2.1 rfl HQ.out.2.1 rfl ?_)
                       intro w14 b14 k14
                       have H14 := Lib.hid (And.intro b14 k14)
                       clear b14 k14)
                    | fail)
                  refine bodyPost_ret (v := .tuple #[specV Bk (.slice Au (valsTo fin 299).length cu), .int .i64 0]) (results_spec Try.results11 _ _ r _ _ _ rfl rfl H14.out.1 HQ.out.2.1) rfl ?_
                  refine ⟨HQ.out.2.2.2.2.2.trans (H14.out.2.below HQ.out.2.2.2.2.2.size (fun i hi e => by have := HW.out.lo; omega)), .inr ⟨HG.out.1, HG.out.2, Bk, ints (valsTo fin 299), Au, _, cu, rfl, HQ.out.2.2.2.2.1.kept H14.out.2 (fun b9 off e e2 => by have := HL.out.2.2.2.2.2.2 b9 off e; have := HW.out.bb; have := HW.out.db; have := HW.out.rd; omega), ⟨fin, n', H4.out.2.1.fin, by rw [← Hn0.out]; exact HL.out.2.1, fun i hi => HQ.out.2.2.1 i hi, HQ.out.2.1, rfl⟩, valsTo_few fin 299, HQ.out.2.1⟩⟩
end Go.Proofs.Ytmaffonnekgekaa
