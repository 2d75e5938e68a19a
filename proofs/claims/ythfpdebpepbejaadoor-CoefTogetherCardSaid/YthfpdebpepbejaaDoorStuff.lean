/-
  The contracts of filled and all. The contract of stuffed.
-/
import Derived.Test.YthfpdebpepbejaaDoorAdd
import Derived.Deep.RegionHeld3
import Derived.Deep.RegionLaw
namespace Go.Proofs.YthfpdebpepbejaaDoor
open Go.RowKit

/-- what filled tells -/
def fill (v c : Nat) : Nat := (v + 1) * 2 ^ (8 - c) - 1

theorem fill_lt {v c : Nat} (hc : c ≤ 8) (hv : v < 2 ^ c) : fill v c < 256 := by
  unfold fill
  have h1 : 2 ^ c * 2 ^ (8 - c) = 256 := by rw [← Nat.pow_add, show c + (8 - c) = 8 by omega]
  have h2 : (v + 1) * 2 ^ (8 - c) ≤ 2 ^ c * 2 ^ (8 - c) := Nat.mul_le_mul_right _ hv
  have h3 : 0 < (v + 1) * 2 ^ (8 - c) := Nat.mul_pos (by omega) (pow_pos' _)
  omega

set_option maxHeartbeats 400000 in
theorem filled_any (w : World) (d : Nat) (op : List Int) (n v c : Nat) (hb : Box w d 88 (cellsW op n v c)) (ho : op.length = 256) (hc : c ≤ 8) (hv : v < 2 ^ c) :
    Calls Tryd.prog 48 #[.pointer (some ⟨d, 258, none⟩)] w fun e w' => e = .returned (.int .u8 (fill v c : Nat)) ∧ w = w' := by
  have c1 : w.cell? ⟨d, 258, none⟩ = some (.int .i64 (v : Int)) := (hb.cell 258).trans (cellsW_v ho)
  have c2 : w.cell? ⟨d, 259, none⟩ = some (.int .i64 (c : Int)) := (hb.cell 259).trans (cellsW_c ho)
  have hf := fill_lt hc hv
  obtain ⟨k, hk⟩ : ∃ k, k = 8 - c := ⟨_, rfl⟩
  have e1 : (8 : Int) - c = k := by omega
  have hp : v + 1 ≤ 256 := Nat.le_trans hv (Nat.pow_le_pow_right (by omega) hc)
  obtain ⟨f, hf0⟩ : ∃ f, f = fill v c := ⟨_, rfl⟩
  have e2 : ((v : Int) + 1) * 2 ^ k = ((f + 1 : Nat) : Int) := by
    have h3 : 0 < (v + 1) * 2 ^ (8 - c) := Nat.mul_pos (by omega) (pow_pos' _)
    have : f + 1 = (v + 1) * 2 ^ k := by rw [hf0, hk]; unfold fill; omega
    rw [this]; simp
  rw [← hf0] at hf ⊢
  have hk8 : k ≤ 8 := by omega
  have hv1 : v ≤ 255 := by omega
  clear hb hf0 hk hv hp
  go_enter Tryd.func48, Tryd.ntmps48
  go_wp2
  go_ret
  exact ⟨rfl, rfl⟩

theorem splice_cells (L : List Int) (off : Nat) (cs : List Int) : splice (cellsOf L) off (cellsOf cs) = cellsOf (splice L off cs) := by
  simp [splice, cellsOf, List.map_take, List.map_drop]
/-- a copy into a block that is known whole: only that block turns -/
theorem step_copy_only {ops : Array Oper} {o : Oper} {a : Act} {w : World} {K : Act → World → Prop} {Q : Exit → Act → World → Prop} {E : Prop} (hgd : o.guard = none) (d s : Operand)
    (ho : o.op = .call { callee := .builtin .copy, args := #[d, s], argTypes := #[54, 54] })
    (g off dLen dCap sLen sCap : Nat) (ad : Addr) (hd : a.eval d = .slice (some ⟨g, off, none⟩) dLen dCap) (hs : a.eval s = .slice (some ad) sLen sCap)
    (l cs : List Int) (hg : Box w g 5 (cellsOf l).toArray) (hn : cs.length = Nat.min sLen dLen) (hsrc : ∀ j v, (cellsOf cs)[j]? = some v → w.cell? (ad.add j) = some v) (hfit : off + cs.length ≤ l.length)
    (h : ∀ w', Box w' g 5 (cellsOf (splice l off cs)).toArray → Kept (fun k => k = g) w w' → K (a.put o.dst (goInt cs.length)) w') :
    if Region.wanted o (yielded ops a.tmps) = true then Oper.wp Tryd.prog o a w K Q else E := by
  have hw : Region.wanted o (yielded ops a.tmps) = true := by simp [Region.wanted, hgd]
  rw [if_pos hw]
  have hrun := run_copy_row (P := Tryd.prog) w 54 54 o.type 5 g off dLen dCap ad sLen sCap (cellsOf l).toArray 5 (cellsOf cs) Tryd.underlying54 byte_size hg (by rw [cellsOf_len]; exact hn) hsrc (by simpa [cellsOf_len] using hfit) (cellsOf_one _)
  unfold Oper.wp
  simp [execOp, ho, resolve, invoke, builtin, hd, hs, hrun, Result.andThen]
  have e := setRow_heap w g _ (cellsOf (splice l off cs)).toArray 5 _ hg
  rw [← splice_cells] at e
  rw [cellsOf_len]
  refine h _ ?_ ⟨rfl, rfl, rfl, by simp [World.setRow], fun k hk hne => setRow_other w g k _ hne⟩
  rw [← splice_cells]
  unfold Box
  simpa [splice, cellsOf_len] using e


theorem below_kept {g : Nat} {w w1 w2 : World} (a : Below w.heap.size w w1) (b : Kept (fun k => k = g) w1 w2) (hg : g = w.heap.size) : Below g w w2 := by
  subst hg
  exact a.trans (b.below a.size (fun i hi e => by omega))
theorem splice_front (L cs : List Value) (h : cs.length = L.length) : splice L 0 cs = cs := splice_all L cs (by omega)

set_option maxRecDepth 10000 in
set_option maxHeartbeats 800000 in
theorem all_any (w : World) (d : Nat) (op : List Int) (n v c : Nat) (hb : Box w d 88 (cellsW op n v c)) (ho : op.length = 256) (hn : n ≤ 255) :
    Calls Tryd.prog 47 #[.pointer (some ⟨d, 0, none⟩)] w fun e w' => e = .returned (.slice (some ⟨w.heap.size, 0, none⟩) n n) ∧ Box w' w.heap.size 5 (cellsOf (op.take n)).toArray ∧ Below w.heap.size w w' := by
  have c1 : w.cell? ⟨d, 257, none⟩ = some (.int .i64 (n : Int)) := (hb.cell 257).trans (cellsW_n ho)
  have ld := hb.lt
  have hmk := run_make_row' (P := Tryd.prog) 54 5 (.int .u8 0) 1 Tryd.underlying54 byte_info rfl .i64 .i64 n (by omega) (by omega)
  obtain ⟨M, hM⟩ : ∃ M, M = madeCells #[.int .u8 0] n := ⟨_, rfl⟩
  rw [← hM] at hmk
  obtain ⟨g, hg⟩ : ∃ g, g = w.heap.size := ⟨_, rfl⟩
  obtain ⟨w1, hw1⟩ : ∃ w1, w1 = w.alloc (.cells M 5) := ⟨_, rfl⟩
  have hM2 : M = (cellsOf (List.replicate n 0)).toArray := by
    apply Array.toList_inj.1
    rw [hM, toList_madeCells_one]
    simp [cellsOf]
  have hbm : Box w1 g 5 (cellsOf (List.replicate n 0)).toArray := by rw [hw1, hg, ← hM2]; exact Box.made _ _ _
  have bel1 : Below w.heap.size w w1 := by rw [hw1]; exact on_alloc _ _
  have hb1 := hb.on bel1
  have hmw := hmk w
  rw [← hw1, ← hg] at hmw
  have d1 : w1.cell? ⟨d, 257, none⟩ = some (.int .i64 (n : Int)) := (hb1.cell 257).trans (cellsW_n ho)
  have hsrc : ∀ j u, (cellsOf (op.take n))[j]? = some u → w1.cell? ((⟨d, 1, none⟩ : Addr).add j) = some u := fun j u hu => by
    have hj : j < n := by
      have := (List.getElem?_eq_some_iff.1 hu).1
      rw [cellsOf_len, List.length_take] at this
      omega
    rw [plain_add]
    refine (hb1.cell (1 + j)).trans ((cellsW_at ho j (by omega)).trans ?_)
    rw [← hu]
    simp only [cellsOf, List.getElem?_map]
    rw [List.getElem?_take_of_lt hj, List.getElem?_eq_getElem (by omega), List.getD_eq_getElem?_getD, List.getElem?_eq_getElem (by omega)]
    rfl
  have htl : (op.take n).length = n := by rw [List.length_take]; omega
  have HH := Lib.hid (And.intro hb (And.intro ho (And.intro hbm (And.intro bel1 (And.intro hg (And.intro hsrc htl))))))
  clear hb1 hsrc htl hb ho hmk hM hM2 hw1 hbm bel1 ld
  have e1 : (n : Int) % 256 = n := by omega
  rw [← hg]
  clear hg
  go_enter Tryd.func47, Tryd.ntmps47
  go_wp2_with fail
  go_quiet (fail)
  go_wp2_with fail
  generalize hw2 : World.drewN w1 nq = w2
  have HF : Hid (Box w2.drew g 5 (cellsOf (List.replicate n 0)).toArray ∧ (∀ j v, (cellsOf (op.take n))[j]? = some v → (w2.drew).cell? ((⟨d, 1, none⟩ : Addr).add j) = some v) ∧ Below w.heap.size w w2.drew ∧ (op.take n).length = Nat.min 256 n ∧ 0 + (op.take n).length ≤ (List.replicate n (0 : Int)).length) := by
    subst hw2
    exact Lib.hid ⟨HH.out.2.2.1, HH.out.2.2.2.2.2.1, on_trans (on_trans HH.out.2.2.2.1 (below_drewN_refl _ _)) (on_drew _), by rw [HH.out.2.2.2.2.2.2]; exact (Nat.min_eq_right (by omega)).symm, by rw [HH.out.2.2.2.2.2.2, List.length_replicate]; omega⟩
  clear hw2 d1 c1 hmw e1
  go_region_held3 (fun _ => True) (exact trivial)
    (first
      | (refine step_copy_only rfl (.tmp 23) (.tmp 27) rfl g 0 n n 256 256 ⟨d, 1, none⟩ rfl rfl (List.replicate n 0) (op.take n) HF.out.1 HF.out.2.2.2.1 HF.out.2.1 HF.out.2.2.2.2 ?_
         intro w6 hb6 k6
         have H6 := Lib.hid (And.intro hb6 k6)
         clear hb6 k6))
  all_goals
    (have lt := HH.out.1.lt
     have hd6 : Box w6 d 88 (cellsW op n v c) := H6.out.2.box (HH.out.1.on HF.out.2.2.1) (fun e => by have := HH.out.2.2.2.2.1; omega)
     have c0 : w6.cell? ⟨d, 0, none⟩ = some (.pointer none) := (hd6.cell 0).trans cellsW_0
     have hfin : Box w6 g 5 (cellsOf (op.take n)).toArray := by
       have := H6.out.1
       rwa [splice_all _ _ (by rw [List.length_replicate, HH.out.2.2.2.2.2.2]; exact Nat.le_refl _)] at this
     have hbel : Below g w w6 := below_kept HF.out.2.2.1 H6.out.2 HH.out.2.2.2.2.1
     have HE := Lib.hid (And.intro hfin hbel)
     clear hfin hbel hd6 lt
     go_wp2_with fail
     go_loop [5] (fun p => p = .pointer none) (fun _ => 0)
     case atStart => exact rfl
     case round =>
       subst hrel
       go_wp2
       go_ret
       exact ⟨rfl, HE.out.1, HE.out.2⟩)
end Go.Proofs.YthfpdebpepbejaaDoor

namespace Go.Proofs.YthfpdebpepbejaaDoor
open Go.RowKit

/-- some bytes with their stuffing -/
def stuff (l : List Int) : List Int := l.flatMap fun x => if x = 255 then [255, 0] else [x]
theorem stuff_app (a b : List Int) : stuff (a ++ b) = stuff a ++ stuff b := by simp [stuff]
theorem stuff_len (l : List Int) : (stuff l).length ≤ 2 * l.length := by
  induction l with
  | nil => simp [stuff]
  | cons a l ih =>
    have e : stuff (a :: l) = (if a = 255 then [255, 0] else [a]) ++ stuff l := by simp [stuff]
    rw [e, List.length_append, List.length_cons]
    split
    · simp; omega
    · simp; omega
theorem stuff_fit {l : List Int} (h : Fit l) : Fit (stuff l) := by
  intro z hz
  obtain ⟨x, hx, hz⟩ := List.mem_flatMap.1 hz
  have := h x hx
  split at hz
  · simp at hz
    omega
  · simp at hz
    subst hz
    exact this
theorem stuff_more {l : List Int} {k : Nat} (h : k < l.length) : stuff (l.take (k + 1)) = stuff (l.take k) ++ (if l.getD k 0 = 255 then [255, 0] else [l.getD k 0]) := by
  rw [take_more l k h, stuff_app]
  congr 1
  simp [stuff]

/-- a new block of one byte -/
theorem sl_byte (w : World) (z : Int) (h0 : 0 ≤ z) (h1 : z ≤ 255) : Sl (w.alloc (.cells #[.int .u8 z] 5)) (fun _ => True) (some ⟨w.heap.size, 0, none⟩) 1 1 [z] :=
  sl_of_box (l := [z]) (Box.made w 5 #[.int .u8 z]) (fun y hy => by simp at hy; subst hy; exact ⟨h0, h1⟩) rfl (by unfold maxLen; omega) trivial
/-- a new block of one number -/
theorem il_one (w : World) (z : Int) : Il (w.alloc (.cells #[.int .i64 z] 3)) (some ⟨w.heap.size, 0, none⟩) 1 1 [z] :=
  ⟨rfl, Nat.le_refl _, by unfold maxLen; omega, (fun e => by cases e), (fun b off e => by cases e; exact ⟨_, _, Box.made w 3 #[.int .i64 z]⟩), fun _ => ⟨w.heap.size, 0, rfl, by simp, fun i hi => by
    obtain rfl : i = 0 := by omega
    exact (Box.made w 3 #[.int .i64 z]).cell 0⟩⟩

/-- a row of bytes of one's own, and what is older is as it was -/
structure Row (w wr : World) (v : Value) (n : Nat) (l : List Int) : Prop where
  own : wr.ownsRow w.heap.size 5 1 v n (cellsOf l)
  bel : Below w.heap.size w wr

set_option maxRecDepth 10000 in
set_option maxHeartbeats 1600000 in
theorem stuffed_any (w : World) (K : Nat → Prop) (A : Option Addr) (n c : Nat) (l : List Int) (h : Sl w K A n c l) (hn : n ≤ 4000) :
    Calls Tryd.prog 49 #[.slice A n c] w fun e w' => ∃ A' c', e = .returned (.slice A' (stuff l).length c') ∧ Sl w' (fun _ => True) A' (stuff l).length c' (stuff l) ∧ Below w.heap.size w w' := by
  obtain ⟨i0, hi0, hz0, hz1, hz2⟩ := info_parts byte_info
  have HH := Lib.hid h
  clear h
  go_enter Tryd.func49, Tryd.ntmps49
  go_wp2_with (first | fail | (at_make; refine wpList_make_own _ rfl _ _ 54 rfl w.heap.size 5 i0 (.int .u8 0) 1 Tryd.underlying54 hi0 hz0 hz1 .i64 .i64 n n rfl rfl rfl (by rw [hz2]; omega) (by unfold maxLen; omega) (Nat.le_refl _) ?_; intro w1 hown1 hgrow1))
  have H1 := Lib.hid (Row.mk (n := 0) (l := []) hown1 ((Below.refl w.heap.size w).grown hgrow1 (Nat.le_refl _) (fun j hj => by cases hj)))
  clear hown1 hgrow1
  obtain ⟨v1, hv1⟩ : ∃ v1, v1 = Value.slice (some ⟨w.heap.size, 0, none⟩) 0 n := ⟨_, rfl⟩
  rw [← hv1] at H1 ⊢
  clear hv1
  go_loopw [3, 11] (fun v i wr => ∃ k : Nat, k ≤ n ∧ i = .int .i64 k ∧ Row w wr v (stuff (l.take k)).length (stuff (l.take k))) (fun _ i _ => n - (intOf i).toNat)
  case atStart => exact ⟨0, Nat.zero_le _, rfl, H1.out⟩
  case round =>
    obtain ⟨k, hk, rfl, hR⟩ := hrel
    by_cases hlt : k < n
    · have hsl := HH.out.on hR.bel
      have hlen := HH.out.len
      have hmore := stuff_more (l := l) (k := k) (by omega)
      obtain ⟨m, hm⟩ : ∃ m, m = (stuff (l.take k)).length := ⟨_, rfl⟩
      have hm1 : m ≤ 8000 := by
        have := stuff_len (l.take k)
        rw [List.length_take] at this
        omega
      have hz := HH.out.bts.fit.getD k
      obtain ⟨b, off, rfl, hc⟩ := hsl.get hlt
      obtain ⟨z, hzz⟩ : ∃ z, z = l.getD k 0 := ⟨_, rfl⟩
      rw [← hzz] at hz hc hmore
      rw [← hm] at hR
      have HR := Lib.hid (And.intro hR (And.intro hmore (And.intro hm hz)))
      clear hR hmore hm hz hzz hsl hlen
      by_cases h255 : z = 255
      · subst h255
        go_wp2_with (first
          | (at_builtin; refine wpList_append_sl rfl (.tmp 15) (.tmp 17) rfl w.heap.size u3 m (stuff (l.take k)) rfl (HR.out.1.own.alloc _) _ (some ⟨wr.heap.size, 0, none⟩) 1 1 [255] rfl (sl_byte wr 255 (by omega) (by omega)) (by omega) (by have := HR.out.1.bel.size; simp; omega) ?_; intro v3 w3 hown3 b3; have H3 := Lib.hid (Row.mk hown3 ((HR.out.1.bel.trans ((on_alloc _ _).mono HR.out.1.bel.size)).trans b3)); clear hown3 b3)
          | (at_builtin; refine wpList_append_sl rfl (.tmp 21) (.tmp 22) rfl w.heap.size v3 (m + 1) _ rfl (H3.out.own.alloc _) _ (some ⟨w3.heap.size, 0, none⟩) 1 1 [0] rfl (sl_byte w3 0 (by omega) (by omega)) (by omega) (by have := H3.out.bel.size; simp; omega) ?_; intro v4 w4 hown4 b4; have H4 := Lib.hid (Row.mk hown4 ((H3.out.bel.trans ((on_alloc _ _).mono H3.out.bel.size)).trans b4)); clear hown4 b4))
        go_roundw
        case rel =>
          refine ⟨k + 1, by omega, by go_num, ?_⟩
          have := H4.out
          rw [List.append_assoc] at this
          rw [HR.out.2.1, if_pos rfl, List.length_append, ← HR.out.2.2.1]
          exact this
        case measure => simp [intOf]; omega
      · go_wp2_with (first | fail | (at_builtin; refine wpList_append_sl rfl (.tmp 15) (.tmp 17) rfl w.heap.size u3 m (stuff (l.take k)) rfl (HR.out.1.own.alloc _) _ (some ⟨wr.heap.size, 0, none⟩) 1 1 [z] rfl (sl_byte wr z HR.out.2.2.2.1 HR.out.2.2.2.2) (by omega) (by have := HR.out.1.bel.size; simp; omega) ?_; intro v3 w3 hown3 b3; have H3 := Lib.hid (Row.mk hown3 ((HR.out.1.bel.trans ((on_alloc _ _).mono HR.out.1.bel.size)).trans b3)); clear hown3 b3))
        go_roundw
        case rel =>
          refine ⟨k + 1, by omega, by go_num, ?_⟩
          have := H3.out
          rw [HR.out.2.1, if_neg h255, List.length_append, ← HR.out.2.2.1]
          exact this
        case measure => simp [intOf]; omega
    · have ek : k = n := by omega
      have HE := Lib.hid (And.intro hR ek)
      clear hR ek
      go_wp2
      go_ret
      obtain ⟨hR, ek⟩ := HE.out
      have e : l.take k = l := List.take_of_length_le (by have := HH.out.len; omega)
      rw [e] at hR
      obtain ⟨A', c', hv, hs⟩ := sl_of_own hR.own (stuff_fit HH.out.bts.fit)
      subst hv
      exact ⟨A', c', rfl, hs.mono (fun _ _ _ => trivial), hR.bel⟩
end Go.Proofs.YthfpdebpepbejaaDoor
