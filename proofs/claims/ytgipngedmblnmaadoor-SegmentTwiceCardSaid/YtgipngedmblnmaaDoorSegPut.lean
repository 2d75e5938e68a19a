/-
  The contracts of the reference's Back, Told (two bytes) and Put. The contract of the reference's Put. The contracts of the reference's steps, spec, may and In.
-/
import Derived.Test.YtgipngedmblnmaaDoorKvMem
namespace Go.Proofs.YtgipngedmblnmaaDoor
open Go.RowKit

/-- what answers bytes, in new memory -/
def GivesY (w : World) (l : List Int) (e : Ending) (w' : World) : Prop := ∃ A c, e = .returned (.slice A l.length c) ∧ Sl w' (fun b => w.heap.size ≤ b) A l.length c l ∧ Below w.heap.size w w'
theorem Row.on {w wr w' : World} {v : Value} {n : Nat} {l : List Int} (h : Row w wr v n l) (k : Below wr.heap.size wr w') : Row w w' v n l :=
  ⟨ownsRow_block h.own (fun g _ _ hh => k.block g (Array.getElem?_eq_some_iff.1 hh).1), on_trans h.bel k⟩
theorem Row.nil (w : World) : Row w w (.slice none 0 0) 0 [] := ⟨World.ownsRow_nil _ _ _ _, Below.refl _ _⟩
theorem Row.len {w wr : World} {v : Value} {n : Nat} {l : List Int} (h : Row w wr v n l) : l.length = n := by have := h.own.1; simpa [cellsOf] using this
theorem Row.gives {w wr : World} {v : Value} {n : Nat} {l : List Int} (h : Row w wr v n l) (hf : Fit l) : ∃ A c, v = .slice A n c ∧ GivesY w l (.returned (.slice A n c)) wr := by
  obtain ⟨A, c, e, hs⟩ := sl_of_own h.own hf
  have hl := h.len
  subst hl
  exact ⟨A, c, e, A, c, rfl, hs, h.bel⟩
theorem fit_nil : Fit [] := fun z hz => by cases hz
theorem fit_app {a b : List Int} (ha : Fit a) (hb : Fit b) : Fit (a ++ b) := fun z hz => (List.mem_append.1 hz).elim (ha z) (hb z)
theorem fit_one {z : Int} (h0 : 0 ≤ z) (h1 : z ≤ 255) : Fit [z] := fun y hy => by rw [List.mem_singleton] at hy; subst hy; exact ⟨h0, h1⟩
theorem fit_be2 (n : Int) : Fit (be2 n) := fun z hz => by
  simp [be2] at hz
  omega

set_option maxRecDepth 10000 in
set_option maxHeartbeats 1600000 in
theorem back_any (w : World) (K : Nat → Prop) (A : Option Addr) (n c : Nat) (l : List Int) (h : Sl w K A n c l) (hn : n ≤ 100000) : Calls Tryd.prog 52 #[.slice A n c] w (GivesY w l.reverse) := by
  have HL := Lib.hid h
  have hl := h.len
  clear h
  go_enter Tryd.func52, Tryd.ntmps52
  go_wp2_with fail
  go_loopw [3, 4] (fun s i wr => ∃ k A' c', k ≤ n ∧ s = .slice A' k c' ∧ i = .int .i64 ((k : Nat) : Int) ∧ Row w wr (.slice A' k c') k (l.reverse.take k)) (fun _ i _ => n - (intOf i).toNat)
  case atStart => exact ⟨0, none, 0, by omega, rfl, rfl, Row.nil w⟩
  case round =>
    obtain ⟨k, A2, c2, hk, rfl, rfl, hR⟩ := hrel
    have HR := Lib.hid hR
    clear hR
    by_cases hkn : k < n
    · have hs := HL.out.on HR.out.bel
      obtain ⟨b, off, hA, cz⟩ := hs.get (k := n - 1 - k) (by omega)
      have hfz := hs.bts.fit (l.getD (n - 1 - k) 0) (by rw [List.getD_eq_getElem?_getD, List.getElem?_eq_getElem (by omega)]; exact List.getElem_mem _)
      have hm : l.reverse.take k ++ [l.getD (n - 1 - k) 0] = l.reverse.take (k + 1) := by
        rw [List.take_add_one, List.getElem?_reverse (by omega), List.getD_eq_getElem?_getD, show l.length - 1 - k = n - 1 - k by omega, List.getElem?_eq_getElem (by omega)]
        rfl
      obtain ⟨z, hz⟩ : ∃ z, z = l.getD (n - 1 - k) 0 := ⟨_, rfl⟩
      rw [← hz] at cz hfz hm
      obtain ⟨q, hq⟩ : ∃ q, q = n - 1 - k := ⟨_, rfl⟩
      rw [← hq] at cz
      have hq' : (n : Int) - 1 - (k : Int) = (q : Int) := by omega
      have hqn : (q : Int) < (n : Int) := by omega
      subst hA
      obtain ⟨z0, z1⟩ := hfz
      have HX := Lib.hid hm
      have MR := Lib.hid (HR.out.on (on_alloc wr (.cells #[.int .u8 z] 5)))
      have SB := Lib.hid (sl_byte wr z z0 z1)
      clear hs hz hq hm
      go_wp2_with (first
        | ((with_reducible refine wpList_append_sl (o := ⟨some 21, _, _, _, _, _⟩) rfl (.tmp 11) (.tmp 20) rfl w.heap.size (.slice A2 k c2) k (l.reverse.take k) rfl MR.out.own (fun _ => True) (some ⟨wr.heap.size, 0, none⟩) 1 1 [z] rfl SB.out ?hs ?hb ?_)
           case hs => omega
           case hb => exact MR.out.bel.size
           intro v7 w7 hown7 bq
           obtain ⟨A7, c7, hv7⟩ := own_slice hown7
           subst hv7
           have H7 := Lib.hid (And.intro hown7 bq)
           clear hown7 bq)
        | fail)
      have hE : Row w w7 (.slice A7 (k + 1) c7) (k + 1) (l.reverse.take (k + 1)) := ⟨by rw [← HX.out]; exact H7.out.1, MR.out.bel.trans (H7.out.2.mono (Nat.le_refl _))⟩
      have HE := Lib.hid hE
      clear hE
      go_roundw
      case rel => exact ⟨k + 1, _, _, by omega, rfl, by go_num, HE.out⟩
      case measure => simp [intOf]; omega
    · obtain rfl : k = n := by omega
      have hR := HR.out
      rw [List.take_of_length_le (by rw [List.length_reverse]; omega)] at hR
      obtain ⟨A', c', e', hg⟩ := hR.gives HL.out.bts.fit.rev
      cases e'
      have HG := Lib.hid hg
      clear hg hR
      go_wp2_with fail
      go_ret
      exact HG.out

/-- the bytes of a number so far, the least first -/
def leB (n : Int) (k : Nat) : List Int := [n % 256, n / 256 % 256].take k
def leT (n : Int) (k : Nat) : Int := if k = 0 then n else if k = 1 then n / 256 else n / 256 / 256
theorem leB_more (n : Int) {k : Nat} (h : k < 2) : leB n k ++ [leT n k % 256] = leB n (k + 1) := by
  rcases (show k = 0 ∨ k = 1 by omega) with rfl | rfl <;> rfl
theorem leT_more (n : Int) {k : Nat} (h : k < 2) : leT n k / 256 = leT n (k + 1) := by
  rcases (show k = 0 ∨ k = 1 by omega) with rfl | rfl <;> rfl
theorem leT_bounds {n : Int} (h0 : 0 ≤ n) (h1 : n ≤ 1000000000) (k : Nat) : 0 ≤ leT n k ∧ leT n k ≤ 1000000000 := by
  unfold leT
  split
  · exact ⟨h0, h1⟩
  · split <;> omega
set_option maxRecDepth 10000 in
set_option maxHeartbeats 1600000 in
theorem told2_any (w : World) (n : Int) (h0 : 0 ≤ n) (h1 : n ≤ 1000000000) : Calls Tryd.prog 34 #[.int .i64 n, .int .i64 2, .bool true] w (GivesY w (be2 n)) := by
  go_enter Tryd.func34, Tryd.ntmps34
  go_wp2_with fail
  go_loopw [0, 7, 8] (fun t s i wr => ∃ k A' c', k ≤ 2 ∧ t = .int .i64 (leT n k) ∧ s = .slice A' k c' ∧ i = .int .i64 ((k : Nat) : Int) ∧ Row w wr (.slice A' k c') k (leB n k)) (fun _ _ i _ => 2 - (intOf i).toNat)
  case atStart => exact ⟨0, none, 0, by omega, rfl, rfl, rfl, Row.nil w⟩
  case round =>
    obtain ⟨k, A2, c2, hk, rfl, rfl, rfl, hR⟩ := hrel
    have HR := Lib.hid hR
    clear hR
    by_cases hkn : k < 2
    · have HX := Lib.hid (And.intro (leB_more n hkn) (leT_more n hkn))
      have hb := leT_bounds h0 h1 k
      obtain ⟨t, ht⟩ : ∃ t, t = leT n k := ⟨_, rfl⟩
      rw [← ht] at HX hb ⊢
      obtain ⟨t0, t1⟩ := hb
      have z0 : 0 ≤ t % 256 := by omega
      have z1 : t % 256 ≤ 255 := by omega
      have MR := Lib.hid (HR.out.on (on_alloc wr (.cells #[.int .u8 (t % 256)] 5)))
      have SB := Lib.hid (sl_byte wr (t % 256) z0 z1)
      clear ht
      go_wp2_with (first
        | ((with_reducible refine wpList_append_sl (o := ⟨some 21, _, _, _, _, _⟩) rfl (.tmp 16) (.tmp 20) rfl w.heap.size (.slice A2 k c2) k (leB n k) rfl MR.out.own (fun _ => True) (some ⟨wr.heap.size, 0, none⟩) 1 1 [t % 256] rfl SB.out ?hs ?hb ?_)
           case hs => omega
           case hb => exact MR.out.bel.size
           intro v7 w7 hown7 bq
           obtain ⟨A7, c7, hv7⟩ := own_slice hown7
           subst hv7
           have H7 := Lib.hid (And.intro hown7 bq)
           clear hown7 bq)
        | fail)
      have hE : Row w w7 (.slice A7 (k + 1) c7) (k + 1) (leB n (k + 1)) := ⟨by rw [← HX.out.1]; exact H7.out.1, MR.out.bel.trans (H7.out.2.mono (Nat.le_refl _))⟩
      have HE := Lib.hid hE
      clear hE
      go_roundw
      case rel => exact ⟨k + 1, _, _, by omega, by rw [← HX.out.2], rfl, by go_num, HE.out⟩
      case measure => simp [intOf]; omega
    · obtain rfl : k = 2 := by omega
      obtain ⟨A', c', e', hg⟩ := HR.out.gives (fun z hz => by simp [leB] at hz; omega)
      cases e'
      obtain ⟨A3, c3, e3, hs, hb⟩ := hg
      cases e3
      have HB := Lib.hid (back_any wr _ A2 2 c2 (leB n 2) hs (by omega))
      have HW := Lib.hid hb
      clear hs hb
      go_wp2_with fail
      refine Calls.mono HB.out ?_
      rintro e w8 ⟨A8, c8, rfl, s8, b8⟩
      have H8 := Lib.hid (And.intro s8 b8)
      clear s8 b8
      go_wp2_with fail
      go_ret
      exact ⟨A8, c8, rfl, ⟨⟨H8.out.1.bts.fit, fun h => by obtain ⟨b, off, e1, e2, e3, e4⟩ := H8.out.1.bts.at_ h; exact ⟨b, off, e1, e2, Nat.le_trans HW.out.size e3, e4⟩⟩, H8.out.1.len, H8.out.1.cap, H8.out.1.max, H8.out.1.nil⟩, on_trans HW.out H8.out.2⟩
end Go.Proofs.YtgipngedmblnmaaDoor

namespace Go.Proofs.YtgipngedmblnmaaDoor
open Go.RowKit

theorem row_lit (w : World) (l : List Int) (hl : l.length ≤ maxLen) : Row w (w.alloc (.cells (cellsOf l).toArray 5)) (.slice (some ⟨w.heap.size, 0, none⟩) l.length l.length) l.length l := by
  refine ⟨?_, on_alloc _ _⟩
  have := World.ownsRow_lit (e := 5) (size := 1) w (cellsOf l).toArray l.length (Nat.le_refl _) hl (by rw [List.size_toArray, cellsOf_len, Nat.mul_one])
  simpa using this
set_option maxRecDepth 10000 in
set_option maxHeartbeats 1600000 in
theorem put_any (w : World) (K : Nat → Prop) (m : Int) (A : Option Addr) (n c : Nat) (l : List Int) (h : Sl w K A n c l) (hn : n ≤ 100000) (m0 : 0 ≤ m) (m1 : m ≤ 255) : Calls Tryd.prog 20 #[.int .i64 m, .slice A n c] w (GivesY w (segB m l)) := by
  have hl := h.len
  have HL := Lib.hid h
  obtain ⟨w1, hw1⟩ : ∃ w1, w.alloc (.cells #[.int .u8 255, .int .u8 m] 5) = w1 := ⟨_, rfl⟩
  have hr := row_lit w [255, m] (show 2 ≤ maxLen by decide)
  have hr' : Row w w1 (.slice (some ⟨w.heap.size, 0, none⟩) 2 2) 2 [255, m] := by rw [← hw1]; exact hr
  have HR := Lib.hid (And.intro hr' hw1)
  have HT := Lib.hid (told2_any w1 ((n : Int) + 2) (by omega) (by omega))
  have HF : Fit [255, m] := fun z hz => by simp at hz; omega
  have HF := Lib.hid HF
  clear h hr hr' hw1
  go_enter Tryd.func20, Tryd.ntmps20
  go_wp2_with fail
  rw [HR.out.2]
  refine Calls.mono HT.out ?_
  rintro e w4 ⟨A4, c4, rfl, s4, b4⟩
  have M4 := Lib.hid (And.intro (HR.out.1.on b4) s4)
  clear s4 b4
  go_wp2_with (first
    | ((with_reducible refine wpList_append_sl (o := ⟨some 13, _, _, _, _, _⟩) rfl (.tmp 8) (.tmp 12) rfl w.heap.size (.slice (some ⟨w.heap.size, 0, none⟩) 2 2) 2 [255, m] rfl M4.out.1.own _ A4 2 c4 (be2 ((n : Int) + 2)) rfl M4.out.2 ?hs ?hb ?_)
       case hs => omega
       case hb => exact M4.out.1.bel.size
       intro v7 w7 hown7 bq
       obtain ⟨A7, c7, hv7⟩ := own_slice hown7
       subst hv7
       have H7 := Lib.hid (show Row w w7 (.slice A7 4 c7) 4 ([255, m] ++ be2 ((n : Int) + 2)) from ⟨hown7, M4.out.1.bel.trans (bq.mono (Nat.le_refl _))⟩)
       clear hown7 bq)
    | ((with_reducible refine wpList_append_sl (o := ⟨some 16, _, _, _, _, _⟩) rfl (.tmp 14) (.tmp 15) rfl w.heap.size (.slice A7 4 c7) 4 ([255, m] ++ be2 ((n : Int) + 2)) rfl H7.out.own _ A n c l rfl (HL.out.on H7.out.bel) ?hs ?hb ?_)
       case hs => omega
       case hb => exact H7.out.bel.size
       intro v8 w8 hown8 bq
       obtain ⟨A8, c8, hv8⟩ := own_slice hown8
       subst hv8
       have H8 := Lib.hid (show Row w w8 (.slice A8 (4 + n) c8) (4 + n) ([255, m] ++ be2 ((n : Int) + 2) ++ l) from ⟨hown8, H7.out.bel.trans (bq.mono (Nat.le_refl _))⟩)
       clear hown8 bq)
    | fail)
  obtain ⟨A', c', e', hg⟩ := H8.out.gives (fit_app (fit_app HF.out (fit_be2 _)) HL.out.bts.fit)
  cases e'
  rw [← hl] at hg
  have HG := Lib.hid hg
  clear hg
  go_ret
  have := HG.out
  rw [hl] at this
  unfold segB
  rw [hl]
  exact this
end Go.Proofs.YtgipngedmblnmaaDoor

namespace Go.Proofs.YtgipngedmblnmaaDoor
open Go.RowKit

/-- an append of bytes: only the row's own block turns -/
theorem wpList_append_y {w : World} {ops : Array Oper} {rest : List Oper} {o : Oper} {a : Act} {Q : Exit → Act → World → Prop} (hgd : o.guard = none) (s x : Operand)
    (ho : o.op = .call { callee := .builtin .append, args := #[s, x], argTypes := #[37, 37] })
    (base : Nat) (v : Value) (n : Nat) (l : List Int) (hs : a.eval s = v) (hown : w.ownsRow base 5 1 v n (cellsOf l))
    (K : Nat → Prop) (A : Option Addr) (m c : Nat) (r : List Int) (hx : a.eval x = .slice A m c) (hr : Sl w K A m c r) (h63 : n + m ≤ 140737488351232) (hbase : base ≤ w.heap.size)
    (h : ∀ v' w', w'.ownsRow base 5 1 v' (n + m) (cellsOf (l ++ r)) → Kept (fun i => v.ownBlock = some i) w w' → wpList Tryd.prog ops Q rest (a.put o.dst v') w') : wpList Tryd.prog ops Q (o :: rest) a w := by
  obtain ⟨i0, hi0, hz0, hz1, hz2⟩ := info_parts byte_info
  cases A with
  | none =>
    obtain rfl : c = 0 := hr.nil rfl
    obtain rfl : m = 0 := by have := hr.cap; omega
    have hl : r = [] := List.eq_nil_of_length_eq_zero hr.len
    subst hl
    exact wpList_append_own_none hgd s x 37 ho base 5 i0 1 Tryd.underlying37 hi0 v n (cellsOf l) hs hown hx (h v w (by simpa using hown) (Kept.refl _ _))
  | some ad =>
    refine wpList_append_own _ hgd s x 37 ho base 5 i0 (.int .u8 0) 1 1 Tryd.underlying37 hi0 hz0 hz1 hz2 rfl (by omega) v n (cellsOf l) hs hown ad m c (cellsOf r) hx (by rw [cellsOf_len, hr.len, Nat.mul_one]) hr.bts.read (cellsOf_one r) (by simp only [maxLen]; omega) (by omega) hbase ?_
    intro v' w' h1 h2 _
    have e : cellsOf l ++ cellsOf r = cellsOf (l ++ r) := by simp [cellsOf]
    rw [e] at h1
    exact h v' w' h1 ⟨h2.os, h2.tape, h2.output, h2.size, fun k hk hn => h2.block k hk (fun e => hn e.symm)⟩
theorem own_block3 {w : World} {base e size n i : Nat} {v : Value} {xs : List Value} (h : w.ownsRow base e size v n xs) (hi : v.ownBlock = some i) : base ≤ i ∧ ∃ cs, w.heap[i]? = some (.cells cs e (0, 0)) := by
  rcases h.2 with ⟨rfl, _⟩ | ⟨g, cap, cur, rfl, hg, hh, _⟩
  · cases hi
  · cases hi
    exact ⟨hg, _, hh⟩
/-- what has another type than a row's block is not that block -/
theorem own_apart {w : World} {base e size n i : Nat} {v : Value} {xs : List Value} (h : w.ownsRow base e size v n xs) {t : TypeId} {cs : Array Value} {fr : Nat × Nat} (hb : w.heap[i]? = some (.cells cs t fr)) (hne : t ≠ e) : v.ownBlock ≠ some i := fun e' => by
  obtain ⟨_, cs', hh⟩ := own_block3 h e'
  rw [hb] at hh
  injection hh with hh
  injection hh with _ h2
  exact hne h2
theorem Kept.row {w wr w' : World} {v v' : Value} {n n' : Nat} {l l' : List Int} (h : Row w wr v n l) (hown : w'.ownsRow w.heap.size 5 1 v' n' (cellsOf l')) (k : Kept (fun i => v.ownBlock = some i) wr w') : Row w w' v' n' l' :=
  ⟨hown, h.bel.trans (k.below h.bel.size (fun i hi e => by have := (own_block3 h.own e).1; omega))⟩
theorem Il.far {w wr w' : World} {v : Value} {n m c : Nat} {l zs : List Int} {A : Option Addr} (h : Il wr A m c zs) (r : Row w wr v n l) (k : Kept (fun i => v.ownBlock = some i) wr w') : Il w' A m c zs :=
  h.kept k fun b off e => by
    obtain ⟨cs, fr, hh⟩ := h.typ b off e
    exact own_apart r.own hh (by decide)
theorem Box.far {w wr w' : World} {v : Value} {n g : Nat} {l : List Int} {t : TypeId} {cs : Array Value} (h : Box wr g t cs) (r : Row w wr v n l) (k : Kept (fun i => v.ownBlock = some i) wr w') (ht : t ≠ 5) : Box w' g t cs := k.box h (own_apart r.own h ht)
theorem Sl.mono' {w : World} {K K' : Nat → Prop} {A : Option Addr} {n c : Nat} {l : List Int} (h : Sl w K A n c l) (hK : ∀ b, K b → K' b) : Sl w K' A n c l :=
  ⟨⟨h.bts.fit, fun h0 => by obtain ⟨b, off, e1, e2, e3, e4⟩ := h.bts.at_ h0; exact ⟨b, off, e1, e2, hK b e3, e4⟩⟩, h.len, h.cap, h.max, h.nil⟩
theorem wrap8 (z : Int) : IntKind.u8.wrap z = z % 256 := by simp [IntKind.wrap, IntKind.bits, IntKind.signed]
/-- the first k bytes of steps -/
def stK (i : Int) (s : List Int) (k : Nat) : List Int := i :: (List.range k).map fun k => s.getD (zn k) 0 % 256
theorem stK_more (i : Int) (s : List Int) (k : Nat) : stK i s k ++ [s.getD (zn k) 0 % 256] = stK i s (k + 1) := by simp [stK, List.range_succ]
theorem stK_fit {i : Int} (s : List Int) (k : Nat) (h0 : 0 ≤ i) (h1 : i ≤ 255) : Fit (stK i s k) := fun z hz => by
  rcases List.mem_cons.1 hz with rfl | hz
  · exact ⟨h0, h1⟩
  · obtain ⟨j, _, rfl⟩ := List.mem_map.1 hz
    omega
theorem zn_cell {k : Nat} (hk : k < 64) : zz.getD k 0 = (zn k : Int) ∧ zn k < 64 := zn_at k hk
set_option maxRecDepth 10000 in
set_option maxHeartbeats 1600000 in
theorem steps_any (w : World) (i : Int) (s : List Int) (i0 : 0 ≤ i) (i1 : i ≤ 255) (hs : s.length = 64) : Calls Tryd.prog 28 #[.int .i64 i, blkV s] w (GivesY w (stepsB i s)) := by
  obtain ⟨cs, hcs⟩ : ∃ cs, cs = (cellsI s).toArray := ⟨_, rfl⟩
  have hv : blkV s = .agg cs := by rw [hcs]; rfl
  rw [hv]
  obtain ⟨w1, hw1⟩ : ∃ w1, w.alloc (.cells cs 23) = w1 := ⟨_, rfl⟩
  have hB : Blk w1 w.heap.size s := ⟨by rw [← hw1, hcs]; exact Box.made _ _ _, hs⟩
  have k1 : Below w.heap.size w w1 := by rw [← hw1]; exact on_alloc _ _
  have hr := row_lit w1 [i] (show 1 ≤ maxLen by decide)
  obtain ⟨w2, hw2⟩ : ∃ w2, w1.alloc (.cells #[.int .u8 i] 5) = w2 := ⟨_, rfl⟩
  have hs1 : w1.heap.size = w.heap.size + 1 := by rw [← hw1]; simp
  have hr2 : Row w1 w2 (.slice (some ⟨w.heap.size + 1, 0, none⟩) 1 1) 1 [i] := by rw [← hw2, ← hs1]; exact hr
  have HO := Lib.hid (refOrder_any w2)
  have HW := Lib.hid (And.intro hw1 (And.intro hw2 (And.intro k1 (And.intro hB hr2))))
  have HI := Lib.hid (And.intro i0 i1)
  have wi : IntKind.u8.wrap i = i := by rw [wrap8]; omega
  clear hcs hv hw1 hB k1 hr hw2 hr2 hs1
  go_enter Tryd.func28, Tryd.ntmps28
  go_wp2_with fail
  rw [HW.out.1, HW.out.2.1]
  refine Calls.mono HO.out ?_
  rintro e w3 ⟨A3, c3, rfl, il3, _, b3⟩
  have R3 := HW.out.2.2.2.2.on b3
  have H3 := Lib.hid (And.intro il3 (And.intro R3 (HW.out.2.2.2.1.on R3.bel)))
  clear il3 b3 R3
  go_wp2_with fail
  go_loopw [5, 7] (fun v i' wr => ∃ k A' c', k ≤ 64 ∧ v = .slice A' (k + 1) c' ∧ i' = .int .i64 ((k : Nat) : Int) ∧ Row w1 wr (.slice A' (k + 1) c') (k + 1) (stK i s k) ∧ Il wr A3 64 c3 zz) (fun _ i' _ => 64 - (intOf i').toNat)
  case atStart => exact ⟨0, _, _, by omega, rfl, rfl, H3.out.2.1, H3.out.1⟩
  case round =>
    obtain ⟨k, A2, c2, hk, rfl, rfl, hR, hb3⟩ := hrel
    have HR := Lib.hid (And.intro hR hb3)
    clear hR hb3
    by_cases hkn : k < 64
    · obtain ⟨b, off, hA, hbl, hc⟩ := HR.out.2.at_ (by omega)
      have c1 := hc k hkn
      obtain ⟨z1, z2⟩ := zn_cell hkn
      rw [z1] at c1
      have hb2 := HW.out.2.2.2.1.on HR.out.1.bel
      have c4 := hb2.cell z2
      have hm := stK_more i s k
      obtain ⟨q, hq⟩ : ∃ q, q = zn k := ⟨_, rfl⟩
      rw [← hq] at c1 c4 z2 hm
      obtain ⟨z, hz⟩ : ∃ z, z = s.getD q 0 := ⟨_, rfl⟩
      rw [← hz] at c4 hm
      have wz : IntKind.u8.wrap z = z % 256 := wrap8 z
      have MR := Lib.hid (HR.out.1.on (on_alloc wr (.cells #[.int .u8 (z % 256)] 5)))
      have SB := Lib.hid (sl_byte wr (z % 256) (by omega) (by omega))
      have HX := Lib.hid hm
      have HIL := Lib.hid (HR.out.2.on (on_alloc wr (.cells #[.int .u8 (z % 256)] 5)))
      subst hA
      have hq64 : (q : Int) < 64 := by omega
      clear hbl hc z1 hb2 hm hq hz
      go_wp2_with (first
        | ((with_reducible refine wpList_append_y (o := ⟨some 25, _, _, _, _, _⟩) rfl (.tmp 16) (.tmp 24) rfl w1.heap.size (.slice A2 (k + 1) c2) (k + 1) (stK i s k) rfl MR.out.own (fun _ => True) (some ⟨wr.heap.size, 0, none⟩) 1 1 [z % 256] rfl SB.out ?hs ?hb ?_)
           case hs => omega
           case hb => exact MR.out.bel.size
           intro v7 w7 hown7 bq
           obtain ⟨A7, c7, hv7⟩ := own_slice hown7
           subst hv7
           have H7 := Lib.hid (And.intro (bq.row MR.out hown7) (HIL.out.far MR.out bq))
           clear hown7 bq)
        | fail)
      have hE := H7.out
      rw [HX.out] at hE
      have HE := Lib.hid hE
      clear hE
      go_roundw
      case rel => exact ⟨k + 1, _, _, by omega, rfl, by go_num, HE.out⟩
      case measure => simp [intOf]; omega
    · obtain rfl : k = 64 := by omega
      obtain ⟨A', c', e', hg⟩ := HR.out.1.gives (stK_fit s 64 HI.out.1 HI.out.2)
      cases e'
      obtain ⟨A3', c3', e3, hs3, hb3⟩ := hg
      cases e3
      have HG := Lib.hid (And.intro hs3 hb3)
      clear hs3 hb3
      go_wp2_with fail
      go_ret
      exact ⟨A2, c2, rfl, HG.out.1.mono' (fun b h => Nat.le_trans HW.out.2.2.1.size h), on_trans HW.out.2.2.1 HG.out.2⟩

/-- the values so far -/
def spK (i : Int) (B V : List Int) (k j : Nat) : List Int := (i :: (B.take k).map (· % 256)) ++ (V.take j).map (· % 256)
theorem takeOne (l : List Int) {k : Nat} (h : k < l.length) : l.take (k + 1) = l.take k ++ [l.getD k 0] := by
  rw [List.take_add_one, List.getD_eq_getElem?_getD, List.getElem?_eq_getElem h]
  rfl
theorem spK_b (i : Int) (B V : List Int) {k : Nat} (h : k < B.length) : spK i B V k 0 ++ [B.getD k 0 % 256] = spK i B V (k + 1) 0 := by
  unfold spK
  rw [takeOne B h]
  simp
theorem spK_v (i : Int) (B V : List Int) (k : Nat) {j : Nat} (h : j < V.length) : spK i B V k j ++ [V.getD j 0 % 256] = spK i B V k (j + 1) := by
  unfold spK
  rw [takeOne V h]
  simp
theorem spK_fit {i : Int} (B V : List Int) (k j : Nat) (h0 : 0 ≤ i) (h1 : i ≤ 255) : Fit (spK i B V k j) := fun z hz => by
  rcases List.mem_append.1 hz with hz | hz
  · rcases List.mem_cons.1 hz with rfl | hz
    · exact ⟨h0, h1⟩
    · obtain ⟨j, _, rfl⟩ := List.mem_map.1 hz
      omega
  · obtain ⟨j, _, rfl⟩ := List.mem_map.1 hz
    omega
theorem spK_all (i : Int) {B V : List Int} : spK i B V B.length V.length = specB i B V := by
  unfold spK specB
  rw [List.take_length, List.take_length]
theorem spK_len (i : Int) (B V : List Int) {k j : Nat} (hk : k ≤ B.length) (hj : j ≤ V.length) : (spK i B V k j).length = k + j + 1 := by
  simp [spK]
  omega
set_option maxRecDepth 10000 in
set_option maxHeartbeats 3200000 in
theorem spec_any (w : World) (i : Int) (B V : List Int) (A : Option Addr) (n c : Nat) (i0 : 0 ≤ i) (i1 : i ≤ 255) (hB : B.length = 16) (hV : Ia w A n c V) (hn : n ≤ 100000) : Calls Tryd.prog 29 #[.int .i64 i, specV B (.slice A n c)] w (GivesY w (specB i B V)) := by
  obtain ⟨C, hC⟩ : ∃ C, C = specC B (.slice A n c) := ⟨_, rfl⟩
  have eV : specV B (.slice A n c) = .agg C := by rw [hC]; rfl
  rw [eV]
  obtain ⟨w1, hw1⟩ : ∃ w1, w.alloc (.cells C 28) = w1 := ⟨_, rfl⟩
  have hb : Boxed w w1 w.heap.size B V A n c := boxed_made hB hV (by rw [← hw1, hC]) rfl
  have hr := row_lit w1 [i] (show 1 ≤ maxLen by decide)
  obtain ⟨w2, hw2⟩ : ∃ w2, w1.alloc (.cells #[.int .u8 i] 5) = w2 := ⟨_, rfl⟩
  have hs1 : w1.heap.size = w.heap.size + 1 := by rw [← hw1]; simp
  have hr2 : Row w1 w2 (.slice (some ⟨w.heap.size + 1, 0, none⟩) 1 1) 1 [i] := by rw [← hw2, ← hs1]; exact hr
  have HW := Lib.hid (And.intro hw1 (And.intro hw2 (And.intro hb hr2)))
  have HI := Lib.hid (And.intro i0 (And.intro i1 (And.intro hB hV.len)))
  have wi : IntKind.u8.wrap i = i := by rw [wrap8]; omega
  clear hC eV hw1 hb hr hw2 hr2 hs1 hB hV
  go_enter Tryd.func29, Tryd.ntmps29
  go_wp2_with fail
  rw [HW.out.1, HW.out.2.1]
  go_loopw [5, 6] (fun v i' wr => ∃ k m A' c', k ≤ 16 ∧ m = k + 1 ∧ v = .slice A' m c' ∧ i' = .int .i64 ((k : Nat) : Int) ∧ Row w1 wr (.slice A' m c') m (spK i B V k 0)) (fun _ i' _ => 16 - (intOf i').toNat)
  case atStart => exact ⟨0, 1, _, _, by omega, rfl, rfl, rfl, by have h := HW.out.2.2.2; simpa [spK] using h⟩
  case round =>
    obtain ⟨k, m, A2, c2, hk, hm1, rfl, rfl, hR⟩ := hrel
    have HR := Lib.hid hR
    clear hR
    by_cases hkn : k < 16
    · have hb := HW.out.2.2.1.on HR.out.bel
      have c1 := (hb.box.cell k).trans (specC_at hb.len hkn)
      have hm := spK_b i B V (k := k) (by rw [hb.len]; exact hkn)
      obtain ⟨z, hz⟩ : ∃ z, z = B.getD k 0 := ⟨_, rfl⟩
      rw [← hz] at c1 hm
      have wz : IntKind.u8.wrap z = z % 256 := wrap8 z
      have MR := Lib.hid (HR.out.on (on_alloc wr (.cells #[.int .u8 (z % 256)] 5)))
      have SB := Lib.hid (sl_byte wr (z % 256) (by omega) (by omega))
      have HX := Lib.hid (And.intro hm hm1)
      have hm63 : m + 1 ≤ 140737488351232 := by omega
      clear hb hm hz hm1
      go_wp2_with (first
        | ((with_reducible refine wpList_append_y (o := ⟨some 22, _, _, _, _, _⟩) rfl (.tmp 15) (.tmp 21) rfl w1.heap.size (.slice A2 m c2) m (spK i B V k 0) rfl MR.out.own (fun _ => True) (some ⟨wr.heap.size, 0, none⟩) 1 1 [z % 256] rfl SB.out ?hs ?hb ?_)
           case hs => exact hm63
           case hb => exact MR.out.bel.size
           intro v7 w7 hown7 bq
           obtain ⟨A7, c7, hv7⟩ := own_slice hown7
           subst hv7
           have H7 := Lib.hid (bq.row MR.out hown7)
           clear hown7 bq)
        | fail)
      have hE := H7.out
      rw [HX.out.1] at hE
      have HE := Lib.hid hE
      clear hE
      go_roundw
      case rel => exact ⟨k + 1, m + 1, _, _, by omega, by have := HX.out.2; omega, rfl, by go_num, HE.out⟩
      case measure => simp [intOf]; omega
    · have HE16 := Lib.hid (And.intro (show k = 16 by omega) hm1)
      clear hm1
      go_wp2_with fail
      go_loopw [5, 7] (fun v i' wr => ∃ k m A' c', k ≤ n ∧ m = 16 + k + 1 ∧ v = .slice A' m c' ∧ i' = .int .i64 ((k : Nat) : Int) ∧ Row w1 wr (.slice A' m c') m (spK i B V 16 k)) (fun _ i' _ => n - (intOf i').toNat)
      case atStart => exact ⟨0, m, _, _, by omega, by have := HE16.out.1; have := HE16.out.2; omega, rfl, rfl, by rw [← HE16.out.1]; exact HR.out⟩
      case round =>
        obtain ⟨k, m, A2, c2, hk, hm1, rfl, rfl, hR⟩ := hrel
        have HR := Lib.hid hR
        clear hR
        have hb := HW.out.2.2.1.on HR.out.bel
        have c16 := hb.slice
        by_cases hkn : k < n
        · obtain ⟨b, off, hA, hbl, hc⟩ := hb.vals.at_ (by omega)
          subst hA
          have c1 := hc k hkn
          have hm := spK_v i B V 16 (j := k) (by rw [HI.out.2.2.2]; exact hkn)
          obtain ⟨z, hz⟩ : ∃ z, z = V.getD k 0 := ⟨_, rfl⟩
          rw [← hz] at c1 hm
          have wz : IntKind.u8.wrap z = z % 256 := wrap8 z
          have MR := Lib.hid (HR.out.on (on_alloc wr (.cells #[.int .u8 (z % 256)] 5)))
          have SB := Lib.hid (sl_byte wr (z % 256) (by omega) (by omega))
          have HX := Lib.hid (And.intro hm hm1)
          have hm63 : m + 1 ≤ 140737488351232 := by omega
          clear hb hm hz hc hbl hm1
          go_wp2_with (first
            | ((with_reducible refine wpList_append_y (o := ⟨some 38, _, _, _, _, _⟩) rfl (.tmp 30) (.tmp 37) rfl w1.heap.size (.slice A2 m c2) m (spK i B V 16 k) rfl MR.out.own (fun _ => True) (some ⟨wr.heap.size, 0, none⟩) 1 1 [z % 256] rfl SB.out ?hs ?hb ?_)
               case hs => exact hm63
               case hb => exact MR.out.bel.size
               intro v7 w7 hown7 bq
               obtain ⟨A7, c7, hv7⟩ := own_slice hown7
               subst hv7
               have H7 := Lib.hid (bq.row MR.out hown7)
               clear hown7 bq)
            | fail)
          have hE := H7.out
          rw [HX.out.1] at hE
          have HE := Lib.hid hE
          clear hE
          go_roundw
          case rel => exact ⟨k + 1, m + 1, _, _, by omega, by have := HX.out.2; omega, rfl, by go_num, HE.out⟩
          case measure => simp [intOf]; omega
        · obtain rfl : k = n := by omega
          have hR := HR.out
          have e0 := spK_all i (B := B) (V := V)
          rw [HI.out.2.2.1, HI.out.2.2.2] at e0
          rw [e0] at hR
          obtain ⟨A', c', e', hg⟩ := hR.gives (by rw [← e0]; exact spK_fit B V 16 k HI.out.1 HI.out.2.1)
          cases e'
          obtain ⟨A3', c3', e3, hs3, hb3⟩ := hg
          cases e3
          have HG := Lib.hid (And.intro hs3 hb3)
          clear hs3 hb3 hb e0 hR
          go_wp2_with fail
          go_ret
          exact ⟨A2, c2, rfl, HG.out.1.mono' (fun b h => Nat.le_trans HW.out.2.2.1.bel.size h), on_trans HW.out.2.2.1.bel HG.out.2⟩
open Classical in
/-- what may answers -/
theorem may_any (w : World) (B V : List Int) (A : Option Addr) (n c : Nat) (hB : B.length = 16) (h : Ia w A n c V) : Calls Tryd.prog 27 #[specV B (.slice A n c)] w fun e w' => e = .returned (.bool (decide (Valid B V))) ∧ Below w.heap.size w w' := by
  obtain ⟨C, hC⟩ : ∃ C, C = specC B (.slice A n c) := ⟨_, rfl⟩
  have eV : specV B (.slice A n c) = .agg C := by rw [hC]; rfl
  obtain ⟨w1, hw1⟩ : ∃ w1, w.alloc (.cells C 28) = w1 := ⟨_, rfl⟩
  have hb : Box w1 w.heap.size 28 (specC B (.slice A n c)) := by rw [← hw1, hC]; exact Box.made _ _ _
  have k1 : Below w.heap.size w w1 := by rw [← hw1]; exact on_alloc _ _
  have hc := refCodes_any w1 B V A n c hB (h.on k1)
  rw [eV] at hc
  have HC := Lib.hid hc
  have hld := load_spec hb hB
  rw [eV, ← hw1] at hld
  have HLd := Lib.hid hld
  have HW := Lib.hid (And.intro hw1 (And.intro k1 (And.intro hb hB)))
  rw [eV]
  clear hC hw1 hb k1 h hB hc hld eV
  go_enter Tryd.func27, Tryd.ntmps27
  go_wp2_with (first
    | (with_reducible refine wpList_load_to (op := ⟨some 6, _, _, _, _, _⟩) rfl 28 (.tmp 1) rfl (.pointer (some ⟨w.heap.size, 0, none⟩)) rfl (.agg C) HLd.out ?_)
    | fail)
  rw [HW.out.1]
  refine Calls.mono HC.out ?_
  rintro e w4 ⟨b4, he⟩
  have H4 := Lib.hid (on_trans HW.out.2.1 b4)
  clear b4
  rcases he with ⟨hv, rfl⟩ | ⟨hv, A4, n4, c4, rfl, _⟩
  · have HV := Lib.hid hv
    clear hv
    go_wp2_with fail
    go_ret
    exact ⟨by rw [decide_eq_false HV.out]; rfl, H4.out⟩
  · have HV := Lib.hid hv
    clear hv
    go_wp2_with fail
    go_ret
    exact ⟨by rw [decide_eq_true HV.out]; rfl, H4.out⟩

/-- the first k steps are right -/
def Sok (s : List Int) (k : Nat) : Prop := ∀ j, j < k → 1 ≤ s.getD j 0 ∧ s.getD j 0 ≤ 255
theorem Sok.more {s : List Int} {k : Nat} (h : Sok s k) (h0 : 1 ≤ s.getD k 0 ∧ s.getD k 0 ≤ 255) : Sok s (k + 1) := fun j hj => by
  by_cases e : j = k
  · rw [e]; exact h0
  · exact h j (by omega)
set_option maxHeartbeats 1600000 in
theorem in_any (w : World) (s : List Int) (hs : s.length = 64) : Calls Tryd.prog 26 #[blkV s, .int .i64 1, .int .i64 255] w fun e w' => e = .returned (.bool (decide (StepOk s))) ∧ Below w.heap.size w w' := by
  obtain ⟨cs, hcs⟩ : ∃ cs, cs = (cellsI s).toArray := ⟨_, rfl⟩
  have hv : blkV s = .agg cs := by rw [hcs]; rfl
  rw [hv]
  obtain ⟨w1, hw1⟩ : ∃ w1, w.alloc (.cells cs 23) = w1 := ⟨_, rfl⟩
  have hB : Blk w1 w.heap.size s := ⟨by rw [← hw1, hcs]; exact Box.made _ _ _, hs⟩
  have k1 : Below w.heap.size w w1 := by rw [← hw1]; exact on_alloc _ _
  have HW := Lib.hid (And.intro hw1 (And.intro k1 hB))
  clear hcs hv hw1 hB k1
  go_enter Tryd.func26, Tryd.ntmps26
  go_wp2_with fail
  rw [HW.out.1]
  go_loopw [7] (fun i wr => ∃ k : Nat, k ≤ 64 ∧ i = .int .i64 k ∧ Sok s k ∧ w1 = wr) (fun i _ => 64 - (intOf i).toNat)
  case atStart => exact ⟨0, by omega, rfl, fun j hj => absurd hj (by omega), rfl⟩
  case round =>
    obtain ⟨k, hk, rfl, hS, rfl⟩ := hrel
    have HS := Lib.hid hS
    clear hS
    by_cases hkn : k < 64
    · have c1 := HW.out.2.2.cell hkn
      have hz : ¬ (1 ≤ s.getD k 0 ∧ s.getD k 0 ≤ 255) → ¬ StepOk s := fun h r => h (r k hkn)
      obtain ⟨z, hz'⟩ : ∃ z, z = s.getD k 0 := ⟨_, rfl⟩
      rw [← hz'] at c1 hz
      have HZ := Lib.hid (And.intro hz hz')
      clear hz hz'
      by_cases h0 : z < 1
      · go_wp2_with fail
        go_ret
        exact ⟨by rw [decide_eq_false (HZ.out.1 (by omega))]; rfl, HW.out.2.1⟩
      · by_cases h1 : 255 < z
        · go_wp2_with fail
          go_ret
          exact ⟨by rw [decide_eq_false (HZ.out.1 (by omega))]; rfl, HW.out.2.1⟩
        · go_wp2_with fail
          go_roundw
          case rel => exact ⟨k + 1, by omega, by go_num, HS.out.more (by rw [← HZ.out.2]; omega), trivial⟩
          case measure => simp [intOf]; omega
    · obtain rfl : k = 64 := by omega
      go_wp2_with fail
      go_ret
      exact ⟨by rw [decide_eq_true (show StepOk s from HS.out)]; rfl, HW.out.2.1⟩
end Go.Proofs.YtgipngedmblnmaaDoor
