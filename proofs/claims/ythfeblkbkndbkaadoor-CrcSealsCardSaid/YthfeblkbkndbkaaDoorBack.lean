/-
  CrcBack: the walk.
-/
import Derived.Test.YthfeblkbkndbkaaDoorCheck
import Derived.Test.YthfeblkbkndbkaaDoorBackMath
namespace Go.Proofs.YthfeblkbkndbkaaDoor
open Go.RowKit

/-- what CrcBack holds on to: its bytes, and the sealed ones in a block g -/
structure BackAt (w w' : World) (A : Option Addr) (n c : Nat) (l : List Int) (g : Nat) (L : List Int) : Prop where
  bel : Below w.heap.size w w'
  tab : Tab w'
  a : Sl w' (fun _ => True) A n c l
  box : Box w' g 5 (cellsOf L).toArray
  new : w.heap.size ≤ g
theorem BackAt.on {w w' w2 : World} {A : Option Addr} {n c : Nat} {l : List Int} {g : Nat} {L : List Int} (h : BackAt w w' A n c l g L) (k : Below w'.heap.size w' w2) : BackAt w w2 A n c l g L :=
  ⟨on_trans h.bel k, h.tab.below k, h.a.on k, (k.block g h.box.lt).trans h.box, h.new⟩

theorem Tab.pos {w : World} (h : Tab w) : 0 < w.heap.size := World.block_lt_of_cell? w ⟨0, 0, none⟩ (h 0 (by omega))

/-- a law's end: awake, behind all else -/
theorem tab_old {w w' : World} (h : Tab w) (k : Below w.heap.size w w') : Tab w' := h.below k

set_option maxHeartbeats 1000000 in
theorem back_any (w : World) (K : Nat → Prop) (A : Option Addr) (n c : Nat) (l : List Int) (p b : Nat) (hT : Tab w) (h : Sl w K A n c l) (hn : n ≤ 4000) (hp : p < 65536) (hb : b < 256) :
    Calls Tryd.prog 6 #[.slice A n c, .int .u16 (p : Int), .int .u8 (b : Int)] w (Law w) := by
  have hn' : ¬ (4000 : Int) < (n : Int) := by omega
  have HT := Lib.hid hT
  have HA := Lib.hid h
  have HL := Lib.hid h.len
  obtain ⟨S, hS⟩ : ∃ S, S = strOfNums l := ⟨_, rfl⟩
  have HS := Lib.hid hS
  obtain ⟨L, hLL⟩ : ∃ L, L = sealed l := ⟨_, rfl⟩
  have hLlen : L.length = n + 4 := by rw [hLL, sealed_len, h.len]
  obtain ⟨i, hi⟩ : ∃ i, i = p % (n + 4) := ⟨_, rfl⟩
  have hi2 : i < n + 4 := by rw [hi]; exact Nat.mod_lt _ (by omega)
  have hi3 : (p : Int) % ((n : Int) + 4) = (i : Int) := by rw [hi, Int.natCast_emod]; simp
  obtain ⟨z, hz⟩ : ∃ z : Nat, (z : Int) = L.getD i 0 := ⟨(L.getD i 0).toNat, by have := (sealed_fit h.bts.fit).getD i; rw [← hLL] at this; omega⟩
  have hz2 : z < 256 := by have := (sealed_fit h.bts.fit).getD i; rw [← hLL] at this; omega
  obtain ⟨y, hy⟩ : ∃ y, y = z ^^^ b := ⟨_, rfl⟩
  have hxor := u8_xor_nat z b hz2 hb
  rw [← hy] at hxor
  have hy2 : y < 256 := by rw [hy]; exact Nat.xor_lt_two_pow (n := 8) hz2 hb
  have HQ := Lib.hid (And.intro hLL (And.intro hLlen (And.intro hz hy)))
  clear hT h hS hLL hLlen hi hz hy
  by_cases hb0 : b = 0
  · have HB0 := Lib.hid hb0
    have hbz : ((b : Int) == 0) = true := by rw [hb0]; rfl
    clear hb0
    go_enter Tryd.func6, Tryd.ntmps6
    go_wp2_with fail
    refine (own_any w _ A n c l HA.out (by omega)).mono ?_
    rintro e w1 ⟨X1, d1, rfl, x1, b1⟩
    have Y1 := Lib.hid (And.intro x1 b1)
    clear x1 b1
    go_wp2_with fail
    refine (seal_box w1 _ X1 n d1 l (HT.out.below Y1.out.2) Y1.out.1 (by omega)).mono ?_
    rintro e w2 ⟨g, rfl, hg, hbox, b2⟩
    rw [← HQ.out.1] at hbox
    have bw2 := on_trans Y1.out.2 b2
    have F2 := Lib.hid (BackAt.mk bw2 (HT.out.below bw2) (HA.out.on bw2) hbox (Nat.le_trans Y1.out.2.size hg))
    clear hg hbox b2 bw2 Y1
    go_wp2_with fail
    refine (own_any w2 (fun _ => True) _ (n + 4) (n + 4) L (sl_of_box F2.out.box (by rw [HQ.out.1]; exact sealed_fit HA.out.bts.fit) HQ.out.2.1 (by simp only [maxLen]; omega) trivial) (by omega)).mono ?_
    rintro e w3 ⟨X3, d3, rfl, x3, b3⟩
    have Y3 := Lib.hid x3
    have F3 := Lib.hid (F2.out.on b3)
    clear x3 b3 F2
    go_wp2_with fail
    refine (check_good w3 _ X3 n d3 L F3.out.tab Y3.out (by omega) (by rw [HQ.out.1, ← HL.out]; exact sealed_ok HA.out.bts.fit)).mono ?_
    rintro e w4 ⟨g4, rfl, hg4, hbox4, b4⟩
    have et : L.take n = l := by rw [HQ.out.1, ← HL.out]; exact sealed_take l
    rw [et] at hbox4
    have F4 := Lib.hid (F3.out.on b4)
    have cv1 := sl_str (sl_of_box (K := fun _ => True) hbox4 HA.out.bts.fit HL.out (by simp only [maxLen]; omega) trivial)
    have cv2 := sl_str F4.out.a
    rw [← HS.out] at cv1 cv2
    clear et hg4 hbox4 b4 F3 Y3
    have hcell : w4.cell? ⟨g, i, none⟩ = some (.int .u8 (z : Int)) := by
      rw [F4.out.box.cell i, HQ.out.2.2.1]
      simp [cellsOf, List.getD_eq_getElem?_getD, List.getElem?_eq_getElem (show i < L.length by rw [HQ.out.2.1]; exact hi2)]
    have hfree := F4.out.box.free i
    go_wp2_with fail
    have hset : Box (w4.setCell ⟨g, i, none⟩ (.int .u8 (y : Int))) g 5 (cellsOf (L.set i (y : Int))).toArray := by
      have := F4.out.box.put i (.int .u8 (y : Int))
      rwa [set_cells] at this
    have bset : Below w.heap.size w (w4.setCell ⟨g, i, none⟩ (.int .u8 (y : Int))) := F4.out.bel.setCell (p := ⟨g, i, none⟩) F4.out.new _
    have hsl : Sl (w4.setCell ⟨g, i, none⟩ (.int .u8 (y : Int))) (fun _ => True) (some ⟨g, 0, none⟩) (n + 4) (n + 4) (L.set i (y : Int)) :=
      sl_of_box hset (Fit.set (by rw [HQ.out.1]; exact sealed_fit HA.out.bts.fit) _ _ (by omega) (by omega)) (by rw [List.length_set]; exact HQ.out.2.1) (by simp only [maxLen]; omega) trivial
    have F5 := Lib.hid (And.intro bset (And.intro (HT.out.below bset) hsl))
    obtain ⟨w5, hw5⟩ : ∃ w5, w5 = w4.setCell ⟨g, i, none⟩ (.int .u8 (y : Int)) := ⟨_, rfl⟩
    rw [← hw5] at F5 ⊢
    clear hset bset hsl hw5 hcell hfree F4 cv1 cv2
    · refine (check_good w5 _ _ n (n + 4) (L.set i (y : Int)) F5.out.2.1 F5.out.2.2 (by omega) (by rw [HQ.out.2.2.2, HB0.out, Nat.xor_zero, HQ.out.2.2.1, set_same L i (by rw [HQ.out.2.1]; exact hi2), HQ.out.1, ← HL.out]; exact sealed_ok HA.out.bts.fit)).mono ?_
      rintro e w6 ⟨g6, rfl, hg6, hbox6, b6⟩
      have F6 := Lib.hid (on_trans F5.out.1 b6)
      clear hg6 hbox6 b6 F5
      go_wp2_with fail
      refine (awake_any w6 (HT.out.below F6.out)).mono ?_
      rintro e w7 ⟨rfl, b7⟩
      have F7 := Lib.hid (on_trans F6.out b7)
      clear b7 F6
      go_wp2
      go_ret
      exact ⟨rfl, F7.out⟩
  · have HB0 := Lib.hid hb0
    have hbz : ((b : Int) == 0) = false := by simpa using hb0
    clear hb0
    go_enter Tryd.func6, Tryd.ntmps6
    go_wp2_with fail
    refine (own_any w _ A n c l HA.out (by omega)).mono ?_
    rintro e w1 ⟨X1, d1, rfl, x1, b1⟩
    have Y1 := Lib.hid (And.intro x1 b1)
    clear x1 b1
    go_wp2_with fail
    refine (seal_box w1 _ X1 n d1 l (HT.out.below Y1.out.2) Y1.out.1 (by omega)).mono ?_
    rintro e w2 ⟨g, rfl, hg, hbox, b2⟩
    rw [← HQ.out.1] at hbox
    have bw2 := on_trans Y1.out.2 b2
    have F2 := Lib.hid (BackAt.mk bw2 (HT.out.below bw2) (HA.out.on bw2) hbox (Nat.le_trans Y1.out.2.size hg))
    clear hg hbox b2 bw2 Y1
    go_wp2_with fail
    refine (own_any w2 (fun _ => True) _ (n + 4) (n + 4) L (sl_of_box F2.out.box (by rw [HQ.out.1]; exact sealed_fit HA.out.bts.fit) HQ.out.2.1 (by simp only [maxLen]; omega) trivial) (by omega)).mono ?_
    rintro e w3 ⟨X3, d3, rfl, x3, b3⟩
    have Y3 := Lib.hid x3
    have F3 := Lib.hid (F2.out.on b3)
    clear x3 b3 F2
    go_wp2_with fail
    refine (check_good w3 _ X3 n d3 L F3.out.tab Y3.out (by omega) (by rw [HQ.out.1, ← HL.out]; exact sealed_ok HA.out.bts.fit)).mono ?_
    rintro e w4 ⟨g4, rfl, hg4, hbox4, b4⟩
    have et : L.take n = l := by rw [HQ.out.1, ← HL.out]; exact sealed_take l
    rw [et] at hbox4
    have F4 := Lib.hid (F3.out.on b4)
    have cv1 := sl_str (sl_of_box (K := fun _ => True) hbox4 HA.out.bts.fit HL.out (by simp only [maxLen]; omega) trivial)
    have cv2 := sl_str F4.out.a
    rw [← HS.out] at cv1 cv2
    clear et hg4 hbox4 b4 F3 Y3
    have hcell : w4.cell? ⟨g, i, none⟩ = some (.int .u8 (z : Int)) := by
      rw [F4.out.box.cell i, HQ.out.2.2.1]
      simp [cellsOf, List.getD_eq_getElem?_getD, List.getElem?_eq_getElem (show i < L.length by rw [HQ.out.2.1]; exact hi2)]
    have hfree := F4.out.box.free i
    go_wp2_with fail
    have hset : Box (w4.setCell ⟨g, i, none⟩ (.int .u8 (y : Int))) g 5 (cellsOf (L.set i (y : Int))).toArray := by
      have := F4.out.box.put i (.int .u8 (y : Int))
      rwa [set_cells] at this
    have bset : Below w.heap.size w (w4.setCell ⟨g, i, none⟩ (.int .u8 (y : Int))) := F4.out.bel.setCell (p := ⟨g, i, none⟩) F4.out.new _
    have hsl : Sl (w4.setCell ⟨g, i, none⟩ (.int .u8 (y : Int))) (fun _ => True) (some ⟨g, 0, none⟩) (n + 4) (n + 4) (L.set i (y : Int)) :=
      sl_of_box hset (Fit.set (by rw [HQ.out.1]; exact sealed_fit HA.out.bts.fit) _ _ (by omega) (by omega)) (by rw [List.length_set]; exact HQ.out.2.1) (by simp only [maxLen]; omega) trivial
    have F5 := Lib.hid (And.intro bset (And.intro (HT.out.below bset) hsl))
    obtain ⟨w5, hw5⟩ : ∃ w5, w5 = w4.setCell ⟨g, i, none⟩ (.int .u8 (y : Int)) := ⟨_, rfl⟩
    rw [← hw5] at F5 ⊢
    clear hset bset hsl hw5 hcell hfree F4 cv1 cv2
    · refine (check_bad w5 _ _ n (n + 4) (L.set i (y : Int)) F5.out.2.1 F5.out.2.2 (by have := turned_bad HA.out.bts.fit i z b (by rw [HL.out]; exact hi2) (by rw [← HQ.out.1]; exact HQ.out.2.2.1) hb HB0.out; rwa [← HQ.out.1, ← HQ.out.2.2.2, HL.out] at this)).mono ?_
      rintro e w6 ⟨rfl, b6⟩
      have F6 := Lib.hid (on_trans F5.out.1 b6)
      clear b6 F5
      go_wp2_with fail
      refine (awake_any w6 (HT.out.below F6.out)).mono ?_
      rintro e w7 ⟨rfl, b7⟩
      have F7 := Lib.hid (on_trans F6.out b7)
      clear b7 F6
      go_wp2
      go_ret
      exact ⟨rfl, F7.out⟩

set_option maxHeartbeats 400000 in
theorem back_long (w : World) (A : Option Addr) (n c : Nat) (p b : Nat) (hT : Tab w) (hn : 4000 < n) :
    Calls Tryd.prog 6 #[.slice A n c, .int .u16 (p : Int), .int .u8 (b : Int)] w (Law w) := by
  have HT := Lib.hid hT
  have hn' : (4000 : Int) < (n : Int) := by omega
  clear hT
  go_enter Tryd.func6, Tryd.ntmps6
  go_wp2_with fail
  refine (awake_any w HT.out).mono ?_
  rintro e w8 ⟨rfl, b8⟩
  have F8 := Lib.hid b8
  clear b8
  go_wp2
  go_ret
  exact ⟨rfl, F8.out⟩

theorem crcBack_calls (w : World) (K : Nat → Prop) (A : Option Addr) (n c : Nat) (l : List Int) (p b : Int) (hT : Tab w) (h : Sl w K A n c l) (hp : 0 ≤ p ∧ p ≤ 65535) (hb : 0 ≤ b ∧ b ≤ 255) :
    Calls Tryd.prog 6 #[.slice A n c, .int .u16 p, .int .u8 b] w (Law w) := by
  obtain ⟨P, rfl⟩ := Int.eq_ofNat_of_zero_le hp.1
  obtain ⟨B, rfl⟩ := Int.eq_ofNat_of_zero_le hb.1
  by_cases hn : 4000 < n
  · exact back_long w A n c P B hT hn
  · exact back_any w K A n c l P B hT h (by omega) (by omega) (by omega)

end Go.Proofs.YthfeblkbkndbkaaDoor
