/-
  BitsStands: the walk.
-/
import Derived.Test.YtdoelehfeiegeaaBit
namespace Go.Proofs.Ytdoelehfeiegeaa
open Go.RowKit

theorem goF_err {l : List Int} {s0 : St} : ∀ (k : Nat) (s : St) (m : Nat), (goF l s0 k s m).2.2 ≠ 0 → (goF l s0 k s m).1 = s0
  | 0, _, _, h => absurd rfl h
  | k + 1, s, m, h => by
    unfold goF at h ⊢
    split
    · next h0 => rw [if_pos h0] at h; exact goF_err k _ _ h
    · rfl
theorem getF_err {l : List Int} {s : St} {k : Int} (h : (getF l s k).2.2 ≠ 0) : (getF l s k).1 = s := by
  unfold getF at h ⊢
  split
  · rfl
  · next h0 => rw [if_neg h0] at h; exact goF_err _ _ _ h

/-- two readers of the same bytes -/
structure Pair (w wr : World) (r g q p : Nat) (l : List Int) (s u : St) : Prop where
  one : Rd wr r g l s
  two : Rd wr q p l u
  apart : r ≠ q ∧ r ≠ p ∧ q ≠ g
  new : w.heap.size ≤ r ∧ w.heap.size ≤ q
  bel : Below w.heap.size w wr
theorem Pair.on {w wr w' : World} {r g q p : Nat} {l : List Int} {s u : St} (h : Pair w wr r g q p l s u) (b : Below wr.heap.size wr w') : Pair w w' r g q p l s u := ⟨h.one.on b, h.two.on b, h.apart, h.new, on_trans h.bel b⟩
theorem Pair.first {w wr w' : World} {r g q p : Nat} {l : List Int} {s u s' : St} (h : Pair w wr r g q p l s u) (b : Kept (fun i => i = r) wr w') (hr : Rd w' r g l s') : Pair w w' r g q p l s' u :=
  ⟨hr, h.two.kept b (fun e => h.apart.1 e.symm) (fun e => h.apart.2.1 e.symm), h.apart, h.new, h.bel.trans (b.below h.bel.size (fun i hi e => by have := h.new.1; omega))⟩
theorem Pair.second {w wr w' : World} {r g q p : Nat} {l : List Int} {s u s' : St} (h : Pair w wr r g q p l s u) (b : Kept (fun i => i = q) wr w') (hr : Rd w' q p l s') : Pair w w' r g q p l s s' :=
  ⟨h.one.kept b h.apart.1 (fun e => h.apart.2.2 e.symm), hr, h.apart, h.new, h.bel.trans (b.below h.bel.size (fun i hi e => by have := h.new.2; omega))⟩
/-- a second reader is made -/
theorem Pair.made {w w1 w2 : World} {r g q p : Nat} {l : List Int} {s u : St} (h1 : Rd w1 r g l s) (hr : w.heap.size ≤ r) (hb : Below w.heap.size w w1) (h2 : Rd w2 q p l u) (hq : w1.heap.size ≤ q) (hp : w1.heap.size ≤ p) (b : Below w1.heap.size w1 w2) : Pair w w2 r g q p l s u := by
  have a1 := h1.box.lt
  have a2 := h1.own.lt
  exact ⟨h1.on b, h2, ⟨by omega, by omega, by omega⟩, ⟨hr, Nat.le_trans hb.size hq⟩, on_trans hb b⟩

set_option maxRecDepth 10000 in
set_option maxHeartbeats 3200000 in
theorem stands_some (w : World) (K : Nat → Prop) (A : Option Addr) (n c : Nat) (l : List Int) (B : Option Addr) (n2 c2 : Nat) (ks : List (Int × Int)) (count : Int) (h : Sl w K A n c l) (h' : Pl w (fun _ => True) B n2 ks) (hn : n ≤ 4000) (hn2 : n2 ≤ 200) :
    Calls Try.prog 9 #[.slice A n c, .slice B n2 c2, .int .i64 count] w (Law w) := by
  have hPl := Lib.hid (h'.mono (K' := fun b => b < w.heap.size) (fun _ hb _ => hb))
  have hlen := h.len
  have HL := Lib.hid (And.intro h hlen)
  clear h h' hlen
  go_enter Try.func9, Try.ntmps9
  go_wp2_with fail
  refine (newReader_any w K A n c l HL.out.1 (by omega)).mono ?_
  rintro e w1 ⟨r, g, rfl, hr, hg, hr1, b1⟩
  have H1 := Lib.hid (And.intro hr1 (And.intro hr b1))
  clear hr1 hr hg b1
  go_wp2_with fail
  refine (newReader_any w1 _ A n c l (HL.out.1.on H1.out.2.2) (by omega)).mono ?_
  rintro e w2 ⟨q, p, rfl, hq, hp, hr2, b2⟩
  have H2 := Lib.hid (Pair.made H1.out.1 H1.out.2.1 H1.out.2.2 hr2 hq hp b2)
  clear hr2 hq hp b2 H1
  go_wp2
  go_loopw [33] (fun i wr => ∃ k s, k ≤ n2 ∧ i = .int .i64 ((k : Nat) : Int) ∧ Pair w wr r g q p l s s) (fun i _ => n2 - (intOf i).toNat)
  case atStart => exact ⟨0, st0, Nat.zero_le _, rfl, H2.out⟩
  case round =>
    obtain ⟨k, s, hk, rfl, hP⟩ := hrel
    have HP := Lib.hid hP
    clear hP
    by_cases hlt : k < n2
    · obtain ⟨bl, ol, rfl, q0, q1⟩ := (hPl.out.below HP.out.bel (fun _ _ h => h)).get hlt
      obtain ⟨v, hv⟩ : ∃ v, v = (ks.getD k (0, 0)).1 := ⟨_, rfl⟩
      obtain ⟨m, hm⟩ : ∃ m, m = (ks.getD k (0, 0)).2 := ⟨_, rfl⟩
      rw [← hv] at q0
      rw [← hm] at q1
      clear hv hm
      obtain ⟨t, ht⟩ : ∃ t, t = wr.heap.size := ⟨_, rfl⟩
      obtain ⟨w3, hw3⟩ : ∃ w3, w3 = wr.alloc (.cells #[.int .i64 v, .int .i64 m] 44) := ⟨_, rfl⟩
      have hbp : Box w3 t 44 #[.int .i64 v, .int .i64 m] := by rw [hw3, ht]; exact Box.made _ _ _
      have b3 : Below wr.heap.size wr w3 := by rw [hw3]; exact on_alloc _ _
      have htr : t ≠ r := by have := HP.out.one.box.lt; omega
      have HB := Lib.hid (And.intro hbp (And.intro (HP.out.on b3) (And.intro hw3 (And.intro ht htr))))
      have r1 : w3.cell? ⟨t, 1, none⟩ = some (.int .i64 m) := hbp.cell 1
      clear hbp b3 hw3 ht htr
      go_wp2_with fail
      rw [← HB.out.2.2.1, ← HB.out.2.2.2.1]
      go_wp2_with fail
      refine (get_any w3 r g l s m HB.out.2.1.one).mono ?_
      rintro e w4 ⟨rfl, hr4, k4⟩
      have hbp4 := k4.box HB.out.1 HB.out.2.2.2.2
      have r2 : w4.cell? ⟨t, 1, none⟩ = some (.int .i64 m) := hbp4.cell 1
      have H4 := Lib.hid (HB.out.2.1.first k4 hr4)
      clear hr4 k4 hbp4 r1 q0 q1
      go_wp2_with fail
      refine (get_any w4 q p l s m H4.out.two).mono ?_
      rintro e w5 ⟨rfl, hr5, k5⟩
      have H5 := Lib.hid (H4.out.second k5 hr5)
      clear hr5 k5 r2
      go_wp2
      go_roundw
      case rel => exact ⟨k + 1, _, by omega, by go_num, H5.out⟩
      case measure => simp [intOf]; omega
    · go_wp2_with fail
      refine (at_any wr r g l s HP.out.one).mono ?_
      rintro e w3 ⟨rfl, b3⟩
      have H3 := Lib.hid (HP.out.on b3)
      clear b3
      go_wp2_with fail
      refine (get_any w3 r g l s count H3.out.one).mono ?_
      rintro e w4 ⟨rfl, hr4, k4⟩
      have H4 := Lib.hid (H3.out.first k4 hr4)
      clear hr4 k4
      by_cases hE : (getF l s count).2.2 = 0
      · rw [hE]
        clear hE
        go_wp2_with fail
        refine (awake_any w4).mono ?_
        rintro e w8 ⟨rfl, b8⟩
        have F8 := Lib.hid (on_trans H4.out.bel b8)
        clear b8
        go_wp2
        go_ret
        exact ⟨rfl, F8.out⟩
      · have hs := getF_err hE
        obtain ⟨E, hEE⟩ : ∃ E, E = (getF l s count).2.2 := ⟨_, rfl⟩
        rw [← hEE] at hE ⊢
        rw [hs] at H4
        have hE2 : (E == 0) = false := by simp; exact hE
        have hat : (s.at_ : Int) ≤ n := by have := H4.out.one.ok.at_; have := HL.out.2; omega
        obtain ⟨R, hR⟩ : ∃ R, R = bitF l s := ⟨_, rfl⟩
        have HR := Lib.hid hR
        clear hEE hs hR
        go_wp2_with fail
        refine (bit_any w4 r g l s H4.out.one).mono ?_
        rw [← HR.out]
        rintro e w5 ⟨rfl, hr5, k5⟩
        have H5 := Lib.hid (H4.out.first k5 hr5)
        clear hr5 k5
        go_wp2_with fail
        refine (bit_any w5 q p l s H5.out.two).mono ?_
        rw [← HR.out]
        rintro e w6 ⟨rfl, hr6, k6⟩
        have H6 := Lib.hid (H5.out.second k6 hr6)
        clear hr6 k6
        go_wp2_with fail
        refine (at_any w6 r g l R.1 H6.out.one).mono ?_
        rintro e w7 ⟨rfl, b7⟩
        have H7 := Lib.hid (H6.out.on b7)
        clear b7
        go_wp2_with fail
        refine (at_any w7 q p l R.1 H7.out.two).mono ?_
        rintro e w8 ⟨rfl, b8⟩
        have H8 := Lib.hid (H7.out.on b8)
        clear b8
        go_wp2_with fail
        refine (awake_any w8).mono ?_
        rintro e w9 ⟨rfl, b9⟩
        have F9 := Lib.hid (on_trans H8.out.bel b9)
        clear b9
        go_wp2
        go_ret
        exact ⟨rfl, F9.out⟩

theorem stands_calls (w : World) (K : Nat → Prop) (A : Option Addr) (n c : Nat) (l : List Int) (B : Option Addr) (n2 c2 : Nat) (ks : List (Int × Int)) (count : Int) (h : Sl w K A n c l) (h' : Pl w (fun _ => True) B n2 ks) :
    Calls Try.prog 9 #[.slice A n c, .slice B n2 c2, .int .i64 count] w (Law w) := by
  by_cases h1 : n2 ≤ 200
  · by_cases h2 : n ≤ 4000
    · exact stands_some w K A n c l B n2 c2 ks count h h' h2 h1
    · have a1 : ¬ (200 : Int) < n2 := by omega
      have a2 : (4000 : Int) < n := by omega
      clear h h' h1 h2
      go_enter Try.func9, Try.ntmps9
      go_wp2_with fail
      refine (awake_any w).mono ?_
      rintro e w8 ⟨rfl, b8⟩
      have F8 := Lib.hid b8
      clear b8
      go_wp2
      go_ret
      exact ⟨rfl, F8.out⟩
  · have a1 : (200 : Int) < n2 := by omega
    clear h h' h1
    go_enter Try.func9, Try.ntmps9
    go_wp2_with fail
    refine (awake_any w).mono ?_
    rintro e w8 ⟨rfl, b8⟩
    have F8 := Lib.hid b8
    clear b8
    go_wp2
    go_ret
    exact ⟨rfl, F8.out⟩
end Go.Proofs.Ytdoelehfeiegeaa
