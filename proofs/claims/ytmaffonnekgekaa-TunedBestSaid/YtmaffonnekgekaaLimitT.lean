/-
  The contracts of limit and drop.
-/
import Derived.Test.YtmaffonnekgekaaGrow
import Derived.WalkMore
namespace Go.Proofs.Ytmaffonnekgekaa
open Go.RowKit

/-- how many have each length, from lo on, in an array -/
structure Nums (w : World) (g lo : Nat) (N : List Int) (n : Nat → Nat) : Prop where
  box : Box w g 47 (cellsI N).toArray
  len : N.length = 257
  at_ : ∀ s, lo ≤ s → s < 257 → N.getD s 0 = (n s : Int)
theorem Nums.cell {w : World} {g lo : Nat} {N : List Int} {n : Nat → Nat} (h : Nums w g lo N n) {s : Nat} (hl : lo ≤ s) (hs : s < 257) : w.cell? ⟨g, s, none⟩ = some (.int .i64 (n s : Int)) := by
  have a := h.len
  rw [h.box.cell s, List.getElem?_toArray, cellsI_get _ _ (by omega), h.at_ s hl hs]
theorem Nums.put {w : World} {g lo : Nat} {N : List Int} {n : Nat → Nat} (h : Nums w g lo N n) {s : Nat} (hs : s < 257) (x : Nat) (z : Int) (hz : z = (x : Int)) (k : Nat) : Nums ((w.drewN k).setCell ⟨g, s, none⟩ (.int .i64 z)) g lo (N.set s (x : Int)) (upd n s x) := by
  subst hz
  have a := h.len
  refine ⟨?_, by rw [List.length_set, a], fun j hlj hj => ?_⟩
  · have hb := (h.box.drewN k).put s (.int .i64 (x : Int))
    rw [put_cellsI] at hb
    exact hb
  · by_cases e : s = j
    · subst e
      rw [getD_set_same _ (by omega), upd_same]
    · rw [getD_set_ne _ e, upd_other n x (fun e' => e e'.symm)]
      exact h.at_ j hlj hj
theorem Nums.putd {w w1 : World} {g lo : Nat} {N : List Int} {n : Nat → Nat} (h : Nums w g lo N n) {s : Nat} (hs : s < 257) (x : Nat) {z : Int} (hz : z = (x : Int)) (hw : w1 = (w.setCell ⟨g, s, none⟩ (.int .i64 z)).drew) : Nums w1 g lo (N.set s (x : Int)) (upd n s x) ∧ Kept (fun i => i = g) w w1 := by
  subst hw
  have h1 := h.put hs x z hz 0
  exact ⟨⟨h1.box, h1.len, h1.at_⟩, ((Kept.refl (fun i => i = g) w).setCell (p := ⟨g, s, none⟩) (fun _ => rfl) _).drew⟩
theorem kept_drew_put (w : World) (g s k : Nat) (u : Value) : Kept (fun i => i = g) w ((w.drewN k).setCell ⟨g, s, none⟩ u) := ((Kept.refl (fun i => i = g) w).drewN k).setCell (p := ⟨g, s, none⟩) (fun _ => rfl) u
theorem jof_is {n : Nat → Nat} {k j : Nat} (hj : j ≤ k) (h0 : n j ≠ 0) (ha : ∀ s, j < s → s ≤ k → n s = 0) : jof n k = j := by
  rcases Nat.lt_trichotomy (jof n k) j with h | h | h
  · exact absurd (jof_above n k j h hj) h0
  · exact h
  · have h1 := ha _ h (jof_le n k)
    exact absurd (jof_none n k h1 j hj) h0
theorem sumW_le (n : Nat → Nat) {s : Nat} : ∀ {k : Nat}, s < k → n s ≤ sumW (fun _ => 1) n k
  | 0, h => absurd h (by omega)
  | k + 1, h => by
    rw [sumW]
    by_cases e : s = k
    · subst e; omega
    · have := sumW_le n (s := s) (k := k) (by omega)
      omega
theorem Full.le {n : Nat → Nat} {i N : Nat} (h : Full n i N) (hi : i < 300) (s : Nat) : n s ≤ 257 := by
  have h1 := h.few
  rcases Nat.lt_or_ge s 300 with hs | hs
  · have := sumW_le n hs
    rw [h.all] at this
    omega
  · rw [h.above s (by omega)]
    omega

/-- how limiting stands -/
structure Lims (w wr : World) (g : Nat) (n : Nat → Nat) (K : Nat) (i : Nat) (N' : List Int) (n' : Nat → Nat) : Prop where
  nums : Nums wr g 1 N' n'
  full : Full n' i K
  goes : ∀ m, Lim n' i m → Lim n 256 m
  kept : Kept (fun i => i = g) w wr
  lo : 16 ≤ i
  hi : i ≤ 256
theorem Lims.down {w wr : World} {g : Nat} {n : Nat → Nat} {K i : Nat} {N' : List Int} {n' : Nat → Nat} (h : Lims w wr g n K (i + 1) N' n') (h16 : 16 ≤ i) (h0 : n' (i + 1) = 0) : Lims w wr g n K i N' n' :=
  ⟨h.nums, h.full.down h0, fun m r => h.goes m (.down h16 h0 r), h.kept, h16, by have := h.hi; omega⟩
theorem Lims.step {w wr w4 : World} {g : Nat} {n : Nat → Nat} {K i j : Nat} {N' N4 : List Int} {n' : Nat → Nat} (h : Lims w wr g n K i N' n') (h17 : 17 ≤ i) (hn : n' i ≠ 0) (hj : jof n' (i - 2) = j) (h4 : Nums w4 g 1 N4 (lstep n' i j)) (k4 : Kept (fun i => i = g) wr w4) :
    Lims w w4 g n K i N4 (lstep n' i j) ∧ lstep n' i j i + 2 = n' i := by
  have h1 := h.hi
  have hs := h.full.step h17 (by omega) hn
  rw [hj] at hs
  exact ⟨⟨h4, hs.1, fun m r => h.goes m (.step h17 hn (by rw [hj]; exact r)), h.kept.trans k4 (fun _ _ e => e), h.lo, h.hi⟩, hs.2.1⟩
/-- what limit leaves -/
def Limited (w : World) (g : Nat) (n : Nat → Nat) (K : Nat) (e : Ending) (w' : World) : Prop := ∃ M m, e = .returned (.tuple #[]) ∧ Nums w' g 1 M m ∧ Lim n 256 m ∧ Full m 16 K ∧ Kept (fun i => i = g) w w'

set_option maxRecDepth 20000 in
set_option maxHeartbeats 3200000 in
theorem limit_any (w : World) (g : Nat) (N : List Int) (n : Nat → Nat) (K : Nat) (h : Nums w g 1 N n) (hF : Full n 256 K) : Calls Try.prog 22 #[.pointer (some ⟨g, 0, none⟩)] w (Limited w g n K) := by
  have HI := Lib.hid (show Lims w w g n K 256 N n from ⟨h, hF, fun _ h => h, Kept.refl _ _, by omega, Nat.le_refl _⟩)
  clear h hF
  go_enter Try.func22, Try.ntmps22
  go_wp2
  go_step3
  go_wp2
  go_step3
  go_wp2
  go_loopg [2] (256 * 300 + n 256) (fun q u2 wr => ∃ i N' n', u2 = .int .i64 ((i : Nat) : Int) ∧ Lims w wr g n K i N' n' ∧ q = i * 300 + n' i)
  case atStart => exact ⟨256, N, n, rfl, HI.out, rfl⟩
  case round =>
    obtain ⟨i, N', n', rfl, hL, hq⟩ := hrel
    have hlo := hL.lo
    have hhi := hL.hi
    by_cases h16 : i = 16
    · subst h16
      have HR := Lib.hid hL
      clear hL hq
      go_wp2
      go_end0
      exact ⟨N', n', rfl, HR.out.nums, HR.out.goes n' (.stop n'), HR.out.full, HR.out.kept⟩
    have h17 : 16 < i := by omega
    have h17i : (16 : Int) < (i : Int) := by omega
    have HR := Lib.hid (And.intro hL hq)
    clear hL hq h16
    obtain ⟨p, hp⟩ : ∃ p, i = p + 2 := ⟨i - 2, by omega⟩
    have hp2 : (i : Int) - 2 = (p : Int) := by omega
    have HP := Lib.hid hp
    clear hp
    go_wp2
    go_loopg [3] p (fun q u3 w2 => ∃ j, u3 = .int .i64 ((j : Nat) : Int) ∧ j ≤ p ∧ (∀ s, j < s → s ≤ p → n' s = 0) ∧ w2 = wr ∧ q = j)
    case atStart => exact ⟨p, rfl, Nat.le_refl _, fun s h1 h2 => absurd h1 (by omega), rfl, rfl⟩
    case round =>
      obtain ⟨j, rfl, hj, hz, rfl, hq⟩ := hrel
      have HZ := Lib.hid (And.intro hz hq)
      clear hz hq
      have hL := HR.out.1
      have fi := hL.nums.box.free i
      have hle := hL.full.le (by omega) i
      have hj1 : 0 < j := by
        rcases Nat.eq_zero_or_pos j with e | e
        · exfalso
          have h1 := hL.full.shorter (by omega) (by omega)
          have h2 := jof_le n' (i - 2)
          have hp := HP.out
          rcases Nat.eq_zero_or_pos (jof n' (i - 2)) with h3 | h3
          · rw [h3] at h1
            exact h1 hL.full.zero
          · exact h1 (HZ.out.1 _ (by omega) (by omega))
        · exact e
      have ci := hL.nums.cell (by omega) (show i < 257 by omega)
      have cj := hL.nums.cell (by omega) (show j < 257 by omega)
      obtain ⟨x, hx⟩ : ∃ x, x = n' i := ⟨_, rfl⟩
      rw [← hx] at ci hle
      have HX := Lib.hid hx
      have hg := hL.nums.box.lt
      clear hL hx
      by_cases hx0 : x = 0
      · subst hx0
        go_wp2
        have hp := HP.out
        go_roundg ((p + 1) * 300 + n' (p + 1))
        case rel =>
          refine ⟨p + 1, N', n', ?_, ?_, rfl⟩
          · have : (i : Int) - 1 = ((p + 1 : Nat) : Int) := by omega
            rw [this]
          · subst hp
            exact HR.out.1.down (by omega) HX.out.symm
        case measure =>
          have h1 := HR.out.2
          have h2 := HR.out.1.full.le (by omega) (p + 1)
          rw [h1, ← HX.out]
          omega
      · have hx1 : 0 < x := by omega
        obtain ⟨y, hy⟩ : ∃ y, y = n' j := ⟨_, rfl⟩
        rw [← hy] at cj
        have HY := Lib.hid hy
        clear hy
        by_cases hy0 : y = 0
        · subst hy0
          go_wp2
          obtain ⟨j2, rfl⟩ : ∃ j2, j = j2 + 1 := ⟨j - 1, by omega⟩
          go_roundg j2
          case rel =>
            refine ⟨j2, by go_num, by omega, fun s h1 h2 => ?_, rfl, rfl⟩
            by_cases e : s = j2 + 1
            · subst e; exact HY.out.symm
            · exact HZ.out.1 s (by omega) h2
          case measure => rw [HZ.out.2]; omega
        · have hy1 : 0 < y := by omega
          have hp := HP.out
          obtain ⟨q, hq⟩ : ∃ q, q = p + 1 := ⟨_, rfl⟩
          obtain ⟨j2, hj2⟩ : ∃ j2, j2 = j + 1 := ⟨_, rfl⟩
          obtain ⟨x2, hx2⟩ : ∃ x2, x = x2 + 2 := by
            have h1 := HR.out.1.full.even (by omega) (by omega)
            rw [← HX.out] at h1
            exact ⟨x - 2, by omega⟩
          have e1 : (i : Int) - 1 = (q : Int) := by omega
          have e2 : (j : Int) + 1 = (j2 : Int) := by omega
          have e3 : (x : Int) - 2 = (x2 : Int) := by omega
          have hq257 : q < 257 := by omega
          have hq1 : 1 ≤ q := by omega
          have hj21 : 1 ≤ j2 := by omega
          have hj257 : j2 < 257 := by omega
          have hle' := HR.out.1.full.le (by omega)
          obtain ⟨n1, hn1⟩ : ∃ n1, n1 = upd n' i x2 := ⟨_, rfl⟩
          obtain ⟨n2, hn2⟩ : ∃ n2, n2 = upd n1 q (n1 q + 1) := ⟨_, rfl⟩
          obtain ⟨n3, hn3⟩ : ∃ n3, n3 = upd n2 j2 (n2 j2 + 2) := ⟨_, rfl⟩
          have hn4 : lstep n' i j = upd n3 j (n3 j - 1) := by
            rw [hn3, hn2, hn1, hj2, show q = i - 1 by omega, show x2 = n' i - 2 by rw [← HX.out]; omega]
            rfl
          have b1 : n1 q ≤ 1000 := by rw [hn1, upd_other _ _ (by omega)]; have := hle' q; omega
          have b2 : n2 j2 ≤ 2000 := by
            rw [hn2]
            unfold upd
            split
            · omega
            · rw [hn1]
              unfold upd
              split
              · omega
              · have := hle' j2; omega
          have b3 : n3 j = y := by
            rw [hn3, upd_other _ _ (by omega), hn2, upd_other _ _ (by omega), hn1, upd_other _ _ (by omega)]
            exact HY.out.symm
          have by1 : y ≤ 257 := by rw [HY.out]; exact hle' j
          have hjf : jof n' (i - 2) = j := jof_is (by omega) (by rw [← HY.out]; exact hy0) (fun s h1 h2 => HZ.out.1 s h1 (by omega))
          have HN := Lib.hid (And.intro hn1 (And.intro hn2 (And.intro hn3 (And.intro hn4 (And.intro b3 (And.intro hjf (And.intro hx2 (And.intro hq hj2))))))))
          clear hn1 hn2 hn3 hn4 b3 hjf hle' hx2 hq hj2 hp
          go_wp2
          go_region
          obtain ⟨w1, hw1⟩ : ∃ w1, w1 = (wr.setCell ⟨g, i, none⟩ (.int .i64 (x2 : Int))).drew := ⟨_, rfl⟩
          rw [← hw1]
          obtain ⟨h1, k1⟩ := HR.out.1.nums.putd (show i < 257 by omega) x2 rfl hw1
          rw [← HN.out.1] at h1
          have c1 := h1.cell (by omega) hq257
          have f1 := h1.box.free q
          have g1 := h1.box.lt
          obtain ⟨a, ha⟩ : ∃ a, a = n1 q := ⟨_, rfl⟩
          rw [← ha] at c1 b1
          have H1 := Lib.hid (And.intro h1 (And.intro k1 ha))
          clear h1 k1 ha hw1 ci cj fi hg
          go_wp2
          go_region
          obtain ⟨w2, hw2⟩ : ∃ w2, w2 = (w1.setCell ⟨g, q, none⟩ (.int .i64 ((a : Int) + 1))).drew := ⟨_, rfl⟩
          rw [← hw2]
          obtain ⟨h2, k2⟩ := H1.out.1.putd hq257 (a + 1) (by omega) hw2
          rw [H1.out.2.2, ← HN.out.2.1] at h2
          have c2 := h2.cell (by omega) hj257
          have f2 := h2.box.free j2
          have g2 := h2.box.lt
          obtain ⟨b, hb⟩ : ∃ b, b = n2 j2 := ⟨_, rfl⟩
          rw [← hb] at c2 b2
          have H2 := Lib.hid (And.intro h2 (And.intro (H1.out.2.1.trans k2 (fun _ _ e => e)) hb))
          clear h2 k2 hb hw2 c1 f1 g1
          go_wp2
          go_region
          obtain ⟨w3, hw3⟩ : ∃ w3, w3 = (w2.setCell ⟨g, j2, none⟩ (.int .i64 ((b : Int) + 2))).drew := ⟨_, rfl⟩
          rw [← hw3]
          obtain ⟨h3, k3⟩ := H2.out.1.putd hj257 (b + 2) (by omega) hw3
          rw [H2.out.2.2, ← HN.out.2.2.1] at h3
          have c3 := h3.cell (by omega) (show j < 257 by omega)
          rw [HN.out.2.2.2.2.1] at c3
          have f3 := h3.box.free j
          have g3 := h3.box.lt
          have H3 := Lib.hid (And.intro h3 (H2.out.2.1.trans k3 (fun _ _ e => e)))
          clear h3 k3 hw3 c2 f2 g2
          go_wp2
          go_region
          obtain ⟨w4, hw4⟩ : ∃ w4, w4 = (w3.setCell ⟨g, j, none⟩ (.int .i64 ((y : Int) - 1))).drew := ⟨_, rfl⟩
          rw [← hw4]
          obtain ⟨h4, k4⟩ := H3.out.1.putd (show j < 257 by omega) (y - 1) (by omega) hw4
          have e5 : upd n3 j (y - 1) = lstep n' i j := by rw [HN.out.2.2.2.1, HN.out.2.2.2.2.1]
          rw [e5] at h4
          have hS := HR.out.1.step (by omega) (by rw [← HX.out]; exact hx0) HN.out.2.2.2.2.2.1 h4 (H3.out.2.trans k4 (fun _ _ e => e))
          have H4 := Lib.hid hS
          clear h4 k4 hw4 c3 f3 g3 hS e5
          go_wp2
          go_roundg (i * 300 + lstep n' i j i)
          case rel => exact ⟨i, _, _, rfl, H4.out.1, rfl⟩
          case measure => rw [HR.out.2]; have := H4.out.2; omega
end Go.Proofs.Ytmaffonnekgekaa
