/-
  The contract of Get. The contracts of Bit and Marker.
-/
import Derived.Test.YthfpdebpepbejaaDoorBegin
import Derived.Deep.LoopGhost
import Derived.WalkMore
namespace Go.Proofs.YthfpdebpepbejaaDoor
open Go.RowKit

/-- what Get leaves -/
def Got (w : World) (r g : Nat) (l : List Int) (R : St × Nat × Int) (e : Ending) (w' : World) : Prop :=
  e = .returned (.tuple #[.int .i64 (R.2.1 : Int), .int .i64 R.2.2]) ∧ Rd w' r g l R.1 ∧ Kept (fun i => i = r) w w'

set_option maxHeartbeats 400000 in
theorem get_range (w : World) (r g : Nat) (l : List Int) (s : St) (k : Int) (h : Rd w r g l s) (hk : k < 0 ∨ (¬ k < 0 ∧ 24 < k)) : Calls Tryd.prog 66 #[.pointer (some ⟨r, 0, none⟩), .int .i64 k] w (Got w r g l (s, 0, 2)) := by
  have HH := Lib.hid h
  clear h
  rcases hk with hk | ⟨hk0, hk⟩
  · go_enter Tryd.func66, Tryd.ntmps66
    go_wp2
    go_step3
    go_wp2
    try rw [Exit.noGoto_ret]
    go_ret2
    exact ⟨rfl, HH.out, Kept.refl _ _⟩
  · go_enter Tryd.func66, Tryd.ntmps66
    go_wp2
    go_step3
    go_wp2
    try rw [Exit.noGoto_ret]
    go_ret2
    exact ⟨rfl, HH.out, Kept.refl _ _⟩

/-- how Get stands: k bits are still to come, the number so far is m -/
structure Getting (w wr : World) (t r g : Nat) (l : List Int) (s : St) (R : St × Nat × Int) (k m : Nat) (s' : St) : Prop where
  place : Box wr t 102 (cellsP s')
  rd : Rd wr r g l s
  ok : s'.ok l.length
  bel : Below w.heap.size w wr
  new : w.heap.size ≤ t
  res : goF l s k s' m = R
  fits : m < 2 ^ (24 - k)
  few : k ≤ 24
  old : r < w.heap.size ∧ g < w.heap.size

section
variable {w wr : World} {t r g : Nat} {l : List Int} {s : St} {R : St × Nat × Int} {k m : Nat} {s' : St}
theorem Getting.kept (h : Getting w wr t r g l s R k m s') {w' : World} (b : Kept (fun i => i = t) wr w') : Rd w' r g l s ∧ Below w.heap.size w w' := by
  have := h.old
  have := h.new
  exact ⟨h.rd.kept b (fun e => by omega) (fun e => by omega), h.bel.trans (b.below h.bel.size (fun i hi e => by omega))⟩
/-- the reader goes to where the place is -/
theorem Getting.ends (h : Getting w wr t r g l s R 0 m s') : Got w r g l R (.returned (.tuple #[.int .i64 (m : Int), .int .i64 0])) (((wr.setCell ⟨r, 0, none⟩ (.int .i64 (s'.v : Int))).setCell ⟨r, 1, none⟩ (.int .i64 (s'.c : Int))).setCell ⟨r, 2, none⟩ (.int .i64 (s'.at_ : Int))) := by
  have k1 : Kept (fun i => i = r) wr (((wr.setCell ⟨r, 0, none⟩ (.int .i64 (s'.v : Int))).setCell ⟨r, 1, none⟩ (.int .i64 (s'.c : Int))).setCell ⟨r, 2, none⟩ (.int .i64 (s'.at_ : Int))) :=
    (((Kept.refl (fun i => i = r) wr).setCell (p := ⟨r, 0, none⟩) (fun _ => rfl) _).setCell (p := ⟨r, 1, none⟩) (fun _ => rfl) _).setCell (p := ⟨r, 2, none⟩) (fun _ => rfl) _
  have hb := ((h.rd.box.put 0 (.int .i64 (s'.v : Int))).put 1 (.int .i64 (s'.c : Int))).put 2 (.int .i64 (s'.at_ : Int))
  rw [← h.res]
  exact ⟨rfl, ⟨hb, k1.box h.rd.own (fun e => h.rd.apart e.symm), h.rd.fit, h.ok, h.rd.len⟩, (Kept.of_below h.bel (fun i => i = r)).trans k1 (fun _ _ e => e)⟩
theorem Getting.fails (h : Getting w wr t r g l s R (k + 1) m s') (hc : s'.c = 0) {E : Int} (hE : beginE l s'.at_ = E) (h0 : E ≠ 0) {w' : World} (b : Kept (fun i => i = t) wr w') : Got w r g l R (.returned (.tuple #[.int .i64 0, .int .i64 E])) w' := by
  obtain ⟨h1, h2⟩ := h.kept b
  have hr := h.res
  rw [goF_none k m hc (by rw [hE]; exact h0), hE] at hr
  rw [← hr]
  exact ⟨rfl, h1, Kept.of_below h2 _⟩
theorem Getting.begins (h : Getting w wr t r g l s R (k + 1) m s') (hc : s'.c = 0) (hE : beginE l s'.at_ = 0) {w' : World} (b : Kept (fun i => i = t) wr w') (hb : Box w' t 102 (cellsP (begun l s'.at_))) : Getting w w' t r g l s R (k + 1) m (begun l s'.at_) := by
  obtain ⟨h1, h2⟩ := h.kept b
  refine ⟨hb, h1, begun_ok h.rd.fit hE, h2, h.new, ?_, h.fits, h.few, h.old⟩
  rw [← goF_begun k m hc hE]
  exact h.res
theorem Getting.takes (h : Getting w wr t r g l s R (k + 1) m s') (hc : 0 < s'.c) {w' : World} (b : Kept (fun i => i = t) wr w') (hb : Box w' t 102 (((cellsP s').setIfInBounds 1 (.int .i64 ((s'.c - 1 : Nat) : Int))).setIfInBounds 0 (.int .i64 ((s'.v % 2 ^ (s'.c - 1) : Nat) : Int)))) :
    Getting w w' t r g l s R k (2 * m + s'.v / 2 ^ (s'.c - 1)) ⟨s'.at_, s'.v % 2 ^ (s'.c - 1), s'.c - 1⟩ := by
  obtain ⟨h1, h2⟩ := h.kept b
  have hok := bitF_ok h.rd.fit h.ok
  have hbit := bitF_bit h.rd.fit h.ok
  rw [bitF_full hc] at hok hbit
  refine ⟨hb, h1, hok, h2, h.new, ?_, ?_, by have := h.few; omega, h.old⟩
  · rw [← goF_full k m hc]
    exact h.res
  · have := h.fits
    have := h.few
    rw [show 24 - k = (24 - (k + 1)) + 1 by omega, Nat.pow_succ]
    have hb2 : s'.v / 2 ^ (s'.c - 1) < 2 := hbit
    omega
end

set_option maxRecDepth 10000 in
set_option maxHeartbeats 3200000 in
theorem getBits_some (w : World) (r g : Nat) (l : List Int) (s : St) (k : Nat) (h : Rd w r g l s) (hk : k ≤ 24) : Calls Tryd.prog 66 #[.pointer (some ⟨r, 0, none⟩), .int .i64 (k : Int)] w (Got w r g l (goF l s k s 0)) := by
  have c0 : w.cell? ⟨r, 0, none⟩ = some (.int .i64 (s.v : Int)) := h.box.cell 0
  have c1 : w.cell? ⟨r, 1, none⟩ = some (.int .i64 (s.c : Int)) := h.box.cell 1
  have c2 : w.cell? ⟨r, 2, none⟩ = some (.int .i64 (s.at_ : Int)) := h.box.cell 2
  obtain ⟨R, hR⟩ : ∃ R, R = goF l s k s 0 := ⟨_, rfl⟩
  obtain ⟨w1, hw1⟩ : ∃ w1, w1 = w.alloc (.cells (cellsP s) 102) := ⟨_, rfl⟩
  obtain ⟨t, ht⟩ : ∃ t, t = w.heap.size := ⟨_, rfl⟩
  have hG : Getting w w1 t r g l s R k 0 s := by
    subst hw1 ht
    exact ⟨Box.made _ _ _, h.on (on_alloc _ _), h.ok, on_alloc _ _, Nat.le_refl _, hR.symm, pow_pos' _, hk, h.box.lt, h.own.lt⟩
  rw [← hR]
  have HG := Lib.hid (And.intro hG (And.intro hw1 ht))
  clear hG hw1 ht h hR
  go_enter Tryd.func66, Tryd.ntmps66
  go_wp2
  go_step3
  go_wp2
  go_step3
  go_wp2
  rw [show w.alloc (.cells #[.int .i64 (s.v : Int), .int .i64 (s.c : Int), .int .i64 (s.at_ : Int)] 102) = w1 from HG.out.2.1.symm, ← HG.out.2.2]
  clear c0 c1 c2
  go_loopg [1, 7] (2 * k + (if s.c = 0 then 1 else 0)) (fun q u1 u7 wr => ∃ k1 m1 s1, u1 = .int .i64 ((k1 : Nat) : Int) ∧ u7 = .int .i64 ((m1 : Nat) : Int) ∧ Getting w wr t r g l s R k1 m1 s1 ∧ q = 2 * k1 + (if s1.c = 0 then 1 else 0))
  case atStart => exact ⟨k, 0, s, rfl, rfl, HG.out.1, rfl⟩
  case round =>
    obtain ⟨k1, m1, s1, rfl, rfl, hG, hq⟩ := hrel
    have d0 : wr.cell? ⟨t, 0, none⟩ = some (.int .i64 (s1.v : Int)) := hG.place.cell 0
    have d1 : wr.cell? ⟨t, 1, none⟩ = some (.int .i64 (s1.c : Int)) := hG.place.cell 1
    have d2 : wr.cell? ⟨t, 2, none⟩ = some (.int .i64 (s1.at_ : Int)) := hG.place.cell 2
    have hrd := hG.rd
    have hk1 := hG.few
    have HR := Lib.hid (And.intro hG hq)
    clear hG hq
    by_cases h0 : k1 = 0
    · subst h0
      have e0 : wr.cell? ⟨r, 0, none⟩ = some (.int .i64 (s.v : Int)) := hrd.box.cell 0
      have e1 : wr.cell? ⟨r, 1, none⟩ = some (.int .i64 (s.c : Int)) := hrd.box.cell 1
      have e2 : wr.cell? ⟨r, 2, none⟩ = some (.int .i64 (s.at_ : Int)) := hrd.box.cell 2
      have f0 := hrd.box.free 0
      have f1 := hrd.box.free 1
      have f2 := hrd.box.free 2
      clear hrd
      go_wp2
      try rw [Exit.noGoto_ret]
      go_ret2
      exact HR.out.1.ends
    · have hk0 : 0 < k1 := by omega
      clear hrd
      go_wp2_with fail
      obtain ⟨w2, hw2⟩ : ∃ w2, wr = w2 := ⟨_, rfl⟩
      rw [hw2] at HR ⊢
      clear d0 d1 d2 hw2
      go_loopg [1, 7, 26] s1.c (fun q u1 u7 u26 wr => ∃ k2 m2 s2 j, u1 = .int .i64 ((k2 : Nat) : Int) ∧ u7 = .int .i64 ((m2 : Nat) : Int) ∧ u26 = .int .i64 ((j : Nat) : Int) ∧ Getting w wr t r g l s R k2 m2 s2 ∧ 0 < k2 ∧ q = s2.c ∧ s2.c + j = s1.c ∧ k2 + j = k1)
      case atStart => exact ⟨k1, m1, s1, 0, rfl, rfl, rfl, HR.out.1, hk0, rfl, rfl, rfl⟩
      case round =>
        obtain ⟨k2, m2, s2, j, rfl, rfl, rfl, hG, hk20, hq2, hj, hkj⟩ := hrel
        obtain ⟨k3, rfl⟩ : ∃ k3, k2 = k3 + 1 := ⟨k2 - 1, by omega⟩
        have hk24 := hG.few
        have hat := hG.ok.at_
        have hc8 := hG.ok.c
        have hv8 := hG.ok.v
        by_cases hc : s2.c = 0
        · have hj1 : ¬ (j : Int) < (s1.c : Int) := by omega
          have e3 : wr.cell? ⟨r, 3, none⟩ = some (.slice (some ⟨g, 0, none⟩) l.length l.length) := hG.rd.box.cell 3
          have HT := Lib.hid (begin_any wr t r g l s2 s hG.place hG.rd hat)
          have HI := Lib.hid (And.intro hG (And.intro hq2 (And.intro hj hkj)))
          clear hG hq2 hj hkj
          by_cases hE : beginE l s2.at_ = 0
          · go_wp2_with fail
            refine HT.out.mono ?_
            rintro e w3 ⟨rfl, hb3, b3⟩
            rw [if_pos hE] at hb3
            rw [hE]
            have H3 := Lib.hid (HI.out.1.begins hc hE b3 hb3)
            clear hb3 b3
            go_wp2
            go_roundg (2 * (k3 + 1))
            case rel => exact ⟨k3 + 1, m2, _, rfl, rfl, H3.out, rfl⟩
            case measure =>
              have := HI.out.2.2
              have h2 := HR.out.2
              rw [h2]
              split <;> omega
          · obtain ⟨E, hEE⟩ : ∃ E, E = beginE l s2.at_ := ⟨_, rfl⟩
            have hE0 : ¬ E = 0 := by rw [hEE]; exact hE
            have HE := Lib.hid (And.intro hEE hE)
            clear hE
            go_wp2_with fail
            refine HT.out.mono ?_
            rintro e w3 ⟨rfl, hb3, b3⟩
            rw [← HE.out.1]
            have H3 := Lib.hid (HI.out.1.fails hc HE.out.1.symm hE0 b3)
            clear hb3 b3 hEE
            go_wp2
            try rw [Exit.noGoto_ret]
            go_ret2
            exact H3.out
        · have hj1 : (j : Int) < (s1.c : Int) := by omega
          have hc0 : 0 < s2.c := by omega
          have hj9 : j ≤ 8 := by have := HR.out.1.ok.c; omega
          obtain ⟨c2, hc2⟩ : ∃ c2, c2 = s2.c - 1 := ⟨_, rfl⟩
          obtain ⟨b, hb⟩ : ∃ b, b = s2.v / 2 ^ c2 := ⟨_, rfl⟩
          have hb2 : b < 2 := by
            have := bitF_bit hG.rd.fit hG.ok
            rw [bitF_full hc0] at this
            rw [hb, hc2]
            exact this
          have hm2 : m2 < 16777216 := Nat.lt_of_lt_of_le hG.fits (Nat.le_trans (Nat.pow_le_pow_right (by omega) (show 24 - (k3 + 1) ≤ 24 by omega)) (by decide))
          have hor : bits .or .i64 ((m2 : Int) * 2) (b : Int) = ((2 * m2 + b : Nat) : Int) := by
            have h1 := or_i64 (m2 * 2) b (by omega) (by omega)
            have h2 := or_join m2 b 1 (by omega)
            rw [Nat.pow_one] at h2
            rw [h2] at h1
            rw [show (2 * m2 + b : Nat) = m2 * 2 + b by omega, ← h1]
            simp
          have hv40 : s2.v < 1099511627776 := Nat.lt_of_lt_of_le hv8 (Nat.le_trans (Nat.pow_le_pow_right (by omega) hc8) (by decide))
          have HT := Lib.hid (take_at wr t 0 102 (cellsP s2) s2.v s2.c c2 1 hG.place rfl rfl (by omega) (by omega) (by omega) hv40)
          have HI := Lib.hid (And.intro hG (And.intro hq2 (And.intro hj (And.intro hkj (And.intro hc2 hb)))))
          clear hG hq2 hj hkj hc2 hb hv8 hv40
          go_wp2_with fail
          refine HT.out.mono ?_
          rintro e w3 ⟨rfl, hb3, b3⟩
          rw [← HI.out.2.2.2.2.2]
          have hG3 := HI.out.1.takes hc0 b3 (by rw [← HI.out.2.2.2.2.1]; exact hb3)
          rw [← HI.out.2.2.2.2.1, ← HI.out.2.2.2.2.2] at hG3
          have hrd := hG3.rd
          have H3 := Lib.hid hG3
          clear hb3 b3 hG3
          by_cases hz : k3 = 0
          · subst hz
            have d0 : w3.cell? ⟨t, 0, none⟩ = some (.int .i64 ((s2.v % 2 ^ c2 : Nat) : Int)) := H3.out.place.cell 0
            have d1 : w3.cell? ⟨t, 1, none⟩ = some (.int .i64 (c2 : Int)) := H3.out.place.cell 1
            have d2 : w3.cell? ⟨t, 2, none⟩ = some (.int .i64 (s2.at_ : Int)) := H3.out.place.cell 2
            have e0 : w3.cell? ⟨r, 0, none⟩ = some (.int .i64 (s.v : Int)) := hrd.box.cell 0
            have e1 : w3.cell? ⟨r, 1, none⟩ = some (.int .i64 (s.c : Int)) := hrd.box.cell 1
            have e2 : w3.cell? ⟨r, 2, none⟩ = some (.int .i64 (s.at_ : Int)) := hrd.box.cell 2
            have f0 := hrd.box.free 0
            have f1 := hrd.box.free 1
            have f2 := hrd.box.free 2
            have HQ := Lib.hid H3.out.ends
            obtain ⟨vq, hvq⟩ : ∃ vq, vq = s2.v % 2 ^ c2 := ⟨_, rfl⟩
            rw [← hvq] at d0 HQ
            clear hrd hvq
            go_wp2
            try rw [Exit.noGoto_ret]
            go_ret2
            exact HQ.out
          · clear hrd
            go_wp2
            go_roundg c2
            case rel => exact ⟨k3, _, _, j + 1, by go_num, rfl, by go_num, H3.out, by omega, rfl, by have := HI.out; show c2 + (j + 1) = s1.c; omega, by have := HI.out; omega⟩
            case measure =>
              have := HI.out
              omega

theorem get_any (w : World) (r g : Nat) (l : List Int) (s : St) (k : Int) (h : Rd w r g l s) : Calls Tryd.prog 66 #[.pointer (some ⟨r, 0, none⟩), .int .i64 k] w (Got w r g l (getF l s k)) := by
  by_cases hk : k < 0 ∨ 24 < k
  · rw [getF, if_pos hk]
    exact get_range w r g l s k h (by omega)
  · rw [getF, if_neg hk]
    obtain ⟨n, rfl⟩ := Int.eq_ofNat_of_zero_le (show 0 ≤ k by omega)
    rw [Int.toNat_natCast]
    exact getBits_some w r g l s n h (by omega)
end Go.Proofs.YthfpdebpepbejaaDoor

namespace Go.Proofs.YthfpdebpepbejaaDoor
open Go.RowKit

theorem getF_one (l : List Int) (s : St) : getF l s 1 = bitF l s := by
  rw [getF, if_neg (by omega), show (1 : Int).toNat = 0 + 1 from rfl, goF]
  by_cases hc : 0 < s.c
  · rw [bitF_full hc, if_pos rfl, goF]
    simp
  · by_cases h0 : beginE l s.at_ = 0
    · rw [bitF_begun (by omega) h0, bitF_full (by show 0 < 8; omega), if_pos rfl, goF]
      simp
    · rw [bitF_none (by omega) h0, if_neg h0]

set_option maxHeartbeats 400000 in
theorem bit_any (w : World) (r g : Nat) (l : List Int) (s : St) (h : Rd w r g l s) : Calls Tryd.prog 65 #[.pointer (some ⟨r, 0, none⟩)] w (Got w r g l (bitF l s)) := by
  have HT := Lib.hid (get_any w r g l s 1 h)
  rw [getF_one] at HT
  clear h
  go_enter Tryd.func65, Tryd.ntmps65
  go_wp2_with fail
  refine HT.out.mono ?_
  rintro e w1 ⟨rfl, h1, k1⟩
  have H1 := Lib.hid (And.intro h1 k1)
  clear h1 k1
  go_wp2
  go_ret2
  exact ⟨rfl, H1.out.1, H1.out.2⟩

theorem marked_not {w : World} {r g : Nat} {l : List Int} {s : St} {E : Int} (h : Rd w r g l s) (hE : markE l s.at_ = E) (h0 : E ≠ 0) {w' : World} (hb : Below w.heap.size w w') : Got w r g l (markF l s) (.returned (.tuple #[.int .i64 0, .int .i64 E])) w' := by
  rw [markF, if_neg (by rw [hE]; exact h0), hE]
  exact ⟨rfl, h.on hb, Kept.of_below hb _⟩

theorem marked_done {w w1 : World} {r g a z : Nat} {l : List Int} {s : St} (h : Rd w r g l s) (hE : markE l s.at_ = 0) (ha : a = s.at_) (hz : z = (l.getD (s.at_ + 1) 0).toNat) (hl : s.at_ + 2 ≤ l.length) (hb : Below w.heap.size w w1) {x : Int} (hx : x = ((a + 2 : Nat) : Int)) :
    Got w r g l (markF l s) (.returned (.tuple #[.int .i64 (z : Int), .int .i64 0])) (((w1.setCell ⟨r, 0, none⟩ (.int .i64 0)).setCell ⟨r, 1, none⟩ (.int .i64 0)).setCell ⟨r, 2, none⟩ (.int .i64 x)) := by
  subst hx ha hz
  have h1 := h.on hb
  have k1 : Kept (fun i => i = r) w1 (((w1.setCell ⟨r, 0, none⟩ (.int .i64 0)).setCell ⟨r, 1, none⟩ (.int .i64 0)).setCell ⟨r, 2, none⟩ (.int .i64 ((s.at_ + 2 : Nat) : Int))) :=
    (((Kept.refl (fun i => i = r) w1).setCell (p := ⟨r, 0, none⟩) (fun _ => rfl) _).setCell (p := ⟨r, 1, none⟩) (fun _ => rfl) _).setCell (p := ⟨r, 2, none⟩) (fun _ => rfl) _
  have hbx := ((h1.box.put 0 (.int .i64 0)).put 1 (.int .i64 0)).put 2 (.int .i64 ((s.at_ + 2 : Nat) : Int))
  rw [markF, if_pos hE]
  exact ⟨rfl, ⟨hbx, k1.box h1.own (fun e => h1.apart e.symm), h1.fit, ⟨hl, Nat.zero_le _, by show 0 < 2 ^ 0; omega⟩, h1.len⟩, (Kept.of_below hb (fun i => i = r)).trans k1 (fun _ _ e => e)⟩

end Go.Proofs.YthfpdebpepbejaaDoor
