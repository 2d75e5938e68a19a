/-
  The contract of the reference's Get.
-/
import Derived.Test.YthfpdebpepbejaaDoorRefGetT
namespace Go.Proofs.YthfpdebpepbejaaDoor
open Go.RowKit

/-- how the reference's Get stands behind i bits -/
structure RG (w wr : World) (A : Option Addr) (n c : Nat) (l : List Int) (s : St) (Al0 : Option Addr) (cl0 g2 g4 g7 : Nat) (R : St × Nat × Int) (k i m : Nat) (s' : St) (Al : Option Addr) (cl : Nat) : Prop where
  b2 : Box wr g2 61 (cells3 A n c s Al0 cl0)
  b4 : Box wr g4 61 noCells
  b7 : Box wr g7 61 (cells3 A n c s' Al cl)
  row : Il wr Al s'.c cl (dig s'.v s'.c)
  ok : s'.ok l.length
  bel : Below w.heap.size w wr
  res : goF l s (k - i) s' m = R
  fits : m < 2 ^ i

theorem goF_more {l : List Int} {s0 s' : St} {j m : Nat} {R : St × Nat × Int} (h : goF l s0 (j + 1) s' m = R) (h0 : (bitF l s').2.2 = 0) : goF l s0 j (bitF l s').1 (2 * m + (bitF l s').2.1) = R := by
  rw [goF, if_pos h0] at h
  exact h
theorem goF_fail {l : List Int} {s0 s' : St} {j m : Nat} {R : St × Nat × Int} (h : goF l s0 (j + 1) s' m = R) (h0 : (bitF l s').2.2 ≠ 0) : R = (s0, 0, (bitF l s').2.2) := by
  rw [goF, if_neg h0] at h
  exact h.symm

set_option maxRecDepth 10000 in
set_option maxHeartbeats 1600000 in
theorem refGet_some (w : World) (K : Nat → Prop) (A : Option Addr) (n c : Nat) (l : List Int) (s : St) (Al : Option Addr) (cl k : Nat) (h : Sl w K A n c l) (hI : Il w Al s.c cl (dig s.v s.c)) (hok : s.ok l.length) (hn : n ≤ 5000) (hk : k ≤ 24) :
    Calls Tryd.prog 62 #[refV A n c s Al cl, .int .i64 (k : Int)] w (RefGot w A n c (goF l s k s 0)) := by
  obtain ⟨R, hR⟩ : ∃ R, R = goF l s k s 0 := ⟨_, rfl⟩
  rw [← hR]
  have eV : refV A n c s Al cl = .agg #[.slice A n c, .int .i64 (s.at_ : Int), .slice Al s.c cl] := rfl
  rw [eV]
  obtain ⟨w0, hw0⟩ : ∃ w0, w0 = (w.alloc (.cells #[.slice A n c, .int .i64 (s.at_ : Int), .slice Al s.c cl] 61)).alloc (.cells #[.slice none 0 0, .int .i64 0, .slice none 0 0] 61) := ⟨_, rfl⟩
  obtain ⟨h1, h2, bel⟩ := two_made w _ _ hw0
  obtain ⟨w1, hw1⟩ : ∃ w1, w1 = w0.alloc (.cells #[.slice A n c, .int .i64 (s.at_ : Int), .slice Al s.c cl] 61) := ⟨_, rfl⟩
  have b01 : Below w0.heap.size w0 w1 := by rw [hw1]; exact on_alloc _ _
  have hs0 : w0.heap.size = w.heap.size + 1 + 1 := by rw [hw0]; simp
  have h3 : Box w1 (w.heap.size + 1 + 1) 61 (cells3 A n c s Al cl) := by rw [hw1, ← hs0]; exact Box.made _ _ _
  have hG : RG w w1 A n c l s Al cl w.heap.size (w.heap.size + 1) (w.heap.size + 1 + 1) R k 0 0 s Al cl :=
    ⟨h1.on b01, h2.on b01, h3, hI.on (on_trans bel b01), hok, on_trans bel b01, hR.symm, by omega⟩
  have HG := Lib.hid (And.intro hG (And.intro hw1 (And.intro hw0 h)))
  have HI := Lib.hid hI
  have hk2 : (k : Int) ≤ 24 := by omega
  clear h hI hok hR eV hw0 hw1 h1 h2 h3 bel b01 hs0 hG
  go_enter Tryd.func62, Tryd.ntmps62
  go_wp2_with fail
  rw [← HG.out.2.2.1, ← HG.out.2.1]
  have HS := Lib.hid HG.out.2.2.2
  have HG1 := Lib.hid HG.out.1
  clear HG
  generalize hg2 : w.heap.size = g2 at HG1 ⊢
  have HG2 := Lib.hid hg2
  clear hg2
  go_loopw [8, 9] (fun u i wr => ∃ i0 m s' Al' cl', i0 ≤ k ∧ u = .int .i64 ((m : Nat) : Int) ∧ i = .int .i64 ((i0 : Nat) : Int) ∧ RG w wr A n c l s Al cl g2 (g2 + 1) (g2 + 1 + 1) R k i0 m s' Al' cl') (fun _ i _ => k - (intOf i).toNat)
  case atStart => exact ⟨0, 0, s, Al, cl, Nat.zero_le _, rfl, rfl, HG1.out⟩
  case round =>
    obtain ⟨i0, m, s', Al', cl', hi, rfl, rfl, hR⟩ := hrel
    have p70 : wr.cell? ⟨g2 + 1 + 1, 0, none⟩ = some (.slice A n c) := hR.b7.cell 0
    have p71 : wr.cell? ⟨g2 + 1 + 1, 1, none⟩ = some (.int .i64 (s'.at_ : Int)) := hR.b7.cell 1
    have p72 : wr.cell? ⟨g2 + 1 + 1, 2, none⟩ = some (.slice Al' s'.c cl') := hR.b7.cell 2
    have hfits := hR.fits
    have HR := Lib.hid hR
    clear hR
    by_cases hlt : i0 < k
    · have hm24 : m < 16777216 := Nat.lt_of_lt_of_le hfits (Nat.le_trans (Nat.pow_le_pow_right (by omega) (show i0 ≤ 24 by omega)) (by decide))
      have HB := Lib.hid (refBit_any wr _ A n c l s' Al' cl' (HS.out.on (by exact HR.out.bel)) HR.out.row HR.out.ok hn)
      obtain ⟨j, hj⟩ : ∃ j, k - i0 = j + 1 := ⟨k - i0 - 1, by omega⟩
      have hres := HR.out.res
      rw [hj] at hres
      have hok1 := bitF_ok (show Fit l from HS.out.bts.fit) HR.out.ok
      have hbit := bitF_bit (show Fit l from HS.out.bts.fit) HR.out.ok
      obtain ⟨Q, hQ⟩ : ∃ Q, Q = bitF l s' := ⟨_, rfl⟩
      have hmore := goF_more hres
      have hfail := goF_fail hres
      rw [← hQ] at hmore hfail hok1 hbit HB
      have HJ := Lib.hid (And.intro hj (And.intro hmore (And.intro hfail hok1)))
      clear hj hres hok1 hmore hfail hQ
      go_wp2_with fail
      refine HB.out.mono ?_
      rintro e w2 ⟨Al2, cl2, rfl, hI2, b2⟩
      simp only [refV]
      have k2 := HR.out.b2.on b2
      have k4 := HR.out.b4.on b2
      have k7 := HR.out.b7.on b2
      have c20 : ∀ o, (w2.alloc o).cell? ⟨g2, 0, none⟩ = some (.slice A n c) := fun o => (k2.alloc o).cell 0
      have c21 : ∀ o, (w2.alloc o).cell? ⟨g2, 1, none⟩ = some (.int .i64 (s.at_ : Int)) := fun o => (k2.alloc o).cell 1
      have c22 : ∀ o, (w2.alloc o).cell? ⟨g2, 2, none⟩ = some (.slice Al s.c cl) := fun o => (k2.alloc o).cell 2
      have c40 : ∀ o, (w2.alloc o).cell? ⟨g2 + 1, 0, none⟩ = some (.slice none 0 0) := fun o => (k4.alloc o).cell 0
      have c41 : ∀ o, (w2.alloc o).cell? ⟨g2 + 1, 1, none⟩ = some (.int .i64 0) := fun o => (k4.alloc o).cell 1
      have c42 : ∀ o, (w2.alloc o).cell? ⟨g2 + 1, 2, none⟩ = some (.slice none 0 0) := fun o => (k4.alloc o).cell 2
      have f40 : ∀ o, (w2.alloc o).frozen? ⟨g2 + 1, 0, none⟩ = false := fun o => (k4.alloc o).free 0
      have f41 : ∀ o, (w2.alloc o).frozen? ⟨g2 + 1, 1, none⟩ = false := fun o => (k4.alloc o).free 1
      have f42 : ∀ o, (w2.alloc o).frozen? ⟨g2 + 1, 2, none⟩ = false := fun o => (k4.alloc o).free 2
      have c70 : ∀ o, (w2.alloc o).cell? ⟨g2 + 1 + 1, 0, none⟩ = some (.slice A n c) := fun o => (k7.alloc o).cell 0
      have c71 : ∀ o, (w2.alloc o).cell? ⟨g2 + 1 + 1, 1, none⟩ = some (.int .i64 (s'.at_ : Int)) := fun o => (k7.alloc o).cell 1
      have c72 : ∀ o, (w2.alloc o).cell? ⟨g2 + 1 + 1, 2, none⟩ = some (.slice Al' s'.c cl') := fun o => (k7.alloc o).cell 2
      have f70 : ∀ o, (w2.alloc o).frozen? ⟨g2 + 1 + 1, 0, none⟩ = false := fun o => (k7.alloc o).free 0
      have f71 : ∀ o, (w2.alloc o).frozen? ⟨g2 + 1 + 1, 1, none⟩ = false := fun o => (k7.alloc o).free 1
      have f72 : ∀ o, (w2.alloc o).frozen? ⟨g2 + 1 + 1, 2, none⟩ = false := fun o => (k7.alloc o).free 2
      have H2 := Lib.hid (And.intro hI2 (And.intro (on_trans HR.out.bel b2) (And.intro k2 (And.intro k4 k7))))
      clear hI2 b2 k2 k4 k7 p70 p71 p72
      obtain ⟨s1, b1, E⟩ := Q
      by_cases hE : E = 0
      · subst hE
        have hb2 : b1 < 2 := hbit
        have hm1 : m < 2 ^ i0 := hfits
        have HM := Lib.hid hm1
        clear hbit hfits hm1 c20 c21 c22 c40 c41 c42 f40 f41 f42
        go_wp2
        refine ⟨⟨i0 + 1, 2 * m + b1, s1, Al2, cl2, by omega, ?_, by go_num, ?_⟩, by simp [intOf]; omega⟩
        · congr 1
          omega
        · have hR := HR.out
          have a1 := H2.out.2.2.1.alloc (.cells #[.slice A n c, .int .i64 (s1.at_ : Int), .slice Al2 s1.c cl2] 61)
          have a2 := H2.out.2.2.2.1.alloc (.cells #[.slice A n c, .int .i64 (s1.at_ : Int), .slice Al2 s1.c cl2] 61)
          have a3 := H2.out.2.2.2.2.alloc (.cells #[.slice A n c, .int .i64 (s1.at_ : Int), .slice Al2 s1.c cl2] 61)
          have ab := on_alloc w2 (.cells #[.slice A n c, .int .i64 (s1.at_ : Int), .slice Al2 s1.c cl2] 61)
          have kk := three_kept (w2.alloc (.cells #[.slice A n c, .int .i64 (s1.at_ : Int), .slice Al2 s1.c cl2] 61)) (g2 + 1 + 1) (.slice A n c) (.int .i64 (s1.at_ : Int)) (.slice Al2 s1.c cl2)
          have hm1 := HM.out
          refine ⟨kk.box a1 (by omega), kk.box a2 (by omega), ((a3.put 0 _).put 1 _).put 2 _, ?_, HJ.out.2.2.2, threeSet (on_trans H2.out.2.1 ab) (by have := HG2.out; omega) _ _ _, ?_, ?_⟩
          · have hI := H2.out.1.on ab
            refine hI.kept kk (fun b off e hbg => ?_)
            obtain ⟨cs, fr, hh⟩ := hI.typ b off e
            rw [hbg] at hh
            have h7 : (w2.alloc (.cells #[.slice A n c, .int .i64 (s1.at_ : Int), .slice Al2 s1.c cl2] 61)).heap[g2 + 1 + 1]? = some (.cells (cells3 A n c s' Al' cl') 61 (0, 0)) := a3
            rw [hh] at h7
            cases h7
          · have h3 := HJ.out.2.1 rfl
            have h4 := HJ.out.1
            rw [show k - (i0 + 1) = j by omega]
            exact h3
          · rw [Nat.pow_succ]
            omega
      · have hE0 : ¬ E = 0 := hE
        have hE1 : (E == 0) = false := by simp; exact hE
        have HF := Lib.hid (HJ.out.2.2.1 hE)
        clear hbit hfits c70 c71 c72 f70 f71 f72
        go_wp2
        refine bodyPost_ret (v := .tuple #[.agg #[.slice A n c, .int .i64 (s.at_ : Int), .slice Al s.c cl], .int .i64 0, .int .i64 E]) (by simp [results, Tryd.results62, go_sem, c40, c41, c42]) rfl ?_
        rw [HF.out]
        have hfin := threeSet (on_trans H2.out.2.1 (on_alloc w2 (.cells #[.slice A n c, .int .i64 (s1.at_ : Int), .slice Al2 s1.c cl2] 61))) (g := g2 + 1) (by have := HG2.out; omega) (.slice A n c) (.int .i64 (s.at_ : Int)) (.slice Al s.c cl)
        exact ⟨Al, cl, rfl, HI.out.on hfin, hfin⟩
    · obtain rfl : i0 = k := by omega
      have hR := HR.out
      have hres := hR.res
      rw [Nat.sub_self, goF] at hres
      have c40 : wr.cell? ⟨g2 + 1, 0, none⟩ = some (.slice none 0 0) := hR.b4.cell 0
      have c41 : wr.cell? ⟨g2 + 1, 1, none⟩ = some (.int .i64 0) := hR.b4.cell 1
      have c42 : wr.cell? ⟨g2 + 1, 2, none⟩ = some (.slice none 0 0) := hR.b4.cell 2
      have f40 : wr.frozen? ⟨g2 + 1, 0, none⟩ = false := hR.b4.free 0
      have f41 : wr.frozen? ⟨g2 + 1, 1, none⟩ = false := hR.b4.free 1
      have f42 : wr.frozen? ⟨g2 + 1, 2, none⟩ = false := hR.b4.free 2
      have HE := Lib.hid hres
      clear hR hres hfits
      go_wp2
      refine bodyPost_ret (v := .tuple #[.agg #[.slice A n c, .int .i64 (s'.at_ : Int), .slice Al' s'.c cl'], .int .i64 (m : Int), .int .i64 0]) (by simp [results, Tryd.results62, go_sem, c40, c41, c42]) rfl ?_
      rw [← HE.out]
      have hfin := threeSet HR.out.bel (g := g2 + 1) (by have := HG2.out; omega) (.slice A n c) (.int .i64 (s'.at_ : Int)) (.slice Al' s'.c cl')
      have kk := three_kept wr (g2 + 1) (.slice A n c) (.int .i64 (s'.at_ : Int)) (.slice Al' s'.c cl')
      refine ⟨Al', cl', rfl, HR.out.row.kept kk (fun b off e hbg => ?_), hfin⟩
      obtain ⟨cs, fr, hh⟩ := HR.out.row.typ b off e
      rw [hbg] at hh
      have h4 : wr.heap[g2 + 1]? = some (.cells noCells 61 (0, 0)) := HR.out.b4
      rw [hh] at h4
      cases h4

set_option maxHeartbeats 400000 in
theorem refGet_range (w : World) (A : Option Addr) (n c : Nat) (s : St) (Al : Option Addr) (cl : Nat) (k : Int) (hI : Il w Al s.c cl (dig s.v s.c)) (hk : k < 0 ∨ (¬ k < 0 ∧ 24 < k)) :
    Calls Tryd.prog 62 #[refV A n c s Al cl, .int .i64 k] w (RefGot w A n c (s, 0, 2)) := by
  have HI := Lib.hid hI
  have eV : refV A n c s Al cl = .agg #[.slice A n c, .int .i64 (s.at_ : Int), .slice Al s.c cl] := rfl
  rw [eV]
  clear hI eV
  rcases hk with hk | ⟨hk0, hk⟩
  all_goals
    (go_enter Tryd.func62, Tryd.ntmps62
     go_wp2
     refine bodyPost_ret (v := .tuple #[.agg #[.slice A n c, .int .i64 (s.at_ : Int), .slice Al s.c cl], .int .i64 0, .int .i64 2]) (by simp [results, Tryd.results62, go_sem]) rfl ?_
     exact ⟨Al, cl, rfl, HI.out.on (on_trans (on_alloc _ _) (on_alloc _ _)), on_trans (on_alloc _ _) (on_alloc _ _)⟩)

theorem refGet_any (w : World) (K : Nat → Prop) (A : Option Addr) (n c : Nat) (l : List Int) (s : St) (Al : Option Addr) (cl : Nat) (k : Int) (h : Sl w K A n c l) (hI : Il w Al s.c cl (dig s.v s.c)) (hok : s.ok l.length) (hn : n ≤ 5000) :
    Calls Tryd.prog 62 #[refV A n c s Al cl, .int .i64 k] w (RefGot w A n c (getF l s k)) := by
  by_cases hk : k < 0 ∨ 24 < k
  · rw [getF, if_pos hk]
    exact refGet_range w A n c s Al cl k hI (by omega)
  · rw [getF, if_neg hk]
    obtain ⟨j, rfl⟩ := Int.eq_ofNat_of_zero_le (show 0 ≤ k by omega)
    rw [Int.toNat_natCast]
    exact refGet_some w K A n c l s Al cl j h hI hok hn (by omega)
end Go.Proofs.YthfpdebpepbejaaDoor
