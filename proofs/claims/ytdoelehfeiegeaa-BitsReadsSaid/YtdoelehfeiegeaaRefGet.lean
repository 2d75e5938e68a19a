/-
  The contracts of the reference's Get, Skip and Marker.
-/
import Derived.Test.YtdoelehfeiegeaaRefTwo
namespace Go.Proofs.Ytdoelehfeiegeaa
open Go.RowKit

/-- a reader of the reference in memory -/
def cells3 (A : Option Addr) (n c : Nat) (s : St) (Al : Option Addr) (cl : Nat) : Array Value := #[.slice A n c, .int .i64 (s.at_ : Int), .slice Al s.c cl]
def noCells : Array Value := #[.slice none 0 0, .int .i64 0, .slice none 0 0]

set_option maxHeartbeats 400000 in
theorem refSkip_any (w : World) (A : Option Addr) (n c : Nat) (s : St) (Al : Option Addr) (cl : Nat) :
    Calls Try.prog 23 #[refV A n c s Al cl] w fun e w' => e = .returned (.tuple #[refV A n c (skipF s) none 0, .int .i64 (s.c : Int)]) ∧ Below w.heap.size w w' := by
  unfold refV skipF
  go_enter Try.func23, Try.ntmps23
  go_wp2_with fail
  go_region
  all_goals
    (go_wp2
     exact bodyPost_ret (v := .tuple #[.agg #[.slice A n c, .int .i64 (s.at_ : Int), .slice none 0 0], .int .i64 (s.c : Int)]) (by simp [results, Try.results23, go_sem]) rfl ⟨rfl, (on_trans (on_alloc _ _) (on_alloc _ _)).drew⟩)

/-- how the reference's Get stands behind i bits -/
structure RG (w wr : World) (A : Option Addr) (n c : Nat) (l : List Int) (s : St) (Al0 : Option Addr) (cl0 g2 g4 g7 : Nat) (R : St × Nat × Int) (k i m : Nat) (s' : St) (Al : Option Addr) (cl : Nat) : Prop where
  b2 : Box wr g2 42 (cells3 A n c s Al0 cl0)
  b4 : Box wr g4 42 noCells
  b7 : Box wr g7 42 (cells3 A n c s' Al cl)
  row : Il wr Al s'.c cl (dig s'.v s'.c)
  ok : s'.ok l.length
  bel : Below w.heap.size w wr
  res : goF l s (k - i) s' m = R
  fits : m < 2 ^ i

theorem goF_more {l : List Int} {s0 s' : St} {j m : Nat} {R : St × Nat × Int} (h : goF l s0 (j + 1) s' m = R) (h0 : (bitF l s').2.2 = 0) : goF l s0 j (bitF l s').1 (2 * m + (bitF l s').2.1) = R := by
  rw [goF, if_pos h0] at h
  exact h
theorem goF_fail {l : List Int} {s0 s' : St} {j m : Nat} {R : St × Nat × Int} (h : goF l s0 (j + 1) s' m = R) (h0 : (bitF l s').2.2 ≠ 0) : R = (s0, 0, (bitF l s').2.2) := by
  rw [goF, if_neg h0] at h
  exact h.symm

set_option maxRecDepth 10000 in
set_option maxHeartbeats 1600000 in
theorem refGet_some (w : World) (K : Nat → Prop) (A : Option Addr) (n c : Nat) (l : List Int) (s : St) (Al : Option Addr) (cl k : Nat) (h : Sl w K A n c l) (hI : Il w Al s.c cl (dig s.v s.c)) (hok : s.ok l.length) (hn : n ≤ 5000) (hk : k ≤ 24) :
    Calls Try.prog 21 #[refV A n c s Al cl, .int .i64 (k : Int)] w (RefGot w A n c (goF l s k s 0)) := by
  obtain ⟨R, hR⟩ : ∃ R, R = goF l s k s 0 := ⟨_, rfl⟩
  rw [← hR]
  have eV : refV A n c s Al cl = .agg #[.slice A n c, .int .i64 (s.at_ : Int), .slice Al s.c cl] := rfl
  rw [eV]
  obtain ⟨w0, hw0⟩ : ∃ w0, w0 = (w.alloc (.cells #[.slice A n c, .int .i64 (s.at_ : Int), .slice Al s.c cl] 42)).alloc (.cells #[.slice none 0 0, .int .i64 0, .slice none 0 0] 42) := ⟨_, rfl⟩
  obtain ⟨h1, h2, bel⟩ := two_made w _ _ hw0
  obtain ⟨w1, hw1⟩ : ∃ w1, w1 = w0.alloc (.cells #[.slice A n c, .int .i64 (s.at_ : Int), .slice Al s.c cl] 42) := ⟨_, rfl⟩
  have b01 : Below w0.heap.size w0 w1 := by rw [hw1]; exact on_alloc _ _
  have hs0 : w0.heap.size = w.heap.size + 1 + 1 := by rw [hw0]; simp
  have h3 : Box w1 (w.heap.size + 1 + 1) 42 (cells3 A n c s Al cl) := by rw [hw1, ← hs0]; exact Box.made _ _ _
  have hG : RG w w1 A n c l s Al cl w.heap.size (w.heap.size + 1) (w.heap.size + 1 + 1) R k 0 0 s Al cl :=
    ⟨h1.on b01, h2.on b01, h3, hI.on (on_trans bel b01), hok, on_trans bel b01, hR.symm, by omega⟩
  have HG := Lib.hid (And.intro hG (And.intro hw1 (And.intro hw0 h)))
  have HI := Lib.hid hI
  have hk2 : (k : Int) ≤ 24 := by omega
  clear h hI hok hR eV hw0 hw1 h1 h2 h3 bel b01 hs0 hG
  go_enter Try.func21, Try.ntmps21
  go_wp2_with fail
  rw [← HG.out.2.2.1, ← HG.out.2.1]
  have HS := Lib.hid HG.out.2.2.2
  have HG1 := Lib.hid HG.out.1
  clear HG
  generalize hg2 : w.heap.size = g2 at HG1 ⊢
  have HG2 := Lib.hid hg2
  clear hg2
  go_loopw [8, 9] (fun u i wr => ∃ i0 m s' Al' cl', i0 ≤ k ∧ u = .int .i64 ((m : Nat) : Int) ∧ i = .int .i64 ((i0 : Nat) : Int) ∧ RG w wr A n c l s Al cl g2 (g2 + 1) (g2 + 1 + 1) R k i0 m s' Al' cl') (fun _ i _ => k - (intOf i).toNat)
  case atStart => exact ⟨0, 0, s, Al, cl, Nat.zero_le _, rfl, rfl, HG1.out⟩
  case round =>
    obtain ⟨i0, m, s', Al', cl', hi, rfl, rfl, hR⟩ := hrel
    have p70 : wr.cell? ⟨g2 + 1 + 1, 0, none⟩ = some (.slice A n c) := hR.b7.cell 0
    have p71 : wr.cell? ⟨g2 + 1 + 1, 1, none⟩ = some (.int .i64 (s'.at_ : Int)) := hR.b7.cell 1
    have p72 : wr.cell? ⟨g2 + 1 + 1, 2, none⟩ = some (.slice Al' s'.c cl') := hR.b7.cell 2
    have hfits := hR.fits
    have HR := Lib.hid hR
    clear hR
    by_cases hlt : i0 < k
    · have hm24 : m < 16777216 := Nat.lt_of_lt_of_le hfits (Nat.le_trans (Nat.pow_le_pow_right (by omega) (show i0 ≤ 24 by omega)) (by decide))
      have HB := Lib.hid (refBit_any wr _ A n c l s' Al' cl' (HS.out.on (by exact HR.out.bel)) HR.out.row HR.out.ok hn)
      obtain ⟨j, hj⟩ : ∃ j, k - i0 = j + 1 := ⟨k - i0 - 1, by omega⟩
      have hres := HR.out.res
      rw [hj] at hres
      have hok1 := bitF_ok (show Fit l from HS.out.bts.fit) HR.out.ok
      have hbit := bitF_bit (show Fit l from HS.out.bts.fit) HR.out.ok
      obtain ⟨Q, hQ⟩ : ∃ Q, Q = bitF l s' := ⟨_, rfl⟩
      have hmore := goF_more hres
      have hfail := goF_fail hres
      rw [← hQ] at hmore hfail hok1 hbit HB
      have HJ := Lib.hid (And.intro hj (And.intro hmore (And.intro hfail hok1)))
      clear hj hres hok1 hmore hfail hQ
      go_wp2_with fail
      refine HB.out.mono ?_
      rintro e w2 ⟨Al2, cl2, rfl, hI2, b2⟩
      simp only [refV]
      have k2 := HR.out.b2.on b2
      have k4 := HR.out.b4.on b2
      have k7 := HR.out.b7.on b2
      have c20 : ∀ o, (w2.alloc o).cell? ⟨g2, 0, none⟩ = some (.slice A n c) := fun o => (k2.alloc o).cell 0
      have c21 : ∀ o, (w2.alloc o).cell? ⟨g2, 1, none⟩ = some (.int .i64 (s.at_ : Int)) := fun o => (k2.alloc o).cell 1
      have c22 : ∀ o, (w2.alloc o).cell? ⟨g2, 2, none⟩ = some (.slice Al s.c cl) := fun o => (k2.alloc o).cell 2
      have c40 : ∀ o, (w2.alloc o).cell? ⟨g2 + 1, 0, none⟩ = some (.slice none 0 0) := fun o => (k4.alloc o).cell 0
      have c41 : ∀ o, (w2.alloc o).cell? ⟨g2 + 1, 1, none⟩ = some (.int .i64 0) := fun o => (k4.alloc o).cell 1
      have c42 : ∀ o, (w2.alloc o).cell? ⟨g2 + 1, 2, none⟩ = some (.slice none 0 0) := fun o => (k4.alloc o).cell 2
      have f40 : ∀ o, (w2.alloc o).frozen? ⟨g2 + 1, 0, none⟩ = false := fun o => (k4.alloc o).free 0
      have f41 : ∀ o, (w2.alloc o).frozen? ⟨g2 + 1, 1, none⟩ = false := fun o => (k4.alloc o).free 1
      have f42 : ∀ o, (w2.alloc o).frozen? ⟨g2 + 1, 2, none⟩ = false := fun o => (k4.alloc o).free 2
      have c70 : ∀ o, (w2.alloc o).cell? ⟨g2 + 1 + 1, 0, none⟩ = some (.slice A n c) := fun o => (k7.alloc o).cell 0
      have c71 : ∀ o, (w2.alloc o).cell? ⟨g2 + 1 + 1, 1, none⟩ = some (.int .i64 (s'.at_ : Int)) := fun o => (k7.alloc o).cell 1
      have c72 : ∀ o, (w2.alloc o).cell? ⟨g2 + 1 + 1, 2, none⟩ = some (.slice Al' s'.c cl') := fun o => (k7.alloc o).cell 2
      have f70 : ∀ o, (w2.alloc o).frozen? ⟨g2 + 1 + 1, 0, none⟩ = false := fun o => (k7.alloc o).free 0
      have f71 : ∀ o, (w2.alloc o).frozen? ⟨g2 + 1 + 1, 1, none⟩ = false := fun o => (k7.alloc o).free 1
      have f72 : ∀ o, (w2.alloc o).frozen? ⟨g2 + 1 + 1, 2, none⟩ = false := fun o => (k7.alloc o).free 2
      have H2 := Lib.hid (And.intro hI2 (And.intro (on_trans HR.out.bel b2) (And.intro k2 (And.intro k4 k7))))
      clear hI2 b2 k2 k4 k7 p70 p71 p72
      obtain ⟨s1, b1, E⟩ := Q
      by_cases hE : E = 0
      · subst hE
        have hb2 : b1 < 2 := hbit
        have hm1 : m < 2 ^ i0 := hfits
        have HM := Lib.hid hm1
        clear hbit hfits hm1 c20 c21 c22 c40 c41 c42 f40 f41 f42
        go_wp2
        refine ⟨⟨i0 + 1, 2 * m + b1, s1, Al2, cl2, by omega, ?_, by go_num, ?_⟩, by simp [intOf]; omega⟩
        · congr 1
          omega
        · have hR := HR.out
          have a1 := H2.out.2.2.1.alloc (.cells #[.slice A n c, .int .i64 (s1.at_ : Int), .slice Al2 s1.c cl2] 42)
          have a2 := H2.out.2.2.2.1.alloc (.cells #[.slice A n c, .int .i64 (s1.at_ : Int), .slice Al2 s1.c cl2] 42)
          have a3 := H2.out.2.2.2.2.alloc (.cells #[.slice A n c, .int .i64 (s1.at_ : Int), .slice Al2 s1.c cl2] 42)
          have ab := on_alloc w2 (.cells #[.slice A n c, .int .i64 (s1.at_ : Int), .slice Al2 s1.c cl2] 42)
          have kk := three_kept (w2.alloc (.cells #[.slice A n c, .int .i64 (s1.at_ : Int), .slice Al2 s1.c cl2] 42)) (g2 + 1 + 1) (.slice A n c) (.int .i64 (s1.at_ : Int)) (.slice Al2 s1.c cl2)
          have hm1 := HM.out
          refine ⟨kk.box a1 (by omega), kk.box a2 (by omega), ((a3.put 0 _).put 1 _).put 2 _, ?_, HJ.out.2.2.2, threeSet (on_trans H2.out.2.1 ab) (by have := HG2.out; omega) _ _ _, ?_, ?_⟩
          · have hI := H2.out.1.on ab
            refine hI.kept kk (fun b off e hbg => ?_)
            obtain ⟨cs, fr, hh⟩ := hI.typ b off e
            rw [hbg] at hh
            have h7 : (w2.alloc (.cells #[.slice A n c, .int .i64 (s1.at_ : Int), .slice Al2 s1.c cl2] 42)).heap[g2 + 1 + 1]? = some (.cells (cells3 A n c s' Al' cl') 42 (0, 0)) := a3
            rw [hh] at h7
            cases h7
          · have h3 := HJ.out.2.1 rfl
            have h4 := HJ.out.1
            rw [show k - (i0 + 1) = j by omega]
            exact h3
          · rw [Nat.pow_succ]
            omega
      · have hE0 : ¬ E = 0 := hE
        have hE1 : (E == 0) = false := by simp; exact hE
        have HF := Lib.hid (HJ.out.2.2.1 hE)
        clear hbit hfits c70 c71 c72 f70 f71 f72
        go_wp2
        refine bodyPost_ret (v := .tuple #[.agg #[.slice A n c, .int .i64 (s.at_ : Int), .slice Al s.c cl], .int .i64 0, .int .i64 E]) (by simp [results, Try.results21, go_sem, c40, c41, c42]) rfl ?_
        rw [HF.out]
        have hfin := threeSet (on_trans H2.out.2.1 (on_alloc w2 (.cells #[.slice A n c, .int .i64 (s1.at_ : Int), .slice Al2 s1.c cl2] 42))) (g := g2 + 1) (by have := HG2.out; omega) (.slice A n c) (.int .i64 (s.at_ : Int)) (.slice Al s.c cl)
        exact ⟨Al, cl, rfl, HI.out.on hfin, hfin⟩
    · obtain rfl : i0 = k := by omega
      have hR := HR.out
      have hres := hR.res
      rw [Nat.sub_self, goF] at hres
      have c40 : wr.cell? ⟨g2 + 1, 0, none⟩ = some (.slice none 0 0) := hR.b4.cell 0
      have c41 : wr.cell? ⟨g2 + 1, 1, none⟩ = some (.int .i64 0) := hR.b4.cell 1
      have c42 : wr.cell? ⟨g2 + 1, 2, none⟩ = some (.slice none 0 0) := hR.b4.cell 2
      have f40 : wr.frozen? ⟨g2 + 1, 0, none⟩ = false := hR.b4.free 0
      have f41 : wr.frozen? ⟨g2 + 1, 1, none⟩ = false := hR.b4.free 1
      have f42 : wr.frozen? ⟨g2 + 1, 2, none⟩ = false := hR.b4.free 2
      have HE := Lib.hid hres
      clear hR hres hfits
      go_wp2
      refine bodyPost_ret (v := .tuple #[.agg #[.slice A n c, .int .i64 (s'.at_ : Int), .slice Al' s'.c cl'], .int .i64 (m : Int), .int .i64 0]) (by simp [results, Try.results21, go_sem, c40, c41, c42]) rfl ?_
      rw [← HE.out]
      have hfin := threeSet HR.out.bel (g := g2 + 1) (by have := HG2.out; omega) (.slice A n c) (.int .i64 (s'.at_ : Int)) (.slice Al' s'.c cl')
      have kk := three_kept wr (g2 + 1) (.slice A n c) (.int .i64 (s'.at_ : Int)) (.slice Al' s'.c cl')
      refine ⟨Al', cl', rfl, HR.out.row.kept kk (fun b off e hbg => ?_), hfin⟩
      obtain ⟨cs, fr, hh⟩ := HR.out.row.typ b off e
      rw [hbg] at hh
      have h4 : wr.heap[g2 + 1]? = some (.cells noCells 42 (0, 0)) := HR.out.b4
      rw [hh] at h4
      cases h4

set_option maxHeartbeats 400000 in
theorem refGet_range (w : World) (A : Option Addr) (n c : Nat) (s : St) (Al : Option Addr) (cl : Nat) (k : Int) (hI : Il w Al s.c cl (dig s.v s.c)) (hk : k < 0 ∨ (¬ k < 0 ∧ 24 < k)) :
    Calls Try.prog 21 #[refV A n c s Al cl, .int .i64 k] w (RefGot w A n c (s, 0, 2)) := by
  have HI := Lib.hid hI
  have eV : refV A n c s Al cl = .agg #[.slice A n c, .int .i64 (s.at_ : Int), .slice Al s.c cl] := rfl
  rw [eV]
  clear hI eV
  rcases hk with hk | ⟨hk0, hk⟩
  all_goals
    (go_enter Try.func21, Try.ntmps21
     go_wp2
     refine bodyPost_ret (v := .tuple #[.agg #[.slice A n c, .int .i64 (s.at_ : Int), .slice Al s.c cl], .int .i64 0, .int .i64 2]) (by simp [results, Try.results21, go_sem]) rfl ?_
     exact ⟨Al, cl, rfl, HI.out.on (on_trans (on_alloc _ _) (on_alloc _ _)), on_trans (on_alloc _ _) (on_alloc _ _)⟩)

theorem refGet_any (w : World) (K : Nat → Prop) (A : Option Addr) (n c : Nat) (l : List Int) (s : St) (Al : Option Addr) (cl : Nat) (k : Int) (h : Sl w K A n c l) (hI : Il w Al s.c cl (dig s.v s.c)) (hok : s.ok l.length) (hn : n ≤ 5000) :
    Calls Try.prog 21 #[refV A n c s Al cl, .int .i64 k] w (RefGot w A n c (getF l s k)) := by
  by_cases hk : k < 0 ∨ 24 < k
  · rw [getF, if_pos hk]
    exact refGet_range w A n c s Al cl k hI (by omega)
  · rw [getF, if_neg hk]
    obtain ⟨j, rfl⟩ := Int.eq_ofNat_of_zero_le (show 0 ≤ k by omega)
    rw [Int.toNat_natCast]
    exact refGet_some w K A n c l s Al cl j h hI hok hn (by omega)

/-- the reference's answer where there is no marker, and where there is one -/
theorem refMark_not {w w1 : World} {A : Option Addr} {n c cl : Nat} {l : List Int} {s : St} {Al : Option Addr} {E : Int} (hE : markE l s.at_ = E) (hne : E ≠ 0) (hI : Il w Al s.c cl (dig s.v s.c)) (hb : Below w.heap.size w w1) :
    RefGot w A n c (markF l s) (.returned (.tuple #[.agg #[.slice A n c, .int .i64 (s.at_ : Int), .slice Al s.c cl], .int .i64 0, .int .i64 E])) w1 := by
  rw [markF, if_neg (by rw [hE]; exact hne), hE]
  exact ⟨Al, cl, rfl, hI.on hb, hb⟩
theorem refMark_done {w w1 : World} {A : Option Addr} {n c : Nat} {l : List Int} {s : St} {z : Nat} {x : Int} (hE : markE l s.at_ = 0) (hz : z = (l.getD (s.at_ + 1) 0).toNat) (hx : x = ((s.at_ + 2 : Nat) : Int)) (hb : Below w.heap.size w w1) :
    RefGot w A n c (markF l s) (.returned (.tuple #[.agg #[.slice A n c, .int .i64 x, .slice none 0 0], .int .i64 (z : Int), .int .i64 0])) w1 := by
  subst hx hz
  rw [markF, if_pos hE]
  exact ⟨none, 0, rfl, Il.none w1, hb⟩

set_option maxHeartbeats 800000 in
theorem refMarker_short (w : World) (A : Option Addr) (n c : Nat) (l : List Int) (s : St) (Al : Option Addr) (cl : Nat) (hI : Il w Al s.c cl (dig s.v s.c)) (hl : l.length = n) (ha : n < s.at_ + 2) (hat : s.at_ ≤ n) :
    Calls Try.prog 25 #[refV A n c s Al cl] w (RefGot w A n c (markF l s)) := by
  have hE : markE l s.at_ = 3 := by rw [markE, if_pos (by omega)]
  have HN := Lib.hid (fun w1 => refMark_not (w1 := w1) (A := A) (n := n) (c := c) hE (by decide) hI)
  have eV : refV A n c s Al cl = .agg #[.slice A n c, .int .i64 (s.at_ : Int), .slice Al s.c cl] := rfl
  rw [eV]
  obtain ⟨a, haa⟩ : ∃ a, a = s.at_ := ⟨_, rfl⟩
  rw [← haa] at ha hat HN ⊢
  have ha2 : (n : Int) - a < 2 := by omega
  clear hI hE eV haa hl
  go_enter Try.func25, Try.ntmps25
  go_wp2
  refine bodyPost_ret (v := .tuple #[.agg #[.slice A n c, .int .i64 (a : Int), .slice Al s.c cl], .int .i64 0, .int .i64 3]) (by simp [results, Try.results25, go_sem]) rfl ?_
  exact HN.out _ (on_trans (on_alloc _ _) (on_alloc _ _))

set_option maxHeartbeats 800000 in
theorem refMarker_two (w : World) (K : Nat → Prop) (ba oa n c : Nat) (l : List Int) (s : St) (Al : Option Addr) (cl : Nat) (h : Sl w K (some ⟨ba, oa, none⟩) n c l) (hI : Il w Al s.c cl (dig s.v s.c)) (ha : s.at_ + 2 ≤ n) (hn : n ≤ 5000) :
    Calls Try.prog 25 #[refV (some ⟨ba, oa, none⟩) n c s Al cl] w (RefGot w (some ⟨ba, oa, none⟩) n c (markF l s)) := by
  have hlen := h.len
  have hE : markE l s.at_ = if l.getD s.at_ 0 = 255 ∧ l.getD (s.at_ + 1) 0 ≠ 255 ∧ l.getD (s.at_ + 1) 0 ≠ 0 then 0 else 4 := by rw [markE, if_neg (by omega)]
  obtain ⟨b', o', e', hcz⟩ := h.get (show s.at_ < n by omega)
  cases e'
  obtain ⟨b', o', e', hcy⟩ := h.get (show s.at_ + 1 < n by omega)
  cases e'
  have lb : ba < w.heap.size := World.block_lt_of_cell? w ⟨ba, oa + s.at_, none⟩ hcz
  have eV : refV (some ⟨ba, oa, none⟩) n c s Al cl = .agg #[.slice (some ⟨ba, oa, none⟩) n c, .int .i64 (s.at_ : Int), .slice Al s.c cl] := rfl
  rw [eV]
  obtain ⟨a, haa⟩ : ∃ a, a = s.at_ := ⟨_, rfl⟩
  obtain ⟨t, ht⟩ : ∃ t, t = s.at_ + 1 := ⟨_, rfl⟩
  obtain ⟨z, hzz⟩ : ∃ z : Nat, z = (l.getD s.at_ 0).toNat := ⟨_, rfl⟩
  obtain ⟨y, hyy⟩ : ∃ y : Nat, y = (l.getD (s.at_ + 1) 0).toNat := ⟨_, rfl⟩
  have hzi : l.getD s.at_ 0 = (z : Int) := by have := h.bts.fit.getD s.at_; omega
  have hyi : l.getD (s.at_ + 1) 0 = (y : Int) := by have := h.bts.fit.getD (s.at_ + 1); omega
  have hz8 : z ≤ 255 := by have := h.bts.fit.getD s.at_; omega
  have hy8 : y ≤ 255 := by have := h.bts.fit.getD (s.at_ + 1); omega
  rw [hzi] at hcz
  rw [hyi] at hcy
  rw [hzi, hyi] at hE
  have HN := Lib.hid (fun (w1 : World) (E : Int) (hE : markE l s.at_ = E) (hne : E ≠ 0) => refMark_not (w1 := w1) (A := some ⟨ba, oa, none⟩) (n := n) (c := c) hE hne hI)
  have HY := Lib.hid (fun (w1 : World) (x : Int) (hE : markE l s.at_ = 0) => refMark_done (w := w) (w1 := w1) (A := some ⟨ba, oa, none⟩) (n := n) (c := c) (x := x) hE hyy)
  rw [← haa] at hcz HN HY ha ⊢
  rw [← ht] at hcy
  have ht1 : (a : Int) + 1 = (t : Int) := by omega
  have htn : (t : Int) < n := by omega
  have htn2 : t < n := by omega
  have hd : ¬ (n : Int) - a < 2 := by omega
  obtain ⟨w1, hw1⟩ : ∃ w1, w1 = (w.alloc (.cells #[.slice (some ⟨ba, oa, none⟩) n c, .int .i64 (a : Int), .slice Al s.c cl] 42)).alloc (.cells #[.slice none 0 0, .int .i64 0, .slice none 0 0] 42) := ⟨_, rfl⟩
  have bel : Below w.heap.size w w1 := by rw [hw1]; exact on_trans (on_alloc _ _) (on_alloc _ _)
  have hcz1 := (bel.cell (p := ⟨ba, oa + a, none⟩) lb).trans hcz
  have hcy1 := (bel.cell (p := ⟨ba, oa + t, none⟩) lb).trans hcy
  rw [hw1] at hcz1 hcy1
  have HE := Lib.hid (And.intro hE haa)
  clear h hI hlen hE eV haa ht hzz hyy hzi hyi hcz hcy bel hw1 lb
  by_cases h1 : z = 255
  · subst h1
    by_cases h2 : y = 255
    · subst h2
      have HX := Lib.hid (show markE l a = 4 by rw [HE.out.2, HE.out.1]; simp)
      clear HE
      go_enter Try.func25, Try.ntmps25
      go_wp2
      refine bodyPost_ret (v := .tuple #[.agg #[.slice (some ⟨ba, oa, none⟩) n c, .int .i64 (a : Int), .slice Al s.c cl], .int .i64 0, .int .i64 4]) (by simp [results, Try.results25, go_sem]) rfl ?_
      exact HN.out _ 4 HX.out (by decide) (on_trans (on_alloc _ _) (on_alloc _ _))
    by_cases h3 : y = 0
    · subst h3
      have HX := Lib.hid (show markE l a = 4 by rw [HE.out.2, HE.out.1]; simp)
      clear HE
      go_enter Try.func25, Try.ntmps25
      go_wp2
      refine bodyPost_ret (v := .tuple #[.agg #[.slice (some ⟨ba, oa, none⟩) n c, .int .i64 (a : Int), .slice Al s.c cl], .int .i64 0, .int .i64 4]) (by simp [results, Try.results25, go_sem]) rfl ?_
      exact HN.out _ 4 HX.out (by decide) (on_trans (on_alloc _ _) (on_alloc _ _))
    · have HX := Lib.hid (show markE l a = 0 by rw [HE.out.2, HE.out.1, if_pos ⟨rfl, by omega, by omega⟩])
      have g2 : ((y : Int) == 255) = false := by simp; omega
      have g3 : ((y : Int) == 0) = false := by simp; omega
      have g4 : ¬ (y : Int) = 255 := by omega
      have g5 : ¬ (y : Int) = 0 := by omega
      clear HE
      go_enter Try.func25, Try.ntmps25
      go_wp2
      refine bodyPost_ret (v := .tuple #[.agg #[.slice (some ⟨ba, oa, none⟩) n c, .int .i64 ((a : Int) + 2), .slice none 0 0], .int .i64 (y : Int), .int .i64 0]) (by simp [results, Try.results25, go_sem]) rfl ?_
      exact HY.out _ _ HX.out (by omega) (on_trans (on_alloc _ _) (on_alloc _ _))
  · have HX := Lib.hid (show markE l a = 4 by rw [HE.out.2, HE.out.1, if_neg (fun e => h1 (by have := e.1; omega))])
    have g1 : z < 255 := by omega
    clear HE
    go_enter Try.func25, Try.ntmps25
    go_wp2
    refine bodyPost_ret (v := .tuple #[.agg #[.slice (some ⟨ba, oa, none⟩) n c, .int .i64 (a : Int), .slice Al s.c cl], .int .i64 0, .int .i64 4]) (by simp [results, Try.results25, go_sem]) rfl ?_
    exact HN.out _ 4 HX.out (by decide) (on_trans (on_alloc _ _) (on_alloc _ _))

theorem refMarker_any (w : World) (K : Nat → Prop) (A : Option Addr) (n c : Nat) (l : List Int) (s : St) (Al : Option Addr) (cl : Nat) (h : Sl w K A n c l) (hI : Il w Al s.c cl (dig s.v s.c)) (hok : s.ok l.length) (hn : n ≤ 5000) :
    Calls Try.prog 25 #[refV A n c s Al cl] w (RefGot w A n c (markF l s)) := by
  have hlen := h.len
  by_cases ha : n < s.at_ + 2
  · exact refMarker_short w A n c l s Al cl hI hlen ha (by have := hok.at_; omega)
  obtain ⟨ba, oa, rfl, _⟩ := h.get (show s.at_ < n by omega)
  exact refMarker_two w K ba oa n c l s Al cl h hI (by omega) hn
end Go.Proofs.Ytdoelehfeiegeaa
