/-
  The contract of the reference's Get by a list of codes.
-/
import Derived.Test.YthfpdebpepbejaaDoorGetT
import Derived.Test.YthfpdebpepbejaaDoorFind
import Derived.Test.YthfpdebpepbejaaDoorRefTwo
namespace Go.Proofs.YthfpdebpepbejaaDoor
open Go.RowKit

/-- a reader of the reference in memory -/
def cells3 (A : Option Addr) (n c : Nat) (s : St) (Al : Option Addr) (cl : Nat) : Array Value := #[.slice A n c, .int .i64 (s.at_ : Int), .slice Al s.c cl]
def noCells : Array Value := #[.slice none 0 0, .int .i64 0, .slice none 0 0]
/-- what the reference's Get tells -/
def RefGotT (w : World) (A : Option Addr) (n c : Nat) (R : St × Int × Int) (e : Ending) (w' : World) : Prop :=
  ∃ Al cl, e = .returned (.tuple #[refV A n c R.1 Al cl, .int .i64 R.2.1, .int .i64 R.2.2]) ∧ Il w' Al R.1.c cl (dig R.1.v R.1.c) ∧ Below w.heap.size w w'
theorem kept3 (w : World) (g : Nat) (x0 x1 x2 : Value) : Kept (fun i => i = g) w (((w.setCell ⟨g, 0, none⟩ x0).setCell ⟨g, 1, none⟩ x1).setCell ⟨g, 2, none⟩ x2) :=
  (((Kept.refl (fun i => i = g) w).setCell (p := ⟨g, 0, none⟩) (fun _ => rfl) _).setCell (p := ⟨g, 1, none⟩) (fun _ => rfl) _).setCell (p := ⟨g, 2, none⟩) (fun _ => rfl) _

/-- numbers stay when a reader's cells are written -/
theorem il_set48 {w : World} {g k cl : Nat} {cs : Array Value} {Al : Option Addr} {xs : List Int} (hI : Il w Al k cl xs) (hb : Box w g 61 cs) (x0 x1 x2 : Value) : Il (((w.setCell ⟨g, 0, none⟩ x0).setCell ⟨g, 1, none⟩ x1).setCell ⟨g, 2, none⟩ x2) Al k cl xs := by
  refine hI.kept (kept3 w g x0 x1 x2) (fun b off e hbg => ?_)
  obtain ⟨cs', fr, hh⟩ := hI.typ b off e
  unfold Box at hb
  rw [hbg, hb] at hh
  cases hh

/-- how it stands behind k bits -/
structure RGT (w wr : World) (A : Option Addr) (n c : Nat) (L : List En) (l : List Int) (g3 g4 : Nat) (R : St × Int × Int) (k m : Nat) (s' : St) (Al : Option Addr) (cl : Nat) : Prop where
  b3 : Box wr g3 61 (cells3 A n c s' Al cl)
  b4 : Box wr g4 61 noCells
  row : Il wr Al s'.c cl (dig s'.v s'.c)
  ok : s'.ok l.length
  bel : Below w.heap.size w wr
  res : getsF L l (16 - k) s' m k = R
  fits : m < 2 ^ k

set_option maxRecDepth 20000 in
set_option maxHeartbeats 2400000 in
theorem refGetT_any (w : World) (K : Nat → Prop) (Ac : Option Addr) (nc cc : Nat) (L : List En) (A : Option Addr) (n c : Nat) (l : List Int) (s : St) (Al : Option Addr) (cl : Nat) (hT : Te w Ac nc L) (hnc : nc ≤ 1000) (h : Sl w K A n c l) (hI : Il w Al s.c cl (dig s.v s.c)) (hok : s.ok l.length) (hn : n ≤ 5000) :
    Calls Tryd.prog 52 #[.slice Ac nc cc, refV A n c s Al cl] w (RefGotT w A n c (getsF L l 16 s 0 0)) := by
  obtain ⟨R, hR⟩ : ∃ R, R = getsF L l 16 s 0 0 := ⟨_, rfl⟩
  rw [← hR]
  have eV : refV A n c s Al cl = .agg #[.slice A n c, .int .i64 (s.at_ : Int), .slice Al s.c cl] := rfl
  rw [eV]
  have hz48 : ∀ w, (zeroValue 61).run Tryd.prog w = .ok (.agg #[.slice none 0 0, .int .i64 0, .slice none 0 0]) w := fun w => by kernel_rfl
  obtain ⟨w0, hw0⟩ : ∃ w0, w0 = (w.alloc (.cells #[.slice A n c, .int .i64 (s.at_ : Int), .slice Al s.c cl] 61)).alloc (.cells #[.slice none 0 0, .int .i64 0, .slice none 0 0] 61) := ⟨_, rfl⟩
  obtain ⟨h1, h2, bel⟩ := two_made w _ _ hw0
  obtain ⟨g3, hg3⟩ : ∃ g3, g3 = w.heap.size := ⟨_, rfl⟩
  rw [← hg3] at h1 h2
  have hG : RGT w w0 A n c L l g3 (g3 + 1) R 0 0 s Al cl := ⟨h1, h2, hI.on bel, hok, bel, hR.symm, by omega⟩
  have HG := Lib.hid (And.intro hG (And.intro hw0 hg3))
  have HS := Lib.hid (And.intro h hT)
  clear hG hw0 h1 h2 bel hI hok hR h hT eV hg3
  go_enter Tryd.func52, Tryd.ntmps52
  go_wp2_with fail
  rw [← HG.out.2.1, ← HG.out.2.2]
  go_loopw [7, 8] (fun x z wr => ∃ k zz m s' Al' cl', k ≤ 16 ∧ zz = k + 1 ∧ x = .int .i64 ((m : Nat) : Int) ∧ z = .int .i64 ((zz : Nat) : Int) ∧ RGT w wr A n c L l g3 (g3 + 1) R k m s' Al' cl') (fun _ z _ => 17 - (intOf z).toNat)
  case atStart => exact ⟨0, 1, 0, s, Al, cl, by omega, rfl, rfl, rfl, HG.out.1⟩
  case round =>
    obtain ⟨k, z, m, s', Al', cl', hk, hz, rfl, rfl, hR⟩ := hrel
    have c30 : wr.cell? ⟨g3, 0, none⟩ = some (.slice A n c) := hR.b3.cell 0
    have c31 : wr.cell? ⟨g3, 1, none⟩ = some (.int .i64 (s'.at_ : Int)) := hR.b3.cell 1
    have c32 : wr.cell? ⟨g3, 2, none⟩ = some (.slice Al' s'.c cl') := hR.b3.cell 2
    have hfits := hR.fits
    have HR := Lib.hid (And.intro hR hz)
    by_cases hlt : k < 16
    · have hm16 : m < 65536 := Nat.lt_of_lt_of_le hfits (pow16 (by omega))
      have hz16 : z ≤ 16 := by omega
      have hz16i : (z : Int) ≤ 16 := by omega
      have HB := Lib.hid (refBit_any wr _ A n c l s' Al' cl' (HS.out.1.on hR.bel) hR.row hR.ok hn)
      obtain ⟨j, hj⟩ : ∃ j, 16 - k = j + 1 := ⟨16 - k - 1, by omega⟩
      have hres := hR.res
      rw [hj] at hres
      have hok1 := bitF_ok (show Fit l from HS.out.1.bts.fit) hR.ok
      have hbit := bitF_bit (show Fit l from HS.out.1.bts.fit) hR.ok
      have hstay : (bitF l s').2.2 = 0 ∨ (bitF l s').1 = s' := by
        unfold bitF
        split
        · exact .inl rfl
        · split
          · exact .inl rfl
          · exact .inr rfl
      obtain ⟨Q, hQ⟩ : ∃ Q, Q = bitF l s' := ⟨_, rfl⟩
      rw [← hQ] at hok1 hbit HB hstay
      have HJ := Lib.hid (And.intro hj (And.intro hres (And.intro hok1 (And.intro hQ hstay))))
      clear hj hres hok1 hQ hR hz hstay
      go_wp2_with fail
      refine HB.out.mono ?_
      rintro e w2 ⟨Al2, cl2, rfl, hI2, b2⟩
      simp only [refV]
      obtain ⟨s1, b1, E⟩ := Q
      dsimp only at hbit hI2 ⊢
      have k3 := HR.out.1.b3.on b2
      have k4 := HR.out.1.b4.on b2
      have c30 : ∀ o, (w2.alloc o).cell? ⟨g3, 0, none⟩ = some (.slice A n c) := fun o => (k3.alloc o).cell 0
      have c31 : ∀ o, (w2.alloc o).cell? ⟨g3, 1, none⟩ = some (.int .i64 (s'.at_ : Int)) := fun o => (k3.alloc o).cell 1
      have c32 : ∀ o, (w2.alloc o).cell? ⟨g3, 2, none⟩ = some (.slice Al' s'.c cl') := fun o => (k3.alloc o).cell 2
      have c40 : ∀ o, (w2.alloc o).cell? ⟨g3 + 1, 0, none⟩ = some (.slice none 0 0) := fun o => (k4.alloc o).cell 0
      have c41 : ∀ o, (w2.alloc o).cell? ⟨g3 + 1, 1, none⟩ = some (.int .i64 0) := fun o => (k4.alloc o).cell 1
      have c42 : ∀ o, (w2.alloc o).cell? ⟨g3 + 1, 2, none⟩ = some (.slice none 0 0) := fun o => (k4.alloc o).cell 2
      have f30 : ∀ o, (w2.alloc o).frozen? ⟨g3, 0, none⟩ = false := fun o => (k3.alloc o).free 0
      have f31 : ∀ o, (w2.alloc o).frozen? ⟨g3, 1, none⟩ = false := fun o => (k3.alloc o).free 1
      have f32 : ∀ o, (w2.alloc o).frozen? ⟨g3, 2, none⟩ = false := fun o => (k3.alloc o).free 2
      have f40 : ∀ o, (w2.alloc o).frozen? ⟨g3 + 1, 0, none⟩ = false := fun o => (k4.alloc o).free 0
      have f41 : ∀ o, (w2.alloc o).frozen? ⟨g3 + 1, 1, none⟩ = false := fun o => (k4.alloc o).free 1
      have f42 : ∀ o, (w2.alloc o).frozen? ⟨g3 + 1, 2, none⟩ = false := fun o => (k4.alloc o).free 2
      have H2 := Lib.hid (And.intro hI2 (And.intro (on_trans HR.out.1.bel b2) (And.intro k3 k4)))
      have HW2 := Lib.hid (HR.out.1.row.on b2)
      clear hI2 b2 k3 k4
      have hg3w := HG.out.2.2
      by_cases hE : E = 0
      · subst hE
        obtain ⟨m', hm'⟩ : ∃ m', m' = 2 * m + b1 := ⟨_, rfl⟩
        have hmm : (m : Int) * 2 + (b1 : Int) = (m' : Int) := by omega
        have hm17 : m' < 200000 := by omega
        obtain ⟨w4, hw4⟩ : ∃ w4, w4 = (((w2.alloc (.cells #[.slice A n c, .int .i64 (s1.at_ : Int), .slice Al2 s1.c cl2] 61)).setCell ⟨g3, 0, none⟩ (.slice A n c)).setCell ⟨g3, 1, none⟩ (.int .i64 (s1.at_ : Int))).setCell ⟨g3, 2, none⟩ (.slice Al2 s1.c cl2) := ⟨_, rfl⟩
        have a1 := (H2.out.2.2.1.alloc (.cells #[.slice A n c, .int .i64 (s1.at_ : Int), .slice Al2 s1.c cl2] 61))
        have a2 := (H2.out.2.2.2.alloc (.cells #[.slice A n c, .int .i64 (s1.at_ : Int), .slice Al2 s1.c cl2] 61))
        have kk := kept3 (w2.alloc (.cells #[.slice A n c, .int .i64 (s1.at_ : Int), .slice Al2 s1.c cl2] 61)) g3 (.slice A n c) (.int .i64 (s1.at_ : Int)) (.slice Al2 s1.c cl2)
        have hab := on_alloc w2 (.cells #[.slice A n c, .int .i64 (s1.at_ : Int), .slice Al2 s1.c cl2] 61)
        have e3 : Box w4 g3 61 (cells3 A n c s1 Al2 cl2) := by rw [hw4]; exact ((a1.put 0 _).put 1 _).put 2 _
        have e4 : Box w4 (g3 + 1) 61 noCells := by rw [hw4]; exact kk.box a2 (by omega)
        have eb : Below w.heap.size w w4 := by rw [hw4]; exact threeSet (on_trans H2.out.2.1 hab) (by omega) _ _ _
        have eI : Il w4 Al2 s1.c cl2 (dig s1.v s1.c) := by
          have hI := H2.out.1.on hab
          rw [hw4]
          exact il_set48 hI a1 _ _ _
        have H4 := Lib.hid (And.intro e3 (And.intro e4 (And.intro eb (And.intro eI (And.intro hw4 hm')))))
        clear a1 a2 kk hab e3 e4 eb eI hw4 hm' hg3w c40 c41 c42 f40 f41 f42
        go_wp2
        rw [← H4.out.2.2.2.2.1]
        clear c30 c31 c32 f30 f31 f32
        go_loopw [12] (fun i w5 => ∃ k2 : Nat, k2 ≤ nc ∧ i = .int .i64 k2 ∧ (∀ (q : Nat) (y : En), q < k2 → L[q]? = some y → (y.2 == (m', z)) = false) ∧ w5 = w4) (fun i _ => nc - (intOf i).toNat)
        case atStart => exact ⟨0, Nat.zero_le _, rfl, fun q _ hq => absurd hq (by omega), rfl⟩
        case round =>
          obtain ⟨k2, hk2, rfl, hQ, rfl⟩ := hrel
          have HQ := Lib.hid hQ
          clear hQ
          by_cases hlt2 : k2 < nc
          · obtain ⟨en, b, off, he, hA, hbl, d0, d1, d2⟩ := (HS.out.2.on H4.out.2.2.1).get hlt2
            have hbg : b ≠ g3 + 1 := by
              obtain ⟨_, b', off', _, hA', hb', _⟩ := HS.out.2.get hlt2
              rw [hA] at hA'
              cases hA'
              have := HG.out.2.2
              omega
            obtain ⟨en1, en2, en3⟩ := en
            dsimp only at d0 d1 d2
            have HE := Lib.hid he
            clear he hbl
            subst hA
            by_cases h12 : en2 = m' ∧ en3 = z
            · obtain ⟨h1, h2⟩ := h12
              subst h1 h2
              have K1 : (wr.drew.cell? ⟨g3, 0, none⟩ = some (.slice A n c) ∧ wr.drew.cell? ⟨g3, 1, none⟩ = some (.int .i64 (s1.at_ : Int)) ∧ wr.drew.cell? ⟨g3, 2, none⟩ = some (.slice Al2 s1.c cl2)) ∧ wr.drew.cell? ⟨b, off + k2 * 3, none⟩ = some (.int .i64 en1) := ⟨⟨H4.out.1.cell 0, H4.out.1.cell 1, H4.out.1.cell 2⟩, d0⟩
              have KK := Lib.hid K1
              clear K1
              have c40 : wr.cell? ⟨g3 + 1, 0, none⟩ = some (.slice none 0 0) := H4.out.2.1.cell 0
              have c41 : wr.cell? ⟨g3 + 1, 1, none⟩ = some (.int .i64 0) := H4.out.2.1.cell 1
              have c42 : wr.cell? ⟨g3 + 1, 2, none⟩ = some (.slice none 0 0) := H4.out.2.1.cell 2
              have f40 : wr.frozen? ⟨g3 + 1, 0, none⟩ = false := H4.out.2.1.free 0
              have f41 : wr.frozen? ⟨g3 + 1, 1, none⟩ = false := H4.out.2.1.free 1
              have f42 : wr.frozen? ⟨g3 + 1, 2, none⟩ = false := H4.out.2.1.free 2
              go_wp2_with fail
              have K1 := KK.out
              go_region_held (fun w' => (w'.cell? ⟨g3, 0, none⟩ = some (.slice A n c) ∧ w'.cell? ⟨g3, 1, none⟩ = some (.int .i64 (s1.at_ : Int)) ∧ w'.cell? ⟨g3, 2, none⟩ = some (.slice Al2 s1.c cl2)) ∧ w'.cell? ⟨b, off + k2 * 3, none⟩ = some (.int .i64 en1))
                (first | exact K1 | exact keepS K1 (by omega) hbg _ _ _) (fail)
              all_goals
                (clear K1
                 go_wp2
                 refine bodyPost_ret (v := .tuple #[.agg #[.slice A n c, .int .i64 (s1.at_ : Int), .slice Al2 s1.c cl2], .int .i64 en1, .int .i64 0]) (by simp [results, Tryd.results52, go_sem, c40, c41, c42]) rfl ?_
                 have hres := HJ.out.2.1
                 have hQ2 := HJ.out.2.2.2.1
                 have hz := HR.out.2
                 have hm' := H4.out.2.2.2.2.2
                 have hg : get L (en2, en3) = some (en1, en2, en3) := find_at HE.out (by simp) HQ.out
                 rw [getsF_hit (by rw [← hQ2]) (by rw [← hQ2]; dsimp only; rw [← hm', ← hz]; exact hg), ← hQ2] at hres
                 rw [← hres]
                 have hg3w := HG.out.2.2
                 exact ⟨Al2, cl2, rfl, (il_set48 H4.out.2.2.2.1 H4.out.2.1 _ _ _).drew, (threeSet H4.out.2.2.1 (g := g3 + 1) (by omega) _ _ _).drew⟩)
            · have hne : ((en2, en3) == (m', z)) = false := by simpa using h12
              by_cases h1 : en2 = m'
              · have h2 : ¬ en3 = z := fun h => h12 ⟨h1, h⟩
                subst h1
                have g1 : ((en3 : Int) == (z : Int)) = false := by simp; omega
                have g2 : ¬ (en3 : Int) = (z : Int) := by omega
                go_wp2
                go_roundw
                case rel =>
                  refine ⟨k2 + 1, by omega, by go_num, fun q y hq hy => ?_, trivial⟩
                  rcases Nat.lt_or_ge q k2 with h' | h'
                  · exact HQ.out q y h' hy
                  · obtain rfl : q = k2 := by omega
                    rw [HE.out] at hy
                    cases hy
                    exact hne
                case measure => simp [intOf]; omega
              · have g1 : ((en2 : Int) == (m' : Int)) = false := by simp; omega
                have g2 : ¬ (en2 : Int) = (m' : Int) := by omega
                go_wp2
                go_roundw
                case rel =>
                  refine ⟨k2 + 1, by omega, by go_num, fun q y hq hy => ?_, trivial⟩
                  rcases Nat.lt_or_ge q k2 with h' | h'
                  · exact HQ.out q y h' hy
                  · obtain rfl : q = k2 := by omega
                    rw [HE.out] at hy
                    cases hy
                    exact hne
                case measure => simp [intOf]; omega
          · go_wp2
            go_roundw
            case rel =>
              have hres := HJ.out.2.1
              have hQ2 := HJ.out.2.2.2.1
              have hz := HR.out.2
              have hm' := H4.out.2.2.2.2.2
              have hg : get L (m', z) = none := find_none (fun q y hy => HQ.out q y (by
                have h1 := (List.getElem?_eq_some_iff.1 hy).1
                have h2 := HS.out.2.len
                omega) hy)
              rw [getsF_miss (by rw [← hQ2]) (by rw [← hQ2]; dsimp only; rw [← hm', ← hz]; exact hg), ← hQ2] at hres
              dsimp only at hres
              rw [← hm'] at hres
              have hj := HJ.out.1
              refine ⟨k + 1, z + 1, m', s1, Al2, cl2, by omega, by omega, rfl, by go_num, H4.out.1, H4.out.2.1, H4.out.2.2.2.1, HJ.out.2.2.1, H4.out.2.2.1, ?_, ?_⟩
              · rw [show 16 - (k + 1) = j by omega]
                exact hres
              · rw [Nat.pow_succ]
                omega
            case measure => simp [intOf]; omega
      · have hE0 : ¬ E = 0 := hE
        have hE1 : (E == 0) = false := by simp; exact hE
        have hs1 : s1 = s' := by
          rcases HJ.out.2.2.2.2 with h1 | h1
          · exact absurd h1 hE
          · exact h1
        have HF := Lib.hid hs1
        clear hbit hfits f30 f31 f32 hs1 hg3w
        go_wp2
        refine bodyPost_ret (v := .tuple #[.agg #[.slice A n c, .int .i64 (s'.at_ : Int), .slice Al' s'.c cl'], .int .i64 0, .int .i64 E]) (by simp [results, Tryd.results52, go_sem, c40, c41, c42]) rfl ?_
        have hfin := threeSet (on_trans H2.out.2.1 (on_alloc w2 (.cells #[.slice A n c, .int .i64 (s1.at_ : Int), .slice Al2 s1.c cl2] 61))) (g := g3 + 1) (by have := HG.out.2.2; omega) (.slice A n c) (.int .i64 (s'.at_ : Int)) (.slice Al' s'.c cl')
        have hres := HJ.out.2.1
        have hQ := HJ.out.2.2.2.1
        rw [getsF_err (by rw [← hQ]; exact hE), ← hQ] at hres
        rw [← hres]
        refine ⟨Al', cl', rfl, ?_, hfin⟩
        exact il_set48 (HW2.out.on (on_alloc _ _)) (H2.out.2.2.2.alloc _) _ _ _
    · have ek : k = 16 := by omega
      have hz17 : (16 : Int) < (z : Int) := by omega
      have c40 : wr.cell? ⟨g3 + 1, 0, none⟩ = some (.slice none 0 0) := hR.b4.cell 0
      have c41 : wr.cell? ⟨g3 + 1, 1, none⟩ = some (.int .i64 0) := hR.b4.cell 1
      have c42 : wr.cell? ⟨g3 + 1, 2, none⟩ = some (.slice none 0 0) := hR.b4.cell 2
      have f40 : wr.frozen? ⟨g3 + 1, 0, none⟩ = false := hR.b4.free 0
      have f41 : wr.frozen? ⟨g3 + 1, 1, none⟩ = false := hR.b4.free 1
      have f42 : wr.frozen? ⟨g3 + 1, 2, none⟩ = false := hR.b4.free 2
      clear hR hz
      go_wp2
      refine bodyPost_ret (v := .tuple #[.agg #[.slice A n c, .int .i64 (s'.at_ : Int), .slice Al' s'.c cl'], .int .i64 0, .int .i64 6]) (by simp [results, Tryd.results52, go_sem, c40, c41, c42]) rfl ?_
      have hres := HR.out.1.res
      rw [ek, Nat.sub_self, getsF] at hres
      rw [← hres]
      have hg3w := HG.out.2.2
      exact ⟨Al', cl', rfl, il_set48 HR.out.1.row HR.out.1.b4 _ _ _, threeSet HR.out.1.bel (g := g3 + 1) (by omega) _ _ _⟩
end Go.Proofs.YthfpdebpepbejaaDoor
