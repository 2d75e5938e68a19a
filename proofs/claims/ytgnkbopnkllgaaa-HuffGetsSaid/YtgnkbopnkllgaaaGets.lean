/-
  HuffGets: the walk.
-/
import Derived.Test.YtgnkbopnkllgaaaRefGetT
import Derived.Test.YtgnkbopnkllgaaaAgain
import Derived.Test.YtgnkbopnkllgaaaRefCodes
namespace Go.Proofs.Ytgnkbopnkllgaaa
open Go.RowKit

/-- the program's reader and the reference's -/
structure Rds (w wr : World) (r g g7 : Nat) (A : Option Addr) (n c : Nat) (l : List Int) (s : St) (Al : Option Addr) (cl : Nat) : Prop where
  rd : Rd wr r g l s
  q : Box wr g7 48 (cells3 A n c s Al cl)
  row : Il wr Al s.c cl (dig s.v s.c)
  new : w.heap.size ≤ r ∧ w.heap.size ≤ g7
  bel : Below w.heap.size w wr

section
variable {w wr : World} {r g g7 : Nat} {A : Option Addr} {n c : Nat} {l : List Int} {s : St} {Al : Option Addr} {cl : Nat}
theorem Rds.on {w' : World} (h : Rds w wr r g g7 A n c l s Al cl) (b : Below wr.heap.size wr w') : Rds w w' r g g7 A n c l s Al cl := ⟨h.rd.on b, h.q.on b, h.row.on b, h.new, on_trans h.bel b⟩
/-- the program's reader has moved -/
theorem Rds.mid {wa : World} {s1 : St} (h : Rds w wr r g g7 A n c l s Al cl) (k : Kept (fun i => i = r) wr wa) (_ : Rd wa r g l s1) : Box wa g7 48 (cells3 A n c s Al cl) ∧ Il wa Al s.c cl (dig s.v s.c) ∧ Below w.heap.size w wa := by
  have hrq : r ≠ g7 := h.rd.box.apart h.q (by decide)
  refine ⟨k.box h.q (fun e => hrq e.symm), h.row.kept k (fun b off e hbr => ?_), h.bel.trans (k.below h.bel.size (fun i hi e => by have := h.new.1; omega))⟩
  obtain ⟨cs, fr, hh⟩ := h.row.typ b off e
  rw [hbr] at hh
  have h7 : wr.heap[r]? = some (.cells (cellsR s g l.length) 76 (0, 0)) := h.rd.box
  rw [hh] at h7
  cases h7
/-- both have moved -/
theorem Rds.next {wa wb : World} {s1 : St} {Al2 : Option Addr} {cl2 : Nat} (h : Rds w wr r g g7 A n c l s Al cl) (k : Kept (fun i => i = r) wr wa) (hr : Rd wa r g l s1) (b : Below wa.heap.size wa wb) (hI : Il wb Al2 s1.c cl2 (dig s1.v s1.c)) :
    Rds w (((wb.setCell ⟨g7, 0, none⟩ (.slice A n c)).setCell ⟨g7, 1, none⟩ (.int .i64 (s1.at_ : Int))).setCell ⟨g7, 2, none⟩ (.slice Al2 s1.c cl2)) r g g7 A n c l s1 Al2 cl2 := by
  have hrq : r ≠ g7 := h.rd.box.apart h.q (by decide)
  have hgq : g ≠ g7 := h.rd.own.apart h.q (by decide)
  have hq := (k.box h.q (fun e => hrq e.symm)).on b
  have kk := three_kept wb g7 (.slice A n c) (.int .i64 (s1.at_ : Int)) (.slice Al2 s1.c cl2)
  refine ⟨(hr.on b).kept kk hrq hgq, ((hq.put 0 _).put 1 _).put 2 _, il_set48 hI hq _ _ _, h.new, threeSet (on_trans (h.bel.trans (k.below h.bel.size (fun i hi e => by have := h.new.1; omega))) b) h.new.2 _ _ _⟩
end

theorem Sl.on' {w w' : World} {K : Nat → Prop} {A : Option Addr} {n c : Nat} {l : List Int} (h : Sl w K A n c l) (b : Below w.heap.size w w') : Sl w' (fun _ => True) A n c l := h.on b

/-- what the loop stands on: the table, the list, the bytes, at w -/
structure Base5 (w0 w : World) (lo hi t : Nat) (B V : List Int) (Ac : Option Addr) (nc : Nat) (A : Option Addr) (n c : Nat) (l : List Int) : Prop where
  tab : Tb w lo hi t B V (codes B V)
  te : Te w Ac nc (codes B V)
  few : nc ≤ 256
  sl : Sl w (fun _ => True) A n c l
  top : hi ≤ w.heap.size
  bel : Below w0.heap.size w0 w

set_option maxRecDepth 20000 in
set_option maxHeartbeats 3200000 in
theorem gets_calls (w : World) (B V : List Int) (A : Option Addr) (n c : Nat) (K : Nat → Prop) (A' : Option Addr) (n' c' : Nat) (l : List Int) (hB : B.length = 16) (h : Ia w A n c V) (hs : Sl w K A' n' c' l) : Calls Try.prog 4 #[specV B (.slice A n c), .slice A' n' c'] w (Law w) := by
  obtain ⟨C, hC⟩ : ∃ C, C = specC B (.slice A n c) := ⟨_, rfl⟩
  have eV : specV B (.slice A n c) = .agg C := by rw [hC]; rfl
  rw [eV]
  obtain ⟨g, hg⟩ : ∃ g, g = w.heap.size := ⟨_, rfl⟩
  obtain ⟨w1, hw1⟩ : ∃ w1, w1 = w.alloc (.cells C 25) := ⟨_, rfl⟩
  have hb := boxed_made (w1 := w1) (g := g) hB h (by rw [hw1, hC]) hg
  have HB := Lib.hid (And.intro hb (And.intro hw1 hg))
  have HS := Lib.hid hs
  clear hb hw1 hg hC eV h hB hs
  have HL := Lib.hid (load_spec HB.out.1.box HB.out.1.len)
  go_enter Try.func4, Try.ntmps4
  go_wp2_with (first
    | (with_reducible refine wpList_load_to (op := ⟨some 17, _, _, _, _, _⟩) rfl 25 (.tmp 2) rfl (.pointer (some ⟨w.heap.size, 0, none⟩)) rfl (specV B (.slice A n c)) (by rw [← HB.out.2.1, ← HB.out.2.2]; exact HL.out) ?_)
    | fail)
  rw [← HB.out.2.1, ← HB.out.2.2]
  refine (refCodes_any w1 B V A n c HB.out.1.len HB.out.1.vals).mono ?_
  rintro e w2 ⟨b2, ⟨_, rfl⟩ | ⟨hv, Ac, nc, cc, rfl, hTe, hfew, _⟩⟩
  · have H2 := Lib.hid (HB.out.1.on b2)
    have c16 := H2.out.slice
    clear b2
    by_cases hn : 300 < n
    · have hni : (300 : Int) < (n : Int) := by omega
      go_wp2_with fail
      refine (awake5_any w2).mono ?_
      rintro e w3 ⟨rfl, b3⟩
      have H3 := Lib.hid (H2.out.on b3)
      clear b3
      go_wp2
      go_ret
      exact ⟨rfl, H3.out.bel⟩
    have hni : ¬ (300 : Int) < (n : Int) := by omega
    by_cases hn' : 400 < n'
    · have hni' : (400 : Int) < (n' : Int) := by omega
      go_wp2_with fail
      refine (awake5_any w2).mono ?_
      rintro e w3 ⟨rfl, b3⟩
      have H3 := Lib.hid (H2.out.on b3)
      clear b3
      go_wp2
      go_ret
      exact ⟨rfl, H3.out.bel⟩
    have hni' : ¬ (400 : Int) < (n' : Int) := by omega
    go_wp2_with fail
    refine (awake5_any w2).mono ?_
    rintro e w3 ⟨rfl, b3⟩
    have H3 := Lib.hid (H2.out.on b3)
    clear b3
    go_wp2
    go_ret
    exact ⟨rfl, H3.out.bel⟩
  have H2 := Lib.hid (And.intro (HB.out.1.on b2) (And.intro hTe (And.intro (HS.out.on' (on_trans HB.out.1.bel b2)) (And.intro hfew hv))))
  have c16 := H2.out.1.slice
  clear b2 hTe hfew hv
  by_cases hn : 300 < n
  · have hni : (300 : Int) < (n : Int) := by omega
    go_wp2_with fail
    refine (awake5_any w2).mono ?_
    rintro e w3 ⟨rfl, b3⟩
    have H3 := Lib.hid (H2.out.1.on b3)
    clear b3
    go_wp2
    go_ret
    exact ⟨rfl, H3.out.bel⟩
  have hni : ¬ (300 : Int) < (n : Int) := by omega
  by_cases hn' : 400 < n'
  · have hni' : (400 : Int) < (n' : Int) := by omega
    go_wp2_with fail
    refine (awake5_any w2).mono ?_
    rintro e w3 ⟨rfl, b3⟩
    have H3 := Lib.hid (H2.out.1.on b3)
    clear b3
    go_wp2
    go_ret
    exact ⟨rfl, H3.out.bel⟩
  have hni' : ¬ (400 : Int) < (n' : Int) := by omega
  have HL2 := Lib.hid (load_spec H2.out.1.box H2.out.1.len)
  go_wp2_with (first
    | (with_reducible refine wpList_load_to (op := ⟨some 36, _, _, _, _, _⟩) rfl 25 (.tmp 2) rfl (.pointer (some ⟨g, 0, none⟩)) rfl (specV B (.slice A n c)) HL2.out ?_)
    | fail)
  clear c16
  refine (own_any w2 B V A n c HB.out.1.len H2.out.1.vals (by omega)).mono ?_
  rintro e w3 ⟨A2, c2, rfl, hi2, _, b3⟩
  have H3 := Lib.hid (And.intro hi2 (And.intro (on_trans H2.out.1.bel b3) (And.intro (H2.out.2.1.on b3) (H2.out.2.2.1.on' b3))))
  clear hi2 b3
  go_wp2_with fail
  refine (new_any w3 B V A2 n c2 HB.out.1.len H3.out.1 (by omega)).mono ?_
  rintro e w4 ⟨b4, ⟨hv, rfl⟩ | ⟨_, t, rfl, hT⟩⟩
  · exact absurd H2.out.2.2.2.2 hv
  have H4 := Lib.hid (Base5.mk hT (H3.out.2.2.1.on b4) H2.out.2.2.2.1 (H3.out.2.2.2.on' b4) (Nat.le_refl _) (on_trans H3.out.2.1 b4))
  clear hT b4
  go_wp2_with fail
  refine (newReader_any w4 _ A' n' c' l H4.out.sl (by omega)).mono ?_
  rintro e w5 ⟨r, gr, rfl, hr, hgr, hrd, b5⟩
  obtain ⟨g7, hg7⟩ : ∃ g7, g7 = w5.heap.size := ⟨_, rfl⟩
  obtain ⟨w6, hw6⟩ : ∃ w6, w6 = w5.alloc (.cells #[.slice A' n' c', .int .i64 0, .slice none 0 0] 48) := ⟨_, rfl⟩
  have hq6 : Box w6 g7 48 (cells3 A' n' c' st0 none 0) := by rw [hw6, hg7]; exact Box.made _ _ _
  have b6 : Below w5.heap.size w5 w6 := by rw [hw6]; exact on_alloc _ _
  have hz : ∀ w, (zeroValue 48).run Try.prog w = .ok (.agg #[.slice none 0 0, .int .i64 0, .slice none 0 0]) w := fun w => by kernel_rfl
  have H6 := Lib.hid (And.intro (Rds.mk (w := w4) (hrd.on b6) hq6 (Il.none w6) ⟨hr, by have := b5.size; omega⟩ (on_trans b5 b6)) (And.intro hw6 hg7))
  clear hr hgr hrd b5 hg7 hw6 hq6 b6
  go_wp2_with fail
  rw [← H6.out.2.1, ← H6.out.2.2]
  clear hz
  go_loopw [47] (fun i wr => ∃ k s Al cl, k ≤ 40 ∧ i = .int .i64 ((k : Nat) : Int) ∧ Rds w4 wr r gr g7 A' n' c' l s Al cl) (fun i _ => 40 - (intOf i).toNat)
  case atStart => exact ⟨0, st0, none, 0, Nat.zero_le _, rfl, H6.out.1⟩
  case round =>
    obtain ⟨k, s, Al, cl, hk, rfl, hR⟩ := hrel
    have HR := Lib.hid hR
    clear hR
    by_cases hlt : k < 40
    · obtain ⟨R, hR⟩ : ∃ R, R = getsF (codes B V) l 16 s 0 0 := ⟨_, rfl⟩
      have HC := Lib.hid (getT_any wr _ _ t r gr B V _ l s (H4.out.tab.on HR.out.bel) HR.out.rd (.inr HR.out.new.1) HR.out.bel.size)
      have hQ := fun (w5 : World) (h5 : Te w5 Ac nc (codes B V)) (h6 : Sl w5 (fun _ => True) A' n' c' l) (hI : Il w5 Al s.c cl (dig s.v s.c)) => refGetT_any w5 _ Ac nc cc _ A' n' c' l s Al cl h5 (by have := H4.out.few; omega) h6 hI HR.out.rd.ok (by omega)
      rw [← hR] at HC hQ
      have HQ := Lib.hid hQ
      clear hQ hR
      go_wp2_with fail
      refine HC.out.mono ?_
      rintro e wa ⟨rfl, hra, ka⟩
      obtain ⟨hqa, hIa, ba⟩ := HR.out.mid ka hra
      have y0 : wa.cell? ⟨g7, 0, none⟩ = some (.slice A' n' c') := hqa.cell 0
      have y1 : wa.cell? ⟨g7, 1, none⟩ = some (.int .i64 (s.at_ : Int)) := hqa.cell 1
      have y2 : wa.cell? ⟨g7, 2, none⟩ = some (.slice Al s.c cl) := hqa.cell 2
      have HA := Lib.hid (And.intro hra (And.intro ka (And.intro hqa (And.intro hIa ba))))
      clear hra ka hqa hIa ba
      go_wp2_with fail
      refine (HQ.out wa (H4.out.te.on HA.out.2.2.2.2) (H4.out.sl.on' HA.out.2.2.2.2) HA.out.2.2.2.1).mono ?_
      rintro e wb ⟨Al2, cl2, rfl, hI2, bb⟩
      simp only [refV]
      obtain ⟨s1, v1, E⟩ := R
      dsimp only at hI2 ⊢
      have hqb := HA.out.2.2.1.on bb
      have z0 : ∀ o, (wb.alloc o).cell? ⟨g7, 0, none⟩ = some (.slice A' n' c') := fun o => (hqb.alloc o).cell 0
      have z1 : ∀ o, (wb.alloc o).cell? ⟨g7, 1, none⟩ = some (.int .i64 (s.at_ : Int)) := fun o => (hqb.alloc o).cell 1
      have z2 : ∀ o, (wb.alloc o).cell? ⟨g7, 2, none⟩ = some (.slice Al s.c cl) := fun o => (hqb.alloc o).cell 2
      have f0 : ∀ o, (wb.alloc o).frozen? ⟨g7, 0, none⟩ = false := fun o => (hqb.alloc o).free 0
      have f1 : ∀ o, (wb.alloc o).frozen? ⟨g7, 1, none⟩ = false := fun o => (hqb.alloc o).free 1
      have f2 : ∀ o, (wb.alloc o).frozen? ⟨g7, 2, none⟩ = false := fun o => (hqb.alloc o).free 2
      have hz : ∀ w, (zeroValue 48).run Try.prog w = .ok (.agg #[.slice none 0 0, .int .i64 0, .slice none 0 0]) w := fun w => by kernel_rfl
      have HN := Lib.hid (HR.out.next HA.out.2.1 HA.out.1 (on_trans bb (on_alloc wb (.cells #[.slice A' n' c', .int .i64 (s1.at_ : Int), .slice Al2 s1.c cl2] 48))) (hI2.on (on_alloc wb _)))
      clear hqb hI2 bb y0 y1 y2
      go_wp2_with fail
      obtain ⟨w7, hw7⟩ : ∃ w7, w7 = ((((wb.alloc (.cells #[.slice A' n' c', .int .i64 (s1.at_ : Int), .slice Al2 s1.c cl2] 48)).setCell ⟨g7, 0, none⟩ (.slice A' n' c')).setCell ⟨g7, 1, none⟩ (.int .i64 (s1.at_ : Int))).setCell ⟨g7, 2, none⟩ (.slice Al2 s1.c cl2)) := ⟨_, rfl⟩
      have HW := Lib.hid (show Rds w4 w7 r gr g7 A' n' c' l s1 Al2 cl2 by rw [hw7]; exact HN.out)
      rw [← hw7]
      clear hw7 z0 z1 z2 f0 f1 f2 hz
      have K7 := Lib.hid (show w7.drew.cell? ⟨g7, 1, none⟩ = some (.int .i64 (s1.at_ : Int)) from HW.out.q.cell 1)
      have HT := Lib.hid (at_any w7.drew r gr l s1 (HW.out.rd.on (on_drew _)))
      by_cases h0 : E = 0
      · subst h0
        go_region_held (fun w' => w'.cell? ⟨g7, 1, none⟩ = some (.int .i64 (s1.at_ : Int)))
          (first
            | exact K7.out
            | exact K8.out)
          (first
            | (go_at_call 21
               with_reducible refine HT.out.mono ?_
               rintro e w8 ⟨rfl, b8⟩
               have K8 := Lib.hid (show w8.cell? ⟨g7, 1, none⟩ = some (.int .i64 (s1.at_ : Int)) from (HW.out.on (on_trans (on_drew _) b8)).q.cell 1)
               have H8 := Lib.hid (HW.out.on (on_trans (on_drew _) b8))
               clear b8))
        all_goals
          (go_wp2
           go_roundw
           case rel => exact ⟨k + 1, _, _, _, by omega, by go_num, H8.out⟩
           case measure => simp [intOf]; omega)
      by_cases h6 : E = 6
      · subst h6
        go_region_held (fun w' => w'.cell? ⟨g7, 1, none⟩ = some (.int .i64 (s1.at_ : Int)))
          (first
            | exact K7.out
            | exact K8.out)
          (first
            | (go_at_call 21
               with_reducible refine HT.out.mono ?_
               rintro e w8 ⟨rfl, b8⟩
               have K8 := Lib.hid (show w8.cell? ⟨g7, 1, none⟩ = some (.int .i64 (s1.at_ : Int)) from (HW.out.on (on_trans (on_drew _) b8)).q.cell 1)
               have H8 := Lib.hid (HW.out.on (on_trans (on_drew _) b8))
               clear b8))
        all_goals
          (go_wp2
           go_roundw
           case rel => exact ⟨k + 1, _, _, _, by omega, by go_num, H8.out⟩
           case measure => simp [intOf]; omega)
      · have e0 : (E == 0) = false := by simpa using h0
        have e6 : (E == 6) = false := by simpa using h6
        have g0 : (E != 0) = true := by simpa using h0
        have g6 : (E != 6) = true := by simpa using h6
        go_region_held (fun w' => w'.cell? ⟨g7, 1, none⟩ = some (.int .i64 (s1.at_ : Int)))
          (first
            | exact K7.out
            | exact K8.out)
          (first
            | (go_at_call 21
               with_reducible refine HT.out.mono ?_
               rintro e w8 ⟨rfl, b8⟩
               have K8 := Lib.hid (show w8.cell? ⟨g7, 1, none⟩ = some (.int .i64 (s1.at_ : Int)) from (HW.out.on (on_trans (on_drew _) b8)).q.cell 1)
               have H8 := Lib.hid (HW.out.on (on_trans (on_drew _) b8))
               clear b8))
        all_goals
          (go_wp2_with fail
           refine (awake5_any w8).mono ?_
           rintro e w9 ⟨rfl, b9⟩
           have F9 := Lib.hid (on_trans (on_trans H4.out.bel H8.out.bel) b9)
           clear b9
           go_wp2
           go_ret
           exact ⟨rfl, F9.out⟩)
    · go_wp2_with fail
      refine (awake5_any wr).mono ?_
      rintro e w9 ⟨rfl, b9⟩
      have F9 := Lib.hid (on_trans (on_trans H4.out.bel HR.out.bel) b9)
      clear b9
      go_wp2
      go_ret
      exact ⟨rfl, F9.out⟩
end Go.Proofs.Ytgnkbopnkllgaaa
