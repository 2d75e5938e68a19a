/-
  CrcParts: the walk.
-/
import Derived.Test.YthfeblkbkndbkaaDoorSums
namespace Go.Proofs.YthfeblkbkndbkaaDoor
open Go.RowKit

/-- what a law of three slices holds on to -/
structure At3 (w w' : World) (A1 A2 A3 : Option Addr) (n1 c1 n2 c2 n3 c3 : Nat) (l1 l2 l3 : List Int) : Prop where
  bel : Below w.heap.size w w'
  tab : Tab w'
  a : Sl w' (fun _ => True) A1 n1 c1 l1
  b : Sl w' (fun _ => True) A2 n2 c2 l2
  c : Sl w' (fun _ => True) A3 n3 c3 l3
theorem At3.on {w w' w2 : World} {A1 A2 A3 : Option Addr} {n1 c1 n2 c2 n3 c3 : Nat} {l1 l2 l3 : List Int} (h : At3 w w' A1 A2 A3 n1 c1 n2 c2 n3 c3 l1 l2 l3) (k : Below w'.heap.size w' w2) : At3 w w2 A1 A2 A3 n1 c1 n2 c2 n3 c3 l1 l2 l3 :=
  ⟨on_trans h.bel k, h.tab.below k, h.a.on k, h.b.on k, h.c.on k⟩

theorem nil_sl (w : World) : Sl w (fun _ => True) none 0 0 [] := ⟨⟨(fun z hz => by cases hz), fun h0 => absurd h0 (by simp)⟩, rfl, Nat.le_refl _, Nat.zero_le _, fun _ => rfl⟩

set_option maxHeartbeats 1000000 in
theorem parts_any (w : World) (A1 A2 A3 : Option Addr) (n1 c1 n2 c2 n3 c3 : Nat) (l1 l2 l3 : List Int) (h : At3 w w A1 A2 A3 n1 c1 n2 c2 n3 c3 l1 l2 l3) (hn1 : n1 ≤ 4000) (hn2 : n2 ≤ 4000) (hn3 : n3 ≤ 4000) :
    Calls Tryd.prog 7 #[.slice A1 n1 c1, .slice A2 n2 c2, .slice A3 n3 c3] w (Law w) := by
  have hn1' : ¬ (4000 : Int) < (n1 : Int) := by omega
  have hn2' : ¬ (4000 : Int) < (n2 : Int) := by omega
  have hn3' : ¬ (4000 : Int) < (n3 : Int) := by omega
  obtain ⟨s1, hs1⟩ : ∃ s1, s1 = sum l1 := ⟨_, rfl⟩
  have hs12 : s1 < 4294967296 := by rw [hs1]; exact sum_lt h.a.bts.fit.toNat
  obtain ⟨s2, hs2⟩ : ∃ s2, s2 = sum (l1 ++ l2) := ⟨_, rfl⟩
  have hs22 : s2 < 4294967296 := by rw [hs2]; exact sum_lt (h.a.bts.fit.app h.b.bts.fit).toNat
  obtain ⟨s3, hs3⟩ : ∃ s3, s3 = sum (l1 ++ (l2 ++ l3)) := ⟨_, rfl⟩
  have HS := Lib.hid (And.intro hs1 (And.intro hs2 hs3))
  have F := Lib.hid h
  clear h hs1 hs2 hs3
  go_enter Tryd.func7, Tryd.ntmps7
  go_wp2_with fail
  refine (own_any w _ A1 n1 c1 l1 F.out.a (by omega)).mono ?_
  rintro e w1 ⟨X1, d1, rfl, x1, b1⟩
  have X := Lib.hid x1
  have F1 := Lib.hid (F.out.on b1)
  clear x1 b1 F
  go_wp2_with fail
  refine (sum_one_on w1 s1 HS.out.1 F1.out.tab X.out).mono ?_
  rintro e w2 ⟨rfl, b2⟩
  have F2 := Lib.hid (F1.out.on b2)
  clear b2 F1 X
  go_wp2_with fail
  refine (own_any w2 _ A1 n1 c1 l1 F2.out.a (by omega)).mono ?_
  rintro e w3 ⟨X3, d3, rfl, x3, b3⟩
  have Y3 := Lib.hid x3
  have F3 := Lib.hid (F2.out.on b3)
  clear x3 b3 F2
  go_wp2_with fail
  refine (own_any w3 _ A2 n2 c2 l2 F3.out.b (by omega)).mono ?_
  rintro e w4 ⟨X4, d4, rfl, x4, b4⟩
  have Y4 := Lib.hid (And.intro (Y3.out.on b4) x4)
  have F4 := Lib.hid (F3.out.on b4)
  clear x4 b4 F3 Y3
  go_wp2_with fail
  refine (own_any w4 _ A3 n3 c3 l3 F4.out.c (by omega)).mono ?_
  rintro e w5 ⟨X5, d5, rfl, x5, b5⟩
  have Y5 := Lib.hid (And.intro (Y4.out.1.on b5) (And.intro (Y4.out.2.on b5) x5))
  have F5 := Lib.hid (F4.out.on b5)
  clear x5 b5 F4 Y4
  go_wp2_with fail
  refine (sum_three_on w5 s3 HS.out.2.2 F5.out.tab Y5.out.1 Y5.out.2.1 Y5.out.2.2).mono ?_
  rintro e w6 ⟨rfl, b6⟩
  have F6 := Lib.hid (F5.out.on b6)
  clear b6 F5 Y5
  go_wp2_with fail
  refine (own_any w6 _ A2 n2 c2 l2 F6.out.b (by omega)).mono ?_
  rintro e w7 ⟨X7, d7, rfl, x7, b7⟩
  have Y7 := Lib.hid x7
  have F7 := Lib.hid (F6.out.on b7)
  clear x7 b7 F6
  go_wp2_with fail
  refine (more_on w7 s1 s2 (by rw [HS.out.1, HS.out.2.1]; exact sum_append _ _) hs12 F7.out.tab Y7.out).mono ?_
  rintro e w7' ⟨rfl, rfl⟩
  clear Y7
  go_wp2_with fail
  refine (own_any w7 _ A3 n3 c3 l3 F7.out.c (by omega)).mono ?_
  rintro e w8 ⟨X8, d8, rfl, x8, b8⟩
  have Y8 := Lib.hid x8
  have F8 := Lib.hid (F7.out.on b8)
  clear x8 b8 F7
  go_wp2_with fail
  refine (more_on w8 s2 s3 (by rw [HS.out.2.1, HS.out.2.2, ← List.append_assoc]; exact sum_append _ _) hs22 F8.out.tab Y8.out).mono ?_
  rintro e w8' ⟨rfl, rfl⟩
  clear Y8
  go_wp2_with fail
  refine (more_on w8 s1 s1 (by rw [reg, List.foldl_nil, xor_back]) hs12 F8.out.tab (nil_sl w8)).mono ?_
  rintro e w8' ⟨rfl, rfl⟩
  go_wp2_with fail
  refine (own_any w8 _ A1 n1 c1 l1 F8.out.a (by omega)).mono ?_
  rintro e w9 ⟨X9, d9, rfl, x9, b9⟩
  have Y9 := Lib.hid x9
  have F9 := Lib.hid (F8.out.on b9)
  clear x9 b9 F8
  go_wp2_with fail
  refine (sum_three_on w9 s1 (by rw [HS.out.1]; simp) F9.out.tab (nil_sl w9) Y9.out (nil_sl w9)).mono ?_
  rintro e w10 ⟨rfl, b10⟩
  have F10 := Lib.hid (F9.out.on b10)
  clear b10 F9 Y9
  go_wp2_with fail
  refine (awake_any w10 F10.out.tab).mono ?_
  rintro e w11 ⟨rfl, b11⟩
  have F11 := Lib.hid (on_trans F10.out.bel b11)
  clear b11 F10
  go_wp2
  go_ret
  exact ⟨rfl, F11.out⟩

set_option maxHeartbeats 400000 in
theorem parts_long (w : World) (A1 A2 A3 : Option Addr) (n1 c1 n2 c2 n3 c3 : Nat) (hT : Tab w) (hn : 4000 < n1 ∨ 4000 < n2 ∨ 4000 < n3) :
    Calls Tryd.prog 7 #[.slice A1 n1 c1, .slice A2 n2 c2, .slice A3 n3 c3] w (Law w) := by
  have HT := Lib.hid hT
  clear hT
  have hc : ((4000 : Int) < (n1 : Int)) ∨ (¬ (4000 : Int) < (n1 : Int) ∧ (4000 : Int) < (n2 : Int)) ∨ (¬ (4000 : Int) < (n1 : Int) ∧ ¬ (4000 : Int) < (n2 : Int) ∧ (4000 : Int) < (n3 : Int)) := by omega
  clear hn
  rcases hc with h1 | ⟨h1, h2⟩ | ⟨h1, h2, h3⟩
  all_goals
    go_enter Tryd.func7, Tryd.ntmps7
    go_wp2_with fail
    refine (awake_any w HT.out).mono ?_
    rintro e w8 ⟨rfl, b8⟩
    have F8 := Lib.hid b8
    clear b8
    go_wp2
    go_ret
    exact ⟨rfl, F8.out⟩

theorem crcParts_calls (w : World) (K1 K2 K3 : Nat → Prop) (A1 A2 A3 : Option Addr) (n1 c1 n2 c2 n3 c3 : Nat) (l1 l2 l3 : List Int) (hT : Tab w) (h1 : Sl w K1 A1 n1 c1 l1) (h2 : Sl w K2 A2 n2 c2 l2) (h3 : Sl w K3 A3 n3 c3 l3) :
    Calls Tryd.prog 7 #[.slice A1 n1 c1, .slice A2 n2 c2, .slice A3 n3 c3] w (Law w) := by
  by_cases h : 4000 < n1 ∨ 4000 < n2 ∨ 4000 < n3
  · exact parts_long w A1 A2 A3 n1 c1 n2 c2 n3 c3 hT h
  · have b := Below.refl w.heap.size w
    exact parts_any w A1 A2 A3 n1 c1 n2 c2 n3 c3 l1 l2 l3 ⟨b, hT, h1.on b, h2.on b, h3.on b⟩ (by omega) (by omega) (by omega)

end Go.Proofs.YthfeblkbkndbkaaDoor
