/-
  CrcTells: the walk.
-/
import Derived.Test.YthfeblkbkndbkaaDoorSums
import Derived.Test.YthfeblkbkndbkaaDoorBackMath
import Derived.RegionTactic
namespace Go.Proofs.YthfeblkbkndbkaaDoor
open Go.RowKit

/-- bytes at the head of a block of one's own -/
structure Head (w : World) (g n cap : Nat) (l : List Int) (rest : List Value) : Prop where
  box : Box w g 5 (cellsOf l ++ rest).toArray
  len : l.length = n
  fit : Fit l
  room : n ≤ cap
  max : cap ≤ maxLen

theorem head_of_own {w : World} {base : Nat} {v : Value} {n : Nat} {l : List Int} (h : w.ownsRow base 5 1 v n (cellsOf l)) (hf : Fit l) (h0 : 0 < n) : ∃ g cap rest, v = .slice (some ⟨g, 0, none⟩) n cap ∧ base ≤ g ∧ Head w g n cap l rest := by
  have hl : l.length = n := by have := h.1; simpa [cellsOf] using this
  rcases h.2 with ⟨_, h1⟩ | ⟨g, cap, cur, hv, hg, hh, hn, hm, hc, ht⟩
  · omega
  · refine ⟨g, cap, cur.toList.drop n, hv, hg, ⟨?_, hl, hf, hn, hm⟩⟩
    rw [Nat.mul_one] at ht
    unfold Box
    rw [hh, ← ht, List.take_append_drop]
theorem Head.cell {w : World} {g n cap : Nat} {l : List Int} {rest : List Value} (h : Head w g n cap l rest) (i : Nat) (hi : i < n) : w.cell? ⟨g, i, none⟩ = some (.int .u8 (l.getD i 0)) := by
  have hl := h.len
  rw [h.box.cell i]
  rw [List.getElem?_toArray, List.getElem?_append_left (by rw [cellsOf_len]; omega)]
  simp [cellsOf, List.getD_eq_getElem?_getD, List.getElem?_eq_getElem (show i < l.length by omega)]
theorem Head.put {w : World} {g n cap : Nat} {l : List Int} {rest : List Value} (h : Head w g n cap l rest) (i : Nat) (hi : i < n) (z : Int) (h0 : 0 ≤ z) (h1 : z ≤ 255) : Head (w.setCell ⟨g, i, none⟩ (.int .u8 z)) g n cap (l.set i z) rest := by
  have hl := h.len
  refine ⟨?_, by rw [List.length_set]; exact hl, h.fit.set i z h0 h1, h.room, h.max⟩
  have := h.box.put i (.int .u8 z)
  have e : (cellsOf l ++ rest).toArray.setIfInBounds i (.int .u8 z) = (cellsOf (l.set i z) ++ rest).toArray := by
    rw [List.setIfInBounds_toArray, List.set_append_left _ _ (by rw [cellsOf_len]; omega)]
    simp [cellsOf, List.map_set]
  rwa [e] at this
theorem Head.sl {w : World} {g n cap : Nat} {l : List Int} {rest : List Value} (h : Head w g n cap l rest) : Sl w (fun _ => True) (some ⟨g, 0, none⟩) n cap l :=
  ⟨⟨h.fit, fun _ => ⟨g, 0, rfl, h.box.lt, trivial, fun i hi => by rw [Nat.zero_add]; exact h.cell i (by rw [← h.len]; exact hi)⟩⟩, h.len, h.room, h.max, fun e => by cases e⟩
theorem Head.drew {w : World} {g n cap : Nat} {l : List Int} {rest : List Value} (h : Head w g n cap l rest) : Head w.drew g n cap l rest := ⟨h.box, h.len, h.fit, h.room, h.max⟩

theorem and1 (y : Nat) (h : y < 4294967296) : bits .and .u32 (y : Int) 1 = ((y % 2 : Nat) : Int) := by
  have := u32_and_nat y 1 h (by decide)
  rw [show y &&& 1 = y % 2 from Nat.and_two_pow_sub_one_eq_mod y 1] at this
  exact this

/-- what the loop has done behind k rounds -/
def Turning (w : World) (g n cap : Nat) (l : List Int) (rest : List Value) (first t k : Nat) (wr : World) : Prop :=
  ∃ x, Head wr g n cap x rest ∧ num x = num l ^^^ (t % 2 ^ k) * 2 ^ first ∧ Below w.heap.size w wr

theorem xor_turn (z r : Nat) (hz : z < 256) (hr : r < 8) : bits .xor .u8 (z : Int) (2 ^ r % 256) = ((z ^^^ 2 ^ r : Nat) : Int) := by
  have h1 : 2 ^ r < 256 := by
    have : (2 : Nat) ^ r ≤ 2 ^ 7 := Nat.pow_le_pow_right (by omega) (by omega)
    omega
  have e : ((2 : Int) ^ r % 256) = ((2 ^ r : Nat) : Int) := by
    have : ((2 : Int) ^ r) = ((2 ^ r : Nat) : Int) := by simp
    rw [this]
    exact Int.emod_eq_of_lt (Int.natCast_nonneg _) (Int.ofNat_lt.2 h1)
  rw [e]
  exact u8_xor_nat z (2 ^ r) hz h1

theorem turning_one {w wr : World} {g n cap : Nat} {l x : List Int} {rest : List Value} {first t k F j r z : Nat} (hd : Head wr g n cap x rest) (hnum : num x = num l ^^^ (t % 2 ^ k) * 2 ^ first) (hbel : Below w.heap.size w wr) (hg : w.heap.size ≤ g)
    (hjn : j < n) (hz : (z : Int) = x.getD j 0) (hz2 : z < 256) (hb : t / 2 ^ k % 2 = 1) (hF : F = first + k) (hj : j = F / 8) (hr : r = F % 8) :
    Turning w g n cap l rest first t (k + 1) (wr.setCell ⟨g, j, none⟩ (.int .u8 ((z ^^^ 2 ^ r : Nat) : Int))).drew := by
  have hr8 : r < 8 := by omega
  have h1 : 2 ^ r < 256 := by
    have : (2 : Nat) ^ r ≤ 2 ^ 7 := Nat.pow_le_pow_right (by omega) (by omega)
    omega
  have h2 : z ^^^ 2 ^ r < 256 := Nat.xor_lt_two_pow (n := 8) hz2 h1
  refine ⟨_, (hd.put j hjn ((z ^^^ 2 ^ r : Nat) : Int) (by omega) (by omega)).drew, ?_, (hbel.setCell (p := ⟨g, j, none⟩) hg _).drew⟩
  have h3 := turned1 l x t first k (by rw [hd.len, ← hF, ← hj]; exact hjn) hnum hb
  rw [← hF, ← hj, ← hr, ← hz, Int.toNat_natCast] at h3
  exact h3

set_option maxHeartbeats 1000000 in
theorem tells_any (w : World) (K : Nat → Prop) (A : Option Addr) (n c : Nat) (l : List Int) (p t : Nat) (hT : Tab w) (h : Sl w K A n c l) (hn5 : 5 ≤ n) (hn : n ≤ 4000) (hp : p < 65536) (ht : t < 4294967296) (ht0 : t ≠ 0) :
    Calls Tryd.prog 5 #[.slice A n c, .int .u16 (p : Int), .int .u32 (t : Int)] w (Law w) := by
  have hn1' : ¬ (n : Int) < 5 := by omega
  have hn2' : ¬ (4000 : Int) < (n : Int) := by omega
  have ht' : ((t : Int) == 0) = false := by simpa using ht0
  have HT := Lib.hid hT
  have HA := Lib.hid h
  have HL := Lib.hid h.len
  obtain ⟨first, hf⟩ : ∃ f, f = p % (8 * n - 31) := ⟨_, rfl⟩
  have hf2 : first < 8 * n - 31 := by rw [hf]; exact Nat.mod_lt _ (by omega)
  have hf3 : (p : Int) % (8 * (n : Int) - 31) = (first : Int) := by
    rw [hf, Int.natCast_emod, show ((8 * n - 31 : Nat) : Int) = 8 * (n : Int) - 31 by omega]
  have HF := Lib.hid (And.intro hf ht0)
  clear hT h hf ht0
  go_enter Tryd.func5, Tryd.ntmps5
  go_wp2_with fail
  refine (own_row w _ A n c l HA.out (by omega)).mono ?_
  rintro e w1 ⟨v1, rfl, o1, f1, b1⟩
  obtain ⟨g, cap, rest, rfl, hg, hd⟩ := head_of_own o1 f1 (by omega)
  have hcap := hd.room
  have hmax := hd.max
  unfold maxLen at hmax
  have G := Lib.hid (And.intro hg (And.intro hd b1))
  clear o1 f1 b1 hg hd
  go_wp2
  go_loopw [33] (fun i wr => ∃ k : Nat, k ≤ 32 ∧ i = .int .i64 k ∧ Turning w g n cap l rest first t k wr) (fun i _ => 32 - (intOf i).toNat)
  case atStart => exact ⟨0, Nat.zero_le _, rfl, l, G.out.2.1, by simp [Nat.mod_one], G.out.2.2⟩
  case round =>
    obtain ⟨k, hk, rfl, x, hd, hnum, hbel⟩ := hrel
    by_cases hlt : k < 32
    · have hq : bits .and .u32 ((t : Int) / 2 ^ k) 1 = ((t / 2 ^ k % 2 : Nat) : Int) := by
        have h1 := and1 (t / 2 ^ k) (Nat.lt_of_le_of_lt (Nat.div_le_self _ _) ht)
        rw [Int.natCast_ediv] at h1
        simpa using h1
      by_cases hb : t / 2 ^ k % 2 = 1
      · obtain ⟨F, hF⟩ : ∃ F, F = first + k := ⟨_, rfl⟩
        obtain ⟨j, hj⟩ : ∃ j, j = F / 8 := ⟨_, rfl⟩
        obtain ⟨r, hr⟩ : ∃ r, r = F % 8 := ⟨_, rfl⟩
        have hr8 : r < 8 := by omega
        have hjn : j < n := by omega
        have hF1 : (first : Int) + (k : Int) = (F : Int) := by omega
        have hF2 : (F : Int) / 8 = (j : Int) := by omega
        have hF3 : (F : Int) % 8 = (r : Int) := by omega
        have hF4 : (F : Int).tdiv 8 = (j : Int) := by rw [Int.tdiv_eq_ediv_of_nonneg (by omega)]; exact hF2
        have hF5 : (F : Int).tmod 8 = (r : Int) := by rw [Int.tmod_eq_emod_of_nonneg (by omega)]; exact hF3
        have hcell := hd.cell j hjn
        have hfree := hd.box.free j
        obtain ⟨z, hz⟩ : ∃ z : Nat, (z : Int) = x.getD j 0 := ⟨(x.getD j 0).toNat, by have := hd.fit.getD j; omega⟩
        have hz2 : z < 256 := by have := hd.fit.getD j; omega
        rw [← hz] at hcell
        rw [hb] at hq
        have HR := Lib.hid (And.intro hd (And.intro hnum (And.intro hbel (And.intro hz (And.intro hb (And.intro hF (And.intro hj hr)))))))
        clear hd hnum hbel hz hb hF hj hr
        go_wp2
        go_region
        go_wp2
        go_roundw
        case rel =>
          obtain ⟨hd, hnum, hbel, hz, hb, hF, hj, hr⟩ := HR.out
          refine ⟨k + 1, by omega, by go_num, ?_⟩
          rw [xor_turn z r hz2 hr8]
          exact turning_one hd hnum hbel G.out.1 hjn hz hz2 hb hF hj hr
        case measure => simp [intOf]; omega
      · have hb0 : t / 2 ^ k % 2 = 0 := by omega
        rw [hb0] at hq
        have HR := Lib.hid (And.intro hd (And.intro hnum (And.intro hbel hb)))
        clear hd hnum hbel hb hb0
        go_wp2
        go_roundw
        case rel =>
          obtain ⟨hd, hnum, hbel, hb⟩ := HR.out
          exact ⟨k + 1, by omega, by go_num, x, hd, turned0 l x t first k hnum hb, hbel⟩
        case measure => simp [intOf]; omega
    · have ek : k = 32 := by omega
      have hne : sum x ≠ sum l := turned_tells l x t first (by rw [hd.len, HL.out]) ht HF.out.2 (by rw [HL.out]; omega) (by rw [hnum, ek])
      obtain ⟨s, hs⟩ : ∃ s, s = sum x := ⟨_, rfl⟩
      obtain ⟨s2, hs2⟩ : ∃ s2, s2 = sum l := ⟨_, rfl⟩
      rw [← hs, ← hs2] at hne
      have hne2 : ((s : Int) == (s2 : Int)) = false := by
        rw [beq_eq_false_iff_ne]
        intro e
        exact hne (by exact_mod_cast e)
      have hne3 : ((s : Int) != (s2 : Int)) = true := by rw [bne, hne2]; rfl
      have hne4 : (s == s2) = false := by rw [beq_eq_false_iff_ne]; exact hne
      have HS := Lib.hid (And.intro hs hs2)
      have F := Lib.hid (And.intro hd.sl (And.intro hbel (And.intro (HT.out.below hbel) (HA.out.on hbel))))
      clear ek hs hs2 hd hnum hbel
      go_wp2_with fail
      refine (sum_one_on wr s HS.out.1 F.out.2.2.1 F.out.1).mono ?_
      rintro e w2 ⟨rfl, b2⟩
      have F2 := Lib.hid (And.intro (on_trans F.out.2.1 b2) (And.intro (F.out.2.2.1.below b2) (F.out.2.2.2.on b2)))
      clear b2 F
      go_wp2_with fail
      refine (own_any w2 _ A n c l F2.out.2.2 (by omega)).mono ?_
      rintro e w3 ⟨X3, d3, rfl, x3, b3⟩
      have F3 := Lib.hid (And.intro (on_trans F2.out.1 b3) (And.intro (F2.out.2.1.below b3) x3))
      clear x3 b3 F2
      go_wp2_with fail
      refine (sum_one_on w3 s2 HS.out.2 F3.out.2.1 F3.out.2.2).mono ?_
      rintro e w4 ⟨rfl, b4⟩
      have F4 := Lib.hid (And.intro (on_trans F3.out.1 b4) (F3.out.2.1.below b4))
      clear b4 F3
      go_wp2_with fail
      refine (awake_any w4 F4.out.2).mono ?_
      rintro e w5 ⟨rfl, b5⟩
      have F5 := Lib.hid (on_trans F4.out.1 b5)
      clear b5 F4
      go_wp2
      go_ret
      exact ⟨rfl, F5.out⟩

set_option maxHeartbeats 400000 in
theorem tells_else (w : World) (A : Option Addr) (n c p t : Nat) (hT : Tab w) (hn : n < 5 ∨ 4000 < n ∨ t = 0) :
    Calls Tryd.prog 5 #[.slice A n c, .int .u16 (p : Int), .int .u32 (t : Int)] w (Law w) := by
  have HT := Lib.hid hT
  clear hT
  have hc : ((n : Int) < 5) ∨ (¬ (n : Int) < 5 ∧ (4000 : Int) < (n : Int)) ∨ (¬ (n : Int) < 5 ∧ ¬ (4000 : Int) < (n : Int) ∧ ((t : Int) == 0) = true) := by
    by_cases h0 : t = 0
    · subst h0
      have : ((((0 : Nat) : Int)) == 0) = true := rfl
      by_cases h1 : n < 5
      · left; omega
      · by_cases h2 : 4000 < n
        · right; left; omega
        · right; right; exact ⟨by omega, by omega, this⟩
    · by_cases h1 : n < 5
      · left; omega
      · right; left; omega
  clear hn
  rcases hc with h1 | ⟨h1, h2⟩ | ⟨h1, h2, h3⟩
  all_goals
    go_enter Tryd.func5, Tryd.ntmps5
    go_wp2_with fail
    refine (awake_any w HT.out).mono ?_
    rintro e w8 ⟨rfl, b8⟩
    have F8 := Lib.hid b8
    clear b8
    go_wp2
    go_ret
    exact ⟨rfl, F8.out⟩

theorem crcTells_calls (w : World) (K : Nat → Prop) (A : Option Addr) (n c : Nat) (l : List Int) (p t : Int) (hT : Tab w) (h : Sl w K A n c l) (hp : 0 ≤ p ∧ p ≤ 65535) (ht : 0 ≤ t ∧ t ≤ 4294967295) :
    Calls Tryd.prog 5 #[.slice A n c, .int .u16 p, .int .u32 t] w (Law w) := by
  obtain ⟨P, rfl⟩ := Int.eq_ofNat_of_zero_le hp.1
  obtain ⟨T, rfl⟩ := Int.eq_ofNat_of_zero_le ht.1
  by_cases hn : n < 5 ∨ 4000 < n ∨ T = 0
  · exact tells_else w A n c P T hT hn
  · exact tells_any w K A n c l P T hT h (by omega) (by omega) (by omega) (by omega) (by omega)

end Go.Proofs.YthfeblkbkndbkaaDoor
