/-
  The contracts of the reference's Told (of four bytes) and of both Seals.
-/
import Derived.Test.YthfeblkbkndbkaaDoorStored
namespace Go.Proofs.YthfeblkbkndbkaaDoor
open Go.RowKit

theorem cellsOf_app (l : List Int) (z : Int) : cellsOf l ++ [.int .u8 z] = cellsOf (l ++ [z]) := by simp [cellsOf]

/-- a round's end of a slice that grows by one byte -/
theorem grows {w wr w1 : World} {v v' : Value} {k : Nat} {l : List Int} {z : Int} (hown : w1.ownsRow w.heap.size 5 1 v' (k + 1) (cellsOf l ++ [.int .u8 z])) (hv : wr.ownsRow w.heap.size 5 1 v k (cellsOf l)) (hbel : Below w.heap.size w wr)
    (hg : (wr.alloc (.cells #[.int .u8 z] 5)).grownBy w1 v.ownBlock) : w1.ownsRow w.heap.size 5 1 v' (k + 1) (cellsOf (l ++ [z])) ∧ Below w.heap.size w w1 :=
  ⟨by rw [← cellsOf_app]; exact hown, (hbel.alloc hbel.size _).grown hg (Nat.le_trans hbel.size (by simp)) (fun j hj => (hv.lt j hj).1)⟩

theorem div_step (u : Int) (k : Nat) : u / (256 : Int) ^ k / 256 = u / (256 : Int) ^ (k + 1) := by
  rw [Int.pow_succ, Int.ediv_ediv_of_nonneg (Int.pow_nonneg (by omega))]
theorem told_cells {w : World} {K : Nat → Prop} {A : Option Addr} {m c : Nat} {t : List Int} (h : Sl w K A m c t) (hm : 0 < m) : ∃ ad, A = some ad ∧ ∀ j v, (cellsOf t)[j]? = some v → w.cell? (ad.add j) = some v := by
  obtain ⟨b, off, e, _⟩ := h.bts.at_ (by rw [h.len]; exact hm)
  subst e
  exact ⟨_, rfl, h.bts.read⟩
theorem own_below {w w' : World} {base : Nat} {v : Value} {n : Nat} {xs : List Value} (h : w.ownsRow base 5 1 v n xs) (hb : Below w.heap.size w w') : w'.ownsRow base 5 1 v n xs :=
  h.kept (row := none) ⟨hb.os, hb.tape, hb.output, hb.size, fun i hi _ => hb.block i hi⟩ (by cases v.ownBlock <;> simp)
theorem cellsOf_app2 (l r : List Int) : cellsOf l ++ cellsOf r = cellsOf (l ++ r) := by simp [cellsOf]


theorem div_bd (u : Int) (k : Nat) (h0 : 0 ≤ u) (h1 : u < 4294967296) : 0 ≤ u / (256 : Int) ^ k ∧ u / (256 : Int) ^ k < 4294967296 := by
  have hp : (0 : Int) < (256 : Int) ^ k := Int.pow_pos (by omega)
  exact ⟨Int.ediv_nonneg h0 (by omega), Int.lt_of_le_of_lt (Int.ediv_le_self _ h0) h1⟩

set_option maxHeartbeats 800000 in
theorem told_any (w : World) (u : Int) (hu0 : 0 ≤ u) (hu1 : u < 4294967296) :
    Calls Tryd.prog 19 #[.int .i64 u, .int .i64 4, .bool false] w (Owned w 4 (told u 4 false)) := by
  obtain ⟨i0, hi0, hz0, hz1, hz2⟩ := info_parts byte_info
  have hmax : max u 0 = u := by omega
  go_enter Tryd.func19, Tryd.ntmps19
  go_wp2
  all_goals
    go_loopw [0, 7, 8] (fun x o i wr => ∃ k : Nat, k ≤ 4 ∧ i = .int .i64 k ∧ x = .int .i64 (u / (256 : Int) ^ k) ∧ wr.ownsRow w.heap.size 5 1 o k (cellsOf (told u k false)) ∧ Below w.heap.size w wr) (fun _ _ i _ => 4 - (intOf i).toNat)
    case atStart =>
      refine ⟨0, Nat.zero_le _, rfl, ?_, World.ownsRow_nil _ _ _ _, Below.refl _ _⟩
      rw [Int.pow_zero, Int.ediv_one]
      try (congr 1; omega)
    case round =>
      obtain ⟨k, hk, rfl, rfl, hown, hbel⟩ := hrel
      obtain ⟨y, hy⟩ : ∃ y, y = u / (256 : Int) ^ k := ⟨_, rfl⟩
      have hyb := div_bd u k hu0 hu1
      rw [← hy] at hyb ⊢
      have HY := Lib.hid hy
      have HR := Lib.hid (And.intro hown hbel)
      clear hy hown hbel
      by_cases hlt : k < 4
      · go_wp2_with (at_builtin; refine wpList_append_own _ rfl _ _ 22 rfl w.heap.size 5 i0 (.int .u8 0) 1 1 Tryd.underlying22 hi0 hz0 hz1 hz2 rfl (by omega) _ k (cellsOf (told u k false)) rfl (HR.out.1.alloc _) ⟨wr.heap.size, 0, none⟩ 1 1 [.int .u8 (y % 256)] rfl rfl ?_ ?_ ?_ ?_ ?_ ?_; exact cell_one_new _ _ _; simp [Value.oneCell']; (simp only [maxLen]; omega); omega; (have := HR.out.2.size; simp; omega); intro v' w1 hown1 hgrow _; have HG := Lib.hid (And.intro hown1 hgrow); clear hown1 hgrow)
        go_roundw
        case rel =>
          obtain ⟨g1, g2⟩ := grows HG.out.1 HR.out.1 HR.out.2 HG.out.2
          refine ⟨k + 1, by omega, by go_num, by rw [← div_step, ← HY.out], ?_, g2⟩
          rw [told_more, byteAt, ← HY.out]
          exact g1
        case measure => simp [intOf]; omega
      · have ek : k = 4 := by omega
        obtain ⟨hown, hbel⟩ := HR.out
        rw [ek] at hown
        obtain ⟨A', c', e, hs⟩ := sl_of_own hown (told_fit u 4 false)
        subst e
        have HS := Lib.hid (And.intro hs hbel)
        clear hown hbel hs HR ek
        go_wp2
        go_ret
        exact ⟨A', c', rfl, HS.out⟩

/-- a text with its sum behind -/
def sealed (l : List Int) : List Int := l ++ told ((sum l : Nat) : Int) 4 false
theorem sealed_len (l : List Int) : (sealed l).length = l.length + 4 := by simp [sealed, told_len]
theorem sealed_fit {l : List Int} (h : Fit l) : Fit (sealed l) := h.app (told_fit _ _ _)

set_option maxHeartbeats 800000 in
theorem refSeal_any (w : World) (K : Nat → Prop) (A : Option Addr) (n c : Nat) (l : List Int) (h : Sl w K A n c l) (hn : n ≤ 140737488351200) :
    Calls Tryd.prog 17 #[.slice A n c] w (Owned w (n + 4) (sealed l)) := by
  obtain ⟨i0, hi0, hz0, hz1, hz2⟩ := info_parts byte_info
  have HLEN := Lib.hid h.len
  have H := Lib.hid h
  obtain ⟨s, hs⟩ : ∃ s, s = sum l := ⟨_, rfl⟩
  have hs2 : s < 4294967296 := by rw [hs]; exact sum_lt h.bts.fit.toNat
  obtain ⟨t, ht⟩ : ∃ t, t = told (s : Int) 4 false := ⟨_, rfl⟩
  have HS0 := Lib.hid (And.intro hs ht)
  clear hs ht
  cases A with
  | none =>
    obtain rfl : c = 0 := h.nil rfl
    obtain rfl : n = 0 := by have := h.cap; omega
    have hl : l = [] := List.eq_nil_of_length_eq_zero h.len
    subst hl
    clear h
    go_enter Tryd.func17, Tryd.ntmps17
    go_wp2_with (first
      | (at_builtin; refine wpList_append_own_none rfl (.tmp 3) (.tmp 4) 22 rfl w.heap.size 5 i0 1 Tryd.underlying22 hi0 (.slice (some ⟨w.heap.size, 0, none⟩) 0 0) 0 [] rfl (World.ownsRow_made w #[] 0 (Nat.le_refl _) (Nat.zero_le _) rfl) rfl ?_)
      | fail)
    have HO := Lib.hid (And.intro (World.ownsRow_made (base := w.heap.size) (e := 5) (size := 1) w #[] 0 (Nat.le_refl _) (Nat.zero_le _) rfl) ((Below.refl w.heap.size w).alloc (Nat.le_refl _) (.cells #[] 5)))
    refine (refSum_any _ _ none 0 0 [] (H.out.alloc _)).mono ?_
    rw [← HS0.out.1]
    rintro e w1 ⟨rfl, rfl⟩
    go_wp2_with fail
    refine (told_any _ s (by omega) (by omega)).mono ?_
    rw [← HS0.out.2]
    rintro e w2 ⟨A2, c2, rfl, s2, b2⟩
    obtain ⟨ad2, rfl, hr2⟩ := told_cells s2 (by omega)
    have ho2 := own_below HO.out.1 b2
    have HS := Lib.hid (And.intro s2 (And.intro b2 (And.intro hr2 ho2)))
    clear s2 b2 hr2 ho2
    go_wp2_with (at_builtin; refine wpList_append_own _ rfl (.tmp 5) (.tmp 9) 22 rfl w.heap.size 5 i0 (.int .u8 0) 1 1 Tryd.underlying22 hi0 hz0 hz1 hz2 rfl (by omega) (.slice (some ⟨w.heap.size, 0, none⟩) 0 0) 0 (cellsOf []) rfl HS.out.2.2.2 ad2 4 c2 (cellsOf t) rfl ?_ HS.out.2.2.1 (cellsOf_one t) ?_ ?_ ?_ ?_; (rw [cellsOf_len, HS.out.1.len, Nat.mul_one]); (simp only [maxLen]; omega); omega; exact Nat.le_trans HO.out.2.size HS.out.2.1.size; intro v' w3 hown hgrow _; have HP := Lib.hid (And.intro hown hgrow); clear hown hgrow)
    go_ret
    obtain ⟨hown, hgrow⟩ := HP.out
    rw [cellsOf_app2] at hown
    obtain ⟨A3, c3, e, hs3⟩ := sl_of_own hown (H.out.bts.fit.app (by rw [HS0.out.2]; exact told_fit _ _ _))
    subst e
    rw [HS0.out.2, HS0.out.1] at hs3
    exact ⟨A3, c3, rfl, hs3, (HO.out.2.trans (HS.out.2.1.mono HO.out.2.size)).grown hgrow (Nat.le_trans HO.out.2.size HS.out.2.1.size) (fun j hj => (HS.out.2.2.2.lt j hj).1)⟩
  | some ad =>
    have hr := (h.bts.kept ((Kept.refl (fun _ => False) w).alloc (.cells #[] 5)) (fun _ _ h => h)).read
    have HR := Lib.hid hr
    clear hr h
    go_enter Tryd.func17, Tryd.ntmps17
    go_wp2_with (first
      | (at_builtin; refine wpList_append_own _ rfl (.tmp 3) (.tmp 4) 22 rfl w.heap.size 5 i0 (.int .u8 0) 1 1 Tryd.underlying22 hi0 hz0 hz1 hz2 rfl (by omega) (.slice (some ⟨w.heap.size, 0, none⟩) 0 0) 0 [] rfl (World.ownsRow_made w #[] 0 (Nat.le_refl _) (Nat.zero_le _) rfl) ad n c (cellsOf l) rfl ?_ HR.out (cellsOf_one l) ?_ ?_ ?_ ?_; (rw [cellsOf_len, HLEN.out, Nat.mul_one]); (simp only [maxLen]; omega); omega; simp; intro v1 w1 hown hgrow _; have HQ := Lib.hid (And.intro hown hgrow); clear hown hgrow)
      | fail)
    have HO : Hid (w1.ownsRow w.heap.size 5 1 v1 n (cellsOf l) ∧ Below w.heap.size w w1) := by
      obtain ⟨hown, hgrow⟩ := HQ.out
      simp only [Nat.zero_add, List.nil_append] at hown
      exact ⟨hown, ((Below.refl _ _).alloc (Nat.le_refl _) _).grown hgrow (by simp) (by simp [Value.ownBlock])⟩
    clear HQ
    refine (refSum_any _ _ (some ad) n c l ((H.out.mono (K' := fun b => b < w.heap.size) (fun _ hb _ => hb)).below HO.out.2 (fun _ _ h => h))).mono ?_
    rw [← HS0.out.1]
    rintro e w1' ⟨rfl, rfl⟩
    go_wp2_with fail
    refine (told_any _ s (by omega) (by omega)).mono ?_
    rw [← HS0.out.2]
    rintro e w2 ⟨A2, c2, rfl, s2, b2⟩
    obtain ⟨ad2, rfl, hr2⟩ := told_cells s2 (by omega)
    have ho2 := own_below HO.out.1 b2
    have HS := Lib.hid (And.intro s2 (And.intro b2 (And.intro hr2 ho2)))
    clear s2 b2 hr2 ho2
    go_wp2_with (at_builtin; refine wpList_append_own _ rfl (.tmp 5) (.tmp 9) 22 rfl w.heap.size 5 i0 (.int .u8 0) 1 1 Tryd.underlying22 hi0 hz0 hz1 hz2 rfl (by omega) v1 n (cellsOf l) rfl HS.out.2.2.2 ad2 4 c2 (cellsOf t) rfl ?_ HS.out.2.2.1 (cellsOf_one t) ?_ ?_ ?_ ?_; (rw [cellsOf_len, HS.out.1.len, Nat.mul_one]); (simp only [maxLen]; omega); omega; exact Nat.le_trans HO.out.2.size HS.out.2.1.size; intro v' w3 hown hgrow _; have HP := Lib.hid (And.intro hown hgrow); clear hown hgrow)
    go_ret
    obtain ⟨hown, hgrow⟩ := HP.out
    rw [cellsOf_app2] at hown
    obtain ⟨A3, c3, e, hs3⟩ := sl_of_own hown (H.out.bts.fit.app (by rw [HS0.out.2]; exact told_fit _ _ _))
    subst e
    rw [HS0.out.2, HS0.out.1] at hs3
    exact ⟨A3, c3, rfl, hs3, (HO.out.2.trans (HS.out.2.1.mono HO.out.2.size)).grown hgrow (Nat.le_trans HO.out.2.size HS.out.2.1.size) (fun j hj => (HS.out.2.2.2.lt j hj).1)⟩

end Go.Proofs.YthfeblkbkndbkaaDoor
