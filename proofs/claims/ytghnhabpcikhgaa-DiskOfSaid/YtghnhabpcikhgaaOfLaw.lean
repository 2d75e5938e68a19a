/-
  DiskOf: the walk.
-/
import Derived.Test.YtghnhabpcikhgaaSame
namespace Go.Proofs.Ytghnhabpcikhgaa
open Go.RowKit Go.Maps

/-- bytes at the head of a block of one's own -/
structure Head (w : World) (g n cap : Nat) (l : List Int) (rest : List Value) : Prop where
  box : Box w g 5 (cellsOf l ++ rest).toArray
  len : l.length = n
  fit : Fit l
  room : n ≤ cap
  max : cap ≤ maxLen

theorem Fit.set {l : List Int} (h : Fit l) (i : Nat) (z : Int) (h0 : 0 ≤ z) (h1 : z ≤ 255) : Fit (l.set i z) := fun y hy => by
  rcases List.mem_or_eq_of_mem_set hy with h2 | rfl
  · exact h y h2
  · exact ⟨h0, h1⟩
theorem head_of_own {w : World} {base : Nat} {v : Value} {n : Nat} {l : List Int} (h : w.ownsRow base 5 1 v n (cellsOf l)) (hf : Fit l) (h0 : 0 < n) : ∃ g cap rest, v = .slice (some ⟨g, 0, none⟩) n cap ∧ base ≤ g ∧ Head w g n cap l rest := by
  have hl : l.length = n := by have := h.1; simpa [cellsOf] using this
  rcases h.2 with ⟨_, h1⟩ | ⟨g, cap, cur, hv, hg, hh, hn, hm, hc, ht⟩
  · omega
  · refine ⟨g, cap, cur.toList.drop n, hv, hg, ⟨?_, hl, hf, hn, hm⟩⟩
    rw [Nat.mul_one] at ht
    unfold Box
    rw [hh, ← ht, List.take_append_drop]
theorem Head.cell {w : World} {g n cap : Nat} {l : List Int} {rest : List Value} (h : Head w g n cap l rest) (i : Nat) (hi : i < n) : w.cell? ⟨g, i, none⟩ = some (.int .u8 (l.getD i 0)) := by
  have hl := h.len
  rw [h.box.cell i]
  rw [List.getElem?_toArray, List.getElem?_append_left (by rw [cellsOf_len]; omega)]
  simp [cellsOf, List.getD_eq_getElem?_getD, List.getElem?_eq_getElem (show i < l.length by omega)]
theorem Head.put {w : World} {g n cap : Nat} {l : List Int} {rest : List Value} (h : Head w g n cap l rest) (i : Nat) (hi : i < n) (z : Int) (h0 : 0 ≤ z) (h1 : z ≤ 255) : Head (w.setCell ⟨g, i, none⟩ (.int .u8 z)) g n cap (l.set i z) rest := by
  have hl := h.len
  refine ⟨?_, by rw [List.length_set]; exact hl, h.fit.set i z h0 h1, h.room, h.max⟩
  have := h.box.put i (.int .u8 z)
  have e : (cellsOf l ++ rest).toArray.setIfInBounds i (.int .u8 z) = (cellsOf (l.set i z) ++ rest).toArray := by
    rw [List.setIfInBounds_toArray, List.set_append_left _ _ (by rw [cellsOf_len]; omega)]
    simp [cellsOf, List.map_set]
  rwa [e] at this
theorem Head.sl {w : World} {g n cap : Nat} {l : List Int} {rest : List Value} (h : Head w g n cap l rest) : Sl w (fun _ => True) (some ⟨g, 0, none⟩) n cap l :=
  ⟨⟨h.fit, fun _ => ⟨g, 0, rfl, h.box.lt, trivial, fun i hi => by rw [Nat.zero_add]; exact h.cell i (by rw [← h.len]; exact hi)⟩⟩, h.len, h.room, h.max, fun e => by cases e⟩
theorem Head.drew {w : World} {g n cap : Nat} {l : List Int} {rest : List Value} (h : Head w g n cap l rest) : Head w.drew g n cap l rest := ⟨h.box, h.len, h.fit, h.room, h.max⟩
theorem Head.on {w w' : World} {g n cap : Nat} {l : List Int} {rest : List Value} (h : Head w g n cap l rest) (k : Below w.heap.size w w') : Head w' g n cap l rest := ⟨h.box.on k, h.len, h.fit, h.room, h.max⟩

/-- the law's own copy: k bytes of it have been written over -/
def Over (wa : World) (g n cap : Nat) (rest : List Value) (wr : World) : Prop := ∃ x, Head wr g n cap x rest ∧ Kept (fun i => i = g) wa wr

set_option maxRecDepth 10000 in
set_option maxHeartbeats 1600000 in
theorem diskOf_some (w : World) (K : Nat → Prop) (A : Option Addr) (n c : Nat) (l : List Int) (h : Sl w K A n c l) (h1 : 1 ≤ n) (h2 : n ≤ 4000) : Calls Try.prog 3 #[.slice A n c] w (Law w) := by
  have a1 : ¬ (4000 : Int) < (n : Int) := by omega
  have a2 : ¬ (524388 : Int) < (n : Int) := by omega
  obtain ⟨cnt, hcnt⟩ : ∃ cnt, cnt = (n + 127) / 128 := ⟨_, rfl⟩
  have HH := Lib.hid (And.intro h hcnt)
  clear h hcnt
  go_enter Try.func3, Try.ntmps3
  go_wp2_with (first | fail | (at_builtin; refine wpList_append_sl rfl (.tmp 22) (.tmp 23) rfl w.heap.size (.slice (some ⟨w.heap.size, 0, none⟩) 0 0) 0 [] rfl (World.ownsRow_made (base := w.heap.size) (e := 5) (size := 1) w #[] 0 (Nat.le_refl _) (Nat.zero_le _) rfl) _ A n c l rfl (HH.out.1.alloc _) (by omega) (by simp) ?_; intro v1 w1 hown1 b1; rw [Nat.zero_add, List.nil_append] at hown1; obtain ⟨g, cap, rest, rfl, hg, hd⟩ := head_of_own hown1 HH.out.1.bts.fit (by omega); have hcap := hd.room; have hmax := hd.max; unfold maxLen at hmax; have H1 := Lib.hid (And.intro hg (And.intro hd ((on_alloc w (.cells #[] 5)).trans b1))); clear hown1 b1 hg hd))
  go_wp2_with fail
  refine (of_some (X := fun k => k = g) w1 _ _ n cap l H1.out.2.1.sl h1 (by omega) (fun k hk => by have := H1.out.2.1.box.lt; omega)).mono ?_
  rintro e w2 ⟨d, rfl, hd0, hd2, b2⟩
  rw [← HH.out.2] at hd2
  have H2 := Lib.hid (And.intro hd0 (And.intro hd2 (And.intro b2 (on_trans H1.out.2.2 b2))))
  clear hd0 hd2 b2
  go_wp2_with fail
  refine (refOf_some w2 _ _ n c l (HH.out.1.on H2.out.2.2.2) h1 h2).mono ?_
  rintro e w3 ⟨B, bc, rfl, hD3, b3⟩
  rw [← HH.out.2] at hD3 ⊢
  have H3 := Lib.hid (And.intro hD3 b3)
  clear hD3 b3
  go_wp2
  obtain ⟨r, hr⟩ : ∃ r, r = w3.heap.size := ⟨_, rfl⟩
  obtain ⟨w4, hw4⟩ : ∃ w4, w4 = w3.alloc (.cells #[.slice B cnt bc, .slice none 0 0, .int .i64 0, .int .u64 0, .bool false, .bool false] 30) := ⟨_, rfl⟩
  have hbx := Box.made w3 30 #[.slice B cnt bc, .slice none 0 0, .int .i64 0, .int .u64 0, .bool false, .bool false]
  have b4 : Below w3.heap.size w3 w4 := by rw [hw4]; exact on_alloc _ _
  rw [← hw4, ← hr] at hbx ⊢
  have H4 := Lib.hid (And.intro (show RefBox w4 r B cnt bc from hbx) (And.intro (H3.out.1.on b4) (And.intro ((H2.out.2.1.on H3.out.2).on b4) (And.intro (((H1.out.2.1.on H2.out.2.2.1).on H3.out.2).on b4) (on_trans (on_trans H2.out.2.2.2 H3.out.2) b4)))))
  have hg1 : g < w2.heap.size := Nat.lt_of_lt_of_le H1.out.2.1.box.lt H2.out.2.2.1.size
  have hg2 := H1.out.1
  clear hw4 hr hbx b4 H3 H2 H1
  have HG := Lib.hid (And.intro hg1 hg2)
  clear hg1 hg2
  go_loopw [34] (fun i wr => ∃ k : Nat, k ≤ n ∧ i = .int .i64 k ∧ Over w4 g n cap rest wr) (fun i _ => n - (intOf i).toNat)
  case atStart => exact ⟨0, Nat.zero_le _, rfl, l, H4.out.2.2.2.1, Kept.refl _ _⟩
  case round =>
    obtain ⟨k, hk, rfl, x, hd, hkp⟩ := hrel
    by_cases hlt : k < n
    · have hcell := hd.cell k hlt
      have hfree := hd.box.free k
      have hz := hd.fit.getD k
      obtain ⟨z, hz0⟩ : ∃ z, z = x.getD k 0 := ⟨_, rfl⟩
      rw [← hz0] at hz hcell
      have HR := Lib.hid (And.intro hd (And.intro hkp hz))
      clear hd hkp hz0 hz
      go_wp2
      refine ⟨⟨k + 1, by omega, by go_num, _, HR.out.1.put k hlt _ (by omega) (by omega), HR.out.2.1.setCell (p := ⟨g, k, none⟩) (fun _ => rfl) _⟩, ?_⟩
      simp [intOf]
      omega
    · have ek : k = n := by omega
      obtain ⟨q0, q1, q2, q3, q4, q5⟩ := RefBox.cells (show RefBox wr r B cnt bc from Kept.box hkp H4.out.1 (Box.apart H4.out.1 H4.out.2.2.2.1.box (by decide)))
      have hdisk := Disk.spared H4.out.2.2.1 hkp H4.out.2.2.2.1.box
      have hdone := (DoneN.spared H4.out.2.1 hkp HG.out.1).done
      have hbel : Below w.heap.size w wr := H4.out.2.2.2.2.trans (hkp.below H4.out.2.2.2.2.size fun i hi e => by have := HG.out.2; omega)
      have hcnt : cnt ≤ 4096 := by have := HH.out.2; omega
      have HR := Lib.hid (And.intro hdisk (And.intro hdone (And.intro hbel ek)))
      clear hd hkp ek hdisk hdone hbel
      go_wp2_with fail
      refine (same_any wr d cnt bc B (secOf l) HR.out.1 HR.out.2.1 hcnt).mono ?_
      rintro e w5 ⟨rfl, b5⟩
      have H5 := Lib.hid (on_trans HR.out.2.2.1 b5)
      clear b5
      go_wp2_with fail
      refine (awake_any w5).mono ?_
      rintro e w6 ⟨rfl, b6⟩
      have H6 := Lib.hid (on_trans H5.out b6)
      clear b6
      go_wp2
      go_ret
      exact ⟨rfl, H6.out⟩

set_option maxRecDepth 10000 in
set_option maxHeartbeats 1600000 in
theorem diskOf_long (w : World) (K : Nat → Prop) (A : Option Addr) (n c : Nat) (l : List Int) (h : Sl w K A n c l) (h1 : 524288 < n) (h2 : n ≤ 524388) : Calls Try.prog 3 #[.slice A n c] w (Law w) := by
  have a1 : (4000 : Int) < (n : Int) := by omega
  have a2 : ¬ (n : Int) ≤ 524288 := by omega
  have a3 : ¬ (524388 : Int) < (n : Int) := by omega
  have HH := Lib.hid h
  clear h
  go_enter Try.func3, Try.ntmps3
  go_wp2_with (first | fail | (at_builtin; refine wpList_append_sl rfl (.tmp 22) (.tmp 23) rfl w.heap.size (.slice (some ⟨w.heap.size, 0, none⟩) 0 0) 0 [] rfl (World.ownsRow_made (base := w.heap.size) (e := 5) (size := 1) w #[] 0 (Nat.le_refl _) (Nat.zero_le _) rfl) _ A n c l rfl (HH.out.alloc _) (by omega) (by simp) ?_; intro v1 w1 hown1 b1; rw [Nat.zero_add, List.nil_append] at hown1; obtain ⟨g, cap, rest, rfl, hg, hd⟩ := head_of_own hown1 HH.out.bts.fit (by omega); have hcap := hd.room; have hmax := hd.max; unfold maxLen at hmax; have H1 := Lib.hid (And.intro hg (And.intro hd ((on_alloc w (.cells #[] 5)).trans b1))); clear hown1 b1 hg hd))
  go_wp2_with fail
  refine (of_none w1 _ n cap (by omega)).mono ?_
  rintro e w1' ⟨rfl, rfl⟩
  go_wp2_with fail
  refine (refOf_none w1 A n c (by omega)).mono ?_
  rintro e w3 ⟨rfl, b3⟩
  have H3 := Lib.hid (And.intro (H1.out.2.1.on b3) (on_trans H1.out.2.2 b3))
  clear b3
  go_wp2
  obtain ⟨w4, hw4⟩ : ∃ w4, w4 = w3.alloc (.cells #[.slice none 0 0, .slice none 0 0, .int .i64 0, .int .u64 0, .bool false, .bool false] 30) := ⟨_, rfl⟩
  have b4 : Below w3.heap.size w3 w4 := by rw [hw4]; exact on_alloc _ _
  rw [← hw4]
  have H4 := Lib.hid (And.intro (H3.out.1.on b4) (on_trans H3.out.2 b4))
  clear hw4 b4 H3
  go_loopw [34] (fun i wr => ∃ k : Nat, k ≤ n ∧ i = .int .i64 k ∧ Over w4 g n cap rest wr) (fun i _ => n - (intOf i).toNat)
  case atStart => exact ⟨0, Nat.zero_le _, rfl, l, H4.out.1, Kept.refl _ _⟩
  case round =>
    obtain ⟨k, hk, rfl, x, hd, hkp⟩ := hrel
    by_cases hlt : k < n
    · have hcell := hd.cell k hlt
      have hfree := hd.box.free k
      have hz := hd.fit.getD k
      obtain ⟨z, hz0⟩ : ∃ z, z = x.getD k 0 := ⟨_, rfl⟩
      rw [← hz0] at hz hcell
      have HR := Lib.hid (And.intro hd (And.intro hkp hz))
      clear hd hkp hz0 hz
      go_wp2
      refine ⟨⟨k + 1, by omega, by go_num, _, HR.out.1.put k hlt _ (by omega) (by omega), HR.out.2.1.setCell (p := ⟨g, k, none⟩) (fun _ => rfl) _⟩, ?_⟩
      simp [intOf]
      omega
    · have hbel : Below w.heap.size w wr := H4.out.2.trans (hkp.below H4.out.2.size fun i hi e => by have := H1.out.1; omega)
      have HR := Lib.hid hbel
      clear hd hkp hbel
      go_wp2_with fail
      refine (awake_any wr).mono ?_
      rintro e w6 ⟨rfl, b6⟩
      have H6 := Lib.hid (on_trans HR.out b6)
      clear b6
      go_wp2
      go_ret
      exact ⟨rfl, H6.out⟩

set_option maxRecDepth 10000 in
set_option maxHeartbeats 1600000 in
theorem diskOf_nil (w : World) (K : Nat → Prop) (A : Option Addr) (c : Nat) (l : List Int) (h : Sl w K A 0 c l) : Calls Try.prog 3 #[.slice A 0 c] w (Law w) := by
  have HH := Lib.hid h
  clear h
  go_enter Try.func3, Try.ntmps3
  go_wp2_with (first | fail | (at_builtin; refine wpList_append_sl rfl (.tmp 22) (.tmp 23) rfl w.heap.size (.slice (some ⟨w.heap.size, 0, none⟩) 0 0) 0 [] rfl (World.ownsRow_made (base := w.heap.size) (e := 5) (size := 1) w #[] 0 (Nat.le_refl _) (Nat.zero_le _) rfl) _ A 0 c l rfl (HH.out.alloc _) (by omega) (by simp) ?_; intro v1 w1 hown1 b1; rw [Nat.zero_add, List.nil_append] at hown1; obtain ⟨A1, c1, rfl⟩ := own_slice hown1; have H1 := Lib.hid ((on_alloc w (.cells #[] 5)).trans b1); clear hown1 b1))
  go_wp2_with fail
  refine (of_none w1 _ 0 c1 (by omega)).mono ?_
  rintro e w1' ⟨rfl, rfl⟩
  go_wp2_with fail
  refine (refOf_none w1 A 0 c (by omega)).mono ?_
  rintro e w3 ⟨rfl, b3⟩
  have H3 := Lib.hid (on_trans H1.out b3)
  clear b3
  go_wp2
  obtain ⟨w4, hw4⟩ : ∃ w4, w4 = w3.alloc (.cells #[.slice none 0 0, .slice none 0 0, .int .i64 0, .int .u64 0, .bool false, .bool false] 30) := ⟨_, rfl⟩
  have b4 : Below w3.heap.size w3 w4 := by rw [hw4]; exact on_alloc _ _
  rw [← hw4]
  have H4 := Lib.hid (on_trans H3.out b4)
  clear hw4 b4 H3
  go_loopw [34] (fun i wr => i = .int .i64 0 ∧ wr = w4) (fun _ _ => 0)
  case atStart => exact ⟨rfl, rfl⟩
  case round =>
    obtain ⟨rfl, rfl⟩ := hrel
    go_wp2_with fail
    refine (awake_any wr).mono ?_
    rintro e w6 ⟨rfl, b6⟩
    have H6 := Lib.hid (on_trans H4.out b6)
    clear b6
    go_wp2
    go_ret
    exact ⟨rfl, H6.out⟩

set_option maxHeartbeats 400000 in
theorem diskOf_else (w : World) (A : Option Addr) (n c : Nat) (h : 4000 < n ∧ n ≤ 524288 ∨ 524388 < n) : Calls Try.prog 3 #[.slice A n c] w (Law w) := by
  have a1 : (4000 : Int) < (n : Int) := by omega
  have hc : (n : Int) ≤ 524288 ∨ ¬ (n : Int) ≤ 524288 ∧ (524388 : Int) < (n : Int) := by omega
  clear h
  rcases hc with h1 | ⟨h1, h2⟩
  all_goals
    go_enter Try.func3, Try.ntmps3
    go_wp2_with fail
    refine (awake_any w).mono ?_
    rintro e w8 ⟨rfl, b8⟩
    have F8 := Lib.hid b8
    clear b8
    go_wp2
    go_ret
    exact ⟨rfl, F8.out⟩

theorem diskOf_calls (w : World) (K : Nat → Prop) (A : Option Addr) (n c : Nat) (l : List Int) (h : Sl w K A n c l) : Calls Try.prog 3 #[.slice A n c] w (Law w) := by
  by_cases h0 : n = 0
  · subst h0
    exact diskOf_nil w K A c l h
  by_cases h1 : n ≤ 4000
  · exact diskOf_some w K A n c l h (by omega) h1
  by_cases h2 : 524288 < n ∧ n ≤ 524388
  · exact diskOf_long w K A n c l h h2.1 h2.2
  · exact diskOf_else w A n c (by omega)

end Go.Proofs.Ytghnhabpcikhgaa
