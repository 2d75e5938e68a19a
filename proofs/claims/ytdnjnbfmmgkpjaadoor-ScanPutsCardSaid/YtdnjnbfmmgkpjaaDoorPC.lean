/-
  The contract of the reference's codes: the reference's tables.
-/
import Derived.Test.YtdnjnbfmmgkpjaaDoorPB
import Derived.Test.YtdnjnbfmmgkpjaaDoorSL
namespace Go.Proofs.YtdnjnbfmmgkpjaaDoor
open Go.RowKit

theorem Te.keptB {w w' : World} {S : Nat → Prop} {A : Option Addr} {n : Nat} {L : List En} (h : Te w A n L) (k : Kept S w w') (hS : 0 < n → ∀ b off, A = some ⟨b, off, none⟩ → ¬ S b) : Te w' A n L :=
  ⟨h.len, fun h0 => by
    obtain ⟨b, off, e, hb, hc⟩ := h.at_ h0
    have hs := hS h0 b off e
    exact ⟨b, off, e, Nat.lt_of_lt_of_le hb k.size, fun i e he => ⟨(k.cell (p := ⟨b, off + i * 3, none⟩) hb hs).trans (hc i e he).1, (k.cell (p := ⟨b, off + i * 3 + 1, none⟩) hb hs).trans (hc i e he).2.1, (k.cell (p := ⟨b, off + i * 3 + 2, none⟩) hb hs).trans (hc i e he).2.2⟩⟩⟩
/-- two tables of a row of tables -/
def RowC (w : World) (T : Tbs) (xs : List Value) (hi c : Nat) : Prop := ∃ A n k A' n' k', xs[2 * c]? = some (.slice A n k) ∧ xs[2 * c + 1]? = some (.slice A' n' k') ∧ Te w A n (codes (T.B c) (T.V c)) ∧ Te w A' n' (codes (T.B (c + 2)) (T.V (c + 2))) ∧ n ≤ 256 ∧ n' ≤ 256 ∧
  (0 < n → ∀ b off, A = some ⟨b, off, none⟩ → b < hi) ∧ (0 < n' → ∀ b off, A' = some ⟨b, off, none⟩ → b < hi)
theorem RowC.kept {w w' : World} {S : Nat → Prop} {T : Tbs} {xs : List Value} {hi c : Nat} (h : RowC w T xs hi c) (k : Kept S w w') (hS : ∀ b, b < hi → ¬ S b) : RowC w' T xs hi c := by
  obtain ⟨A, n, m, A', n', m', e1, e2, t1, t2, b1, b2, h1, h2⟩ := h
  exact ⟨A, n, m, A', n', m', e1, e2, t1.keptB k (fun h0 b off e => hS b (h1 h0 b off e)), t2.keptB k (fun h0 b off e => hS b (h2 h0 b off e)), b1, b2, h1, h2⟩
theorem RowC.on {w w' : World} {T : Tbs} {xs : List Value} {hi c : Nat} (h : RowC w T xs hi c) (k : Below w.heap.size w w') : RowC w' T xs hi c := h.kept (Kept.of_below k (fun _ => False)) (fun _ _ e => e)
theorem RowC.more {w : World} {T : Tbs} {xs ys : List Value} {hi hi' c : Nat} (h : RowC w T xs hi c) (hh : hi ≤ hi') : RowC w T (xs ++ ys) hi' c := by
  obtain ⟨A, n, m, A', n', m', e1, e2, t1, t2, b1, b2, h1, h2⟩ := h
  refine ⟨A, n, m, A', n', m', ?_, ?_, t1, t2, b1, b2, fun h0 b off e => Nat.lt_of_lt_of_le (h1 h0 b off e) hh, fun h0 b off e => Nat.lt_of_lt_of_le (h2 h0 b off e) hh⟩
  · rw [List.getElem?_append_left (List.getElem?_eq_some_iff.1 e1).1, e1]
  · rw [List.getElem?_append_left (List.getElem?_eq_some_iff.1 e2).1, e2]
structure CR (w : World) (T : Tbs) (v : Value) (k base hi : Nat) (xs : List Value) : Prop where
  own : w.ownsRow base 87 1 v (2 * k) xs
  bs : base ≤ w.heap.size
  nil_ : k = 0 → v = .slice none 0 0
  lt : k < 2 → hi ≤ base
  rows : ∀ c, c < k → RowC w T xs hi c
  ok : ∀ c, c < k → Valid (T.B c) (T.V c) ∧ Valid (T.B (c + 2)) (T.V (c + 2))
theorem CR.on {w w' : World} {T : Tbs} {v : Value} {k base hi : Nat} {xs : List Value} (h : CR w T v k base hi xs) (b : Below w.heap.size w w') : CR w' T v k base hi xs :=
  ⟨ownsRow_block h.own fun g _ _ hb => b.block g (Array.getElem?_eq_some_iff.1 hb).1, Nat.le_trans h.bs b.size, h.nil_, h.lt, fun c hc => (h.rows c hc).on b, h.ok⟩
/-- the reference's tables in memory: DC and AC of brightness, then of colour -/
def Crs (w : World) (T : Tbs) (A : Option Addr) (n : Nat) : Prop := ∃ b, A = some ⟨b, 0, none⟩ ∧ b < w.heap.size ∧ ∀ c, 2 * c < n → ∃ A n k A' n' k', w.cell? ⟨b, 2 * c, none⟩ = some (.slice A n k) ∧ w.cell? ⟨b, 2 * c + 1, none⟩ = some (.slice A' n' k') ∧ Te w A n (codes (T.B c) (T.V c)) ∧ Te w A' n' (codes (T.B (c + 2)) (T.V (c + 2))) ∧ n ≤ 256 ∧ n' ≤ 256
theorem Crs.on {w w' : World} {T : Tbs} {A : Option Addr} {n : Nat} (h : Crs w T A n) (k : Below w.heap.size w w') : Crs w' T A n := by
  obtain ⟨b, e, hb, hr⟩ := h
  refine ⟨b, e, Nat.lt_of_lt_of_le hb k.size, fun c hc => ?_⟩
  obtain ⟨A, n, m, A', n', m', c1, c2, t1, t2, r⟩ := hr c hc
  exact ⟨A, n, m, A', n', m', (k.cell (p := ⟨b, 2 * c, none⟩) hb).trans c1, (k.cell (p := ⟨b, 2 * c + 1, none⟩) hb).trans c2, t1.on k, t2.on k, r⟩
theorem CR.crs {w : World} {T : Tbs} {v : Value} {k base hi : Nat} {xs : List Value} (h : CR w T v k base hi xs) (hk : 0 < k) : ∃ A c, v = .slice A (2 * k) c ∧ Crs w T A (2 * k) := by
  have hown := h.own
  rcases hown.2 with ⟨_, h0⟩ | ⟨g, cap, cur, rfl, hg, hh, hn, hm, _, _⟩
  · omega
  · refine ⟨_, cap, rfl, g, rfl, (Array.getElem?_eq_some_iff.1 hh).1, fun c hc => ?_⟩
    obtain ⟨A, n, m, A', n', m', e1, e2, t1, t2, b1, b2, _⟩ := h.rows c (by omega)
    refine ⟨A, n, m, A', n', m', ?_, ?_, t1, t2, b1, b2⟩
    · rw [hown.cellAt (2 * c) (by omega), e1]
    · rw [hown.cellAt (2 * c + 1) (by omega), e2]
def CodesY (w : World) (K : Int) (T : Tbs) (e : Ending) (w' : World) : Prop := Below w.heap.size w w' ∧
  ((OkT K T ∧ ∃ A c, e = .returned (.tuple #[.slice A (2 * nC K) c, .int .i64 0]) ∧ Crs w' T A (2 * nC K)) ∨ (¬ OkT K T ∧ e = .returned (.tuple #[.slice none 0 0, .int .i64 4])))

/-- what the reference's codes of one table tell, at once -/
theorem refCodes_one (w : World) (B V : List Int) (A : Option Addr) (n c : Nat) (hB : B.length = 16) (h : Ia w A n c V) : Calls Tryd.prog 61 #[specV B (.slice A n c)] w fun e w' => Below w.heap.size w w' ∧
    ∃ (A' : Option Addr) (n' c' : Nat) (o : Bool), e = .returned (.tuple #[.slice A' n' c', .bool o]) ∧ (o = true ↔ Valid B V) ∧ (o = true → Te w' A' n' (codes B V) ∧ n' ≤ 256 ∧ ∀ b off, A' = some ⟨b, off, none⟩ → w.heap.size ≤ b) := by
  refine (refCodes_any w B V A n c hB h).mono ?_
  rintro e w' ⟨k, h | ⟨hv, A', n', c', rfl, ht⟩⟩
  · exact ⟨k, none, 0, 0, false, h.2, by simp [h.1], fun h => by cases h⟩
  · exact ⟨k, A', n', c', true, rfl, by simp [hv], fun _ => ht⟩
set_option maxRecDepth 10000 in
set_option maxHeartbeats 6400000 in
theorem codes_any (w : World) (K : Int) (T : Tbs) (X : Nat → Value) (hX : Xs w T X) (hW : Wt T) : Calls Tryd.prog 29 #[.int .i64 K, tbV T X] w (CodesY w K T) := by
  obtain ⟨C, hC⟩ : ∃ C, C = (tbC T X).toArray := ⟨_, rfl⟩
  have eC : tbV T X = .agg C := by rw [hC]; rfl
  obtain ⟨g1, hg1⟩ : ∃ g1, w.heap.size = g1 := ⟨_, rfl⟩
  obtain ⟨w1, hw1⟩ : ∃ w1, w.alloc (.cells C 33) = w1 := ⟨_, rfl⟩
  have b1 : Box w1 g1 33 (tbC T X).toArray := by rw [← hw1, ← hg1, ← hC]; exact Box.made _ _ _
  have k1 : Below w.heap.size w w1 := by rw [← hw1]; exact on_alloc _ _
  have H3 := Lib.hid (And.intro b1 (And.intro k1 hg1))
  have HX := Lib.hid (And.intro (fun w' (k : Below w.heap.size w w') => hX.on k) hW)
  have hP := fun w' => parts_any w' K
  obtain ⟨np, hnp⟩ : ∃ np, np = nP K := ⟨_, rfl⟩
  rw [← hnp] at hP
  have HP := Lib.hid hP
  have hcn : nC K = min 2 np := by rw [hnp]; unfold nC nP; split <;> rfl
  have hnp3 := nP_le K
  rw [← hnp] at hnp3
  have HC := Lib.hid hcn
  rw [eC]
  clear b1 k1 hX hW eC hC hP hnp
  go_enter Tryd.func29, Tryd.ntmps29
  go_wp2_with fail
  clear hw1 hg1
  go_loopw [6, 7] (fun v i wr => ∃ (k base hi : Nat) (xs : List Value), k ≤ 2 ∧ k ≤ np ∧ i = .int .i64 (k : Int) ∧ CR wr T v k base hi xs ∧ Below w.heap.size w wr ∧ Box wr g1 33 (tbC T X).toArray ∧ (k ≠ 0 → g1 < base)) (fun _ i _ => 2 - (intOf i).toNat)
  case atStart => exact ⟨0, 0, 0, [], by omega, by omega, rfl, ⟨World.ownsRow_nil _ _ _ _, Nat.zero_le _, fun _ => rfl, fun _ => Nat.le_refl _, fun c hc => absurd hc (by omega), fun c hc => absurd hc (by omega)⟩, H3.out.2.1, H3.out.1, fun h => absurd rfl h⟩
  case round =>
    obtain ⟨k, base, hi, xs, hk2, hkn, rfl, hcr, hbel, hbx, hgb⟩ := hrel
    obtain ⟨A0, c0, hv0⟩ := own_slice hcr.own
    subst hv0
    have HL := Lib.hid (And.intro hcr (And.intro hbel hbx))
    by_cases hlt : k < 2
    · have hk2i : (k : Int) < 2 := by omega
      by_cases hln : k < np
      · have hkni : (k : Int) < (np : Int) := by omega
        have hld1 : (Instr.loadAt 30 (.pointer (some ⟨g1, 128 + k * 17, none⟩))).run Tryd.prog wr = .ok (specV (T.B k) (X k)) wr := by
          have := (hbx.rng).loadS HX.out.2 (j := k) (by omega)
          rwa [Nat.mul_comm] at this
        obtain ⟨A1, n1, c1, e1, i1⟩ := (HX.out.1 _ hbel) k (by omega)
        rw [e1] at hld1
        have HLd1 := Lib.hid hld1
        have HN1 := Lib.hid (refCodes_one wr (T.B k) (T.V k) A1 n1 c1 (HX.out.2.sb k (by omega)) i1)
        clear hcr hbel hbx hld1 i1
        go_wp2_with (first
          | (go_at_call 60; with_reducible refine (HP.out _).mono ?_; rintro e w6 ⟨rfl, rfl⟩)
          | (with_reducible refine wpList_load_to (op := ⟨some 26, _, _, _, _, _⟩) rfl 30 (.tmp 25) rfl (.pointer (some ⟨g1, 128 + k * 17, none⟩)) rfl (specV (T.B k) (.slice A1 n1 c1)) HLd1.out ?_)
          | fail)
        refine Calls.mono HN1.out ?_
        rintro e w5 ⟨k5, A5, n5, c5, o5, rfl, ho5, ht5⟩
        have hld2 : (Instr.loadAt 30 (.pointer (some ⟨g1, 162 + k * 17, none⟩))).run Tryd.prog w5 = .ok (specV (T.B (k + 2)) (X (k + 2))) w5 := by
          have := ((HL.out.2.2.on k5).rng).loadS HX.out.2 (j := k + 2) (by omega)
          rwa [show 128 + 17 * (k + 2) = 162 + k * 17 by omega] at this
        obtain ⟨A2, n2, c2, e2, i2⟩ := (HX.out.1 _ (on_trans HL.out.2.1 k5)) (k + 2) (by omega)
        rw [e2] at hld2
        have HLd2 := Lib.hid hld2
        have HN2 := Lib.hid (refCodes_one w5 (T.B (k + 2)) (T.V (k + 2)) A2 n2 c2 (HX.out.2.sb (k + 2) (by omega)) i2)
        have H5 := Lib.hid (And.intro (HL.out.1.on k5) (And.intro (on_trans HL.out.2.1 k5) (And.intro (HL.out.2.2.on k5) (And.intro ho5 (And.intro ht5 k5.size)))))
        clear k5 ho5 ht5 hld2 i2 HLd1 HN1
        go_wp2_with (first
          | (with_reducible refine wpList_load_to (op := ⟨some 34, _, _, _, _, _⟩) rfl 30 (.tmp 33) rfl (.pointer (some ⟨g1, 162 + k * 17, none⟩)) rfl (specV (T.B (k + 2)) (.slice A2 n2 c2)) HLd2.out ?_)
          | fail)
        refine Calls.mono HN2.out ?_
        rintro e w6 ⟨k6, A6, n6, c6, o6, rfl, ho6, ht6⟩
        have H6 := Lib.hid (And.intro (H5.out.1.on k6) (And.intro (on_trans H5.out.2.1 k6) (And.intro (H5.out.2.2.1.on k6) (And.intro ho6 (And.intro ht6 (And.intro k6 k6.size))))))
        clear k6 ho6 ht6 HLd2 HN2
        have bad : ¬ (Valid (T.B k) (T.V k) ∧ Valid (T.B (k + 2)) (T.V (k + 2))) → ¬ OkT K T := fun h ho => h (ho k (by rw [HC.out]; omega))
        have HBad := Lib.hid bad
        clear bad
        cases o5 with
        | false =>
          go_wp2_with fail
          go_ret2
          exact ⟨H6.out.2.1, .inr ⟨HBad.out (fun h => by have := H5.out.2.2.2.1.2 h.1; simp at this), rfl⟩⟩
        | true =>
        cases o6 with
        | false =>
          go_wp2_with fail
          go_ret2
          exact ⟨H6.out.2.1, .inr ⟨HBad.out (fun h => by have := H6.out.2.2.2.1.2 h.2; simp at this), rfl⟩⟩
        | true =>
          obtain ⟨w7, hw7⟩ : ∃ w7, w6.alloc (.cells #[.slice A5 n5 c5, .slice A6 n6 c6] 87) = w7 := ⟨_, rfl⟩
          obtain ⟨g7, hg7⟩ : ∃ g7, w6.heap.size = g7 := ⟨_, rfl⟩
          have b7 : Box w7 g7 87 #[.slice A5 n5 c5, .slice A6 n6 c6] := by rw [← hw7, ← hg7]; exact Box.made _ _ _
          have k7 : Below w6.heap.size w6 w7 := by rw [← hw7]; exact on_alloc _ _
          obtain ⟨base', hb', hn', hi', hhi'⟩ : ∃ base', base' ≤ w7.heap.size ∧ (k = 0 → base' = w6.heap.size) ∧ (k ≠ 0 → base' = base) ∧ True := by
            by_cases h0 : k = 0
            · exact ⟨w6.heap.size, k7.size, fun _ => rfl, fun h => absurd h0 h, trivial⟩
            · exact ⟨base, Nat.le_trans H6.out.1.bs k7.size, fun h => absurd h h0, fun _ => rfl, trivial⟩
          have hown : w7.ownsRow base' 87 1 (.slice A0 (2 * k) c0) (2 * k) xs := by
            by_cases h0 : k = 0
            · subst h0
              have h1 := H6.out.1.nil_ rfl
              have h2 := H6.out.1.own.1
              rw [h1]
              have : xs = [] := List.eq_nil_of_length_eq_zero (by omega)
              rw [this]
              exact World.ownsRow_nil _ _ _ _
            · rw [hi' h0]
              exact (H6.out.1.on k7).own
          have H7 := Lib.hid (And.intro hown (And.intro b7 (And.intro k7 (And.intro hb' (And.intro hn' hi')))))
          have hk6 : 2 * k + 2 ≤ 6 := by omega
          clear hown b7 k7 hb' hn' hi' hhi'
          go_wp2_with (first
            | ((refine wpList_append_gk el_codes rfl (.tmp 44) (.tmp 47) rfl base' (.slice A0 (2 * k) c0) (2 * k) xs rfl H7.out.1 ⟨g7, 0, none⟩ 2 2 [.slice A5 n5 c5, .slice A6 n6 c6] rfl rfl (box_read H7.out.2.1) ?h1 (by omega) H7.out.2.2.2.1 ?_)
               case h1 => intro u hu; simp at hu; rcases hu with rfl | rfl <;> rfl
               intro v9 w9 hown9 k9
               obtain ⟨A9, c9, hv9⟩ := own_slice hown9
               subst hv9
               have H9 := Lib.hid (And.intro hown9 k9)
               clear hown9 k9)
            | fail)
          have hcr9 : CR w9 T (.slice A9 (2 * k + 2) c9) (k + 1) base' (if k = 0 then base' else w9.heap.size) (xs ++ [.slice A5 n5 c5, .slice A6 n6 c6]) := by
            have hsz9 := H9.out.2.size
            have hxl : xs.length = 2 * k := by have := H6.out.1.own.1; omega
            have h69 : ∀ b, w6.heap.size ≤ b ∨ b < base' ∨ (k ≠ 0 ∧ wr.heap.size ≤ b) → ¬ (Value.slice A0 (2 * k) c0).ownBlock = some b ∨ k = 0 := fun b hb => by
              by_cases h0 : k = 0
              · exact .inr h0
              · refine .inl fun e => ?_
                obtain ⟨h1, cs, h2⟩ := own_block3 HL.out.1.own e
                have h3 := (Array.getElem?_eq_some_iff.1 h2).1
                have := H7.out.2.2.2.2.2 h0
                have := H5.out.2.2.2.2.2
                have := H6.out.2.2.2.2.2.2
                omega
            have hno : k = 0 → (Value.slice A0 (2 * k) c0).ownBlock = none := fun h0 => by rw [HL.out.1.nil_ h0]; rfl
            have hS : ∀ b, w6.heap.size ≤ b ∨ b < base' ∨ (k ≠ 0 ∧ wr.heap.size ≤ b) → ¬ (Value.slice A0 (2 * k) c0).ownBlock = some b := fun b hb e => by
              rcases h69 b hb with h | h
              · exact h e
              · rw [hno h] at e
                cases e
            refine ⟨H9.out.1, Nat.le_trans H7.out.2.2.2.1 hsz9, fun h => absurd h (by omega), fun h => ?_, fun c hc => ?_, fun c hc => ?_⟩
            · rw [if_pos (by omega)]
              exact Nat.le_refl _
            · by_cases hck : c < k
              · have hk0 : k ≠ 0 := by omega
                have hlb := H6.out.1.lt hlt
                have hbb := H7.out.2.2.2.2.2 hk0
                have h1 := ((H6.out.1.rows c hck).on H7.out.2.2.1).kept H9.out.2 (fun b hb => hS b (.inr (.inl (by omega))))
                have hb9 := H7.out.2.2.2.1
                exact h1.more (by rw [if_neg hk0]; omega)
              · obtain rfl : c = k := by omega
                obtain ⟨t5, m5, q5⟩ := H5.out.2.2.2.2.1 trivial
                obtain ⟨t6, m6, q6⟩ := H6.out.2.2.2.2.1 trivial
                have hw56 := H6.out.2.2.2.2.2.2
                have hwr5 := H5.out.2.2.2.2.2
                have t5' := ((t5.on H6.out.2.2.2.2.2.1).on H7.out.2.2.1)
                have t6' := t6.on H7.out.2.2.1
                refine ⟨A5, n5, c5, A6, n6, c6, ?_, ?_, t5'.keptB H9.out.2 (fun h0 b off e => ?_), t6'.keptB H9.out.2 (fun h0 b off e => ?_), m5, m6, fun h0 b off e => ?_, fun h0 b off e => ?_⟩
                · rw [List.getElem?_append_right (by omega), hxl, Nat.sub_self]; rfl
                · rw [List.getElem?_append_right (by omega), hxl, show 2 * c + 1 - 2 * c = 1 by omega]; rfl
                · have := q5 b off e
                  by_cases h0 : c = 0
                  · intro e'
                    rw [hno h0] at e'
                    cases e'
                  · exact hS b (.inr (.inr ⟨h0, this⟩))
                · have := q6 b off e
                  by_cases h0 : c = 0
                  · intro e'
                    rw [hno h0] at e'
                    cases e'
                  · exact hS b (.inr (.inr ⟨h0, by omega⟩))
                · obtain ⟨b', off', e', hb', _⟩ := t5.at_ h0
                  rw [e] at e'
                  cases e'
                  have hb9 := H7.out.2.2.2.1
                  split
                  · next h0 => rw [H7.out.2.2.2.2.1 h0]; omega
                  · have := H7.out.2.2.1.size; omega
                · obtain ⟨b', off', e', hb', _⟩ := t6.at_ h0
                  rw [e] at e'
                  cases e'
                  split
                  · next h0 => rw [H7.out.2.2.2.2.1 h0]; omega
                  · have := H7.out.2.2.1.size; omega
            · by_cases hck : c < k
              · exact H6.out.1.ok c hck
              · obtain rfl : c = k := by omega
                exact ⟨H5.out.2.2.2.1.1 trivial, H6.out.2.2.2.1.1 trivial⟩
          have hg : w.heap.size = g1 := H3.out.2.2
          have kb : ∀ i, i < g1 + 1 → ¬ (Value.slice A0 (2 * k) c0).ownBlock = some i := fun i hi e => by
            obtain ⟨h1, cs, h2⟩ := own_block3 H7.out.1 e
            by_cases h0 : k = 0
            · rw [HL.out.1.nil_ h0] at e
              cases e
            · exact absurd h1 (by have := H7.out.2.2.2.2.2 h0; have := hgb h0; omega)
          exact ⟨⟨k + 1, _, _, _, by omega, by omega, by push_cast; rfl, hcr9, (on_trans H6.out.2.1 H7.out.2.2.1).trans (H9.out.2.below (on_trans H6.out.2.1 H7.out.2.2.1).size (fun i hi e => kb i (by omega) e)), H9.out.2.box (H6.out.2.2.1.on H7.out.2.2.1) (fun e => kb g1 (by omega) e), fun _ => by have hl1 := H6.out.2.2.1.lt; by_cases h0 : k = 0; (rw [H7.out.2.2.2.2.1 h0]; exact hl1); (rw [H7.out.2.2.2.2.2 h0]; exact hgb h0)⟩, by show 2 - ((k : Int) + 1).toNat < 2 - (k : Int).toNat; omega⟩
      · obtain rfl : k = np := by omega
        have hkni : ¬ (k : Int) < (k : Int) := by omega
        clear hcr hbel hbx
        go_wp2_with (first
          | (go_at_call 60; with_reducible refine (HP.out _).mono ?_; rintro e w6 ⟨rfl, rfl⟩)
          | fail)
        go_ret2
        refine ⟨HL.out.2.1, .inl ⟨fun c hc => HL.out.1.ok c (by rw [HC.out] at hc; omega), ?_⟩⟩
        obtain ⟨A9, c9, e9, h9⟩ := HL.out.1.crs (by omega)
        cases e9
        rw [HC.out, show min 2 k = k by omega]
        exact ⟨_, _, rfl, h9⟩
    · obtain rfl : k = 2 := by omega
      clear hcr hbel hbx
      go_wp2_with fail
      go_ret2
      refine ⟨HL.out.2.1, .inl ⟨fun c hc => HL.out.1.ok c (by rw [HC.out] at hc; omega), ?_⟩⟩
      obtain ⟨A9, c9, e9, h9⟩ := HL.out.1.crs (by omega)
      cases e9
      rw [HC.out, show min 2 np = 2 by omega]
      exact ⟨_, _, rfl, h9⟩
end Go.Proofs.YtdnjnbfmmgkpjaaDoor
