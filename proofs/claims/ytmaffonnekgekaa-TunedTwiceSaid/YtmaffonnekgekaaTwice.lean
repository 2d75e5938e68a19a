/-
  TunedTwice: the walk.
-/
import Derived.Test.YtmaffonnekgekaaCosts
import Derived.Test.YtmaffonnekgekaaHeld
namespace Go.Proofs.Ytmaffonnekgekaa
open Go.RowKit

theorem il_put {w : World} {b off n c : Nat} {l : List Int} (h : Il w (some ⟨b, off, none⟩) n c l) {i : Nat} (hi : i < n) (z : Int) : Il (w.setCell ⟨b, off + i, none⟩ (.int .i64 z)) (some ⟨b, off, none⟩) n c (l.set i z) := by
  have hl := h.len
  refine ⟨by rw [List.length_set]; exact hl, h.cap, h.max, (fun e => by cases e), fun b' off' e => ?_, fun h0 => ?_⟩
  · cases e
    obtain ⟨cs, fr, hh⟩ := h.typ b off rfl
    refine ⟨cs.setIfInBounds (off + i) (.int .i64 z), fr, ?_⟩
    simp [World.setCell, Array.getElem?_modify, hh]
  · obtain ⟨b', off', e, hb, hc⟩ := h.at_ h0
    cases e
    refine ⟨b, off, rfl, by simpa [World.setCell] using hb, fun j hj => ?_⟩
    by_cases e : i = j
    · subst e
      rw [World.cell?_setCell_same _ _ _ (hc i hi), getD_set_same _ (by omega)]
    · rw [World.cell?_setCell_other _ _ _ _ (fun e' => e (by have := congrArg Addr.off e'; simp at this; omega)), getD_set_ne _ e]
      exact hc j hj

theorem CostIs.bound {C B V : List Int} {t x : Int} (h : CostIs C B V t x) (hl : C.length ≤ 300) : 0 ≤ t ∧ t ≤ 5277655813324800 := by
  rcases h with ⟨_, h, _⟩ | ⟨_, _, h, _⟩ | ⟨_, _, _, h, _⟩ | ⟨hg, hv, _, h, _⟩
  · omega
  · omega
  · omega
  · have := costTo_bound hv C.length hg.rang
    rw [← h] at this
    refine ⟨this.1, Int.le_trans this.2 ?_⟩
    have : (C.length : Int) ≤ 300 := by omega
    omega
theorem costTo_twice {C D : List Int} (L : List En) (h : ∀ j, D.getD j 0 = 2 * C.getD j 0) : ∀ k, costTo D L k = 2 * costTo C L k
  | 0 => rfl
  | k + 1 => by
    rw [costTo, costTo, costTo_twice L h k, h k, Int.mul_add, Int.mul_assoc]
theorem CostIs.twice {C D B V : List Int} {t x t' x' : Int} (h : CostIs C B V t x) (h' : CostIs D B V t' x') (hd : ∀ j, D.getD j 0 = 2 * C.getD j 0) (hl : D.length = C.length) (hr : ∀ j, j < C.length → 0 ≤ C.getD j 0 ∧ C.getD j 0 ≤ 549755813888) : t' = 2 * t ∧ x = x' := by
  have hg : Good C ↔ Good D := by
    refine ⟨fun h => ⟨fun j hj => ?_, by rw [hl]; exact h.one, by rw [hl]; exact h.few⟩, fun h => ⟨fun j hj => ?_, by rw [← hl]; exact h.one, by rw [← hl]; exact h.few⟩⟩
    · rw [hd j]
      have := hr j (by omega)
      omega
    · have := hr j hj
      omega
  have key : CostIs D B V (2 * t) x := by
    rcases h with ⟨a, b, c⟩ | ⟨a, a2, b, c⟩ | ⟨a, a2, ⟨j, h1, h2, h3⟩, b, c⟩ | ⟨a, a2, a3, b, c⟩
    · exact .inl ⟨fun h => a (hg.2 h), by omega, c⟩
    · exact .inr (.inl ⟨hg.1 a, a2, by omega, c⟩)
    · exact .inr (.inr (.inl ⟨hg.1 a, a2, ⟨j, by omega, by rw [hd j]; omega, h3⟩, by omega, c⟩))
    · refine .inr (.inr (.inr ⟨hg.1 a, a2, fun j hj hp => a3 j (by omega) (by have := hd j; omega), ?_, c⟩))
      rw [hl, costTo_twice _ hd, b]
  obtain ⟨e1, e2⟩ := h'.only key
  exact ⟨e1, e2.symm⟩

theorem copied_row' {w w1 w3 : World} {o : Obj} {n : Nat} {C : List Int} {v : Value} (hw : w1 = w.alloc o) (hs : w1.heap.size = w.heap.size + 1) (hown : w3.ownsRow (w.heap.size + 1) 3 1 v (0 + n) (cellsI ([] ++ C))) (hb : Below (w.heap.size + 1) ((w.alloc o).alloc (.cells #[] 3)) w3) :
    ∃ A c, v = .slice A n c ∧ Il w3 A n c C ∧ (∀ b off, A = some ⟨b, off, none⟩ → w1.heap.size ≤ b ∧ b < w3.heap.size ∧ ∀ i, w3.frozen? ⟨b, off + i, none⟩ = false) ∧ Below w1.heap.size w1 w3 := by
  rw [← hw] at hb
  rw [← hs] at hown hb
  exact copied_row hown hb
/-- the law's arguments, and its own row of twice the counts -/
structure Twc (w wr : World) (g lo : Nat) (B V : List Int) (A : Option Addr) (n c : Nat) (C : List Int) (A2 : Option Addr) (n2 c2 : Nat) (A5 : Option Addr) (c5 : Nat) (D : List Int) : Prop where
  box : Boxed w wr g B V A n c
  cs : Ia wr A2 n2 c2 C
  tw : Il wr A5 n2 c5 D
  own : ∀ b off, A5 = some ⟨b, off, none⟩ → lo ≤ b ∧ ∀ i, wr.frozen? ⟨b, off + i, none⟩ = false
  ord : g = w.heap.size ∧ w.heap.size < lo
  arg : (∀ b off, A = some ⟨b, off, none⟩ → 0 < n → b < w.heap.size) ∧ (∀ b off, A2 = some ⟨b, off, none⟩ → 0 < n2 → b < w.heap.size)
theorem Twc.on {w wr w' : World} {g lo : Nat} {B V : List Int} {A : Option Addr} {n c : Nat} {C : List Int} {A2 : Option Addr} {n2 c2 : Nat} {A5 : Option Addr} {c5 : Nat} {D : List Int} (h : Twc w wr g lo B V A n c C A2 n2 c2 A5 c5 D) (k : Below wr.heap.size wr w') : Twc w w' g lo B V A n c C A2 n2 c2 A5 c5 D := by
  refine ⟨h.box.on k, h.cs.on k, h.tw.on k, fun b off e => ⟨(h.own b off e).1, fun i => ?_⟩, h.ord, h.arg⟩
  obtain ⟨cs, fr, hh⟩ := h.tw.typ b off e
  exact ((Kept.of_below k (fun _ => False)).frozen (Array.getElem?_eq_some_iff.1 hh).1 (fun h => h)).trans ((h.own b off e).2 i)
theorem Twc.put {w wr : World} {g lo : Nat} {B V : List Int} {A : Option Addr} {n c : Nat} {C : List Int} {A2 : Option Addr} {n2 c2 : Nat} {b off : Nat} {c5 : Nat} {D : List Int} (h : Twc w wr g lo B V A n c C A2 n2 c2 (some ⟨b, off, none⟩) c5 D) {i : Nat} (hi : i < n2) (z : Int) :
    Twc w (wr.setCell ⟨b, off + i, none⟩ (.int .i64 z)) g lo B V A n c C A2 n2 c2 (some ⟨b, off, none⟩) c5 (D.set i z) := by
  have k := kept_put wr b (off + i) (.int .i64 z)
  have hb := (h.own b off rfl).1
  obtain ⟨o1, o2⟩ := h.ord
  refine ⟨⟨k.box h.box.box (by omega), h.box.vals.kept k h.arg.1 (fun b' hb' => by omega), h.box.bel.trans (k.below h.box.bel.size (fun i hi e => by omega)), h.box.len⟩, h.cs.kept k h.arg.2 (fun b' hb' => by omega), il_put h.tw hi z, fun b' off' e => ?_, h.ord, h.arg⟩
  cases e
  exact ⟨hb, fun j => by rw [World.frozen?_setCell]; exact (h.own b off rfl).2 j⟩

set_option linter.unusedSimpArgs false in
set_option maxRecDepth 20000 in
set_option maxHeartbeats 3200000 in
theorem twice_calls (w : World) (B V : List Int) (A : Option Addr) (n c : Nat) (C : List Int) (A2 : Option Addr) (n2 c2 : Nat) (hB : B.length = 16) (h : Ia w A n c V) (h2 : Ia w A2 n2 c2 C) :
    Calls Try.prog 7 #[specV B (.slice A n c), .slice A2 n2 c2] w (Law w) := by
  obtain ⟨CC, hC⟩ : ∃ CC, CC = specC B (.slice A n c) := ⟨_, rfl⟩
  have eV : specV B (.slice A n c) = .agg CC := by rw [hC]; rfl
  rw [eV]
  obtain ⟨g, hg⟩ : ∃ g, g = w.heap.size := ⟨_, rfl⟩
  obtain ⟨w1, hw1⟩ : ∃ w1, w1 = w.alloc (.cells CC 26) := ⟨_, rfl⟩
  have hb := boxed_made (w1 := w1) (g := g) hB h (by rw [hw1, hC]) hg
  have c16 := hb.slice
  rw [hw1, hg] at c16
  have harg : (∀ b off, A = some ⟨b, off, none⟩ → 0 < n → b < w.heap.size) ∧ (∀ b off, A2 = some ⟨b, off, none⟩ → 0 < n2 → b < w.heap.size) := by
    constructor
    · intro b off e h0
      obtain ⟨b', off', e', hb', _⟩ := h.at_ h0
      rw [e] at e'
      cases e'
      exact hb'
    · intro b off e h0
      obtain ⟨b', off', e', hb', _⟩ := h2.at_ h0
      rw [e] at e'
      cases e'
      exact hb'
  have hsz : w1.heap.size = w.heap.size + 1 := by rw [hw1]; simp
  have hrow : ((w.alloc (.cells CC 26)).alloc (.cells #[] 3)).ownsRow (w.heap.size + 1) 3 1 (.slice (some ⟨w.heap.size + 1, 0, none⟩) 0 0) 0 (cellsI []) := by
    rw [← hw1, ← hsz]
    exact World.ownsRow_made (base := w1.heap.size) (e := 3) (size := 1) w1 #[] 0 (Nat.le_refl _) (Nat.zero_le _) rfl
  have hia : Ia ((w.alloc (.cells CC 26)).alloc (.cells #[] 3)) A2 n2 c2 C := by rw [← hw1]; exact (h2.on hb.bel).alloc _
  have HA := Lib.hid (And.intro hrow hia)
  clear hrow hia
  have HB := Lib.hid (And.intro hb (And.intro hw1 (And.intro hg (And.intro (h2.on hb.bel) (And.intro harg (And.intro hsz h2.len))))))
  clear hb hw1 hg hC eV h h2 harg hsz
  by_cases hn2 : 300 < n2
  · go_enter Try.func7, Try.ntmps7
    go_wp2_with fail
    rw [← HB.out.2.1]
    refine (awake_any w1).mono ?_
    rintro e w2 ⟨rfl, b2⟩
    have H2 := Lib.hid (on_trans HB.out.1.bel b2)
    clear b2
    go_wp2
    go_ret
    exact ⟨rfl, H2.out⟩
  by_cases hn : 300 < n
  · go_enter Try.func7, Try.ntmps7
    go_wp2_with fail
    rw [← HB.out.2.1]
    refine (awake_any w1).mono ?_
    rintro e w2 ⟨rfl, b2⟩
    have H2 := Lib.hid (on_trans HB.out.1.bel b2)
    clear b2
    go_wp2
    go_ret
    exact ⟨rfl, H2.out⟩
  have HN := Lib.hid (And.intro hn hn2)
  go_enter Try.func7, Try.ntmps7
  go_wp2_with (first
    | (at_builtin; refine wpList_append_ia (o := ⟨some 24, _, _, _, _, _⟩) rfl (.tmp 22) (.tmp 23) rfl (w.heap.size + 1) (.slice (some ⟨w.heap.size + 1, 0, none⟩) 0 0) 0 [] rfl HA.out.1 A2 n2 c2 C rfl HA.out.2 (by omega) (by simp) ?_; intro v3 w3 hown1 b1; obtain ⟨A5, c5, rfl, hi5, hlo5, bel5⟩ := copied_row' HB.out.2.1 HB.out.2.2.2.2.2.1 hown1 b1; have H3 := Lib.hid (And.intro hi5 (And.intro hlo5 bel5)); clear hown1 b1 hi5 hlo5 bel5)
    | fail)
  rw [← HB.out.2.2.1]
  clear c16
  have ho : w.heap.size < w1.heap.size := by have := HB.out.2.2.2.2.2.1; omega
  obtain ⟨lo, hlo⟩ : ∃ lo, lo = w1.heap.size := ⟨_, rfl⟩
  have h3 : Twc w w3 g lo B V A n c C A2 n2 c2 A5 c5 C := ⟨HB.out.1.on H3.out.2.2, HB.out.2.2.2.1.on H3.out.2.2, H3.out.1, fun b off e => ⟨by rw [hlo]; exact (H3.out.2.1 b off e).1, (H3.out.2.1 b off e).2.2⟩, ⟨HB.out.2.2.1, by rw [hlo]; exact ho⟩, HB.out.2.2.2.2.1⟩
  have H4 := Lib.hid h3
  clear h3 ho hlo H3
  go_loopw [27] (fun i wr => ∃ (k : Nat) (D : List Int), k ≤ n2 ∧ i = .int .i64 k ∧ Twc w wr g lo B V A n c C A2 n2 c2 A5 c5 D ∧ D.length = C.length ∧ (∀ j, j < k → D.getD j 0 = 2 * C.getD j 0 ∧ 0 ≤ C.getD j 0 ∧ C.getD j 0 ≤ 549755813888) ∧ (∀ j, k ≤ j → D.getD j 0 = C.getD j 0)) (fun i _ => n2 - (intOf i).toNat)
  case atStart => exact ⟨0, C, Nat.zero_le _, rfl, H4.out, rfl, fun j hj => absurd hj (by omega), fun j _ => rfl⟩
  case round =>
    obtain ⟨k, D, hk, rfl, hT, hD⟩ := hrel
    have HR := Lib.hid (And.intro hT hD)
    by_cases hlt : k < n2
    · have hlti : (k : Int) < (n2 : Int) := by omega
      obtain ⟨bb, off, hA, hbl, hc⟩ := hT.cs.at_ (by omega)
      have ck := hc k hlt
      obtain ⟨bt, offt, hA5, hbt, hct⟩ := hT.tw.at_ (by omega)
      have dk := hct k hlt
      have fk := (hT.own bt offt hA5).2 k
      obtain ⟨v, hv⟩ : ∃ v, v = C.getD k 0 := ⟨_, rfl⟩
      obtain ⟨y, hy⟩ : ∃ y, y = D.getD k 0 := ⟨_, rfl⟩
      rw [← hv] at ck
      rw [← hy] at dk
      have HV := Lib.hid hv
      clear hc hct hT hD hv hy
      subst hA hA5
      by_cases hv0 : v < 0
      · go_wp2_with fail
        refine (awake_any wr).mono ?_
        rintro e w6 ⟨rfl, b6⟩
        have H6 := Lib.hid (on_trans HR.out.1.box.bel b6)
        clear b6
        go_wp2
        go_ret
        exact ⟨rfl, H6.out⟩
      by_cases hv1 : 549755813888 < v
      · go_wp2_with fail
        refine (awake_any wr).mono ?_
        rintro e w6 ⟨rfl, b6⟩
        have H6 := Lib.hid (on_trans HR.out.1.box.bel b6)
        clear b6
        go_wp2
        go_ret
        exact ⟨rfl, H6.out⟩
      go_wp2
      go_roundw
      case rel =>
        obtain ⟨hT, hl, h1, h2⟩ := HR.out
        have hlC : D.length = n2 := hT.tw.len
        refine ⟨k + 1, D.set k (2 * v), by omega, by go_num, hT.put hlt (2 * v), by rw [List.length_set]; exact hl, fun j hj => ?_, fun j hj => ?_⟩
        · by_cases e : k = j
          · subst e
            rw [getD_set_same _ (by omega), HV.out]
            exact ⟨rfl, by rw [← HV.out]; omega, by rw [← HV.out]; omega⟩
          · rw [getD_set_ne _ e]
            exact h1 j (by omega)
        · rw [getD_set_ne _ (by omega)]
          exact h2 j (by omega)
      case measure => simp [intOf]; omega
    · have ek : k = n2 := by omega
      subst ek
      have hlC : C.length = k := HB.out.2.2.2.2.2.2
      have hfin : (∀ j, D.getD j 0 = 2 * C.getD j 0) ∧ (∀ j, j < C.length → 0 ≤ C.getD j 0 ∧ C.getD j 0 ≤ 549755813888) := by
        refine ⟨fun j => ?_, fun j hj => (hD.2.1 j (by omega)).2⟩
        rcases Nat.lt_or_ge j k with h' | h'
        · exact (hD.2.1 j h').1
        · rw [getD_out (by have := hD.1; omega), getD_out (by omega)]
          rfl
      have HF := Lib.hid hfin
      clear hfin hT hD hlC
      go_wp2_with fail
      have K1 := Lib.hid HR.out.1.box.box
      refine wp_region_held_drew (S := fun w' => Box w' g 26 (specC B (.slice A n c))) (by kernel_rfl) (K1.out.drewN 1) fun s0 => ?_
      refine wpAnyH_take (i := 0) rfl (by kernel_rfl) (by kernel_rfl) (by kernel_rfl) (fun _ _ _ h => h) (yieldsIf_load_mid (by rfl) 26 _ rfl g 0 rfl (cellsI B ++ [.slice A n c]) _ (fun w' h => h.spec_all) Try.underlying26 rfl (by rw [spec_size, List.length_append, cellsI_len, hB]; rfl)) s0 ?_
      simp only [Act.put, List.setIfInBounds_toArray, List.set_cons_zero, List.set_cons_succ]
      refine wpAnyH_take (i := 2) (v := .slice A2 k c2) rfl (by kernel_rfl) (by kernel_rfl) (by kernel_rfl) (fun _ _ _ h => h) (Or.inl ⟨by rfl, fun w' hS => by go_simp⟩) s0 ?_
      simp only [Act.put, List.setIfInBounds_toArray, List.set_cons_zero, List.set_cons_succ]
      refine wpAnyH_ready (rs := [1]) (by kernel_rfl) (by simp) ?_
      refine AllReadyH.cons rfl (fun K hK => ?_) AllReadyH.nil
      go_simp
      refine hK.out _ _ (K1.out.alloc _) fun s1 => ?_
      clear hK K s0
      refine wpAnyH_ready (rs := [3]) (by kernel_rfl) (by simp) ?_
      refine AllReadyH.cons rfl (fun K hK => ?_) AllReadyH.nil
      refine step_append_il rfl (.tmp 47) (.tmp 48) rfl wr.heap.size (.slice (some ⟨wr.heap.size, 0, none⟩) 0 0) 0 [] rfl (World.ownsRow_made wr #[] 0 (Nat.le_refl _) (Nat.zero_le _) rfl) A2 k c2 C rfl ((HR.out.1.cs.alloc _).drew) (by have := HN.out.2; omega) (by simp) (some 49) rfl ?_
      intro v3 w3 hown3 bq
      obtain ⟨A3, c3, hv3, hi3, _, b3⟩ := copied_row hown3 ⟨bq.os, bq.tape, bq.output, bq.size, bq.block⟩
      rw [hv3]
      clear hown3 hv3 bq
      simp only [Act.put, List.setIfInBounds_toArray, List.set_cons_zero, List.set_cons_succ]
      have H3 := Lib.hid (And.intro hi3 (HR.out.1.on b3))
      clear hi3 b3
      refine hK.out _ _ H3.out.2.box.box fun s2 => ?_
      clear hK K s1
      refine wpAnyH_ready (rs := [4]) (by kernel_rfl) (by simp) ?_
      refine AllReadyH.cons rfl (fun K hK => ?_) AllReadyH.nil
      go_simp
      refine (cost_any w3 B V C A A3 n c k c3 hB H3.out.2.box.vals (by have := HN.out.1; omega) H3.out.1.ia (by have := HN.out.2; omega)).mono ?_
      rintro e w4 ⟨t1, x1, rfl, hc1, b4⟩
      have H5 := Lib.hid (And.intro hc1 (H3.out.2.on b4))
      clear hc1 b4
      refine hK.out _ _ H5.out.2.box.box fun s3 => ?_
      clear hK K s2
      refine wpAnyH_take (i := 5) (v := .tuple #[.int .i64 t1, .int .i64 x1]) rfl (by kernel_rfl) (by kernel_rfl) (by kernel_rfl) (fun _ _ _ h => h) (Or.inl ⟨by rfl, fun w' hS => by go_simp⟩) s3 ?_
      simp only [Act.put, List.setIfInBounds_toArray, List.set_cons_zero, List.set_cons_succ]
      refine wpAnyH_take (i := 6) (v := .int .i64 t1) rfl (by kernel_rfl) (by kernel_rfl) (by kernel_rfl) (fun _ _ _ h => h) (Or.inl ⟨by rfl, fun w' hS => by go_simp⟩) s3 ?_
      simp only [Act.put, List.setIfInBounds_toArray, List.set_cons_zero, List.set_cons_succ]
      refine wpAnyH_take (i := 7) (v := .int .i64 x1) rfl (by kernel_rfl) (by kernel_rfl) (by kernel_rfl) (fun _ _ _ h => h) (Or.inl ⟨by rfl, fun w' hS => by go_simp⟩) s3 ?_
      simp only [Act.put, List.setIfInBounds_toArray, List.set_cons_zero, List.set_cons_succ]
      refine wpAnyH_take (i := 8) (v := .int .i64 t1) rfl (by kernel_rfl) (by kernel_rfl) (by kernel_rfl) (fun _ _ _ h => h) (Or.inl ⟨by rfl, fun w' hS => by go_simp⟩) s3 ?_
      simp only [Act.put, List.setIfInBounds_toArray, List.set_cons_zero, List.set_cons_succ]
      refine wpAnyH_take (i := 9) (v := .int .i64 x1) rfl (by kernel_rfl) (by kernel_rfl) (by kernel_rfl) (fun _ _ _ h => h) (Or.inl ⟨by rfl, fun w' hS => by go_simp⟩) s3 ?_
      simp only [Act.put, List.setIfInBounds_toArray, List.set_cons_zero, List.set_cons_succ]
      refine wpAnyH_done (by kernel_rfl) ?_ _
      clear s3
      go_wp2_with (first
        | (with_reducible refine wpList_load_to (op := ⟨some 54, _, _, _, _, _⟩) rfl 26 (.tmp 2) rfl (.pointer (some ⟨g, 0, none⟩)) rfl (specV B (.slice A n c)) (load_spec H5.out.2.box.box hB) ?_)
        | fail)
      refine (cost_any w4 B V D A A5 n c k c5 hB H5.out.2.box.vals (by have := HN.out.1; omega) H5.out.2.tw.ia (by have := HN.out.2; omega)).mono ?_
      rintro e w5 ⟨t2, x2, rfl, hc2, b5⟩
      have hbd := H5.out.1.bound (by have := HN.out.2; have := HB.out.2.2.2.2.2.2; omega)
      obtain ⟨rfl, rfl⟩ := H5.out.1.twice hc2 HF.out.1 HR.out.2.1 HF.out.2
      have H6 := Lib.hid (on_trans H5.out.2.box.bel b5)
      clear hc2 b5
      go_wp2_with fail
      refine (awake_any w5).mono ?_
      rintro e w6 ⟨rfl, b6⟩
      have H7 := Lib.hid (on_trans H6.out b6)
      clear b6
      go_wp2
      go_ret
      exact ⟨rfl, H7.out⟩
end Go.Proofs.Ytmaffonnekgekaa
