/-
  The contract of Cost.
-/
import Derived.Test.YtmaffonnekgekaaCounts
import Derived.Test.YtmaffonnekgekaaAwake5
namespace Go.Proofs.Ytmaffonnekgekaa
open Go.RowKit

/-- what the first k values cost -/
def costTo (C : List Int) (L : List En) : Nat → Int
  | 0 => 0
  | k + 1 => costTo C L k + C.getD k 0 * ((codeOf L (k : Int)).2 : Int)
/-- what a specification costs for counts, or why not -/
def CostIs (C B V : List Int) (t x : Int) : Prop :=
  (¬ Good C ∧ t = 0 ∧ x = 2) ∨ (Good C ∧ ¬ Valid B V ∧ t = 0 ∧ x = 4) ∨
  (Good C ∧ Valid B V ∧ (∃ j, j < C.length ∧ 0 < C.getD j 0 ∧ (codeOf (codes B V) (j : Int)).2 = 0) ∧ t = 0 ∧ x = 6) ∨
  (Good C ∧ Valid B V ∧ (∀ j, j < C.length → 0 < C.getD j 0 → (codeOf (codes B V) (j : Int)).2 ≠ 0) ∧ t = costTo C (codes B V) C.length ∧ x = 0)
theorem CostIs.only {C B V : List Int} {t x t' x' : Int} (h : CostIs C B V t x) (h' : CostIs C B V t' x') : t = t' ∧ x = x' := by
  rcases h with ⟨a, b, c⟩ | ⟨a, a2, b, c⟩ | ⟨a, a2, ⟨j, h1, h2, h3⟩, b, c⟩ | ⟨a, a2, a3, b, c⟩ <;> rcases h' with ⟨p, q, r⟩ | ⟨p, p2, q, r⟩ | ⟨p, p2, ⟨i, k1, k2, k3⟩, q, r⟩ | ⟨p, p2, p3, q, r⟩
  all_goals first
    | exact absurd p a
    | exact absurd a p
    | exact absurd p2 a2
    | exact absurd a2 p2
    | exact absurd h3 (p3 j h1 h2)
    | exact absurd k3 (a3 i k1 k2)
    | (subst b c q r; exact ⟨rfl, rfl⟩)
theorem Valid.size {B V : List Int} (h : Valid B V) (v : Int) : (codeOf (codes B V) v).2 ≤ 16 := by
  unfold codeOf
  cases hf : fnd (codes B V) v with
  | none => exact Nat.zero_le _
  | some e => exact (h.code (fnd_some hf).1).2.1
theorem Valid.none_ {B V : List Int} (h : Valid B V) (v : Int) : (codeOf (codes B V) v).2 = 0 ↔ fnd (codes B V) v = none := by
  unfold codeOf
  cases hf : fnd (codes B V) v with
  | none => simp
  | some e =>
    have := (h.code (fnd_some hf).1).1
    simp
    omega
theorem mul_bound {v s : Int} (h0 : 0 ≤ v) (h1 : v ≤ 1099511627776) (h2 : 0 ≤ s) (h3 : s ≤ 16) : 0 ≤ v * s ∧ v * s ≤ 17592186044416 := by
  refine ⟨Int.mul_nonneg h0 h2, ?_⟩
  have := Int.mul_le_mul h1 h3 h2 (by omega)
  omega
theorem costTo_bound {C B V : List Int} (hv : Valid B V) : ∀ k, Rang C k → 0 ≤ costTo C (codes B V) k ∧ costTo C (codes B V) k ≤ k * 17592186044416
  | 0, _ => ⟨Int.le_refl _, by show (0 : Int) ≤ _; omega⟩
  | k + 1, h => by
    have h1 := costTo_bound hv k (fun j hj => h j (by omega))
    have h2 := h k (by omega)
    have h3 := mul_bound h2.1 h2.2 (Int.natCast_nonneg _) (show ((codeOf (codes B V) (k : Int)).2 : Int) ≤ 16 by have := hv.size (k : Int); omega)
    unfold costTo
    omega
/-- what Cost tells -/
def CostGot (w : World) (C B V : List Int) (e : Ending) (w' : World) : Prop := ∃ t x, e = .returned (.tuple #[.int .i64 t, .int .i64 x]) ∧ CostIs C B V t x ∧ Below w.heap.size w w'

/-- how Cost goes on -/
structure Costing (w wr : World) (lo hi t : Nat) (C B V : List Int) (A : Option Addr) (n c : Nat) : Prop where
  tab : Tb wr lo hi t B V (codes B V)
  cs : Ia wr A n c C
  bel : Below w.heap.size w wr

set_option maxRecDepth 20000 in
set_option maxHeartbeats 3200000 in
theorem cost_any (w : World) (B V C : List Int) (A A2 : Option Addr) (n c n2 c2 : Nat) (hB : B.length = 16) (h : Ia w A n c V) (hn : n ≤ 300) (h2 : Ia w A2 n2 c2 C) (hn2 : n2 ≤ 300) :
    Calls Try.prog 13 #[specV B (.slice A n c), .slice A2 n2 c2] w (CostGot w C B V) := by
  obtain ⟨CC, hC⟩ : ∃ CC, CC = specC B (.slice A n c) := ⟨_, rfl⟩
  have eV : specV B (.slice A n c) = .agg CC := by rw [hC]; rfl
  rw [eV]
  obtain ⟨g, hg⟩ : ∃ g, g = w.heap.size := ⟨_, rfl⟩
  obtain ⟨w1, hw1⟩ : ∃ w1, w1 = w.alloc (.cells CC 26) := ⟨_, rfl⟩
  have hb := boxed_made (w1 := w1) (g := g) hB h (by rw [hw1, hC]) hg
  have HB := Lib.hid (And.intro hb (And.intro hw1 (And.intro hg (And.intro (h2.on hb.bel) h2.len))))
  clear hb hw1 hg hC eV h hB h2
  go_enter Try.func13, Try.ntmps13
  go_wp2_with fail
  rw [← HB.out.2.1, ← HB.out.2.2.1]
  refine (inRange_any w1 C A2 n2 c2 HB.out.2.2.2.1 hn2).mono ?_
  rintro e w2 ⟨b, rfl, hb, b2⟩
  have H2 := Lib.hid (And.intro hb (And.intro (HB.out.1.on b2) (HB.out.2.2.2.1.on b2)))
  clear hb b2
  cases b with
  | false =>
    go_wp2
    go_ret2
    exact ⟨0, 2, rfl, .inl ⟨fun hg => absurd (H2.out.1.2 hg) (by simp), rfl, rfl⟩, H2.out.2.1.bel⟩
  | true =>
    have HG := Lib.hid (H2.out.1.1 rfl)
    go_wp2_with (first
      | (with_reducible refine wpList_load_to (op := ⟨some 18, _, _, _, _, _⟩) rfl 26 (.tmp 2) rfl (.pointer (some ⟨g, 0, none⟩)) rfl (specV B (.slice A n c)) (load_spec H2.out.2.1.box H2.out.2.1.len) ?_)
      | fail)
    refine (new_any w2 B V A n c H2.out.2.1.len H2.out.2.1.vals hn).mono ?_
    rintro e w3 ⟨b3, ⟨hv, rfl⟩ | ⟨hv, t, rfl, hT⟩⟩
    · have H3 := Lib.hid (And.intro hv (H2.out.2.1.on b3))
      clear b3 hv
      go_wp2
      go_ret2
      exact ⟨0, 4, rfl, .inr (.inl ⟨HG.out, H3.out.1, rfl, rfl⟩), H3.out.2.bel⟩
    · obtain ⟨lo, hlo⟩ : ∃ lo, lo = w2.heap.size := ⟨_, rfl⟩
      obtain ⟨hi, hhi⟩ : ∃ hi, hi = w3.heap.size := ⟨_, rfl⟩
      rw [← hlo, ← hhi] at hT
      have h3 : Costing w w3 lo hi t C B V A2 n2 c2 := ⟨hT, H2.out.2.2.on b3, on_trans H2.out.2.1.bel b3⟩
      have H3 := Lib.hid (And.intro hv h3)
      clear b3 hv hT h3 hlo hhi
      go_wp2
      go_loopw [27, 8] (fun i s wr => ∃ k : Nat, k ≤ n2 ∧ i = .int .i64 k ∧ s = .int .i64 (costTo C (codes B V) k) ∧ (∀ j, j < k → 0 < C.getD j 0 → (codeOf (codes B V) (j : Int)).2 ≠ 0) ∧ Costing w wr lo hi t C B V A2 n2 c2) (fun i _ _ => n2 - (intOf i).toNat)
      case atStart => exact ⟨0, Nat.zero_le _, rfl, rfl, fun j hj => absurd hj (by omega), H3.out.2⟩
      case round =>
        obtain ⟨k, hk, rfl, rfl, hJ, hR⟩ := hrel
        by_cases hlt : k < n2
        · have hlen := HB.out.2.2.2.2
          obtain ⟨bb, off, hA, hbl, hc⟩ := hR.cs.at_ (by omega)
          have hck := hc k hlt
          have hrg := HG.out.rang k (by omega)
          have hcb := costTo_bound H3.out.1 k (fun j hj => HG.out.rang j (by omega))
          have hsz := H3.out.1.size (k : Int)
          obtain ⟨v, hv⟩ : ∃ v, v = C.getD k 0 := ⟨_, rfl⟩
          obtain ⟨S, hS⟩ : ∃ S, S = costTo C (codes B V) k := ⟨_, rfl⟩
          have hHC := code_any wr lo hi t B V _ (k : Int) hR.tab (valid_vals H3.out.1)
          obtain ⟨x, hx⟩ : ∃ x, x = codeOf (codes B V) (k : Int) := ⟨_, rfl⟩
          obtain ⟨xb, xs⟩ := x
          rw [← hx] at hsz hHC
          rw [← hv] at hck hrg
          rw [← hS] at hcb ⊢
          dsimp only at hsz
          have hmb := mul_bound hrg.1 hrg.2 (Int.natCast_nonneg xs) (by omega)
          have hS2 : 0 ≤ S ∧ S ≤ 5277655813324800 := by
            refine ⟨hcb.1, Int.le_trans hcb.2 ?_⟩
            have : (k : Int) ≤ 300 := by omega
            omega
          have HR := Lib.hid (And.intro hR (And.intro hJ (And.intro hv (And.intro hS (And.intro hx hHC)))))
          have hxk : 0 < xs ↔ ¬ xs = 0 := by omega
          clear hR hJ hv hS hx hHC hc hcb hxk
          subst hA
          have hlti : (k : Int) < (n2 : Int) := by omega
          go_wp2_with fail
          refine HR.out.2.2.2.2.2.mono ?_
          rintro e w4 ⟨rfl, b4⟩
          have H4 := Lib.hid (show Costing w w4 lo hi t C B V (some ⟨bb, off, none⟩) n2 c2 from ⟨HR.out.1.tab.on b4, HR.out.1.cs.on b4, on_trans HR.out.1.bel b4⟩)
          clear b4
          have hstep : costTo C (codes B V) (k + 1) = S + v * (xs : Int) := by
            rw [costTo, ← HR.out.2.2.2.1, ← HR.out.2.2.1, ← HR.out.2.2.2.2.1]
          have HS := Lib.hid hstep
          clear hstep
          by_cases hxs : xs = 0
          · subst hxs
            by_cases hv0 : 0 < v
            · go_wp2
              go_ret2
              exact ⟨0, 6, rfl, .inr (.inr (.inl ⟨HG.out, H3.out.1, ⟨k, by have := HB.out.2.2.2.2; omega, by rw [← HR.out.2.2.1]; exact hv0, by rw [← HR.out.2.2.2.2.1]⟩, rfl, rfl⟩)), H4.out.bel⟩
            · have hv1 : v = 0 := by omega
              subst hv1
              go_wp2
              go_roundw
              case rel =>
                refine ⟨k + 1, by omega, by go_num, by rw [HS.out]; simp, fun j hj hp => ?_, H4.out⟩
                rcases Nat.lt_or_ge j k with h' | h'
                · exact HR.out.2.1 j h' hp
                · obtain rfl : j = k := by omega
                  rw [← HR.out.2.2.1] at hp
                  omega
              case measure => simp [intOf]; omega
          · have hx0 : 0 < xs := by omega
            have hd : decide (0 < xs) = true := decide_eq_true hx0
            by_cases hv0 : 0 < v
            · go_wp2
              go_roundw
              case rel =>
                refine ⟨k + 1, by omega, by go_num, by rw [HS.out], fun j hj hp => ?_, H4.out⟩
                rcases Nat.lt_or_ge j k with h' | h'
                · exact HR.out.2.1 j h' hp
                · obtain rfl : j = k := by omega
                  rw [← HR.out.2.2.2.2.1]
                  exact hxs
              case measure => simp [intOf]; omega
            · go_wp2
              go_roundw
              case rel =>
                refine ⟨k + 1, by omega, by go_num, by rw [HS.out], fun j hj hp => ?_, H4.out⟩
                rcases Nat.lt_or_ge j k with h' | h'
                · exact HR.out.2.1 j h' hp
                · obtain rfl : j = k := by omega
                  rw [← HR.out.2.2.2.2.1]
                  exact hxs
              case measure => simp [intOf]; omega
        · have ek : k = n2 := by omega
          have hl := HB.out.2.2.2.2
          have HE := Lib.hid (And.intro hJ (And.intro hR ek))
          clear hJ hR ek
          obtain ⟨S, hS⟩ : ∃ S, S = costTo C (codes B V) k := ⟨_, rfl⟩
          rw [← hS]
          have HS := Lib.hid hS
          clear hS
          go_wp2
          go_ret2
          obtain ⟨hJ, hR, ek⟩ := HE.out
          exact ⟨S, 0, rfl, .inr (.inr (.inr ⟨HG.out, H3.out.1, fun j hj => hJ j (by omega), by rw [HS.out, hl, ek], rfl⟩)), hR.bel⟩
end Go.Proofs.Ytmaffonnekgekaa
