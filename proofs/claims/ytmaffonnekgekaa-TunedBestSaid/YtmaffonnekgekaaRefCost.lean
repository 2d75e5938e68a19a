/-
  The contract of the reference's Cost.
-/
import Derived.Test.YtmaffonnekgekaaCostT
import Derived.Test.YtmaffonnekgekaaRefCodes
import Derived.Test.YtmaffonnekgekaaFind
namespace Go.Proofs.Ytmaffonnekgekaa
open Go.RowKit

theorem enV_is (o : Option En) : ∃ a b : Int, enV o = .agg #[.int .i64 a, .int .i64 b, .int .i64 ((((o.map (·.2)).getD (0, 0)).2 : Nat) : Int)] := by
  cases o with
  | none => exact ⟨0, 0, rfl⟩
  | some e => exact ⟨_, _, rfl⟩
/-- how the reference's Cost goes on -/
structure RefCosting (w wr : World) (C : List Int) (L : List En) (A : Option Addr) (n c : Nat) (Al : Option Addr) (nl : Nat) : Prop where
  te : Te wr Al nl L
  cs : Ia wr A n c C
  bel : Below w.heap.size w wr
theorem RefCosting.on {w wr w' : World} {C : List Int} {L : List En} {A : Option Addr} {n c : Nat} {Al : Option Addr} {nl : Nat} (h : RefCosting w wr C L A n c Al nl) (k : Below wr.heap.size wr w') : RefCosting w w' C L A n c Al nl := ⟨h.te.on k, h.cs.on k, on_trans h.bel k⟩

set_option maxRecDepth 20000 in
set_option maxHeartbeats 3200000 in
theorem refCost_any (w : World) (B V C : List Int) (A A2 : Option Addr) (n c n2 c2 : Nat) (hB : B.length = 16) (h : Ia w A n c V) (h2 : Ia w A2 n2 c2 C) (hn2 : n2 ≤ 300) :
    Calls Try.prog 14 #[specV B (.slice A n c), .slice A2 n2 c2] w (CostGot w C B V) := by
  have hz55 : ∀ w, (zeroValue 55).run Try.prog w = .ok (.agg #[.int .i64 0, .int .i64 0, .int .i64 0]) w := fun w => by kernel_rfl
  obtain ⟨CC, hC⟩ : ∃ CC, CC = specC B (.slice A n c) := ⟨_, rfl⟩
  have eV : specV B (.slice A n c) = .agg CC := by rw [hC]; rfl
  rw [eV]
  obtain ⟨g, hg⟩ : ∃ g, g = w.heap.size := ⟨_, rfl⟩
  obtain ⟨w1, hw1⟩ : ∃ w1, w1 = w.alloc (.cells CC 26) := ⟨_, rfl⟩
  have hb := boxed_made (w1 := w1) (g := g) hB h (by rw [hw1, hC]) hg
  have HB := Lib.hid (And.intro hb (And.intro hw1 (And.intro hg (And.intro (h2.on hb.bel) h2.len))))
  clear hb hw1 hg hC eV h hB h2
  go_enter Try.func14, Try.ntmps14
  go_wp2_with fail
  rw [← HB.out.2.1, ← HB.out.2.2.1]
  refine (rightC_any w1 C A2 n2 c2 HB.out.2.2.2.1 hn2).mono ?_
  rintro e w2 ⟨b, d, rfl, hb, _, b2⟩
  have H2 := Lib.hid (And.intro hb (And.intro (HB.out.1.on b2) (HB.out.2.2.2.1.on b2)))
  clear hb b2
  cases b with
  | false =>
    go_wp2
    go_ret2
    exact ⟨0, 2, rfl, .inl ⟨fun hg => absurd (H2.out.1.2 hg) (by simp), rfl, rfl⟩, H2.out.2.1.bel⟩
  | true =>
    have HG := Lib.hid (H2.out.1.1 rfl)
    go_wp2_with (first
      | (with_reducible refine wpList_load_to (op := ⟨some 22, _, _, _, _, _⟩) rfl 26 (.tmp 2) rfl (.pointer (some ⟨g, 0, none⟩)) rfl (specV B (.slice A n c)) (load_spec H2.out.2.1.box H2.out.2.1.len) ?_)
      | fail)
    refine (refCodes_any w2 B V A n c H2.out.2.1.len H2.out.2.1.vals).mono ?_
    rintro e w3 ⟨b3, ⟨hv, rfl⟩ | ⟨hv, Al, nl, cl, rfl, hT, hnl, _⟩⟩
    · have H3 := Lib.hid (And.intro hv (H2.out.2.1.on b3))
      clear b3 hv
      go_wp2
      go_ret2
      exact ⟨0, 4, rfl, .inr (.inl ⟨HG.out, H3.out.1, rfl, rfl⟩), H3.out.2.bel⟩
    · have h3 : RefCosting w w3 C (codes B V) A2 n2 c2 Al nl := ⟨hT, H2.out.2.2.on b3, on_trans H2.out.2.1.bel b3⟩
      have H3 := Lib.hid (And.intro hv (And.intro h3 hnl))
      clear b3 hv hT h3 hnl
      go_wp2
      go_loopw [11, 10] (fun i s wr => ∃ k : Nat, k ≤ n2 ∧ i = .int .i64 k ∧ s = .int .i64 (costTo C (codes B V) k) ∧ (∀ j, j < k → 0 < C.getD j 0 → (codeOf (codes B V) (j : Int)).2 ≠ 0) ∧ RefCosting w wr C (codes B V) A2 n2 c2 Al nl) (fun i _ _ => n2 - (intOf i).toNat)
      case atStart => exact ⟨0, Nat.zero_le _, rfl, rfl, fun j hj => absurd hj (by omega), H3.out.2.1⟩
      case round =>
        obtain ⟨k, hk, rfl, rfl, hJ, hR⟩ := hrel
        by_cases hlt : k < n2
        · have hlen := HB.out.2.2.2.2
          obtain ⟨bb, off, hA, hbl, hc⟩ := hR.cs.at_ (by omega)
          have hrg := HG.out.rang k (by omega)
          have hcb := costTo_bound H3.out.1 k (fun j hj => HG.out.rang j (by omega))
          have hsz := H3.out.1.size (k : Int)
          obtain ⟨v, hv⟩ : ∃ v, v = C.getD k 0 := ⟨_, rfl⟩
          obtain ⟨S, hS⟩ : ∃ S, S = costTo C (codes B V) k := ⟨_, rfl⟩
          have hHF := find_any wr Al nl cl (codes B V) (k : Int) hR.te (by have := H3.out.2.2; omega)
          obtain ⟨o, ho⟩ : ∃ o, o = fnd (codes B V) (k : Int) := ⟨_, rfl⟩
          rw [← ho] at hHF
          obtain ⟨xs, hx⟩ : ∃ xs, xs = (codeOf (codes B V) (k : Int)).2 := ⟨_, rfl⟩
          have hxo : xs = ((o.map (·.2)).getD (0, 0)).2 := by rw [hx, ho]; rfl
          have hn0 := H3.out.1.none_ (k : Int)
          rw [← hx, ← ho] at hn0
          rw [← hx] at hsz
          rw [← hv] at hrg
          rw [← hS] at hcb ⊢
          have hmb := mul_bound hrg.1 hrg.2 (Int.natCast_nonneg xs) (by omega)
          have hS2 : 0 ≤ S ∧ S ≤ 5277655813324800 := by
            refine ⟨hcb.1, Int.le_trans hcb.2 ?_⟩
            have : (k : Int) ≤ 300 := by omega
            omega
          have hstep : costTo C (codes B V) (k + 1) = S + v * (xs : Int) := by
            rw [costTo, ← hS, ← hv, ← hx]
          have HR := Lib.hid (And.intro hR (And.intro hJ (And.intro hv (And.intro hS (And.intro hx (And.intro hHF (And.intro hstep (And.intro hn0 hxo))))))))
          clear hR hJ hv hS hx hHF hc hcb hstep hn0 hxo ho
          subst hA
          have hlti : (k : Int) < (n2 : Int) := by omega
          go_wp2_with fail
          refine HR.out.2.2.2.2.2.1.mono ?_
          rintro e w4 ⟨rfl, b4⟩
          have h4 := HR.out.1.on b4
          obtain ⟨a1, a2, ha⟩ := enV_is o
          rw [← HR.out.2.2.2.2.2.2.2.2] at ha
          rw [ha]
          obtain ⟨b', off', e', hb4, hc4⟩ := h4.cs.at_ (by omega)
          cases e'
          have ck := hc4 k hlt
          rw [← HR.out.2.2.1] at ck
          have hne : bb ≠ w4.heap.size := by omega
          obtain ⟨g4, hg4⟩ : ∃ g4, g4 = w4.heap.size := ⟨_, rfl⟩
          obtain ⟨w5, hw5⟩ : ∃ w5, w5 = w4.alloc (.cells #[.int .i64 a1, .int .i64 a2, .int .i64 (xs : Int)] 55) := ⟨_, rfl⟩
          have h5 : RefCosting w w5 C (codes B V) (some ⟨bb, off, none⟩) n2 c2 Al nl := by rw [hw5]; exact h4.on (on_alloc _ _)
          have ck5 : w5.cell? ⟨bb, off + k, none⟩ = some (.int .i64 v) := by
            rw [hw5]
            exact (((on_alloc w4 _).cell (p := ⟨bb, off + k, none⟩) hb4)).trans ck
          have cx5 : w5.cell? ⟨g4, 2, none⟩ = some (.int .i64 (xs : Int)) := by
            rw [hw5, hg4]
            exact (Box.made w4 55 _).cell 2
          have H5 := Lib.hid (And.intro hw5 (And.intro h5 (And.intro hg4 (And.intro ck5 cx5))))
          clear h4 hc4 ha b4 hw5 h5 ck5 cx5 hg4
          by_cases hxs : xs = 0
          · have hso : o.isSome = false := by rw [HR.out.2.2.2.2.2.2.2.1.1 hxs]; rfl
            rw [hso]
            have HX := Lib.hid hxs
            clear hxs
            by_cases hv0 : 0 < v
            · go_wp2
              go_ret2
              refine ⟨0, 6, rfl, .inr (.inr (.inl ⟨HG.out, H3.out.1, ⟨k, by have := HB.out.2.2.2.2; omega, by rw [← HR.out.2.2.1]; exact hv0, by rw [← HR.out.2.2.2.2.1]; exact HX.out⟩, rfl, rfl⟩)), ?_⟩
              have h5 := H5.out.2.1.bel
              rw [H5.out.1] at h5
              exact h5
            · have hv1 : v = 0 := by omega
              subst hv1
              go_wp2
              rw [← H5.out.1, ← H5.out.2.2.1]
              clear ck
              obtain ⟨ck, cx⟩ := H5.out.2.2.2
              go_quiet (fail)
              go_wp2
              go_roundw
              case rel =>
                refine ⟨k + 1, by omega, by go_num, by rw [HR.out.2.2.2.2.2.2.1]; simp, fun j hj hp => ?_, H5.out.2.1.on (below_drewN_refl _ _)⟩
                rcases Nat.lt_or_ge j k with h' | h'
                · exact HR.out.2.1 j h' hp
                · obtain rfl : j = k := by omega
                  rw [← HR.out.2.2.1] at hp
                  omega
              case measure => simp [intOf]; omega
          · have hso : o.isSome = true := by
              have h1 := HR.out.2.2.2.2.2.2.2.1
              cases o with
              | none => exact absurd (h1.2 rfl) hxs
              | some _ => rfl
            rw [hso]
            by_cases hv0 : 0 < v
            · go_wp2
              rw [← H5.out.1, ← H5.out.2.2.1]
              clear ck
              obtain ⟨ck, cx⟩ := H5.out.2.2.2
              go_quiet (fail)
              go_wp2
              go_roundw
              case rel =>
                refine ⟨k + 1, by omega, by go_num, by rw [HR.out.2.2.2.2.2.2.1], fun j hj hp => ?_, H5.out.2.1.on (below_drewN_refl _ _)⟩
                rcases Nat.lt_or_ge j k with h' | h'
                · exact HR.out.2.1 j h' hp
                · obtain rfl : j = k := by omega
                  rw [← HR.out.2.2.2.2.1]
                  exact hxs
              case measure => simp [intOf]; omega
            · go_wp2
              rw [← H5.out.1, ← H5.out.2.2.1]
              clear ck
              obtain ⟨ck, cx⟩ := H5.out.2.2.2
              go_quiet (fail)
              go_wp2
              go_roundw
              case rel =>
                refine ⟨k + 1, by omega, by go_num, by rw [HR.out.2.2.2.2.2.2.1], fun j hj hp => ?_, H5.out.2.1.on (below_drewN_refl _ _)⟩
                rcases Nat.lt_or_ge j k with h' | h'
                · exact HR.out.2.1 j h' hp
                · obtain rfl : j = k := by omega
                  rw [← HR.out.2.2.2.2.1]
                  exact hxs
              case measure => simp [intOf]; omega
        · have ek : k = n2 := by omega
          have hl := HB.out.2.2.2.2
          have HE := Lib.hid (And.intro hJ (And.intro hR ek))
          clear hJ hR ek
          obtain ⟨S, hS⟩ : ∃ S, S = costTo C (codes B V) k := ⟨_, rfl⟩
          rw [← hS]
          have HS := Lib.hid hS
          clear hS
          go_wp2
          go_ret2
          obtain ⟨hJ, hR, ek⟩ := HE.out
          exact ⟨S, 0, rfl, .inr (.inr (.inr ⟨HG.out, H3.out.1, fun j hj => hJ j (by omega), by rw [HS.out, hl, ek], rfl⟩)), hR.bel⟩
end Go.Proofs.Ytmaffonnekgekaa
