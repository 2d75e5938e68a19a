/-
  A scan with a restart in it, read by other restarts, is refused: the induction over the segments. No code.
-/
import Derived.Test.YtdnjnbfmmgkpjaaDoorRB
namespace Go.Proofs.YtdnjnbfmmgkpjaaDoor
open Go.RowKit

theorem foldG_bad {T : Tbs} {l : List Int} (q : List Ev) {g : GS} (h : g.err ≠ 0) : (q.foldl (stepG T l) g).err ≠ 0 := by
  rw [foldG_err q g h]
  exact h
theorem unit_head (X : Nat) (K : Int) (n : Nat) : ∃ a r, plTo X K n (nP K) = some (0, a) :: r := by
  have h1 := (nP_le K).1
  have h2 := (uA_le K 0).1
  have h3 := (uD_le K 0).1
  obtain ⟨m, hm⟩ : ∃ m, nP K = m + 1 := ⟨nP K - 1, by omega⟩
  have hpos : 0 < uA K 0 * uD K 0 := Nat.mul_pos (by omega) (by omega)
  obtain ⟨c, hc⟩ : ∃ c, uA K 0 * uD K 0 = c + 1 := ⟨uA K 0 * uD K 0 - 1, by omega⟩
  unfold plTo
  rw [hm, List.range_succ_eq_map, List.flatMap_cons]
  unfold plOf
  rw [hc, List.range_succ_eq_map, List.map_cons]
  exact ⟨_, _, rfl⟩
theorem units_some (X : Nat) (K : Int) (a u : Nat) : ∀ e ∈ unitsOf X K a u, ∃ p x, e = some (p, x) := by
  intro e he
  unfold unitsOf at he
  obtain ⟨n, _, he⟩ := List.mem_flatMap.1 he
  unfold plTo at he
  obtain ⟨p, _, he⟩ := List.mem_flatMap.1 he
  unfold plOf at he
  obtain ⟨i, _, rfl⟩ := List.mem_map.1 he
  exact ⟨_, _, rfl⟩
theorem units_in {X : Nat} {K : Int} {R N a u : Nat} (h : a + u ≤ N) : ∀ e ∈ unitsOf X K a u, e ∈ evTo X K R N := by
  intro e he
  unfold unitsOf at he
  obtain ⟨n, hn, he⟩ := List.mem_flatMap.1 he
  have hn2 := List.mem_range'_1.1 hn
  unfold evTo
  refine List.mem_flatMap.2 ⟨n, List.mem_range.2 (by omega), ?_⟩
  unfold evOf
  exact List.mem_append_right _ he
theorem units_app (X : Nat) (K : Int) : ∀ (u a v : Nat), unitsOf X K a (u + v) = unitsOf X K a u ++ unitsOf X K (a + u) v
  | 0, a, v => by rw [Nat.zero_add]; rfl
  | u + 1, a, v => by
    rw [show u + 1 + v = (u + v) + 1 by omega, units_one, units_app X K u (a + 1) v, units_one, List.append_assoc, show a + 1 + u = a + (u + 1) by omega]
theorem not_rs {R b : Nat} (hb : b % R = 0) {n : Nat} (h1 : b < n) (h2 : n < b + R) : ¬ isRs R n := fun h => by
  obtain ⟨j, hj⟩ := Nat.dvd_of_mod_eq_zero hb
  obtain ⟨r, rfl⟩ : ∃ r, n = b + r := ⟨n - b, by omega⟩
  have h3 := h.2.2
  rw [hj, Nat.mul_add_mod, Nat.mod_eq_of_lt (by omega)] at h3
  omega
theorem add_rs {R b : Nat} (hb : b % R = 0) (hR : 0 < R) : isRs R (b + R) ∧ (b + R) % R = 0 := by
  have : (b + R) % R = 0 := by rw [Nat.add_mod_right]; exact hb
  exact ⟨⟨by omega, hR, this⟩, this⟩
section
variable {T : Tbs} {tl : List (List (List Int))} {l : List Int} {X N R R' : Nat} {K : Int}
/-- fewer units between restarts than there are -/
theorem rests_less (hok : ∀ p a, some (p, a) ∈ evTo X K R N → (Valid (T.B (min p 1)) (T.V (min p 1)) ∧ Valid (T.B (min p 1 + 2)) (T.V (min p 1 + 2))) ∧ (blkAt tl p a).length = 64) (h0 : 0 < R') (hlt : R' < R) (hRN : R < N) :
    ∀ (d a b : Nat) (s : PS) (g : GS), N - a ≤ d → a < N → b ≤ a → a % R = 0 → b % R' = 0 → (b < a ∨ (a = 0 ∧ b = 0)) → Tog T tl l s g (segE X K R N a) → ((segE X K R' N b).foldl (stepG T l) g).err ≠ 0
  | 0, a, b, s, g, hd, ha, _, _, _, _, _ => by omega
  | d + 1, a, b, s, g, hd, ha, hba, haR, hbR, hor, ht => by
    have hV : ∀ u, a + u ≤ N → ∀ p x, some (p, x) ∈ unitsOf X K a u → (Valid (T.B (min p 1)) (T.V (min p 1)) ∧ Valid (T.B (min p 1 + 2)) (T.V (min p 1 + 2))) ∧ (blkAt tl p x).length = 64 := fun u hu p x hm => hok p x (units_in hu _ hm)
    obtain ⟨U, hU⟩ : ∃ U, U = min R (N - a) := ⟨_, rfl⟩
    have hU0 : 0 < U := by omega
    have hUN : a + U ≤ N := by omega
    have hseg : segE X K R N a = unitsOf X K a U ++ fromU X K R N (a + U) := segE_units hU0 hUN (fun n h1 h2 => not_rs haR h1 (by omega))
    have hq0 : fromU X K R N (a + U) = [] ∨ (a + R < N ∧ U = R ∧ fromU X K R N (a + U) = none :: segE X K R N (a + R)) := by
      by_cases he : a + U = N
      · rw [he]
        exact .inl (from_end _ _ _ _)
      · have hUR : U = R := by omega
        rw [hUR]
        refine .inr ⟨by omega, rfl, ?_⟩
        rw [from_seg (by omega), rsOf, if_pos (add_rs haR (by omega)).1]
        rfl
    by_cases hc : R' < U
    · have hbN : b + R' < N := by omega
      have hrd : segE X K R' N b = unitsOf X K b R' ++ (none :: segE X K R' N (b + R')) := by
        rw [segE_units h0 (by omega) (fun n h1 h2 => not_rs hbR h1 h2), from_seg hbN, rsOf, if_pos (add_rs hbR h0).1]
        rfl
      obtain ⟨v, hv⟩ : ∃ v, U = R' + v := ⟨U - R', by omega⟩
      rw [hseg, hv, units_app, List.append_assoc, ← hv] at ht
      have h1 := ht.units (same_units X K R' a b) (hV R' (by omega))
      rw [hrd, List.foldl_append, List.foldl_cons]
      rcases h1.mark (units_some X K (a + R') v) (by
        rcases hq0 with h | ⟨_, _, h⟩
        · exact .inl h
        · exact .inr ⟨_, h⟩) with h2 | ⟨q', h2, h3⟩
      · exact foldG_bad _ h2
      · rcases hq0 with h | ⟨h4, h5, h6⟩
        · rw [h] at h2
          cases h2
        · rw [h6] at h2
          cases h2
          exact rests_less hok h0 hlt hRN d (a + R) (b + R') _ _ (by omega) h4 (by omega) (add_rs haR (by omega)).2 (add_rs hbR h0).2 (.inl (by omega)) h3
    · have hUe : U = N - a := by omega
      have hb : b < a := by
        rcases hor with h | ⟨h1, h2⟩
        · exact h
        · omega
      have hend : a + U = N := by omega
      rw [hseg, hend, from_end] at ht
      have h1 := ht.units (same_units X K U a b) (hV U hUN)
      have hrd : segE X K R' N b = unitsOf X K b U ++ fromU X K R' N (b + U) := segE_units hU0 (by omega) (fun n h1 h2 => not_rs hbR h1 (by omega))
      rw [hrd, List.foldl_append, from_one (by omega)]
      by_cases hUR : U = R'
      · rw [hUR, rsOf, if_pos (add_rs hbR h0).1]
        show ((none :: (plTo X K (b + R') (nP K) ++ fromU X K R' N (b + R' + 1))).foldl (stepG T l) _).err ≠ 0
        rw [List.foldl_cons]
        rw [hUR] at h1
        rcases Tog.mark (E := []) h1 (fun e he => by cases he) (.inl rfl) with h2 | ⟨q', h2, _⟩
        · exact foldG_bad _ h2
        · cases h2
      · rw [rsOf, if_neg (not_rs hbR (by omega) (by omega)), List.nil_append]
        obtain ⟨x, r, hx⟩ := unit_head X K (b + U)
        rw [hx, List.cons_append, List.foldl_cons]
        obtain ⟨y, r2, hy⟩ := unit_head X K a
        have hmem : some (0, y) ∈ evTo X K R N := units_in (a := a) (u := 1) (by omega) _ (by rw [units_one, hy]; exact List.mem_append_left _ List.mem_cons_self)
        exact foldG_bad _ (h1.noBlock (.inl rfl) (hok 0 y hmem).1.1)
/-- none, or more units between restarts than there are -/
theorem rests_more (hok : ∀ p a, some (p, a) ∈ evTo X K R N → (Valid (T.B (min p 1)) (T.V (min p 1)) ∧ Valid (T.B (min p 1 + 2)) (T.V (min p 1 + 2))) ∧ (blkAt tl p a).length = 64) (h0 : 0 < R) (hlt : R' = 0 ∨ R < R') (hRN : R < N) {s : PS} {g : GS} (ht : Tog T tl l s g (evTo X K R N)) :
    ((evTo X K R' N).foldl (stepG T l) g).err ≠ 0 := by
  have hn : ∀ n, 0 ≤ n → n < 0 + R → ¬ isRs R n := fun n _ h2 h => by
    have := h.2.2
    rw [Nat.mod_eq_of_lt (by omega)] at this
    have := h.1
    omega
  have hn' : ∀ n, n ≤ R → ¬ isRs R' n := fun n h2 h => by
    have h3 := h.2.2
    have h4 := h.1
    have h5 := h.2.1
    rw [Nat.mod_eq_of_lt (by omega)] at h3
    omega
  have e1 : evTo X K R N = unitsOf X K 0 R ++ (none :: segE X K R N R) := by
    rw [evTo_from, from_units R 0 (by omega) hn, Nat.zero_add, from_seg hRN, rsOf, if_pos ⟨h0, h0, Nat.mod_self R⟩]
    rfl
  have e2 : evTo X K R' N = unitsOf X K 0 R ++ (plTo X K R (nP K) ++ fromU X K R' N (R + 1)) := by
    rw [evTo_from, from_units R 0 (by omega) (fun n _ h => hn' n (by omega)), Nat.zero_add, from_one hRN, rsOf, if_neg (hn' R (Nat.le_refl _)), List.nil_append]
  have hok0 := hok
  rw [e1] at ht
  have h1 := ht.units (same_units X K R 0 0) (fun p x hm => hok p x (units_in (by omega) _ hm))
  rw [e2, List.foldl_append]
  obtain ⟨x, r, hx⟩ := unit_head X K R
  rw [hx, List.cons_append, List.foldl_cons]
  obtain ⟨y, r2, hy⟩ := unit_head X K 0
  have hmem : some (0, y) ∈ evTo X K R N := units_in (a := 0) (u := 1) (by omega) _ (by rw [units_one, hy]; exact List.mem_append_left _ List.mem_cons_self)
  exact foldG_bad _ (h1.noBlock (.inr ⟨_, rfl⟩) (hok 0 y hmem).1.1)
end
/-- a tile that was put, with a restart in it, is not got by other restarts -/
theorem rests_refused {W H K : Int} {R R' : Nat} {T : Tbs} {tl : List (List (List Int))} (h2 : OkT K T) (h3 : putE14 W H K (R : Int) T tl = 0) (h64 : ∀ p a, p < nP K → a < (uW W K * uA K p) * (uH H K * uD K p) → (blkAt tl p a).length = 64) (hne : R' ≠ R) (hrs : 0 < rests (evTo (uW W K) K R (uW W K * uH H K))) :
    (getG W H K (R' : Int) T (putOut W H K (R : Int) T tl)).err ≠ 0 := by
  obtain ⟨X, hX⟩ : ∃ X, X = uW W K := ⟨_, rfl⟩
  obtain ⟨N, hN⟩ : ∃ N, N = uW W K * uH H K := ⟨_, rfl⟩
  have hok : ∀ p a, some (p, a) ∈ evTo X K R N → (Valid (T.B (min p 1)) (T.V (min p 1)) ∧ Valid (T.B (min p 1 + 2)) (T.V (min p 1 + 2))) ∧ (blkAt tl p a).length = 64 := fun p a hm => by
    rw [hX, hN] at hm
    obtain ⟨g1, g2⟩ := mem_lt hm
    exact ⟨h2 _ (nP_nC g1), h64 p a g1 g2⟩
  have hr := rests_evTo X K R N
  rw [hX, hN] at hr
  have hR0 : 0 < R := by
    rcases Nat.eq_zero_or_pos R with h | h
    · rw [if_pos h] at hr
      omega
    · exact h
  have hRN : R < N := by
    rw [if_neg (by omega)] at hr
    rw [hN]
    rcases Nat.lt_or_ge R (uW W K * uH H K) with h | h
    · exact h
    · have : (uW W K * uH H K - 1) / R = 0 := Nat.div_eq_of_lt (by omega)
      omega
  have he : ((evTo X K R N).foldl (stepP T tl) ps0).err = 0 := by
    have := h3
    unfold putE14 at this
    rw [Int.toNat_natCast, ← hN, ← hX] at this
    exact this
  have hl := seg_out [] (evTo X K R N) ps0 Packs.nil rfl he
  rw [List.append_nil] at hl
  have ht : Tog T tl (putOut W H K (R : Int) T tl) ps0 (gs0 (zeroG W H K)) (evTo X K R N) := by
    refine ⟨Packs.nil, rfl, rfl, he, rfl, rfl, rfl, ?_, ?_⟩
    · rw [← hl]
      unfold putOut
      rw [Int.toNat_natCast, ← hN, ← hX]
      rfl
    · show (⟨0, 0, 0⟩ : St) = sh 0 (stAt _ 0)
      rw [stAt_zero]
      rfl
  unfold getG runG
  rw [Int.toNat_natCast, ← hN, ← hX]
  by_cases hlt : 0 < R' ∧ R' < R
  · have h0 : ∀ Q, evTo X K Q N = segE X K Q N 0 := fun Q => by
      rw [evTo_from, from_seg (by omega), rsOf, if_neg (fun h => by have := h.1; omega), List.nil_append]
    rw [h0 R] at ht
    rw [h0 R']
    exact rests_less hok hlt.1 hlt.2 hRN N 0 0 _ _ (by omega) (by omega) (Nat.le_refl _) (Nat.zero_mod _) (Nat.zero_mod _) (.inr ⟨rfl, rfl⟩) ht
  · exact rests_more hok hR0 (by omega) hRN ht
end Go.Proofs.YtdnjnbfmmgkpjaaDoor
