/-
  HuffBack: values, their bits; no code is the beginning of another one.
-/
import Derived.Test.YthfpdebpepbejaaDoorGetT
import Derived.Test.YthfpdebpepbejaaDoorScanMath
namespace Go.Proofs.YthfpdebpepbejaaDoor
open Go.RowKit

/-- the bits of values -/
def bitsV (L : List En) (vs : List Int) : List Int := vs.flatMap fun v => dig (codeOf L v).1 (codeOf L v).2
theorem bitsV_app (L : List En) (a b : List Int) : bitsV L (a ++ b) = bitsV L a ++ bitsV L b := by simp [bitsV]
theorem bitsV_one (L : List En) (v : Int) : bitsV L [v] = dig (codeOf L v).1 (codeOf L v).2 := by simp [bitsV]
theorem bitsV_at (L : List En) (ps : List Int) (j : Nat) (hj : j < ps.length) : ∃ R, bitsV L ps = bitsV L (ps.take j) ++ (dig (codeOf L (ps.getD j 0)).1 (codeOf L (ps.getD j 0)).2 ++ R) ∧ (bitsV L (ps.take (j + 1))).length = (bitsV L (ps.take j)).length + (codeOf L (ps.getD j 0)).2 := by
  have e1 : ps.take (j + 1) = ps.take j ++ [ps.getD j 0] := by
    rw [List.take_succ_eq_append_getElem hj, List.getD_eq_getElem?_getD, List.getElem?_eq_getElem hj]
    rfl
  refine ⟨bitsV L (ps.drop (j + 1)), ?_, ?_⟩
  · conv => lhs; rw [← List.take_append_drop (j + 1) ps]
    rw [bitsV_app, e1, bitsV_app, bitsV_one, List.append_assoc]
  · rw [e1, bitsV_app, List.length_append, bitsV_one, dig_len]

/-- of two codes one is later -/
theorem codes_apart {B V : List Int} {d e : En} (hd : d ∈ codes B V) (he : e ∈ codes B V) : d = e ∨ Later d.2 e.2 ∨ Later e.2 d.2 := by
  obtain ⟨i, hi, hi2⟩ := List.getElem_of_mem hd
  obtain ⟨j, hj, hj2⟩ := List.getElem_of_mem he
  have hi3 : (codes B V)[i]? = some d := by rw [List.getElem?_eq_getElem hi, hi2]
  have hj3 : (codes B V)[j]? = some e := by rw [List.getElem?_eq_getElem hj, hj2]
  have gi := (ents_at.1 hi3).2
  have gj := (ents_at.1 hj3).2
  obtain ⟨ki, hki⟩ := List.getElem?_eq_some_iff.1 gi
  obtain ⟨kj, hkj⟩ := List.getElem?_eq_some_iff.1 gj
  have hp := List.pairwise_iff_getElem.1 (pre_later (c := cnt B) 16)
  rcases Nat.lt_trichotomy i j with h | h | h
  · right; left
    have := hp i j ki kj h
    rw [hki, hkj] at this
    exact this
  · left
    subst h
    rw [hi3] at hj3
    exact Option.some.inj hj3
  · right; right
    have := hp j i kj ki h
    rw [hki, hkj] at this
    exact this
theorem later_self {x : Nat × Nat} (h : Later x x) : False := by
  unfold Later at h
  rw [Nat.sub_self, Nat.pow_zero] at h
  omega
theorem get_self {B V : List Int} {en : En} (he : en ∈ codes B V) : get (codes B V) en.2 = some en := by
  cases hg : get (codes B V) en.2 with
  | none =>
    unfold get at hg
    have := (List.find?_eq_none.1 hg) en he
    simp at this
  | some d =>
    obtain ⟨h1, h2⟩ := get_some hg
    rcases codes_apart h1 he with h | h | h
    · rw [h]
    · rw [h2] at h
      exact (later_self h).elim
    · rw [h2] at h
      exact (later_self h).elim
theorem get_before {B V : List Int} {en : En} (he : en ∈ codes B V) {t : Nat} (ht : t < en.2.2) : get (codes B V) (en.2.1 / 2 ^ (en.2.2 - t), t) = none := by
  cases hg : get (codes B V) (en.2.1 / 2 ^ (en.2.2 - t), t) with
  | none => rfl
  | some d =>
    exfalso
    obtain ⟨h1, h2⟩ := get_some hg
    obtain ⟨z, x, y⟩ := en
    obtain ⟨u, v⟩ := d
    dsimp only at h2 ht he hg
    subst h2
    rcases codes_apart h1 he with h | h | h
    · have := congrArg (fun e : En => e.2.2) h
      dsimp only at this
      omega
    · obtain ⟨_, h4⟩ := h
      dsimp only at h4
      have := Nat.lt_div_mul_add (a := x) (b := 2 ^ (y - t)) (pow_pos' (y - t))
      rw [Nat.add_mul, Nat.one_mul] at h4
      omega
    · obtain ⟨h4, _⟩ := h
      dsimp only at h4
      omega

theorem half_step (b z t : Nat) (h : t < z) : 2 * (b / 2 ^ (z - t)) + b / 2 ^ (z - 1 - t) % 2 = b / 2 ^ (z - (t + 1)) := by
  obtain ⟨d, hd⟩ : ∃ d, z - t = d + 1 := ⟨z - t - 1, by omega⟩
  rw [hd, show z - 1 - t = d by omega, show z - (t + 1) = d by omega, Nat.pow_succ, ← Nat.div_div_eq_div_mul]
  omega

/-- bit by bit, until the code is there -/
theorem gets_go {L : List En} {F T : List Int} {p b z : Nat} {en : En} (hf : Fit F) (hb : ∀ i, i < z → (by8 F).getD (p + i) 0 = ((b / 2 ^ (z - 1 - i) % 2 : Nat) : Int)) (hlen : p + z ≤ 8 * F.length)
    (hnone : ∀ t, t < z → get L (b / 2 ^ (z - t), t) = none) (hself : get L (b, z) = some en) : ∀ (k t fuel : Nat), t + (k + 1) = z → k + 1 ≤ fuel → getsF L (stuff F ++ T) fuel (stAt F (p + t)) (b / 2 ^ (z - t)) t = (stAt F (p + z), en.1, 0)
  | k, t, 0, _, h => absurd h (by omega)
  | k, t, fuel + 1, h1, h2 => by
    obtain ⟨x, hx, he, hs⟩ := stAt_step F T hf (p + t) (by omega)
    rw [hb t (by omega)] at he
    have hx2 : x = b / 2 ^ (z - 1 - t) % 2 := by omega
    have hst := half_step b z t (by omega)
    rw [← hx2] at hst
    cases k with
    | zero =>
      have ht : z - (t + 1) = 0 := by omega
      rw [ht, Nat.pow_zero, Nat.div_one] at hst
      rw [getsF_hit (e := en) (by rw [hs]) (by rw [hs]; dsimp only; rw [hst, show t + 1 = z by omega]; exact hself), hs, show p + t + 1 = p + z by omega]
    | succ k =>
      rw [getsF_miss (by rw [hs]) (by rw [hs]; dsimp only; rw [hst]; exact hnone (t + 1) (by omega)), hs]
      dsimp only
      rw [hst, Nat.add_assoc]
      exact gets_go hf hb hlen hnone hself k (t + 1) fuel (by omega) (by omega)

/-- what was put is what is got -/
theorem back_got {B V F ps : List Int} {j i : Nat} {en : En} (hv : Valid B V) (hF : by8 F = bitsV (codes B V) ps ++ List.replicate i 1) (hj : j < ps.length) (hf : Fit F) (hen : fnd (codes B V) (ps.getD j 0) = some en) :
    getsF (codes B V) (stuff F) 16 (stAt F (bitsV (codes B V) (ps.take j)).length) 0 0 = (stAt F (bitsV (codes B V) (ps.take (j + 1))).length, ps.getD j 0, 0) := by
  obtain ⟨R, h1, h2⟩ := bitsV_at (codes B V) ps j hj
  have hc : codeOf (codes B V) (ps.getD j 0) = en.2 := by unfold codeOf; rw [hen]; rfl
  obtain ⟨hm, hn⟩ := fnd_some hen
  obtain ⟨hz1, hz16, hlt, _⟩ := hv.code hm
  rw [hc] at h1 h2
  have hl := congrArg List.length hF
  rw [by8_len, List.length_append, h1, List.length_append, List.length_append, dig_len] at hl
  obtain ⟨p, hp⟩ : ∃ p, p = (bitsV (codes B V) (ps.take j)).length := ⟨_, rfl⟩
  have hb : ∀ i, i < en.2.2 → (by8 F).getD (p + i) 0 = ((en.2.1 / 2 ^ (en.2.2 - 1 - i) % 2 : Nat) : Int) := by
    intro i hi
    rw [hF, h1, List.append_assoc, List.getD_eq_getElem?_getD, List.getElem?_append_right (by omega), hp, Nat.add_sub_cancel_left, List.append_assoc, List.getElem?_append_left (by rw [dig_len]; omega), ← List.getD_eq_getElem?_getD, dig_at _ _ _ hi]
  have hgo := gets_go (L := codes B V) (F := F) (T := []) (p := p) (b := en.2.1) (z := en.2.2) (en := en) hf hb (by omega) (fun t ht => get_before hm ht) (get_self hm) (en.2.2 - 1) 0 16 (by omega) (by omega)
  rw [List.append_nil, Nat.add_zero, Nat.sub_zero, Nat.div_eq_of_lt (by omega)] at hgo
  rw [h2, ← hp, hgo, hn]
end Go.Proofs.YthfpdebpepbejaaDoor
