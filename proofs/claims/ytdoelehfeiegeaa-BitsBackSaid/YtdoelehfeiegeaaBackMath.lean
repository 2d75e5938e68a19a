/-
  BitsBack: pieces, their bits, their cells.
-/
import Derived.Test.YtdoelehfeiegeaaMarks
import Derived.Test.YtdoelehfeiegeaaStands
import Derived.Test.YtdoelehfeiegeaaOnes
import Derived.Deep.AppendLies
namespace Go.Proofs.Ytdoelehfeiegeaa
open Go.RowKit

/-- the bits of pieces -/
def bitsP (ps : List (Int × Int)) : List Int := ps.flatMap fun p => dig p.1.toNat p.2.toNat
/-- the cells of pieces -/
def cellsK (ps : List (Int × Int)) : List Value := ps.flatMap fun p => [.int .i64 p.1, .int .i64 p.2]
theorem bitsP_app (a b : List (Int × Int)) : bitsP (a ++ b) = bitsP a ++ bitsP b := by simp [bitsP]
theorem bitsP_one (v m : Int) : bitsP [(v, m)] = dig v.toNat m.toNat := by simp [bitsP]
theorem cellsK_app (a b : List (Int × Int)) : cellsK (a ++ b) = cellsK a ++ cellsK b := by simp [cellsK]
theorem cellsK_len (ps : List (Int × Int)) : (cellsK ps).length = ps.length * 2 := by
  induction ps with
  | nil => rfl
  | cons p ps ih =>
    have : cellsK (p :: ps) = [.int .i64 p.1, .int .i64 p.2] ++ cellsK ps := by simp [cellsK]
    rw [this, List.length_append, ih, List.length_cons]
    simp
    omega
theorem cellsK_at (ps : List (Int × Int)) (k : Nat) (hk : k < ps.length) : (cellsK ps)[k * 2]? = some (.int .i64 (ps.getD k (0, 0)).1) ∧ (cellsK ps)[k * 2 + 1]? = some (.int .i64 (ps.getD k (0, 0)).2) := by
  induction ps generalizing k with
  | nil => simp at hk
  | cons p ps ih =>
    have e : cellsK (p :: ps) = .int .i64 p.1 :: .int .i64 p.2 :: cellsK ps := by simp [cellsK]
    rw [e]
    cases k with
    | zero => exact ⟨rfl, rfl⟩
    | succ k =>
      have := ih k (by simpa using hk)
      rw [show (k + 1) * 2 = k * 2 + 2 by omega]
      simpa using this

theorem pl_of_own {w : World} {base n : Nat} {v : Value} {ps : List (Int × Int)} (h : w.ownsRow base 28 2 v n (cellsK ps)) (hn : ps.length = n) : ∃ A c, v = .slice A n c ∧ Pl w (fun b => b < w.heap.size) A n ps := by
  have hown := h
  rcases h.2 with ⟨rfl, rfl⟩ | ⟨g, cap, cur, rfl, hg, hh, hnc, hm, _, _⟩
  · exact ⟨none, 0, rfl, hn, fun h0 => absurd h0 (by omega)⟩
  · refine ⟨_, cap, rfl, hn, fun _ => ⟨g, 0, rfl, (Array.getElem?_eq_some_iff.1 hh).1, (Array.getElem?_eq_some_iff.1 hh).1, fun i hi => ?_⟩⟩
    obtain ⟨h1, h2⟩ := cellsK_at ps i (by omega)
    rw [Nat.zero_add]
    exact ⟨(hown.cellAt (i * 2) (by omega)).trans h1, (hown.cellAt (i * 2 + 1) (by omega)).trans h2⟩

/-- the bits of piece j -/
theorem bitsP_at (ps : List (Int × Int)) (j : Nat) (hj : j < ps.length) : ∃ R, bitsP ps = bitsP (ps.take j) ++ (dig (ps.getD j (0, 0)).1.toNat (ps.getD j (0, 0)).2.toNat ++ R) ∧ (bitsP (ps.take (j + 1))).length = (bitsP (ps.take j)).length + (ps.getD j (0, 0)).2.toNat := by
  have e1 : ps.take (j + 1) = ps.take j ++ [ps.getD j (0, 0)] := by
    rw [List.take_succ_eq_append_getElem hj, List.getD_eq_getElem?_getD, List.getElem?_eq_getElem hj]
    rfl
  refine ⟨bitsP (ps.drop (j + 1)), ?_, ?_⟩
  · conv => lhs; rw [← List.take_append_drop (j + 1) ps]
    rw [bitsP_app, e1, bitsP_app, bitsP_one, List.append_assoc]
  · rw [e1, bitsP_app, List.length_append, bitsP_one, dig_len]

/-- what was put is what is read -/
theorem back_get {F : List Int} {ps : List (Int × Int)} {j i : Nat} (hF : by8 F = bitsP ps ++ List.replicate i 1) (hj : j < ps.length) (T : List Int) (hf : Fit F) (hok : mayPut (ps.getD j (0, 0)).1 (ps.getD j (0, 0)).2) :
    getF (stuff F ++ T) (stAt F (bitsP (ps.take j)).length) (ps.getD j (0, 0)).2 = (stAt F (bitsP (ps.take (j + 1))).length, (ps.getD j (0, 0)).1.toNat, 0) := by
  obtain ⟨R, h1, h2⟩ := bitsP_at ps j hj
  obtain ⟨x, c, hx, hc, hlt, hc24, _⟩ := putL_ok hok
  rw [hx, hc, Int.toNat_natCast, Int.toNat_natCast] at h1
  rw [hc, Int.toNat_natCast] at h2
  rw [hx, hc, getF, if_neg (by omega), Int.toNat_natCast, Int.toNat_natCast]
  have hl := congrArg List.length hF
  rw [by8_len, List.length_append, h1, List.length_append, List.length_append, dig_len] at hl
  rw [goF_bits F T hf _ c _ 0 (by omega), hF, h1, h2]
  have e : ((bitsP (ps.take j) ++ (dig x c ++ R) ++ List.replicate i 1).drop (bitsP (ps.take j)).length).take c = dig x c := by
    rw [List.append_assoc, List.drop_left, List.append_assoc, List.take_left' (dig_len x c)]
  rw [e, num_dig 0 x c hlt]
  simp

/-- .. bit by bit -/
theorem back_bit {F : List Int} {ps : List (Int × Int)} {j i x c s : Nat} (hF : by8 F = bitsP ps ++ List.replicate i 1) (hj : j < ps.length) (T : List Int) (hf : Fit F) (hx : (ps.getD j (0, 0)).1 = x) (hc : (ps.getD j (0, 0)).2 = c) (hs : s < c) :
    bitF (stuff F ++ T) (stAt F ((bitsP (ps.take j)).length + (c - (s + 1)))) = (stAt F ((bitsP (ps.take j)).length + (c - s)), x / 2 ^ s % 2, 0) := by
  obtain ⟨R, h1, h2⟩ := bitsP_at ps j hj
  rw [hx, hc, Int.toNat_natCast, Int.toNat_natCast] at h1
  have hl := congrArg List.length hF
  rw [by8_len, List.length_append, h1, List.length_append, List.length_append, dig_len] at hl
  obtain ⟨b, hb, he, hst⟩ := stAt_step F T hf ((bitsP (ps.take j)).length + (c - (s + 1))) (by omega)
  rw [hst, show (bitsP (ps.take j)).length + (c - (s + 1)) + 1 = (bitsP (ps.take j)).length + (c - s) by omega]
  rw [hF, h1, List.append_assoc, List.getD_eq_getElem?_getD, List.getElem?_append_right (by omega), Nat.add_sub_cancel_left, List.append_assoc, List.getElem?_append_left (by rw [dig_len]; omega), ← List.getD_eq_getElem?_getD, dig_at _ _ _ (by omega), show c - 1 - (c - (s + 1)) = s by omega] at he
  rw [show b = x / 2 ^ s % 2 by omega]

/-- behind the pieces all bits are set -/
theorem back_ones {F L : List Int} {i k : Nat} (hF : by8 F = L ++ List.replicate i 1) (T : List Int) (hf : Fit F) (hk : k < i) : bitF (stuff F ++ T) (stAt F (L.length + k)) = (stAt F (L.length + (k + 1)), 1, 0) := by
  have hl := congrArg List.length hF
  rw [by8_len, List.length_append, List.length_replicate] at hl
  obtain ⟨b, hb, he, hst⟩ := stAt_step F T hf (L.length + k) (by omega)
  rw [hst]
  rw [hF, List.getD_eq_getElem?_getD, List.getElem?_append_right (by omega), Nat.add_sub_cancel_left, List.getElem?_replicate, if_pos hk] at he
  have he1 : (b : Int) = 1 := by simpa using he
  rw [show b = 1 by omega, Nat.add_assoc]
/-- and then there is none -/
theorem back_none (F : List Int) : bitF (stuff F) (stAt F (8 * F.length)) = (stAt F (8 * F.length), 0, 3) ∧ (stAt F (8 * F.length)).at_ = (stuff F).length := by
  obtain ⟨h1, h2⟩ := stAt_end F (8 * F.length) (Nat.le_refl _) (by omega)
  refine ⟨?_, h1⟩
  have hE : beginE (stuff F) (stAt F (8 * F.length)).at_ = 3 := by rw [h1, beginE, if_neg (by omega)]
  rw [bitF_none (by omega) (by rw [hE]; decide), hE]
end Go.Proofs.Ytdoelehfeiegeaa
