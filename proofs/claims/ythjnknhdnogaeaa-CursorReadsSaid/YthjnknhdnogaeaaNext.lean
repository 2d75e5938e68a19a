/-
  CursorReads: one question, asked of nobody, and of a cursor that reads.
-/
import Derived.Test.YthjnknhdnogaeaaStep0
import Derived.Test.YthjnknhdnogaeaaStep1
import Derived.Test.YthjnknhdnogaeaaRefNumBig
import Derived.Test.YthjnknhdnogaeaaRefNumLit
namespace Go.Proofs.Ythjnknhdnogaeaa
open Go.RowKit

/-- where a question leaves a cursor, and with which error -/
def nextOf (big : Bool) (l : List Int) (n at_ : Nat) (kd m : Int) : Nat × Int :=
  if kd = 0 then
    (if ¬ (m = 1 ∨ m = 2 ∨ m = 4 ∨ m = 8) then (at_, 1) else if ((n - at_ : Nat) : Int) < m then (at_, 3) else if 9223372036854775807 < val big ((l.drop at_).take m.toNat) then (at_, 2) else (at_ + m.toNat, 0))
  else if kd = 1 ∨ kd = 2 then (if m < 1 then (at_, 0) else if ((n - at_ : Nat) : Int) < m then (at_, 3) else (at_ + m.toNat, 0))
  else if kd = 3 then (if m < 0 ∨ (n : Int) < m then (at_, 2) else (m.toNat, 0))
  else if kd = 4 then (at_, m)
  else if kd = 5 then (if at_ < n then (at_, 5) else (at_, 0))
  else (at_, 0)

theorem nextOf_le {big : Bool} {l : List Int} {n at_ : Nat} {kd m : Int} (h : at_ ≤ n) : (nextOf big l n at_ kd m).1 ≤ n := by
  unfold nextOf
  split
  · split
    · exact h
    · split
      · exact h
      · split
        · exact h
        · show at_ + m.toNat ≤ n; omega
  · split
    · split
      · exact h
      · split
        · exact h
        · show at_ + m.toNat ≤ n; omega
    · split
      · split
        · exact h
        · show m.toNat ≤ n; omega
      · split
        · exact h
        · split
          · split <;> exact h
          · exact h

theorem gone_nobody (w : World) : Gone w none := reads_nil w

section
variable (w : World) (A : Option Addr) (n c : Nat) (big : Bool) (at_ : Nat) (K : Nat → Prop) (l : List Int) (m : Int)

theorem refNum_any (hl : Sl w K A n c l) (hat : at_ ≤ n) (hn : n ≤ 4000) : ∃ v : Int, ((nextOf big l n at_ 0 m).2 = 0 → v = val big ((l.drop at_).take m.toNat)) ∧
    ∀ W : World, Kept (fun _ => False) w W → Calls Try.prog 39 #[refCur A n c big at_ 0, .int .i64 m] W fun r w' => r = .returned (.tuple #[.int .i64 v, refCur A n c big (nextOf big l n at_ 0 m).1 (nextOf big l n at_ 0 m).2]) ∧ Below W.heap.size W w' := by
  unfold nextOf
  rw [if_pos rfl]
  by_cases hm : m = 1 ∨ m = 2 ∨ m = 4 ∨ m = 8
  · rw [if_neg (not_not_intro hm)]
    have hd := decide_eq_true hm
    by_cases hs : ((n - at_ : Nat) : Int) < m
    · rw [if_pos hs]
      exact ⟨0, fun e => absurd e (by simp), fun W _ => ref_num_short W A n c big at_ m hd hat (by omega) hs⟩
    · rw [if_neg hs]
      obtain ⟨k, rfl⟩ : ∃ k : Nat, m = (k : Int) := ⟨m.toNat, by omega⟩
      rw [Int.toNat_natCast]
      by_cases hv : 9223372036854775807 < val big ((l.drop at_).take k)
      · rw [if_pos hv]
        have h8 : k = 8 := by
          have hb := (val_bounds big _ ((hl.bts.fit.drop at_).take k)).2
          have hlen : ((l.drop at_).take k).length = k := by rw [List.length_take, List.length_drop, hl.len]; omega
          rw [hlen] at hb
          rcases hm with h | h | h | h
          · have : k = 1 := by omega
            subst this; simp at hb; omega
          · have : k = 2 := by omega
            subst this; simp at hb; omega
          · have : k = 4 := by omega
            subst this; simp at hb; omega
          · omega
        refine ⟨0, fun e => absurd e (by simp), fun W hW => ?_⟩
        have hl2 := hl.kept hW (fun _ _ h => h)
        cases big
        · exact ref_num_lit_range W A n c at_ K l k _ hl2 hd (by omega) hn rfl h8 hv
        · exact ref_num_big_range W A n c at_ K l k _ hl2 hd (by omega) hn rfl h8 hv
      · rw [if_neg hv]
        refine ⟨_, fun _ => rfl, fun W hW => ?_⟩
        have hl2 := hl.kept hW (fun _ _ h => h)
        by_cases h8 : k = 8
        · cases big
          · exact ref_num_lit_eight W A n c at_ K l k _ hl2 hd (by omega) hn rfl h8 (by omega)
          · exact ref_num_big_eight W A n c at_ K l k _ hl2 hd (by omega) hn rfl h8 (by omega)
        · cases big
          · exact ref_num_lit_less W A n c at_ K l k _ hl2 hd (by omega) hn rfl (by omega) (by omega)
          · exact ref_num_big_less W A n c at_ K l k _ hl2 hd (by omega) hn rfl (by omega) (by omega)
  · rw [if_pos hm]
    exact ⟨0, fun e => absurd e (by simp), fun W _ => ref_num_arg W A n c big at_ m (decide_eq_false hm)⟩

/-- what the reference's Bytes answers of the slice -/
theorem refBytes_any (hl : Sl w K A n c l) (hat : at_ ≤ n) (hn : n ≤ 4000) : ∃ (Aw : Option Addr) (nw cw : Nat) (lw : List Int), Sl w K Aw nw cw lw ∧ nw ≤ 4000 ∧
    ((nextOf big l n at_ 1 m).2 = 0 → lw = (l.drop at_).take m.toNat ∧ nw = m.toNat) ∧ (m < 1 → lw = []) ∧
    ∀ W : World, Calls Try.prog 40 #[refCur A n c big at_ 0, .int .i64 m] W fun r w' => r = .returned (.tuple #[.slice Aw nw cw, refCur A n c big (nextOf big l n at_ 1 m).1 (nextOf big l n at_ 1 m).2]) ∧ Below W.heap.size W w' := by
  have hnil : Sl w K none 0 0 [] := ⟨⟨(fun z hz => by cases hz), fun h0 => absurd h0 (by simp)⟩, rfl, Nat.le_refl _, Nat.zero_le _, fun _ => rfl⟩
  unfold nextOf
  rw [if_neg (by decide), if_pos (.inl rfl)]
  by_cases h1 : m < 1
  · rw [if_pos h1]
    exact ⟨none, 0, 0, [], hnil, by omega, fun _ => ⟨by rw [show m.toNat = 0 from by omega]; simp, by omega⟩, fun _ => rfl, fun W => ref_bytes_none W A n c big at_ m h1⟩
  · rw [if_neg h1]
    by_cases hs : ((n - at_ : Nat) : Int) < m
    · rw [if_pos hs]
      exact ⟨none, 0, 0, [], hnil, by omega, fun e => absurd e (by simp), fun _ => rfl, fun W => ref_bytes_short W A n c big at_ m hat (by omega) (by omega) hs⟩
    · rw [if_neg hs]
      obtain ⟨k, rfl⟩ : ∃ k : Nat, m = (k : Int) := ⟨m.toNat, by omega⟩
      rw [Int.toNat_natCast]
      have hcap := hl.cap
      have hmax := hl.max
      have hcut := hl.bts.cut (k := at_) (m := k) (c := c) (by rw [hl.len]; omega) (by rw [hl.len]; exact hcap)
      refine ⟨cutAt A c at_, k, c - at_, _, ⟨hcut, by rw [List.length_take, List.length_drop, hl.len]; omega, by omega, by omega, fun e => ?_⟩, by omega, fun _ => ⟨rfl, rfl⟩, fun h => absurd h h1,
        fun W => ref_bytes_ok W A n c big at_ k (by omega) (by omega) hcap hmax⟩
      rw [cutAt, if_neg (by omega)] at e
      cases A with
      | none => have := hl.nil rfl; omega
      | some a => cases e

theorem refSkip_any (hl : Sl w K A n c l) (hat : at_ ≤ n) (hn : n ≤ 4000) (W : World) :
    Calls Try.prog 41 #[refCur A n c big at_ 0, .int .i64 m] W fun r w' => r = .returned (refCur A n c big (nextOf big l n at_ 2 m).1 (nextOf big l n at_ 2 m).2) ∧ Below W.heap.size W w' := by
  obtain ⟨Aw, nw, cw, lw, _, _, _, _, h⟩ := refBytes_any w A n c big at_ K l m hl hat hn
  have e : nextOf big l n at_ 2 m = nextOf big l n at_ 1 m := by simp [nextOf]
  rw [e]
  exact ref_skip W A n c big at_ m _ _ _ h
theorem refSeek_any (W : World) : Calls Try.prog 42 #[refCur A n c big at_ 0, .int .i64 m] W fun r w' => r = .returned (refCur A n c big (nextOf big l n at_ 3 m).1 (nextOf big l n at_ 3 m).2) ∧ Below W.heap.size W w' := by
  unfold nextOf
  rw [if_neg (by decide), if_neg (by decide), if_pos rfl]
  by_cases h : m < 0 ∨ (n : Int) < m
  · rw [if_pos h]
    exact ref_seek_up W A n c big at_ m h
  · rw [if_neg h]
    obtain ⟨k, rfl⟩ : ∃ k : Nat, m = (k : Int) := ⟨m.toNat, by omega⟩
    rw [Int.toNat_natCast]
    exact ref_seek_ok W A n c big at_ k (by omega)
theorem refFail_any (W : World) : Calls Try.prog 43 #[refCur A n c big at_ 0, .int .i64 m] W fun r w' => r = .returned (refCur A n c big (nextOf big l n at_ 4 m).1 (nextOf big l n at_ 4 m).2) ∧ Below W.heap.size W w' := by
  have e : nextOf big l n at_ 4 m = (at_, m) := by simp [nextOf]
  rw [e]
  exact ref_Fail W A n c big at_ m
theorem refEnd_any (hat : at_ ≤ n) (W : World) : Calls Try.prog 44 #[refCur A n c big at_ 0] W fun r w' => r = .returned (refCur A n c big (nextOf big l n at_ 5 m).1 (nextOf big l n at_ 5 m).2) ∧ Below W.heap.size W w' := by
  unfold nextOf
  rw [if_neg (by decide), if_neg (by decide), if_neg (by decide), if_neg (by decide), if_pos rfl]
  by_cases h : at_ < n
  · rw [if_pos h]
    exact ref_end_up W A n c big at_ h
  · rw [if_neg h]
    obtain rfl : at_ = n := by omega
    exact ref_end_ok W A at_ c big

/-- what step answers when nobody is asked -/
def NilStep (x : Value) (r : Ending) (w' : World) : Prop := ∃ b, r = .returned (.tuple #[x, .bool b]) ∧ Below w.heap.size w w'

theorem step_nil (kd : Int) (hl : Sl w K A n c l) (hat : at_ ≤ n) (hn : n ≤ 4000) :
    Calls Try.prog 16 #[.pointer none, refCur A n c big at_ 0, .agg #[.int .i64 kd, .int .i64 m]] w (NilStep w (refCur A n c big (nextOf big l n at_ kd m).1 (nextOf big l n at_ kd m).2)) := by
  have fin : ∀ {x : Value} {r : Ending} {w' : World} {b : Bool}, r = .returned (.tuple #[x, .bool b]) → Kept (fun _ => False) w w' → NilStep w x r w' := fun h k => ⟨_, h, k.below (Nat.le_refl _) (fun _ _ h => h)⟩
  by_cases h0 : kd = 0
  · subst h0
    obtain ⟨v, _, hR⟩ := refNum_any w A n c big at_ K l m hl hat hn
    refine (step_0 w none A n c big at_ m _ _ v (fun _ => False) (fun _ h => h.elim) (fun _ => True) hR 0 (fun W _ => (gone_number W none m (gone_nobody W)).mono (by rintro r w1 ⟨rfl, rfl⟩; exact ⟨rfl, Kept.refl _ _, trivial⟩))).mono ?_
    rintro r w' ⟨rfl, _, _, _, hk⟩
    exact fin rfl hk
  by_cases h1 : kd = 1
  · subst h1
    obtain ⟨Aw, nw, cw, lw, hw, _, _, _, hR⟩ := refBytes_any w A n c big at_ K l m hl hat hn
    refine (step_1n w none A n c big at_ m _ _ (fun _ => False) (fun _ h => h.elim) (fun _ => True) K (fun _ _ h => h) Aw nw cw lw hw (fun W _ => hR W) (fun W _ => (gone_bytes W none m (gone_nobody W)).mono (by rintro r w1 ⟨rfl, rfl⟩; exact ⟨rfl, Kept.refl _ _, trivial⟩))).mono ?_
    rintro r w' ⟨b, rfl, _, _, _, _, hk⟩
    exact fin rfl hk
  by_cases h2 : kd = 2
  · subst h2
    refine (step_2 w none A n c big at_ m _ _ (fun _ => False) (fun _ h => h.elim) (fun _ => True) ((gone_skip _ none m (gone_nobody _)).mono (by rintro r w1 ⟨rfl, rfl⟩; exact ⟨rfl, Kept.refl _ _, trivial⟩)) (refSkip_any w A n c big at_ K l m hl hat hn)).mono ?_
    rintro r w' ⟨rfl, _, _, _, hk⟩
    exact fin rfl hk
  by_cases h3 : kd = 3
  · subst h3
    refine (step_3 w none A n c big at_ m _ _ (fun _ => False) (fun _ h => h.elim) (fun _ => True) ((gone_seek _ none m (gone_nobody _)).mono (by rintro r w1 ⟨rfl, rfl⟩; exact ⟨rfl, Kept.refl _ _, trivial⟩)) (refSeek_any A n c big at_ l m)).mono ?_
    rintro r w' ⟨rfl, _, _, _, hk⟩
    exact fin rfl hk
  by_cases h4 : kd = 4
  · subst h4
    refine (step_4 w none A n c big at_ m _ _ (fun _ => False) (fun _ h => h.elim) (fun _ => True) ((gone_fail _ none m (gone_nobody _)).mono (by rintro r w1 ⟨rfl, rfl⟩; exact ⟨rfl, Kept.refl _ _, trivial⟩)) (refFail_any A n c big at_ l m)).mono ?_
    rintro r w' ⟨rfl, _, _, _, hk⟩
    exact fin rfl hk
  by_cases h5 : kd = 5
  · subst h5
    refine (step_5 w none A n c big at_ m _ _ (fun _ => False) (fun _ h => h.elim) (fun _ => True) ((gone_end _ none (gone_nobody _)).mono (by rintro r w1 ⟨rfl, rfl⟩; exact ⟨rfl, Kept.refl _ _, trivial⟩)) (refEnd_any A n c big at_ l m hat)).mono ?_
    rintro r w' ⟨rfl, _, _, _, hk⟩
    exact fin rfl hk
  · have e : nextOf big l n at_ kd m = (at_, 0) := by simp [nextOf, h0, h1, h2, h3, h4, h5]
    rw [e]
    refine (step_other w none A n c big at_ m kd (by simpa using h0) (by simpa using h1) (by simpa using h2) (by simpa using h3) (by simpa using h4) (by simpa using h5)).mono ?_
    rintro r w' ⟨rfl, hb⟩
    exact ⟨_, rfl, hb⟩
end

end Go.Proofs.Ythjnknhdnogaeaa
