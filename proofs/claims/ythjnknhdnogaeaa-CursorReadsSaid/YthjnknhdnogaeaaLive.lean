/-
  CursorReads: one question, asked of a cursor that reads.
-/
import Derived.Test.YthjnknhdnogaeaaNext
namespace Go.Proofs.Ythjnknhdnogaeaa
open Go.RowKit

theorem Cur.kept {S : Nat → Prop} {w w' : World} {g s : Nat} {A : Option Addr} {n c : Nat} {big : Bool} {at_ : Nat} (h : Cur w g s A n c big at_) (k : Kept S w w') (hg : ¬ S g) (hs : ¬ S s) : Cur w' g s A n c big at_ :=
  ⟨k.box h.own hg, k.box h.src hs⟩
theorem kept_moved (w : World) (g j : Nat) (v : Value) : Kept (fun i => i = g) w ((w.drewN j).setCell ⟨g, 1, none⟩ v) := ((Kept.refl (fun i => i = g) w).drewN j).setCell (p := ⟨g, 1, none⟩) (fun _ => rfl) _

section
variable (w : World) (g s : Nat) (Ax A : Option Addr) (n cx c : Nat) (big : Bool) (at_ : Nat) (K : Nat → Prop) (l : List Int) (kd m : Int)

/-- what step answers of a cursor that reads -/
def LiveStep (at1 : Nat) (r : Ending) (w' : World) : Prop := r = .returned (.tuple #[refCur A n c big at1 0, .bool true]) ∧ Kept (fun i => i = g) w w' ∧ Cur w' g s Ax n cx big at1

set_option maxHeartbeats 800000 in
theorem step_live (h : Cur w g s Ax n cx big at_) (hx : Sl w K Ax n cx l) (hl : Sl w K A n c l) (hK : ∀ b, K b → ¬ b = g) (hat : at_ ≤ n) (hn : n ≤ 4000) (h0 : (nextOf big l n at_ kd m).2 = 0) :
    Calls Try.prog 16 #[.pointer (some ⟨g, 0, none⟩), refCur A n c big at_ 0, .agg #[.int .i64 kd, .int .i64 m]] w (LiveStep w g s Ax A n cx c big (nextOf big l n at_ kd m).1) := by
  have hg := h.own.lt
  have hs := h.src.lt
  have hS : ∀ i, i = g → i < w.heap.size := fun i e => by omega
  have hcap := hx.cap
  have hmax := hx.max
  have cur : ∀ W, Kept (fun _ => False) w W → Cur W g s Ax n cx big at_ := fun W k => h.kept k (fun h => h) (fun h => h)
  have sx : ∀ W, Kept (fun _ => False) w W → Sl W K Ax n cx l := fun W k => hx.kept k (fun _ _ h => h)
  obtain ⟨a1, e1, hne⟩ : ∃ a1 e1, nextOf big l n at_ kd m = (a1, e1) := ⟨_, _, rfl⟩
  rw [hne] at h0 ⊢
  simp only at h0 ⊢
  subst h0
  have fin : ∀ {r : Ending} {w' w1 : World} {b : Bool}, r = .returned (.tuple #[refCur A n c big a1 0, .bool b]) → b = true → Cur w1 g s Ax n cx big a1 → Kept (fun i => w.heap.size ≤ i) w1 w' → Kept (fun i => i = g) w w' → LiveStep w g s Ax A n cx c big a1 r w' :=
    fun hr hb hc k1 k => ⟨by rw [hr, hb], k, hc.kept k1 (by omega) (by omega)⟩
  have k2 : ∀ {w1 w' : World}, Kept (fun i => i = w.heap.size + 1 + 1) w1 w' → Kept (fun i => w.heap.size ≤ i) w1 w' := fun k => k.mono (fun i _ e => by omega)
  by_cases c0 : kd = 0
  · subst c0
    obtain ⟨v, hv, hR⟩ := refNum_any w A n c big at_ K l m hl hat hn
    rw [hne] at hv hR
    have hvv := hv rfl
    clear hv
    unfold nextOf at hne
    rw [if_pos rfl] at hne
    by_cases hm : m = 1 ∨ m = 2 ∨ m = 4 ∨ m = 8
    · rw [if_neg (not_not_intro hm)] at hne
      by_cases hs : ((n - at_ : Nat) : Int) < m
      · rw [if_pos hs] at hne; simp at hne
      rw [if_neg hs] at hne
      by_cases hV : 9223372036854775807 < val big ((l.drop at_).take m.toNat)
      · rw [if_pos hV] at hne; simp at hne
      rw [if_neg hV] at hne
      obtain ⟨k, rfl⟩ : ∃ k : Nat, m = (k : Int) := ⟨m.toNat, by omega⟩
      rw [Int.toNat_natCast] at *
      obtain ⟨rfl, _⟩ := Prod.mk.inj hne
      refine (step_0 w (some ⟨g, 0, none⟩) A n c big at_ k _ _ v (fun i => i = g) hS (fun w1 => Cur w1 g s Ax n cx big (at_ + k)) hR v
        (fun W kW => (number_ok W g s Ax n cx big at_ k l K v (cur W kW) (decide_eq_true hm) (by omega) hcap hmax hx.len (sx W kW).bts hvv.symm (by omega)).mono (by
          rintro r w1 ⟨rfl, j, rfl⟩
          exact ⟨rfl, kept_moved W g j _, ((cur W kW).drewN j).moved (at_ + k)⟩))).mono ?_
      rintro r w' ⟨rfl, w1, hc, k1, hk⟩
      exact fin rfl (by simp) hc (k2 k1) hk
    · rw [if_pos hm] at hne; simp at hne
  by_cases c1 : kd = 1
  · subst c1
    obtain ⟨Aw, nw, cw, lw, hw, hnw, hlw, hl0, hR⟩ := refBytes_any w A n c big at_ K l m hl hat hn
    rw [hne] at hlw hR
    obtain ⟨hlw2, hnw2⟩ := hlw rfl
    clear hlw
    unfold nextOf at hne
    rw [if_neg (by decide), if_pos (.inl rfl)] at hne
    by_cases hm : m < 1
    · rw [if_pos hm] at hne
      obtain ⟨rfl, _⟩ := Prod.mk.inj hne
      refine (step_1n w (some ⟨g, 0, none⟩) A n c big at_ m _ _ (fun i => i = g) hS (fun w1 => Cur w1 g s Ax n cx big at_) K hK Aw nw cw lw hw (fun W _ => hR W)
        (fun W kW => (bytes_none W g s Ax n cx big at_ m (cur W kW) hm).mono (by
          rintro r w1 ⟨rfl, rfl⟩
          exact ⟨rfl, Kept.refl _ _, cur W kW⟩))).mono ?_
      rintro r w' ⟨b, rfl, hb, w1, hc, k1, hk⟩
      exact fin rfl (hb (hl0 hm)) hc k1 hk
    · rw [if_neg hm] at hne
      by_cases hs : ((n - at_ : Nat) : Int) < m
      · rw [if_pos hs] at hne; simp at hne
      rw [if_neg hs] at hne
      obtain ⟨k, rfl⟩ : ∃ k : Nat, m = (k : Int) := ⟨m.toNat, by omega⟩
      rw [Int.toNat_natCast] at *
      obtain ⟨rfl, _⟩ := Prod.mk.inj hne
      have hk2 := hnw2.symm
      subst hk2
      subst hlw2
      refine (step_1b w (some ⟨g, 0, none⟩) A n c big at_ k _ (fun i => i = g) hS (fun w1 => Cur w1 g s Ax n cx big (at_ + k)) K hK Aw k cw _ hw hnw (fun W _ => hR W)
        (fun W kW => (bytes_ok W g s Ax n cx big at_ K k l (cur W kW) (sx W kW) (by omega) (by omega) (by omega)).mono (by
          rintro r w1 ⟨b, rfl, hb, hbox, hk, hc⟩
          exact ⟨b, rfl, hb, hbox, hk, hc⟩))).mono ?_
      rintro r w' ⟨b, rfl, hb, w1, hc, k1, hk⟩
      exact fin rfl hb hc k1 hk
  by_cases c2 : kd = 2
  · subst c2
    have hR := refSkip_any w A n c big at_ K l m hl hat hn
    rw [hne] at hR
    unfold nextOf at hne
    rw [if_neg (by decide), if_pos (.inr rfl)] at hne
    have hW0 := (stepW_parts w A n c big at_ 2 m).2.2.2
    by_cases hm : m < 1
    · rw [if_pos hm] at hne
      obtain ⟨rfl, _⟩ := Prod.mk.inj hne
      refine (step_2 w (some ⟨g, 0, none⟩) A n c big at_ m _ _ (fun i => i = g) hS (fun w1 => Cur w1 g s Ax n cx big at_) ((skip_none _ g s Ax n cx big at_ m (cur _ hW0) hm).mono (by
        rintro r w1 ⟨rfl, rfl⟩
        exact ⟨rfl, Kept.refl _ _, cur _ hW0⟩)) hR).mono ?_
      rintro r w' ⟨rfl, w1, hc, k1, hk⟩
      exact fin rfl rfl hc (k2 k1) hk
    · rw [if_neg hm] at hne
      by_cases hs : ((n - at_ : Nat) : Int) < m
      · rw [if_pos hs] at hne; simp at hne
      rw [if_neg hs] at hne
      obtain ⟨k, rfl⟩ : ∃ k : Nat, m = (k : Int) := ⟨m.toNat, by omega⟩
      rw [Int.toNat_natCast] at *
      obtain ⟨rfl, _⟩ := Prod.mk.inj hne
      refine (step_2 w (some ⟨g, 0, none⟩) A n c big at_ k _ _ (fun i => i = g) hS (fun w1 => Cur w1 g s Ax n cx big (at_ + k)) ((skip_ok _ g s Ax n cx big at_ k (cur _ hW0) (by omega) (by omega) hcap hmax).mono (by
        rintro r w1 ⟨rfl, j, rfl⟩
        exact ⟨rfl, kept_moved _ g j _, ((cur _ hW0).drewN j).moved (at_ + k)⟩)) hR).mono ?_
      rintro r w' ⟨rfl, w1, hc, k1, hk⟩
      exact fin rfl rfl hc (k2 k1) hk
  by_cases c3 : kd = 3
  · subst c3
    have hR := refSeek_any A n c big at_ l m
    rw [hne] at hR
    unfold nextOf at hne
    rw [if_neg (by decide), if_neg (by decide), if_pos rfl] at hne
    have hW0 := (stepW_parts w A n c big at_ 3 m).2.2.2
    by_cases hm : m < 0 ∨ (n : Int) < m
    · rw [if_pos hm] at hne; simp at hne
    rw [if_neg hm] at hne
    obtain ⟨k, rfl⟩ : ∃ k : Nat, m = (k : Int) := ⟨m.toNat, by omega⟩
    rw [Int.toNat_natCast] at *
    obtain ⟨rfl, _⟩ := Prod.mk.inj hne
    refine (step_3 w (some ⟨g, 0, none⟩) A n c big at_ k _ _ (fun i => i = g) hS (fun w1 => Cur w1 g s Ax n cx big k) ((seek_ok _ g s Ax n cx big at_ k (cur _ hW0) (by omega) (by omega)).mono (by
      rintro r w1 ⟨rfl, rfl⟩
      exact ⟨rfl, kept_moved _ g 0 _, (cur _ hW0).moved k⟩)) hR).mono ?_
    rintro r w' ⟨rfl, w1, hc, k1, hk⟩
    exact fin rfl rfl hc (k2 k1) hk
  by_cases c4 : kd = 4
  · subst c4
    have hR := refFail_any A n c big at_ l m
    rw [hne] at hR
    have e : nextOf big l n at_ 4 m = (at_, m) := by simp [nextOf]
    rw [e] at hne
    obtain ⟨rfl, rfl⟩ := Prod.mk.inj hne
    have hW0 := (stepW_parts w A n c big at_ 4 0).2.2.2
    refine (step_4 w (some ⟨g, 0, none⟩) A n c big at_ 0 _ _ (fun i => i = g) hS (fun w1 => Cur w1 g s Ax n cx big at_) ((fail_ok _ g s Ax n cx big at_ (cur _ hW0)).mono (by
      rintro r w1 ⟨rfl, rfl⟩
      exact ⟨rfl, Kept.refl _ _, cur _ hW0⟩)) hR).mono ?_
    rintro r w' ⟨rfl, w1, hc, k1, hk⟩
    exact fin rfl rfl hc (k2 k1) hk
  by_cases c5 : kd = 5
  · subst c5
    have hR := refEnd_any A n c big at_ l m hat
    rw [hne] at hR
    unfold nextOf at hne
    rw [if_neg (by decide), if_neg (by decide), if_neg (by decide), if_neg (by decide), if_pos rfl] at hne
    have hW0 := (stepW_parts w A n c big at_ 5 m).2.2.2
    by_cases hm : at_ < n
    · rw [if_pos hm] at hne; simp at hne
    rw [if_neg hm] at hne
    obtain ⟨rfl, _⟩ := Prod.mk.inj hne
    have ean : at_ = n := by omega
    subst ean
    have hcN := cur _ hW0
    refine (step_5 w (some ⟨g, 0, none⟩) A at_ c big at_ m _ _ (fun i => i = g) hS (fun w1 => Cur w1 g s Ax at_ cx big at_) ((end_ok _ g s Ax at_ cx big hcN (by omega)).mono (by
      rintro r w1 ⟨rfl, j, rfl⟩
      exact ⟨rfl, (Kept.refl _ _).drewN j, (cur _ hW0).drewN j⟩)) hR).mono ?_
    rintro r w' ⟨rfl, w1, hc, k1, hk⟩
    exact fin rfl rfl hc (k2 k1) hk
  · have e : nextOf big l n at_ kd m = (at_, 0) := by simp [nextOf, c0, c1, c2, c3, c4, c5]
    rw [e] at hne
    obtain ⟨rfl, _⟩ := Prod.mk.inj hne
    refine (step_other w (some ⟨g, 0, none⟩) A n c big at_ m kd (by simpa using c0) (by simpa using c1) (by simpa using c2) (by simpa using c3) (by simpa using c4) (by simpa using c5)).mono ?_
    rintro r w' ⟨rfl, hb⟩
    exact ⟨rfl, Kept.of_below hb _, h.kept (Kept.of_below hb (fun _ => False)) (fun h => h) (fun h => h)⟩

set_option maxHeartbeats 800000 in
theorem step_up (h : Cur w g s Ax n cx big at_) (hx : Sl w K Ax n cx l) (hl : Sl w K A n c l) (hat : at_ ≤ n) (hn : n ≤ 4000) (h0 : (nextOf big l n at_ kd m).2 ≠ 0) :
    Calls Try.prog 16 #[.pointer (some ⟨g, 0, none⟩), refCur A n c big at_ 0, .agg #[.int .i64 kd, .int .i64 m]] w fun r w' => r = .panicked (gaveUp s (nextOf big l n at_ kd m).2) ∧ Kept (fun i => i = g) w w' := by
  have hcap := hx.cap
  have hmax := hx.max
  have cur : ∀ W, Kept (fun _ => False) w W → Cur W g s Ax n cx big at_ := fun W k => h.kept k (fun h => h) (fun h => h)
  have sx : ∀ W, Kept (fun _ => False) w W → Sl W K Ax n cx l := fun W k => hx.kept k (fun _ _ h => h)
  have kk : ∀ W, Kept (fun _ => False) w W → Kept (fun i => i = g) w W := fun W k => k.mono (fun _ _ h => h.elim)
  obtain ⟨a1, e1, hne⟩ : ∃ a1 e1, nextOf big l n at_ kd m = (a1, e1) := ⟨_, _, rfl⟩
  rw [hne] at h0 ⊢
  simp only at h0 ⊢
  by_cases c0 : kd = 0
  · subst c0
    obtain ⟨v, hv, hR⟩ := refNum_any w A n c big at_ K l m hl hat hn
    clear hv
    refine stepUp_0 w (some ⟨g, 0, none⟩) A n c big at_ m _ _ v _ _ hR (fun W kW => ?_)
    unfold nextOf at hne
    rw [if_pos rfl] at hne
    by_cases hm : m = 1 ∨ m = 2 ∨ m = 4 ∨ m = 8
    · rw [if_neg (not_not_intro hm)] at hne
      by_cases hs : ((n - at_ : Nat) : Int) < m
      · rw [if_pos hs] at hne
        obtain ⟨_, rfl⟩ := Prod.mk.inj hne
        refine (number_short W g s Ax n cx big at_ m (cur W kW) (decide_eq_true hm) hat (by omega) hs).mono ?_
        rintro r w1 ⟨rfl, j, rfl⟩
        exact ⟨rfl, (kk W kW).drewN j⟩
      rw [if_neg hs] at hne
      by_cases hV : 9223372036854775807 < val big ((l.drop at_).take m.toNat)
      · rw [if_pos hV] at hne
        obtain ⟨_, rfl⟩ := Prod.mk.inj hne
        obtain ⟨k, rfl⟩ : ∃ k : Nat, m = (k : Int) := ⟨m.toNat, by omega⟩
        rw [Int.toNat_natCast] at *
        refine (number_range W g s Ax n cx big at_ k l K _ (cur W kW) (decide_eq_true hm) (by omega) hcap hmax hx.len (sx W kW).bts rfl hV).mono ?_
        rintro r w1 ⟨rfl, j, rfl⟩
        exact ⟨rfl, (kk W kW).drewN j⟩
      · rw [if_neg hV] at hne
        exact absurd (Prod.mk.inj hne).2.symm h0
    · rw [if_pos hm] at hne
      obtain ⟨_, rfl⟩ := Prod.mk.inj hne
      refine (number_arg W g s Ax n cx big at_ m (cur W kW) (decide_eq_false hm)).mono ?_
      rintro r w1 ⟨rfl, rfl⟩
      exact ⟨rfl, kk W kW⟩
  by_cases c1 : kd = 1
  · subst c1
    obtain ⟨Aw, nw, cw, lw, hw, hnw, hlw, hl0, hR⟩ := refBytes_any w A n c big at_ K l m hl hat hn
    refine stepUp_1 w (some ⟨g, 0, none⟩) A n c big at_ m _ _ _ _ _ (fun W _ => hR W) (fun W kW => ?_)
    unfold nextOf at hne
    rw [if_neg (by decide), if_pos (.inl rfl)] at hne
    by_cases hm : m < 1
    · rw [if_pos hm] at hne; exact absurd (Prod.mk.inj hne).2.symm h0
    rw [if_neg hm] at hne
    by_cases hs : ((n - at_ : Nat) : Int) < m
    · rw [if_pos hs] at hne
      obtain ⟨_, rfl⟩ := Prod.mk.inj hne
      refine (bytes_short W g s Ax n cx big at_ m (cur W kW) hat (by omega) (by omega) hs).mono ?_
      rintro r w1 ⟨rfl, j, rfl⟩
      exact ⟨rfl, (kk W kW).drewN j⟩
    · rw [if_neg hs] at hne; exact absurd (Prod.mk.inj hne).2.symm h0
  by_cases c2 : kd = 2
  · subst c2
    have hW0 := (stepW_parts w A n c big at_ 2 m).2.2.2
    refine stepUp_2 w (some ⟨g, 0, none⟩) A n c big at_ m _ _ ?_
    unfold nextOf at hne
    rw [if_neg (by decide), if_pos (.inr rfl)] at hne
    by_cases hm : m < 1
    · rw [if_pos hm] at hne; exact absurd (Prod.mk.inj hne).2.symm h0
    rw [if_neg hm] at hne
    by_cases hs : ((n - at_ : Nat) : Int) < m
    · rw [if_pos hs] at hne
      obtain ⟨_, rfl⟩ := Prod.mk.inj hne
      refine (skip_short _ g s Ax n cx big at_ m (cur _ hW0) hat (by omega) (by omega) hs).mono ?_
      rintro r w1 ⟨rfl, j, rfl⟩
      exact ⟨rfl, (kk _ hW0).drewN j⟩
    · rw [if_neg hs] at hne; exact absurd (Prod.mk.inj hne).2.symm h0
  by_cases c3 : kd = 3
  · subst c3
    have hW0 := (stepW_parts w A n c big at_ 3 m).2.2.2
    refine stepUp_3 w (some ⟨g, 0, none⟩) A n c big at_ m _ _ ?_
    unfold nextOf at hne
    rw [if_neg (by decide), if_neg (by decide), if_pos rfl] at hne
    by_cases hm : m < 0 ∨ (n : Int) < m
    · rw [if_pos hm] at hne
      obtain ⟨_, rfl⟩ := Prod.mk.inj hne
      refine (seek_up _ g s Ax n cx big at_ m (cur _ hW0) hm).mono ?_
      rintro r w1 ⟨rfl, rfl⟩
      exact ⟨rfl, kk _ hW0⟩
    · rw [if_neg hm] at hne; exact absurd (Prod.mk.inj hne).2.symm h0
  by_cases c4 : kd = 4
  · subst c4
    have hW0 := (stepW_parts w A n c big at_ 4 m).2.2.2
    refine stepUp_4 w (some ⟨g, 0, none⟩) A n c big at_ m _ _ ?_
    have e : nextOf big l n at_ 4 m = (at_, m) := by simp [nextOf]
    rw [e] at hne
    obtain ⟨_, rfl⟩ := Prod.mk.inj hne
    refine (fail_up _ g s Ax n cx big at_ m (cur _ hW0) (by simpa using h0)).mono ?_
    rintro r w1 ⟨rfl, rfl⟩
    exact ⟨rfl, kk _ hW0⟩
  by_cases c5 : kd = 5
  · subst c5
    have hW0 := (stepW_parts w A n c big at_ 5 m).2.2.2
    refine stepUp_5 w (some ⟨g, 0, none⟩) A n c big at_ m _ _ ?_
    unfold nextOf at hne
    rw [if_neg (by decide), if_neg (by decide), if_neg (by decide), if_neg (by decide), if_pos rfl] at hne
    by_cases hm : at_ < n
    · rw [if_pos hm] at hne
      obtain ⟨_, rfl⟩ := Prod.mk.inj hne
      refine (end_more _ g s Ax n cx big at_ (cur _ hW0) hm (by omega)).mono ?_
      rintro r w1 ⟨rfl, j, rfl⟩
      exact ⟨rfl, (kk _ hW0).drewN j⟩
    · rw [if_neg hm] at hne; exact absurd (Prod.mk.inj hne).2.symm h0
  · have e : nextOf big l n at_ kd m = (at_, 0) := by simp [nextOf, c0, c1, c2, c3, c4, c5]
    rw [e] at hne
    exact absurd (Prod.mk.inj hne).2.symm h0
end

end Go.Proofs.Ythjnknhdnogaeaa
