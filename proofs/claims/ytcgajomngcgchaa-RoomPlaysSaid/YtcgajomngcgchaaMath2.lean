/-
  What giving makes of free extents; where the last used sector ends.
-/
import Derived.Test.YtcgajomngcgchaaMath
namespace Go.Proofs.Ytcgajomngcgchaa

theorem findIdx_split (p : X → Bool) : ∀ l : List X, (∀ x ∈ l.take (l.findIdx p), p x = false) ∧ (l.drop (l.findIdx p) = [] ∨ ∃ y t, l.drop (l.findIdx p) = y :: t ∧ p y = true)
  | [] => by simp
  | x :: l => by
    rw [List.findIdx_cons]
    cases hx : p x with
    | true => simp [hx]
    | false =>
      obtain ⟨h1, h2⟩ := findIdx_split p l
      simp only [cond_false, List.take_succ_cons, List.drop_succ_cons]
      refine ⟨fun y hy => ?_, h2⟩
      rcases List.mem_cons.1 hy with rfl | hy
      · exact hx
      · exact h1 y hy
theorem findIdx_mono {p q : X → Bool} : ∀ l : List X, (∀ x ∈ l, q x = true → p x = true) → l.findIdx p ≤ l.findIdx q
  | [], _ => by simp
  | x :: l, h => by
    rw [List.findIdx_cons, List.findIdx_cons]
    cases hq : q x with
    | true => simp [h x (by simp) hq]
    | false =>
      cases hp : p x with
      | true => simp
      | false =>
        have := findIdx_mono l fun y hy => h y (by simp [hy])
        simp only [cond_false]; omega

/-- what an extent becomes with others beside it -/
def whole (e : X) : List X → X
  | [] => e
  | f :: m => whole (min e.1 f.1, e.2 + f.2) m
theorem whole_snoc : ∀ (e : X) (m : List X) (f : X), whole e (m ++ [f]) = (min (whole e m).1 f.1, (whole e m).2 + f.2)
  | _, [], _ => rfl
  | _, _ :: m, f => whole_snoc _ m f
def Meets (e f : X) : Prop := f.1 < e.1 + e.2 ∧ e.1 < f.1 + f.2
instance (e f : X) : Decidable (Meets e f) := by unfold Meets; infer_instance
def fromI (fs : List X) (e : X) : Nat := fs.findIdx fun f => decide (e.1 ≤ f.1 + f.2)
def toI (fs : List X) (e : X) : Nat := fs.findIdx fun f => decide (e.1 + e.2 < f.1)
def midI (fs : List X) (e : X) : List X := (fs.drop (fromI fs e)).take (toI fs e - fromI fs e)

section
variable {u : List Bool} {fs : List X} {e : X}
theorem Can.parts (h : Can u fs) (ok : Ok u.length e) : fromI fs e ≤ toI fs e ∧ toI fs e ≤ fs.length ∧ fs = fs.take (fromI fs e) ++ (midI fs e ++ fs.drop (toI fs e)) ∧
    (∀ x ∈ fs.take (fromI fs e), x.1 + x.2 < e.1) ∧ (∀ x ∈ midI fs e, e.1 ≤ x.1 + x.2 ∧ x.1 ≤ e.1 + e.2) ∧ (∀ x ∈ fs.drop (toI fs e), e.1 + e.2 < x.1) := by
  have hr := h.rise
  have hle : fromI fs e ≤ toI fs e := findIdx_mono fs fun x hx hq => by
    have := (hr.at_ x hx).2.1
    have h2 := of_decide_eq_true hq
    have := ok.2.1
    exact decide_eq_true (by omega)
  have hlen : toI fs e ≤ fs.length := List.findIdx_le_length
  have sp : fs = fs.take (fromI fs e) ++ (midI fs e ++ fs.drop (toI fs e)) := by
    conv => lhs; rw [← List.take_append_drop (fromI fs e) fs, ← List.take_append_drop (toI fs e - fromI fs e) (fs.drop (fromI fs e)), List.drop_drop]
    rw [show fromI fs e + (toI fs e - fromI fs e) = toI fs e by omega]
    rfl
  obtain ⟨f1, f2⟩ := findIdx_split (fun f => decide (e.1 ≤ f.1 + f.2)) fs
  obtain ⟨t1, t2⟩ := findIdx_split (fun f => decide (e.1 + e.2 < f.1)) fs
  have key : ∀ (i : Nat) (P : X → Prop), (fs.drop i = [] ∨ ∃ y t, fs.drop i = y :: t ∧ P y) → (∀ x y : X, 1 ≤ y.2 → P x → x.1 + x.2 + 1 ≤ y.1 → 1 ≤ x.2 → P y) → ∀ x ∈ fs.drop i, P x := by
    intro i P hd hup x hx
    rcases hd with hd | ⟨y, t, hd, hy⟩
    · rw [hd] at hx; cases hx
    · rw [hd] at hx
      rcases List.mem_cons.1 hx with rfl | hx
      · exact hy
      · have hr2 : Rise u.length 0 (fs.take i ++ y :: t) := by rw [← hd, List.take_append_drop]; exact hr
        have := hr2.ahead.2 x hx
        have h1 := (hr2.at_ y (by simp)).2.1
        have h2 := (hr2.at_ x (by simp [hx])).2.1
        exact hup y x h2 hy this h1
  have d1 : ∀ x ∈ fs.drop (fromI fs e), e.1 ≤ x.1 + x.2 := key _ (fun x => e.1 ≤ x.1 + x.2) (f2.imp id fun ⟨y, t, a, b⟩ => ⟨y, t, a, of_decide_eq_true b⟩) (fun x y h1 h2 h3 h4 => by omega)
  have d2 : ∀ x ∈ fs.drop (toI fs e), e.1 + e.2 < x.1 := key _ (fun x => e.1 + e.2 < x.1) (t2.imp id fun ⟨y, t, a, b⟩ => ⟨y, t, a, of_decide_eq_true b⟩) (fun x y h1 h2 h3 h4 => by omega)
  refine ⟨hle, hlen, sp, fun x hx => ?_, fun x hx => ⟨d1 x (List.mem_of_mem_take hx), ?_⟩, d2⟩
  · have := of_decide_eq_false (f1 x hx); omega
  · have hx2 : x ∈ fs.take (toI fs e) := by
      have e1 : fs.take (toI fs e) = fs.take (fromI fs e) ++ midI fs e := by
        unfold midI
        rw [show toI fs e = fromI fs e + (toI fs e - fromI fs e) by omega, List.take_add]
        simp
      rw [e1]; exact List.mem_append_right _ hx
    have := of_decide_eq_false (t1 x hx2); omega

theorem Can.meets (h : Can u fs) (ok : Ok u.length e) : (∃ f ∈ midI fs e, Meets e f) ↔ ∃ k : Nat, k < u.length ∧ (e.1 ≤ (k : Int) ∧ (k : Int) < e.1 + e.2) ∧ u.getD k true = false := by
  obtain ⟨_, _, sp, pa, pm, pb⟩ := h.parts ok
  have hr := h.rise
  obtain ⟨o1, o2, o3⟩ := ok
  constructor
  · rintro ⟨f, hf, hm⟩
    have hf2 : f ∈ fs := by rw [sp]; simp [hf]
    obtain ⟨r1, r2, r3⟩ := hr.at_ f hf2
    unfold Meets at hm
    refine ⟨(max e.1 f.1).toNat, by omega, by omega, ?_⟩
    rw [h.mem _ (by omega)]
    exact ⟨f, hf2, by omega, by omega⟩
  · rintro ⟨k, hk, hin, hu⟩
    rw [h.mem k hk, sp, inE_app, inE_app] at hu
    rcases hu with ⟨x, hx, h1, h2⟩ | ⟨x, hx, h1, h2⟩ | ⟨x, hx, h1, h2⟩
    · have := pa x hx; omega
    · exact ⟨x, hx, by unfold Meets; omega⟩
    · have := pb x hx; omega

theorem give_parts {a m b : List X} (ok : Ok u.length e) (hr : Rise u.length 0 (a ++ (m ++ b))) (hmem : ∀ k : Nat, k < u.length → (u.getD k true = false ↔ InE (a ++ (m ++ b)) k)) (pa : ∀ x ∈ a, x.1 + x.2 < e.1) (pm : ∀ x ∈ m, e.1 ≤ x.1 + x.2 ∧ x.1 ≤ e.1 + e.2) (pb : ∀ x ∈ b, e.1 + e.2 < x.1)
    (hno : ∀ f ∈ m, ¬ Meets e f) : Can (mark u e false) (a ++ whole e m :: b) := by
  obtain ⟨o1, o2, o3⟩ := ok
  obtain ⟨r1, r2⟩ := rise_app.1 hr
  obtain ⟨r3, r4⟩ := rise_app.1 r2
  have e1 : aft 0 a ≤ e.1 := by
    have : ∀ {lo : Int} {a : List X}, Rise u.length lo a → lo ≤ e.1 → (∀ x ∈ a, x.1 + x.2 < e.1) → aft lo a ≤ e.1 := by
      intro lo a
      induction a generalizing lo with
      | nil => intro _ h _; exact h
      | cons x t ih =>
        intro hr _ hx
        exact ih hr.2.2.2 (by have := hx x (by simp); omega) (fun y hy => hx y (by simp [hy]))
    exact this r1 o1 pa
  have rb : ∀ lo : Int, lo ≤ e.1 + e.2 + 1 → Rise u.length lo b := by
    intro lo hlo
    cases b with
    | nil => trivial
    | cons y t => exact ⟨by have := pb y (by simp); omega, r4.2⟩
  have go : ∀ W : X, W.1 ≤ e.1 → e.1 + e.2 ≤ W.1 + W.2 → aft 0 a ≤ W.1 → W.1 + W.2 ≤ u.length → Rise u.length (W.1 + W.2 + 1) b → (∀ k : Nat, k < u.length → (W.1 ≤ (k : Int) ∧ (k : Int) < W.1 + W.2 ↔ InE m k ∨ (e.1 ≤ (k : Int) ∧ (k : Int) < e.1 + e.2))) →
      Can (mark u e false) (a ++ W :: b) := by
    intro W w1 w2 w3 w4 w5 w6
    unfold Can
    rw [mark_len]
    refine ⟨rise_app.2 ⟨r1, w3, by omega, w4, w5⟩, fun k hk => ?_⟩
    rw [mark_at _ _ _ _ hk, inE_app, inE_cons, w6 k hk]
    have h0 := hmem k hk
    rw [inE_app, inE_app] at h0
    by_cases hin : e.1 ≤ (k : Int) ∧ (k : Int) < e.1 + e.2
    · rw [if_pos hin]
      simp [hin]
    · rw [if_neg hin, h0]
      simp [hin]
  match m, pm, hno, r3, r4 with
  | [], _, _, _, _ => exact go e (by omega) (by omega) e1 o3 (rb _ (by omega)) (fun k hk => by simp [InE.nil])
  | [f], pm, hno, r3, r4 =>
    have p := pm f (by simp)
    have q := hno f (by simp)
    unfold Meets at q
    have s1 := r3.1; have s2 := r3.2.1; have s3 := r3.2.2.1
    have c : f.1 + f.2 = e.1 ∨ f.1 = e.1 + e.2 := by omega
    refine go (min e.1 f.1, e.2 + f.2) (by simp only; omega) (by simp only; omega) (by simp only; omega) (by simp only; omega) ?_ ?_
    · rcases c with c | c
      · exact rb _ (by simp only; omega)
      · have r5 : Rise u.length (f.1 + f.2 + 1) b := r4
        exact r5.mono (by simp only; omega)
    · intro k hk
      rw [inE_one]
      simp only
      omega
  | [f, g], pm, hno, r3, r4 =>
    have p := pm f (by simp)
    have q := hno f (by simp)
    have p2 := pm g (by simp)
    have q2 := hno g (by simp)
    unfold Meets at q q2
    have s1 := r3.1; have s2 := r3.2.1; have s3 := r3.2.2.1
    have v1 := r3.2.2.2.1; have v2 := r3.2.2.2.2.1; have v3 := r3.2.2.2.2.2.1
    refine go (min (min e.1 f.1) g.1, e.2 + f.2 + g.2) (by simp only; omega) (by simp only; omega) (by simp only; omega) (by simp only; omega) ?_ ?_
    · have r5 : Rise u.length (g.1 + g.2 + 1) b := r4
      exact r5.mono (by simp only; omega)
    · intro k hk
      rw [inE_cons, inE_one]
      simp only
      omega
  | f :: g :: i :: m, pm, hno, r3, _ =>
    have p := pm f (by simp)
    have q := hno f (by simp)
    have p2 := pm g (by simp)
    have q2 := hno g (by simp)
    have p3 := pm i (by simp)
    unfold Meets at q q2
    have s1 := r3.1; have s2 := r3.2.1; have s3 := r3.2.2.1
    have v1 := r3.2.2.2.1; have v2 := r3.2.2.2.2.1; have v3 := r3.2.2.2.2.2.1
    have t1 := r3.2.2.2.2.2.2.1; have t2 := r3.2.2.2.2.2.2.2.1
    omega
theorem Can.give (h : Can u fs) (ok : Ok u.length e) (hno : ∀ f ∈ midI fs e, ¬ Meets e f) : Can (mark u e false) (fs.take (fromI fs e) ++ whole e (midI fs e) :: fs.drop (toI fs e)) := by
  obtain ⟨_, _, sp, pa, pm, pb⟩ := h.parts ok
  have hr := h.rise
  have hm := h.mem
  rw [sp] at hr hm
  exact give_parts ok hr hm pa pm pb hno
end

/-- z is the place behind the last sector that is used -/
structure EndOf (u : List Bool) (z : Nat) : Prop where
  le : z ≤ u.length
  last : z = 0 ∨ u.getD (z - 1) true = true
  free : ∀ k, z ≤ k → k < u.length → u.getD k true = false
theorem EndOf.only {u : List Bool} {y z : Nat} (h : EndOf u y) (k : EndOf u z) : y = z := by
  rcases Nat.lt_trichotomy y z with hlt | he | hgt
  · have := h.free (z - 1) (by omega) (by have := k.le; omega)
    rcases k.last with h0 | h0
    · omega
    · rw [this] at h0; cases h0
  · exact he
  · have := k.free (y - 1) (by omega) (by have := h.le; omega)
    rcases h.last with h0 | h0
    · omega
    · rw [this] at h0; cases h0
theorem sumS_pos : ∀ {hi lo : Int} {l : List X}, Rise hi lo l → 0 ≤ sumS l
  | _, _, [], _ => Int.le_refl _
  | _, _, e :: t, h => by have := sumS_pos h.2.2.2; have := h.2.1; simp only [sumS]; omega
theorem sumS_mem : ∀ {hi lo : Int} {l : List X}, Rise hi lo l → ∀ e ∈ l, e.2 ≤ sumS l
  | _, _, x :: t, h, e, he => by
    have h1 := sumS_pos h.2.2.2; have h2 := h.2.1
    rcases List.mem_cons.1 he with rfl | he
    · simp only [sumS]; omega
    · have := sumS_mem h.2.2.2 e he; simp only [sumS]; omega
theorem sumS_le : ∀ {hi lo : Int} {l : List X}, Rise hi lo l → lo ≤ hi → sumS l ≤ hi - lo
  | _, _, [], _, h => by simp only [sumS]; omega
  | hi, lo, e :: t, h, hl => by
    have h1 := h.1; have h2 := h.2.1; have h3 := h.2.2.1
    by_cases ht : e.1 + e.2 + 1 ≤ hi
    · have := sumS_le h.2.2.2 ht; simp only [sumS]; omega
    · cases t with
      | nil => simp only [sumS]; omega
      | cons y t => have h4 := h.2.2.2.1; have h5 := h.2.2.2.2.1; have h6 := h.2.2.2.2.2.1; omega
section
variable {u : List Bool} {fs : List X}
theorem Can.end_some (h : Can u fs) {f : X} (hf : f ∈ fs) (he : f.1 + f.2 = u.length) : EndOf u f.1.toNat ∧ 0 ≤ f.1 ∧ u.length - f.1 ≤ sumS fs := by
  have hr := h.rise
  obtain ⟨a, b, rfl⟩ := List.append_of_mem hf
  obtain ⟨r1, r2, r3⟩ := hr.at_ f hf
  obtain ⟨ha, hb⟩ := hr.ahead
  refine ⟨⟨by omega, ?_, fun k h1 h2 => ?_⟩, r1, by have := sumS_mem hr f hf; omega⟩
  · by_cases h0 : f.1 = 0
    · left; omega
    · right
      cases hu : u.getD (f.1.toNat - 1) true with
      | true => rfl
      | false =>
        rw [h.mem _ (by omega), inE_app, inE_cons] at hu
        rcases hu with ⟨x, hx, x1, x2⟩ | hx | ⟨x, hx, x1, x2⟩
        · have := ha x hx; omega
        · omega
        · have := hb x hx; omega
  · rw [h.mem k h2]
    exact ⟨f, hf, by omega, by omega⟩
theorem Can.end_none (h : Can u fs) (h0 : 0 < u.length) (hn : ∀ f ∈ fs, f.1 + f.2 ≠ u.length) : EndOf u u.length := by
  refine ⟨Nat.le_refl _, .inr ?_, fun k h1 h2 => by omega⟩
  cases hu : u.getD (u.length - 1) true with
  | true => rfl
  | false =>
    rw [h.mem _ (by omega)] at hu
    obtain ⟨f, hf, f1, f2⟩ := hu
    have := (h.rise.at_ f hf).2.2
    have := hn f hf
    omega
end
end Go.Proofs.Ytcgajomngcgchaa
