/-
  Limiting lengths to 16: mathematics, no code.
-/
import Derived.Test.YtmaffonnekgekaaHuffBest
namespace Go.Proofs.Ytmaffonnekgekaa

/-- one number is another one -/
def upd (n : Nat → Nat) (i x : Nat) (s : Nat) : Nat := if s = i then x else n s
theorem upd_same (n : Nat → Nat) (i x : Nat) : upd n i x i = x := by simp [upd]
theorem upd_other (n : Nat → Nat) {i s : Nat} (x : Nat) (h : s ≠ i) : upd n i x s = n s := by simp [upd, h]
/-- a sum of numbers, each with its weight -/
def sumW (w : Nat → Nat) (n : Nat → Nat) : Nat → Nat
  | 0 => 0
  | k + 1 => sumW w n k + n k * w k
theorem sumW_out (w n : Nat → Nat) (i x : Nat) : ∀ k, k ≤ i → sumW w (upd n i x) k = sumW w n k
  | 0, _ => rfl
  | k + 1, h => by rw [sumW, sumW, sumW_out w n i x k (by omega), upd_other n x (by omega)]
theorem sumW_upd (w n : Nat → Nat) (i x : Nat) : ∀ k, i < k → sumW w (upd n i x) k + n i * w i = sumW w n k + x * w i
  | 0, h => absurd h (by omega)
  | k + 1, h => by
    rw [sumW, sumW]
    by_cases e : i = k
    · subst e
      rw [sumW_out w n i x i (Nat.le_refl _), upd_same]
      omega
    · have := sumW_upd w n i x k (by omega)
      rw [upd_other n x (by omega)]
      omega
theorem sumW_zero (w n : Nat → Nat) : ∀ k, (∀ s, s < k → n s = 0) → sumW w n k = 0
  | 0, _ => rfl
  | k + 1, h => by rw [sumW, sumW_zero w n k (fun s hs => h s (by omega)), h k (by omega), Nat.zero_mul]
theorem sumW_more (w n : Nat → Nat) (k : Nat) : ∀ m, (∀ s, k ≤ s → s < k + m → n s = 0) → sumW w n (k + m) = sumW w n k
  | 0, _ => rfl
  | m + 1, h => by
    rw [← Nat.add_assoc, sumW, sumW_more w n k m (fun s h1 h2 => h s h1 (by omega)), h (k + m) (by omega) (by omega), Nat.zero_mul, Nat.add_zero]

/-- the greatest length at most k that there is -/
def jof (n : Nat → Nat) : Nat → Nat
  | 0 => 0
  | k + 1 => if n (k + 1) = 0 then jof n k else k + 1
theorem jof_le (n : Nat → Nat) : ∀ k, jof n k ≤ k
  | 0 => Nat.le_refl _
  | k + 1 => by
    rw [jof]
    split
    · exact Nat.le_succ_of_le (jof_le n k)
    · exact Nat.le_refl _
theorem jof_none (n : Nat → Nat) : ∀ k, n (jof n k) = 0 → ∀ s, s ≤ k → n s = 0
  | 0, h, s, hs => by
    obtain rfl : s = 0 := by omega
    exact h
  | k + 1, h, s, hs => by
    rw [jof] at h
    split at h
    · next h1 =>
      by_cases e : s = k + 1
      · rw [e]; exact h1
      · exact jof_none n k h s (by omega)
    · next h1 => exact absurd h h1
theorem jof_above (n : Nat → Nat) : ∀ k s, jof n k < s → s ≤ k → n s = 0
  | 0, s, h, hs => absurd h (by omega)
  | k + 1, s, h, hs => by
    rw [jof] at h
    split at h
    · next h1 =>
      by_cases e : s = k + 1
      · rw [e]; exact h1
      · exact jof_above n k s h (by omega)
    · omega

/-- two lengths of i are cut down -/
def lstep (n : Nat → Nat) (i j : Nat) : Nat → Nat :=
  let n1 := upd n i (n i - 2)
  let n2 := upd n1 (i - 1) (n1 (i - 1) + 1)
  let n3 := upd n2 (j + 1) (n2 (j + 1) + 2)
  upd n3 j (n3 j - 1)
/-- limiting: from length i down -/
inductive Lim : (Nat → Nat) → Nat → (Nat → Nat) → Prop
  | stop (n : Nat → Nat) : Lim n 16 n
  | down {n m : Nat → Nat} {i : Nat} (hi : 16 ≤ i) (h : n (i + 1) = 0) (r : Lim n i m) : Lim n (i + 1) m
  | step {n m : Nat → Nat} {i : Nat} (hi : 17 ≤ i) (h : n i ≠ 0) (r : Lim (lstep n i (jof n (i - 2))) i m) : Lim n i m
theorem Lim.only {n m : Nat → Nat} {i : Nat} (h : Lim n i m) : ∀ {m' : Nat → Nat}, Lim n i m' → m = m' := by
  induction h with
  | stop n =>
    intro m' h'
    generalize hi : 16 = i at h'
    cases h' with
    | stop => rfl
    | down h1 => omega
    | step h1 => omega
  | @down n m i hi h r ih =>
    intro m' h'
    generalize hk : i + 1 = k at h'
    cases h' with
    | stop => omega
    | @down _ _ i' _ _ r' =>
      obtain rfl : i = i' := by omega
      exact ih r'
    | step _ h2 => subst hk; exact absurd h h2
  | @step n m i hi h r ih =>
    intro m' h'
    cases h' with
    | stop => omega
    | down _ h2 => exact absurd h2 h
    | step _ _ r' => exact ih r'

/-- the share of a length, in parts of 2 ^ 300 -/
def wS (s : Nat) : Nat := 2 ^ (300 - s)
theorem wS_half {s : Nat} (h : s < 300) : wS s = 2 * wS (s + 1) := by
  unfold wS
  rw [show 300 - s = (300 - (s + 1)) + 1 by omega, Nat.pow_succ]
  omega
/-- counts of lengths up to i that fill the room -/
structure Full (n : Nat → Nat) (i N : Nat) : Prop where
  zero : n 0 = 0
  above : ∀ s, i < s → n s = 0
  room : sumW wS n 300 = 2 ^ 300
  all : sumW (fun _ => 1) n 300 = N
  few : N ≤ 257

theorem wS_mul {s i : Nat} (h : s < i) (hi : i ≤ 300) : ∃ k, wS s = k * (2 * wS i) := by
  refine ⟨2 ^ (i - s - 1), ?_⟩
  unfold wS
  rw [Nat.mul_left_comm, ← Nat.pow_add, ← Nat.pow_succ']
  congr 1
  omega
theorem sumW_even (n : Nat → Nat) {i : Nat} (hi : i ≤ 300) : ∀ k, k ≤ i → ∃ q, sumW wS n k = q * (2 * wS i)
  | 0, _ => ⟨0, by rw [Nat.zero_mul]; rfl⟩
  | k + 1, h => by
    obtain ⟨q, hq⟩ := sumW_even n hi k (by omega)
    obtain ⟨r, hr⟩ := wS_mul (show k < i by omega) hi
    refine ⟨q + n k * r, ?_⟩
    rw [sumW, hq, hr, Nat.add_mul, Nat.mul_assoc]
theorem wS_pos (s : Nat) : 0 < wS s := Nat.pow_pos (by omega)

/-- as many as are of the greatest length are even -/
theorem Full.even {n : Nat → Nat} {i N : Nat} (h : Full n i N) (h1 : 1 ≤ i) (h2 : i < 300) : n i % 2 = 0 := by
  obtain ⟨q, hq⟩ := sumW_even n (show i ≤ 300 by omega) i (Nat.le_refl _)
  have hs : sumW wS n 300 = sumW wS n (i + 1) := by
    have := sumW_more wS n (i + 1) (300 - (i + 1)) (fun s h3 _ => h.above s (by omega))
    rw [show i + 1 + (300 - (i + 1)) = 300 by omega] at this
    exact this
  have hr := h.room
  rw [hs, sumW, hq] at hr
  have e : (2 : Nat) ^ 300 = 2 ^ (i - 1) * (2 * wS i) := by
    unfold wS
    rw [← Nat.pow_succ', ← Nat.pow_add]
    congr 1
    omega
  rw [e] at hr
  have hp := wS_pos i
  have e2 : (2 * q + n i) * wS i = (2 * 2 ^ (i - 1)) * wS i := by
    rw [Nat.add_mul, Nat.mul_comm 2 q, Nat.mul_assoc, hr, ← Nat.mul_assoc, Nat.mul_comm (2 ^ (i - 1)) 2]
  have e3 := Nat.eq_of_mul_eq_mul_right hp e2
  omega
/-- there is a shorter one -/
theorem Full.shorter {n : Nat → Nat} {i N : Nat} (h : Full n i N) (h1 : 17 ≤ i) (h2 : i < 300) : n (jof n (i - 2)) ≠ 0 := by
  intro h0
  have hz := jof_none n (i - 2) h0
  have hs : ∀ w, sumW w n 300 = n (i - 1) * w (i - 1) + n i * w i := by
    intro w
    have := sumW_more w n (i + 1) (300 - (i + 1)) (fun s h3 _ => h.above s (by omega))
    rw [show i + 1 + (300 - (i + 1)) = 300 by omega] at this
    rw [this, sumW, show i = i - 1 + 1 by omega, sumW, sumW_zero w n (i - 1) (fun s hs => hz s (by omega)), Nat.zero_add]
    rfl
  have h3 := hs wS
  have h4 := hs (fun _ => 1)
  rw [h.room] at h3
  rw [h.all] at h4
  have hf := h.few
  have hw : wS i ≤ wS (i - 1) := by unfold wS; exact Nat.pow_le_pow_right (by omega) (by omega)
  obtain ⟨e, he⟩ : ∃ e : Nat, e = 284 := ⟨_, rfl⟩
  obtain ⟨P, hP⟩ : ∃ P : Nat, P = 2 ^ e := ⟨_, rfl⟩
  have hw2 : wS (i - 1) ≤ P := by
    rw [hP]
    unfold wS
    exact Nat.pow_le_pow_right (by omega) (by omega)
  have h8 : (2 : Nat) ^ (16 + e) = 2 ^ 16 * P := by rw [hP, Nat.pow_add]
  rw [show (300 : Nat) = 16 + e by omega, h8] at h3
  have hP0 : 0 < P := by rw [hP]; exact Nat.pow_pos (by omega)
  clear hP
  have h5 : n (i - 1) * wS (i - 1) + n i * wS i ≤ (n (i - 1) + n i) * P := by
    rw [Nat.add_mul]
    exact Nat.add_le_add (Nat.mul_le_mul_left _ hw2) (Nat.mul_le_mul_left _ (Nat.le_trans hw hw2))
  have h6 : (n (i - 1) + n i) * P ≤ 257 * P := Nat.mul_le_mul_right _ (by omega)
  omega

theorem Full.step {n : Nat → Nat} {i N : Nat} (h : Full n i N) (h1 : 17 ≤ i) (h2 : i < 300) (hn : n i ≠ 0) : Full (lstep n i (jof n (i - 2))) i N ∧ (lstep n i (jof n (i - 2))) i + 2 = n i ∧ (lstep n i (jof n (i - 2))) (i - 1) ≠ 0 := by
  have he := h.even (by omega) h2
  have hj := h.shorter h1 h2
  obtain ⟨j, hjj⟩ : ∃ j, j = jof n (i - 2) := ⟨_, rfl⟩
  have hjl := jof_le n (i - 2)
  rw [← hjj] at hj hjl ⊢
  have hj1 : 1 ≤ j := by
    rcases Nat.eq_zero_or_pos j with e | e
    · rw [e, h.zero] at hj; exact absurd rfl hj
    · exact e
  obtain ⟨n1, e1⟩ : ∃ n1, n1 = upd n i (n i - 2) := ⟨_, rfl⟩
  obtain ⟨n2, e2⟩ : ∃ n2, n2 = upd n1 (i - 1) (n1 (i - 1) + 1) := ⟨_, rfl⟩
  obtain ⟨n3, e3⟩ : ∃ n3, n3 = upd n2 (j + 1) (n2 (j + 1) + 2) := ⟨_, rfl⟩
  have e4 : lstep n i j = upd n3 j (n3 j - 1) := by rw [e3, e2, e1]; rfl
  rw [e4]
  have a3 : n3 j = n j := by rw [e3, upd_other _ _ (by omega), e2, upd_other _ _ (by omega), e1, upd_other _ _ (by omega)]
  have sums : ∀ w : Nat → Nat, sumW w (upd n3 j (n3 j - 1)) 300 + w j + 2 * w i = sumW w n 300 + w (i - 1) + 2 * w (j + 1) := by
    intro w
    have s1 := sumW_upd w n i (n i - 2) 300 h2
    have s2 := sumW_upd w n1 (i - 1) (n1 (i - 1) + 1) 300 (by omega)
    have s3 := sumW_upd w n2 (j + 1) (n2 (j + 1) + 2) 300 (by omega)
    have s4 := sumW_upd w n3 j (n3 j - 1) 300 (by omega)
    rw [← e1] at s1
    rw [← e2] at s2
    rw [← e3] at s3
    obtain ⟨x, hx⟩ : ∃ x, n i = x + 2 := ⟨n i - 2, by omega⟩
    obtain ⟨y, hy⟩ : ∃ y, n3 j = y + 1 := ⟨n3 j - 1, by omega⟩
    rw [hx, Nat.add_sub_cancel, Nat.add_mul] at s1
    rw [Nat.add_mul] at s2 s3
    rw [hy, Nat.add_sub_cancel, Nat.add_mul] at s4
    rw [hy, Nat.add_sub_cancel]
    omega
  refine ⟨⟨?_, fun s hs => ?_, ?_, ?_, h.few⟩, ?_, ?_⟩
  · rw [upd_other _ _ (by omega), e3, upd_other _ _ (by omega), e2, upd_other _ _ (by omega), e1, upd_other _ _ (by omega)]
    exact h.zero
  · rw [upd_other _ _ (by omega), e3, upd_other _ _ (by omega), e2, upd_other _ _ (by omega), e1, upd_other _ _ (by omega)]
    exact h.above s hs
  · have := sums wS
    have w1 := wS_half (s := i - 1) (by omega)
    rw [show i - 1 + 1 = i by omega] at w1
    have w2 := wS_half (s := j) (by omega)
    rw [h.room] at this
    omega
  · have := sums (fun _ => 1)
    rw [h.all] at this
    omega
  · rw [upd_other _ _ (by omega), e3, upd_other _ _ (by omega), e2, upd_other _ _ (by omega), e1, upd_same]
    omega
  · rw [upd_other _ _ (by omega), e3]
    by_cases e : i - 1 = j + 1
    · rw [e, upd_same]
      omega
    · rw [upd_other _ _ e, e2, upd_same]
      omega
theorem Full.down {n : Nat → Nat} {i N : Nat} (h : Full n (i + 1) N) (h0 : n (i + 1) = 0) : Full n i N :=
  ⟨h.zero, fun s hs => by
    by_cases e : s = i + 1
    · rw [e]; exact h0
    · exact h.above s (by omega), h.room, h.all, h.few⟩

theorem Lim.full {n m : Nat → Nat} {i N : Nat} (r : Lim n i m) : i < 300 → Full n i N → Full m 16 N := by
  induction r with
  | stop n => intro _ h; exact h
  | down hi h0 r ih => intro h2 h; exact ih (by omega) (h.down h0)
  | step hi h0 r ih => intro h2 h; exact ih h2 (h.step hi h2 h0).1
/-- where a length is 16 or more, there is one of 16 at the end -/
theorem Lim.sixteen {n m : Nat → Nat} {i N : Nat} (r : Lim n i m) : i < 300 → Full n i N → (∃ s, 16 ≤ s ∧ s ≤ i ∧ n s ≠ 0) → m 16 ≠ 0 := by
  induction r with
  | stop n =>
    intro _ _ ⟨s, h1, h2, h3⟩
    obtain rfl : s = 16 := by omega
    exact h3
  | @down n m i hi h0 r ih =>
    intro h2 h ⟨s, g1, g2, g3⟩
    have : s ≠ i + 1 := fun e => g3 (e ▸ h0)
    exact ih (by omega) (h.down h0) ⟨s, g1, by omega, g3⟩
  | @step n m i hi h0 r ih =>
    intro h2 h _
    obtain ⟨f1, _, f3⟩ := h.step hi h2 h0
    exact ih h2 f1 ⟨i - 1, by omega, by omega, f3⟩
/-- where no length is above 16, nothing is limited -/
theorem Lim.none_ {n m : Nat → Nat} {i : Nat} (r : Lim n i m) : (∀ s, 16 < s → n s = 0) → m = n := by
  induction r with
  | stop n => intro _; rfl
  | down hi h0 r ih => intro h; exact ih h
  | step hi h0 r ih => intro h; exact absurd (h _ (by omega)) h0
end Go.Proofs.Ytmaffonnekgekaa
