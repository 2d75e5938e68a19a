/-
  The specification by counts may be; where nothing is limited, its codes are as long as the lengths: mathematics, no code.
-/
import Derived.Test.YtmaffonnekgekaaHuffSpec
namespace Go.Proofs.Ytmaffonnekgekaa

/-- the share of a length, in parts of 2 ^ 16 -/
def w16 (s : Nat) : Nat := 2 ^ (16 - s)
theorem sumW_scale {w w' : Nat → Nat} {P : Nat} (n : Nat → Nat) : ∀ k, (∀ s, s < k → w s = w' s * P) → sumW w n k = sumW w' n k * P
  | 0, _ => by simp [sumW]
  | k + 1, h => by rw [sumW, sumW, sumW_scale n k (fun s hs => h s (by omega)), h k (by omega), Nat.add_mul, Nat.mul_assoc]
theorem Full.sum17 {m : Nat → Nat} {N : Nat} (h : Full m 16 N) (w : Nat → Nat) : sumW w m 300 = sumW w m 17 := sumW_more w m 17 283 (fun s h1 _ => h.above s (by omega))
theorem Full.room16 {m : Nat → Nat} {N : Nat} (h : Full m 16 N) : sumW w16 m 17 = 65536 := by
  obtain ⟨e, he⟩ : ∃ e : Nat, e = 284 := ⟨_, rfl⟩
  obtain ⟨P, hP⟩ : ∃ P : Nat, P = 2 ^ e := ⟨_, rfl⟩
  have h1 := h.room
  rw [h.sum17, show (300 : Nat) = 16 + e by omega, Nat.pow_add, ← hP, sumW_scale (w' := w16) (P := P) m 17 (fun s hs => by
    unfold wS w16
    rw [hP, ← Nat.pow_add, show 16 - s + e = 300 - s by omega])] at h1
  have hp : 0 < P := by rw [hP]; exact Nat.pow_pos (by omega)
  exact Nat.eq_of_mul_eq_mul_right hp h1
theorem Full.last {m : Nat → Nat} {N : Nat} (h : Full m 16 N) : m (jof m 16) ≠ 0 := by
  intro h0
  have := sumW_zero w16 m 17 (fun s hs => jof_none m 16 h0 s (by omega))
  rw [h.room16] at this
  omega
/-- one of the greatest length is left out -/
def lessOne (m : Nat → Nat) : Nat → Nat := upd m (jof m 16) (m (jof m 16) - 1)
theorem Full.less {m : Nat → Nat} {N : Nat} (h : Full m 16 N) : (∀ w, sumW w (lessOne m) 17 + w (jof m 16) = sumW w m 17) ∧ lessOne m 0 = 0 ∧ 1 ≤ jof m 16 := by
  have hl := h.last
  have hj := jof_le m 16
  have h1 : 1 ≤ jof m 16 := by
    rcases Nat.eq_zero_or_pos (jof m 16) with e | e
    · rw [e, h.zero] at hl; exact absurd rfl hl
    · exact e
  refine ⟨fun w => ?_, ?_, h1⟩
  · have := sumW_upd w m (jof m 16) (m (jof m 16) - 1) 17 (by omega)
    unfold lessOne
    obtain ⟨x, hx⟩ : ∃ x, m (jof m 16) = x + 1 := ⟨m (jof m 16) - 1, by omega⟩
    rw [hx, Nat.add_sub_cancel, Nat.add_mul] at this
    rw [hx, Nat.add_sub_cancel]
    omega
  · unfold lessOne
    rw [upd_other _ _ (by omega), h.zero]

theorem nx_room {c n : Nat → Nat} (h0 : n 0 = 0) : ∀ i, i ≤ 16 → (∀ k, k < i → c k = n (k + 1)) → nx c i * 2 ^ (16 - i) = sumW w16 n (i + 1)
  | 0, _, _ => by simp [nx, sumW, h0]
  | i + 1, h, hc => by
    have ih := nx_room (c := c) h0 i (by omega) (fun k hk => hc k (by omega))
    rw [sumW, ← ih, nx, ← hc i (by omega), Nat.add_mul]
    unfold w16
    rw [show 16 - i = 16 - (i + 1) + 1 by omega, Nat.pow_succ, Nat.mul_comm 2 (nx c i), Nat.mul_assoc, Nat.mul_comm 2]
theorem sm_all {c n : Nat → Nat} (h0 : n 0 = 0) : ∀ i, (∀ k, k < i → c k = n (k + 1)) → sm c i = sumW (fun _ => 1) n (i + 1)
  | 0, _ => by simp [sm, sumW, h0]
  | i + 1, hc => by rw [sumW, sm, sm_all h0 i (fun k hk => hc k (by omega)), hc i (by omega), Nat.mul_one]
theorem sumW_mono (w n : Nat → Nat) {i j : Nat} (h : i ≤ j) : sumW w n i ≤ sumW w n j := by
  induction j with
  | zero => obtain rfl : i = 0 := by omega
            exact Nat.le_refl _
  | succ j ih =>
    rcases Nat.lt_or_ge i (j + 1) with h1 | h1
    · have := ih (by omega)
      rw [sumW]
      omega
    · obtain rfl : i = j + 1 := by omega
      exact Nat.le_refl _

/-- the counts of a specification are those of the lengths, limited, but for one -/
def BitsOf (B : List Int) (m : Nat → Nat) : Prop := ∀ i, i < 16 → B.getD i 0 = (lessOne m (i + 1) : Int)
theorem BitsOf.cnt {B : List Int} {m : Nat → Nat} (h : BitsOf B m) {i : Nat} (hi : i < 16) : cnt B i = lessOne m (i + 1) := by
  unfold Go.Proofs.Ytmaffonnekgekaa.cnt
  rw [h i hi]
  simp

section
variable {cn : Nat → Nat} {us : List Nat} {fin m : Nat → Nat} {B : List Int}
theorem LengthsOf.valid (h : LengthsOf cn us fin) (hc : Counted cn us) (hne : us ≠ []) (hm : Lim (cntOf fin (us ++ [256])) 299 m) (hB : BitsOf B m) : Valid B ((valsTo fin 299).map Int.ofNat) := by
  have hf := hm.full (by omega) (h.full hc hne)
  obtain ⟨h1, h2, h3⟩ := hf.less
  have hp := h.vals hc hne (show 256 ≤ 299 by omega)
  have hlen : ((valsTo fin 299).map Int.ofNat).length = us.length := by rw [List.length_map, hp.length_eq]
  have hus : 0 < us.length := List.length_pos_iff.2 hne
  have hu := few_us hc.nodup hc.few
  have hsum := hf.all
  rw [hf.sum17] at hsum
  have hone := h1 (fun _ => 1)
  have hroom := h1 w16
  rw [hf.room16] at hroom
  have hw : 0 < w16 (jof m 16) := Nat.pow_pos (by omega)
  refine ⟨fun i hi => ?_, ?_, by omega, by omega, fun v hv => ?_, ?_, fun i hi => ?_⟩
  · rw [hB i hi]
    exact Int.natCast_nonneg _
  · rw [sm_all (n := lessOne m) h2 16 (fun k hk => hB.cnt hk), hlen]
    show sumW (fun _ => 1) (lessOne m) 17 = us.length
    omega
  · obtain ⟨x, hx, rfl⟩ := List.mem_map.1 hv
    have := (mem_valsTo.1 hx).1
    refine ⟨Int.natCast_nonneg x, ?_⟩
    show (x : Int) ≤ 255
    omega
  · rw [List.Nodup, List.pairwise_map]
    exact (valsTo_nodup fin 299).imp (fun h e => h (Int.ofNat.inj e))
  · have e := nx_room (c := Go.Proofs.Ytmaffonnekgekaa.cnt B) (n := lessOne m) h2 (i + 1) (by omega) (fun k hk => hB.cnt (by omega))
    have hle := sumW_mono w16 (lessOne m) (show i + 1 + 1 ≤ 17 by omega)
    have hlt : nx (Go.Proofs.Ytmaffonnekgekaa.cnt B) (i + 1) * 2 ^ (16 - (i + 1)) < 2 ^ (i + 1) * 2 ^ (16 - (i + 1)) := by
      rw [e, ← Nat.pow_add, show i + 1 + (16 - (i + 1)) = 16 by omega]
      omega
    exact Nat.lt_of_mul_lt_mul_right hlt

/-- where no length is above 16, as many codes have a length as values do -/
theorem LengthsOf.plain (h : LengthsOf cn us fin) (hc : Counted cn us) (hne : us ≠ []) (hm : Lim (cntOf fin (us ++ [256])) 299 m) (h16 : ∀ v ∈ us ++ [256], fin v ≤ 16) {s : Nat} (hs : 1 ≤ s) (hs2 : s ≤ 16) : lessOne m s = (seg fin s).length := by
  have e : m = cntOf fin (us ++ [256]) := hm.none_ (fun s hs => by
    unfold cntOf
    rw [List.countP_eq_zero]
    intro v hv
    have := h16 v hv
    simp
    omega)
  have h256 := h16 256 (by simp)
  have hm256 : m (fin 256) ≠ 0 := by
    rw [e]
    unfold cntOf
    intro h0
    rw [List.countP_eq_zero] at h0
    exact h0 256 (by simp) (by simp)
  have hj : jof m 16 = fin 256 := by
    rcases Nat.lt_trichotomy (jof m 16) (fin 256) with g | g | g
    · exact absurd (jof_above m 16 _ g h256) hm256
    · exact g
    · exfalso
      have hf := hm.full (by omega) (h.full hc hne)
      apply hf.last
      obtain ⟨J, hJ⟩ : ∃ J, J = jof m 16 := ⟨_, rfl⟩
      rw [← hJ] at g ⊢
      rw [e]
      unfold cntOf
      rw [List.countP_eq_zero]
      intro v hv
      have : fin v ≤ fin 256 := by
        rcases List.mem_append.1 hv with h1 | h1
        · exact h.last hc h1
        · simp at h1
          rw [h1]
          exact Nat.le_refl _
      simp
      omega
  have hseg := h.seg_len hc hne hs
  unfold lessOne
  rw [hj]
  by_cases g : s = fin 256
  · subst g
    rw [upd_same, e, hseg, if_pos rfl]
    omega
  · rw [upd_other _ _ g, e, hseg, if_neg (fun g' => g g'.symm)]
    omega
end

theorem zip_sized {fin c : Nat → Nat} : ∀ i, (∀ k, k < i → c k = (seg fin (k + 1)).length) → (valsTo fin i).length = (pre c i).length ∧ ∀ p ∈ (valsTo fin i).zip (pre c i), p.2.2 = fin p.1
  | 0, _ => ⟨rfl, fun p hp => by simp [valsTo] at hp⟩
  | i + 1, h => by
    obtain ⟨h1, h2⟩ := zip_sized (c := c) i (fun k hk => h k (by omega))
    have hr : (seg fin (i + 1)).length = (row c i (c i)).length := by rw [row_len, h i (by omega)]
    rw [valsTo, pre]
    refine ⟨by rw [List.length_append, List.length_append, h1, hr], fun p hp => ?_⟩
    rw [List.zip_append h1] at hp
    rcases List.mem_append.1 hp with hp | hp
    · exact h2 p hp
    · have g := List.of_mem_zip (a := p.1) (b := p.2) hp
      obtain ⟨k, _, g2⟩ := mem_row g.2
      rw [(mem_seg.1 g.1).2, g2]
theorem valsTo_rest {fin : Nat → Nat} (h : ∀ s, 16 < s → seg fin s = []) : ∀ k, valsTo fin (16 + k) = valsTo fin 16
  | 0 => rfl
  | k + 1 => by rw [← Nat.add_assoc, valsTo, valsTo_rest h k, h _ (by omega), List.append_nil]

section
variable {cn : Nat → Nat} {us : List Nat} {fin m : Nat → Nat} {B : List Int}
/-- where no length is above 16, each code is as long as its value's length -/
theorem LengthsOf.sized (h : LengthsOf cn us fin) (hc : Counted cn us) (hne : us ≠ []) (hm : Lim (cntOf fin (us ++ [256])) 299 m) (hB : BitsOf B m) (h16 : ∀ v ∈ us ++ [256], fin v ≤ 16) {v : Nat} (hv : v ∈ us) :
    (codeOf (codes B ((valsTo fin 299).map Int.ofNat)) (v : Int)).2 = fin v := by
  obtain ⟨hz1, hz2⟩ := zip_sized (fin := fin) (c := Go.Proofs.Ytmaffonnekgekaa.cnt B) 16 (fun k hk => by rw [hB.cnt hk, h.plain hc hne hm h16 (by omega) (by omega)])
  have he : valsTo fin 299 = valsTo fin 16 := valsTo_rest (fin := fin) (fun s hs => by
    rw [List.eq_nil_iff_forall_not_mem]
    intro x hx
    obtain ⟨g1, g2⟩ := mem_seg.1 hx
    have hx2 := (h.mem hc hne g1).2 (by omega)
    have := h16 x (List.mem_append_left _ hx2)
    omega) 283
  rw [he]
  have hvv : v ∈ valsTo fin 16 := by rw [← he]; exact (h.vals hc hne (by omega)).mem_iff.2 hv
  obtain ⟨i, hi, hi2⟩ := List.getElem_of_mem hvv
  obtain ⟨x, hx⟩ : ∃ x, (pre (Go.Proofs.Ytmaffonnekgekaa.cnt B) 16)[i]? = some x := ⟨_, List.getElem?_eq_getElem (by omega)⟩
  have hmem : ((v : Int), x) ∈ codes B ((valsTo fin 16).map Int.ofNat) := by
    refine List.mem_of_getElem? (i := i) (ents_at.2 ⟨?_, hx⟩)
    rw [List.getElem?_map, List.getElem?_eq_getElem hi, hi2]
    rfl
  unfold codeOf
  cases ho : fnd (codes B ((valsTo fin 16).map Int.ofNat)) (v : Int) with
  | none =>
    exfalso
    unfold fnd at ho
    have := (List.find?_eq_none.1 ho) _ hmem
    simp at this
  | some e =>
    obtain ⟨g1, g2⟩ := fnd_some ho
    unfold codes ents at g1
    rw [List.zip_map_left] at g1
    obtain ⟨p, hp, rfl⟩ := List.mem_map.1 g1
    have := hz2 p hp
    have e1 : p.1 = v := Int.ofNat.inj g2
    show p.2.2 = fin v
    rw [this, e1]
end
end Go.Proofs.Ytmaffonnekgekaa
