/-
  What was put is what is got, a block: mathematics, no code.
-/
import Derived.Test.YthfpdebpepbejaaDoorGetBlk
import Derived.Test.YthfpdebpepbejaaDoorPutBlk
namespace Go.Proofs.YthfpdebpepbejaaDoor
open Go.RowKit

/-- at place p of the bits of F lie the bits X -/
def Lies (F : List Int) (p : Nat) (X : List Int) : Prop := p + X.length ≤ 8 * F.length ∧ ∃ S, (by8 F).drop p = X ++ S
theorem Lies.split {F : List Int} {p : Nat} {X Y : List Int} (h : Lies F p (X ++ Y)) : Lies F p X ∧ Lies F (p + X.length) Y := by
  obtain ⟨h1, S, h2⟩ := h
  rw [List.length_append] at h1
  refine ⟨⟨by omega, Y ++ S, by rw [h2, List.append_assoc]⟩, ⟨by omega, S, ?_⟩⟩
  rw [← List.drop_drop, h2, List.append_assoc, List.drop_left]
theorem Lies.at_ {F : List Int} {p : Nat} {X : List Int} (h : Lies F p X) {i : Nat} (hi : i < X.length) : (by8 F).getD (p + i) 0 = X.getD i 0 := by
  obtain ⟨_, S, h2⟩ := h
  have h3 := congrArg (fun l : List Int => l[i]?) h2
  rw [List.getElem?_drop, List.getElem?_append_left hi] at h3
  rw [List.getD_eq_getElem?_getD, List.getD_eq_getElem?_getD, h3]

theorem ext_num (z : Int) : ext (numB z) (sz z) = z := by
  have h1 := (sz_le (z := z)).1 (Nat.le_refl _)
  by_cases h0 : z = 0
  · subst h0
    have hn0 : numB 0 = 0 := by unfold numB; rw [if_neg (by omega)]; rfl
    rw [sz_zero, hn0]
    rfl
  · obtain ⟨k, hk⟩ : ∃ k, sz z = k + 1 := ⟨sz z - 1, by have : sz z ≠ 0 := fun h => h0 (sz_eq_zero.1 h); omega⟩
    have h2 : ¬ z.natAbs < 2 ^ k := fun h => by
      have := sz_le.2 h
      omega
    rw [hk] at h1 ⊢
    rw [Nat.pow_succ] at h1
    unfold ext numB
    rw [hk, Nat.pow_succ]
    by_cases hn : z < 0
    · rw [if_pos hn, if_pos (by omega)]
      omega
    · rw [if_neg hn, if_neg (by omega)]
      omega

section
variable {B V F : List Int}
theorem got_code (hv : Valid B V) (hf : Fit F) {p : Nat} {v : Int} (hen : (fnd (codes B V) v).isSome = true) (h : Lies F p (dig (codeOf (codes B V) v).1 (codeOf (codes B V) v).2)) :
    getsF (codes B V) (stuff F) 16 (stAt F p) 0 0 = (stAt F (p + (codeOf (codes B V) v).2), v, 0) := by
  obtain ⟨en, hen⟩ := Option.isSome_iff_exists.1 hen
  have hc : codeOf (codes B V) v = en.2 := by unfold codeOf; rw [hen]; rfl
  obtain ⟨hm, hn⟩ := fnd_some hen
  obtain ⟨hz1, hz16, hlt, _⟩ := hv.code hm
  rw [hc] at h ⊢
  have hb : ∀ i, i < en.2.2 → (by8 F).getD (p + i) 0 = ((en.2.1 / 2 ^ (en.2.2 - 1 - i) % 2 : Nat) : Int) := fun i hi => by
    rw [h.at_ (by rw [dig_len]; exact hi), dig_at _ _ _ hi]
  have hl := h.1
  rw [dig_len] at hl
  have hgo := gets_go (L := codes B V) (F := F) (T := []) (p := p) (b := en.2.1) (z := en.2.2) (en := en) hf hb hl (fun t ht => get_before hm ht) (get_self hm) (en.2.2 - 1) 0 16 (by omega) (by omega)
  rw [List.append_nil, Nat.add_zero, Nat.sub_zero, Nat.div_eq_of_lt (by omega)] at hgo
  rw [hgo, hn]
theorem got_num (hf : Fit F) {p : Nat} {z : Int} (hz : sz z ≤ 24) (h : Lies F p (dig (numB z) (sz z))) : numF (stuff F) (stAt F p) (sz z) = (stAt F (p + sz z), z, 0) := by
  have hl := h.1
  rw [dig_len] at hl
  have e1 : ((by8 F).drop p).take (sz z) = dig (numB z) (sz z) := by
    obtain ⟨_, S, h2⟩ := h
    rw [h2, List.take_left' (dig_len _ _)]
  have hg := goF_bits F [] hf (stAt F p) (sz z) p 0 hl
  rw [List.append_nil, e1, num_dig 0 _ _ (numB_lt z), Nat.zero_mul, Nat.zero_add] at hg
  have hgf : getF (stuff F) (stAt F p) (sz z : Int) = (stAt F (p + sz z), numB z, 0) := by
    unfold getF
    rw [if_neg (by omega), Int.toNat_natCast, hg]
  unfold numF
  rw [hgf, if_pos rfl]
  dsimp only
  rw [ext_num]
end

/-- the place of a number in the scan -/
def zi (j : Nat) : Nat := zz.findIdx (· == (j : Int))
theorem zi_zn : ∀ k, k < 64 → zi (zn k) = k := by decide +kernel
theorem zn_zi : ∀ j, j < 64 → zn (zi j) = j ∧ zi j < 64 := by decide +kernel
theorem zn_inj {k m : Nat} (hk : k < 64) (hm : m < 64) (h : zn k = zn m) : k = m := by rw [← zi_zn k hk, ← zi_zn m hm, h]

/-- c has the numbers of b at the first i places of the scan, and noughts behind -/
structure PartOf (b c : List Int) (i : Nat) : Prop where
  len : c.length = 64
  has : ∀ k, k < 64 → c.getD (zn k) 0 = if k < i then zig b k else 0
section
variable {b c : List Int} {i : Nat}
theorem PartOf.full (h : PartOf b c 64) (hb : b.length = 64) : c = b := by
  apply List.ext_getElem?
  intro j
  by_cases hj : j < 64
  · obtain ⟨h1, h2⟩ := zn_zi j hj
    have h3 := h.has (zi j) h2
    rw [if_pos h2, h1] at h3
    unfold zig at h3
    rw [h1, List.getD_eq_getElem?_getD, List.getD_eq_getElem?_getD, List.getElem?_eq_getElem (by rw [h.len]; exact hj), List.getElem?_eq_getElem (by rw [hb]; exact hj)] at h3
    rw [List.getElem?_eq_getElem (by rw [h.len]; exact hj), List.getElem?_eq_getElem (by rw [hb]; exact hj)]
    exact congrArg some h3
  · rw [List.getElem?_eq_none (by rw [h.len]; omega), List.getElem?_eq_none (by rw [hb]; omega)]
theorem PartOf.skip (h : PartOf b c i) (hz : i < 64 → zig b i = 0) : PartOf b c (i + 1) :=
  ⟨h.len, fun k hk => by
    rw [h.has k hk]
    by_cases h1 : k < i
    · rw [if_pos h1, if_pos (by omega)]
    · by_cases h2 : k = i
      · subst h2
        rw [if_neg h1, if_pos (by omega), hz hk]
      · rw [if_neg h1, if_neg (by omega)]⟩
theorem PartOf.skips (h : PartOf b c i) : ∀ r, (∀ k, i ≤ k → k < i + r → k < 64 → zig b k = 0) → PartOf b c (i + r)
  | 0, _ => h
  | r + 1, hz => (PartOf.skips h r (fun k h1 h2 h3 => hz k h1 (by omega) h3)).skip (fun h3 => hz (i + r) (by omega) (by omega) h3)
theorem PartOf.put (h : PartOf b c i) (hi : i < 64) : PartOf b (c.set (zn i) (zig b i)) (i + 1) := by
  refine ⟨by rw [List.length_set]; exact h.len, fun k hk => ?_⟩
  by_cases h2 : k = i
  · subst h2
    rw [if_pos (by omega), List.getD_eq_getElem?_getD, List.getElem?_set_self (by rw [h.len]; exact (zn_at k hk).2)]
    rfl
  · rw [List.getD_eq_getElem?_getD, List.getElem?_set_ne (fun e => h2 (zn_inj hi hk e).symm), ← List.getD_eq_getElem?_getD, h.has k hk]
    by_cases h1 : k < i
    · rw [if_pos h1, if_pos (by omega)]
    · rw [if_neg h1, if_neg (by omega)]
end

section
variable {B V F : List Int} {b : List Int}
theorem symB1 {Ld La : List En} {v : Nat} {z : Int} : symB Ld La (1, v, z) = dig (codeOf La (v : Int)).1 (codeOf La (v : Int)).2 ++ dig (numB z) (sz z) := by
  unfold symB symBits
  rw [if_neg Nat.one_ne_zero]
theorem found1 {Ld La : List En} {v : Nat} {z : Int} (h : foundS Ld La (1, v, z) = true) : (fnd La (v : Int)).isSome = true := by
  unfold foundS at h
  rw [if_neg Nat.one_ne_zero] at h
  exact h
/-- a symbol of a number: it is read, and put at its place -/
theorem one_run {Ld : List En} {c : List Int} (hv : Valid B V) (hf : Fit F) (hR : RightB b) : ∀ (q run j p : Nat) (f : Nat), run = 16 * q + run % 16 → j + run < 64 → (∀ k, j ≤ k → k < j + run → zig b k = 0) → zig b (j + run) ≠ 0 → PartOf b c j → 64 ≤ f + j →
    (runsOf run (zig b (j + run))).all (foundS Ld (codes B V)) = true → Lies F p (bitsOf Ld (codes B V) (runsOf run (zig b (j + run)))) →
    ∃ f' c', 64 ≤ f' + (j + run + 1) ∧ PartOf b c' (j + run + 1) ∧ othersG (codes B V) (stuff F) f j (stAt F p) c = othersG (codes B V) (stuff F) f' (j + run + 1) (stAt F (p + (bitsOf Ld (codes B V) (runsOf run (zig b (j + run)))).length)) c'
  | 0, run, j, p, f, hq, hj, hz, hn, hP, hfu, hall, hl => by
    obtain ⟨f, rfl⟩ : ∃ f', f = f' + 1 := ⟨f - 1, by omega⟩
    obtain ⟨z, hzz⟩ : ∃ z, z = zig b (j + run) := ⟨_, rfl⟩
    have hin : In z := by rw [hzz]; exact hR.zig hj
    have hs10 := in_size hin
    rw [← hzz] at hn hall hl ⊢
    have hs0 : sz z ≠ 0 := fun h => hn (sz_eq_zero.1 h)
    rw [runsOf_small z (by omega)] at hall hl ⊢
    have hfo := found1 (by simpa using hall)
    obtain ⟨v, hvv⟩ : ∃ v, v = 16 * run + sz z := ⟨_, rfl⟩
    have hvi : ((16 * run + sz z : Nat) : Int) = (v : Int) := by rw [hvv]
    rw [hvi] at hfo
    rw [bitsOf_cons] at hl ⊢
    have hl1 := hl.split.1
    rw [symB1] at hl1 ⊢
    rw [hvi] at hl1 ⊢
    obtain ⟨h1, h2⟩ := hl1.split
    have hg := got_code hv hf hfo h1
    rw [dig_len] at h2
    have hnum := got_num hf (by omega) h2
    have hb0 : bitsOf Ld (codes B V) [] = [] := rfl
    refine ⟨f, c.set (zn (j + run)) z, by omega, ?_, ?_⟩
    · have := hP.skips run (fun k a1 a2 _ => hz k a1 a2)
      rw [hzz]
      exact this.put hj
    · have hbad : ¬ badSym v j := by unfold badSym; omega
      rw [othersG_next (R := (stAt F (p + (codeOf (codes B V) (v : Int)).2), (v : Int), 0)) (N := (stAt F (p + (codeOf (codes B V) (v : Int)).2 + sz z), z, 0)) hg.symm (by
        dsimp only
        rw [Int.toNat_natCast, show v % 16 = sz z by omega]
        exact hnum.symm) (by omega) rfl (by dsimp only; omega) (by dsimp only; rw [Int.toNat_natCast]; exact hbad) rfl]
      dsimp only
      rw [Int.toNat_natCast, show v / 16 = run by omega, hb0, List.append_nil, List.length_append, dig_len, dig_len, Nat.add_assoc p]
  | q + 1, run, j, p, f, hq, hj, hz, hn, hP, hfu, hall, hl => by
    obtain ⟨f, rfl⟩ : ∃ f', f = f' + 1 := ⟨f - 1, by omega⟩
    rw [runsOf_big (zig b (j + run)) (by omega)] at hall hl ⊢
    rw [List.all_cons, Bool.and_eq_true] at hall
    have hfo := found1 hall.1
    rw [bitsOf_cons] at hl ⊢
    obtain ⟨hl1, hl2⟩ := hl.split
    rw [symB1, sz_zero] at hl1 hl2 ⊢
    obtain ⟨h1, _⟩ := hl1.split
    have hg := got_code hv hf hfo h1
    have hd0 : ∀ x, dig x 0 = [] := fun x => rfl
    rw [hd0, List.append_nil] at hl2 ⊢
    rw [dig_len] at hl2
    have hnum : numF (stuff F) (stAt F (p + (codeOf (codes B V) ((240 : Nat) : Int)).2)) 0 = (stAt F (p + (codeOf (codes B V) ((240 : Nat) : Int)).2), 0, 0) := rfl
    have e16 : j + 16 + (run - 16) = j + run := by omega
    have hbad : ¬ badSym 240 j := by unfold badSym; omega
    have hc15 : c.set (zn (j + 15)) 0 = c := by
      have h3 := hP.has (j + 15) (by omega)
      rw [if_neg (by omega)] at h3
      apply List.ext_getElem?
      intro m
      by_cases hm : zn (j + 15) = m
      · have hml : m < c.length := by rw [hP.len, ← hm]; exact (zn_at _ (by omega)).2
        rw [hm] at h3
        rw [hm, List.getElem?_set_self hml]
        rw [List.getD_eq_getElem?_getD, List.getElem?_eq_getElem hml] at h3
        rw [List.getElem?_eq_getElem hml]
        exact congrArg some h3.symm
      · rw [List.getElem?_set_ne hm]
    have hP16 := hP.skips 16 (fun k a1 a2 _ => hz k a1 (by omega))
    obtain ⟨f', c', g1, g2, g3⟩ := one_run (Ld := Ld) hv hf hR q (run - 16) (j + 16) (p + (codeOf (codes B V) ((240 : Nat) : Int)).2) f (by omega) (by omega) (fun k a1 a2 => hz k (by omega) (by omega)) (by rw [e16]; exact hn) hP16 (by omega) (by rw [e16]; exact hall.2) (by rw [e16]; exact hl2)
    rw [e16] at g1 g2 g3
    refine ⟨f', c', g1, g2, ?_⟩
    rw [othersG_next (R := (stAt F (p + (codeOf (codes B V) ((240 : Nat) : Int)).2), ((240 : Nat) : Int), 0)) (N := (stAt F (p + (codeOf (codes B V) ((240 : Nat) : Int)).2), 0, 0)) hg.symm (by
      dsimp only
      rw [Int.toNat_natCast]
      exact hnum.symm) (by omega) rfl (by dsimp only; omega) (by dsimp only; rw [Int.toNat_natCast]; exact hbad) rfl]
    dsimp only
    rw [Int.toNat_natCast, show 240 / 16 = 15 by decide, hc15, List.length_append, dig_len, ← Nat.add_assoc p, ← g3]

/-- the numbers behind the first -/
theorem others_back {Ld : List En} (hv : Valid B V) (hf : Fit F) (hR : RightB b) (hb : b.length = 64) : ∀ (n i run p f : Nat) (c : List Int), i + n = 64 → run ≤ i → (∀ k, i - run ≤ k → k < i → zig b k = 0) → PartOf b c (i - run) → 64 ≤ f + (i - run) →
    (symsF b n i run).all (foundS Ld (codes B V)) = true → Lies F p (bitsOf Ld (codes B V) (symsF b n i run)) →
    othersG (codes B V) (stuff F) f (i - run) (stAt F p) c = (stAt F (p + (bitsOf Ld (codes B V) (symsF b n i run)).length), b, 0)
  | 0, i, run, p, f, c, hi, hr, hz, hP, hfu, hall, hl => by
    have hfull : c = b := by
      have := hP.skips run (fun k a1 a2 _ => hz k a1 (by omega))
      rw [show i - run + run = 64 by omega] at this
      exact this.full hb
    rw [symsF_nil] at hall hl ⊢
    by_cases h0 : 0 < run
    · rw [if_pos h0] at hall hl ⊢
      obtain ⟨f, rfl⟩ : ∃ f', f = f' + 1 := ⟨f - 1, by omega⟩
      have hfo := found1 (by simpa using hall)
      rw [bitsOf_cons] at hl ⊢
      have hl1 := hl.split.1
      have hb0 : bitsOf Ld (codes B V) [] = [] := rfl
      have hd0 : ∀ x, dig x 0 = [] := fun x => rfl
      rw [symB1, sz_zero, hd0, List.append_nil] at hl1
      rw [symB1, sz_zero, hd0, List.append_nil, hb0, List.append_nil, dig_len]
      have hg := got_code hv hf hfo hl1
      rw [othersG_stop (R := (stAt F (p + (codeOf (codes B V) ((0 : Nat) : Int)).2), ((0 : Nat) : Int), 0)) hg.symm (by omega) rfl rfl, hfull]
    · rw [if_neg h0]
      rw [othersG_end (by omega), hfull]
      rfl
  | n + 1, i, run, p, f, c, hi, hr, hz, hP, hfu, hall, hl => by
    by_cases h0 : zig b i = 0
    · rw [symsF_zero h0] at hall hl ⊢
      have := others_back (Ld := Ld) hv hf hR hb n (i + 1) (run + 1) p f c (by omega) (by omega) (fun k a1 a2 => by
        by_cases hk : k = i
        · rw [hk]; exact h0
        · exact hz k (by omega) (by omega)) (by rw [Nat.add_sub_add_right]; exact hP) (by omega) hall hl
      rw [Nat.add_sub_add_right] at this
      exact this
    · rw [symsF_some h0] at hall hl ⊢
      rw [List.all_append, Bool.and_eq_true] at hall
      have hba : ∀ x y, bitsOf Ld (codes B V) (x ++ y) = bitsOf Ld (codes B V) x ++ bitsOf Ld (codes B V) y := fun x y => by simp [bitsOf]
      rw [hba] at hl ⊢
      obtain ⟨hl1, hl2⟩ := hl.split
      have ei : i - run + run = i := by omega
      obtain ⟨f', c', g1, g2, g3⟩ := one_run (Ld := Ld) (c := c) hv hf hR (run / 16) run (i - run) p f (by omega) (by omega) (fun k a1 a2 => hz k a1 (by omega)) (by rw [ei]; exact h0) hP hfu (by rw [ei]; exact hall.1) (by rw [ei]; exact hl1)
      rw [ei] at g1 g2 g3
      rw [g3, List.length_append, ← Nat.add_assoc p]
      exact others_back (Ld := Ld) hv hf hR hb n (i + 1) 0 _ f' c' (by omega) (by omega) (fun k a1 a2 => by omega) g2 g1 hall.2 hl2
end

/-- a block that was put is got -/
theorem block_back {B V B' V' F b : List Int} {prev : Int} {p : Nat} (hv : Valid B V) (hv' : Valid B' V') (hf : Fit F) (hb : b.length = 64) (h : putBE (codes B V) (codes B' V') prev b = 0) (hl : Lies F p (bitsOf (codes B V) (codes B' V') (allS prev b))) :
    blockF (codes B V) (codes B' V') (stuff F) (stAt F p) prev = (stAt F (p + (bitsOf (codes B V) (codes B' V') (allS prev b)).length), b, 0) := by
  obtain ⟨hin, hR, hall⟩ : In prev ∧ RightB b ∧ (allS prev b).all (foundS (codes B V) (codes B' V')) = true := by
    unfold putBE at h
    split at h
    · next h1 =>
      split at h
      · next h2 => exact ⟨h1.1, h1.2, h2⟩
      · cases h
    · cases h
  obtain ⟨d, hd⟩ : ∃ d, d = b.getD 0 0 - prev := ⟨_, rfl⟩
  have hsd := diff_size (diff_small hR hin)
  rw [← hd] at hsd
  have hS : allS prev b = (0, sz d, d) :: symsF b 63 1 0 := by rw [hd]; rfl
  rw [hS] at hall hl ⊢
  rw [List.all_cons, Bool.and_eq_true] at hall
  have hfo : (fnd (codes B V) ((sz d : Nat) : Int)).isSome = true := by
    have := hall.1
    unfold foundS at this
    rw [if_pos rfl] at this
    exact this
  rw [bitsOf_cons] at hl ⊢
  obtain ⟨hl1, hl2⟩ := hl.split
  have hsb : symB (codes B V) (codes B' V') (0, sz d, d) = dig (codeOf (codes B V) ((sz d : Nat) : Int)).1 (codeOf (codes B V) ((sz d : Nat) : Int)).2 ++ dig (numB d) (sz d) := by
    unfold symB symBits
    rw [if_pos rfl]
  rw [hsb] at hl1 hl2 ⊢
  obtain ⟨h1, h2⟩ := hl1.split
  have hg := got_code hv hf hfo h1
  rw [dig_len] at h2
  have hnum := got_num hf (by omega) h2
  rw [List.length_append, dig_len, dig_len] at hl2
  have hF : (stAt F (p + ((codeOf (codes B V) ((sz d : Nat) : Int)).2 + sz d)), d, 0) = firstF (codes B V) (stuff F) (stAt F p) := by
    unfold firstF
    rw [hg]
    dsimp only
    rw [if_pos rfl, if_neg (by omega), Int.toNat_natCast, hnum, Nat.add_assoc]
  have hP : PartOf b ((prev + d) :: List.replicate 63 0) 1 := by
    refine ⟨by simp, fun k hk => ?_⟩
    by_cases h0 : k = 0
    · subst h0
      have e0 : zn 0 = 0 := by decide
      unfold zig
      rw [if_pos (by omega), e0, hd]
      show prev + (b.getD 0 0 - prev) = _
      omega
    · have hz : zn k ≠ 0 := fun e => h0 (zn_inj hk (by omega) (by rw [e]; decide))
      obtain ⟨m, hm⟩ : ∃ m, zn k = m + 1 := ⟨zn k - 1, by omega⟩
      have hml := (zn_at k hk).2
      rw [if_neg (by omega), hm, List.getD_eq_getElem?_getD, List.getElem?_cons_succ, List.getElem?_replicate_of_lt (by omega)]
      rfl
  have hO := others_back (Ld := codes B V) hv' hf hR hb 63 1 0 (p + ((codeOf (codes B V) ((sz d : Nat) : Int)).2 + sz d)) 63 ((prev + d) :: List.replicate 63 0) (by omega) (by omega) (fun k a1 a2 => by omega) hP (by omega) hall.2 hl2
  have hD := blockF_done (F := (stAt F (p + ((codeOf (codes B V) ((sz d : Nat) : Int)).2 + sz d)), d, 0)) (O := (stAt F (p + ((codeOf (codes B V) ((sz d : Nat) : Int)).2 + sz d) + (bitsOf (codes B V) (codes B' V') (symsF b 63 1 0)).length), b, 0)) hin hF rfl hO.symm rfl hR
  rw [hD, List.length_append, List.length_append, dig_len, dig_len, Nat.add_assoc p]
end Go.Proofs.YthfpdebpepbejaaDoor
