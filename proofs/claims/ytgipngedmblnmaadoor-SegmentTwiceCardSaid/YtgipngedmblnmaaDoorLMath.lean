/-
  Streams read twice, and streams with a segment that says nothing of the image: what is known.
-/
import Derived.Test.YtgipngedmblnmaaDoorRSegs
namespace Go.Proofs.YtgipngedmblnmaaDoor
open Go.RowKit

/-! once more -/
/-- L is K, as far as K is known, and M, as far as it is not -/
structure Twin (M K L : Kv) : Prop where
  t : ∀ i, L.tb.t i = K.tb.t i ∨ L.tb.t i = M.tb.t i
  B : ∀ i, L.tb.B i = K.tb.B i ∨ L.tb.B i = M.tb.B i
  V : ∀ i, L.tb.V i = K.tb.V i ∨ L.tb.V i = M.tb.V i
  F : ∀ i, L.F i = K.F i ∨ (i < 6 ∧ L.F i = M.F i)
  N : ∀ i, L.N i = K.N i
theorem Twin.F6 {M K L : Kv} (h : Twin M K L) {i : Nat} (hi : 6 ≤ i) : L.F i = K.F i := (h.F i).elim id (fun e => absurd e.1 (by omega))
theorem Twin.setF {M K L : Kv} (h : Twin M K L) (i : Nat) (b : Bool) : Twin M (K.setF i b) (L.setF i b) := ⟨h.t, h.B, h.V, fun k => by
  simp only [Kv.setF]
  split
  · exact .inl rfl
  · exact h.F k, h.N⟩
theorem Twin.setN {M K L : Kv} (h : Twin M K L) (i : Nat) (b : Int) : Twin M (K.setN i b) (L.setN i b) := ⟨h.t, h.B, h.V, h.F, fun k => by
  simp only [Kv.setN]
  split
  · rfl
  · exact h.N k⟩
theorem Twin.setT {M K L : Kv} (h : Twin M K L) (i : Nat) (s : List Int) : Twin M (K.setT i s) (L.setT i s) := ⟨fun k => by
  simp only [Kv.setT, Tb.setT]
  split
  · exact .inl rfl
  · exact h.t k, h.B, h.V, h.F, h.N⟩
theorem Twin.setS {M K L : Kv} (h : Twin M K L) (i : Nat) (B V : List Int) : Twin M (K.setS i B V) (L.setS i B V) := ⟨h.t, fun k => by
  simp only [Kv.setS, Tb.setS]
  split
  · exact .inl rfl
  · exact h.B k, fun k => by
  simp only [Kv.setS, Tb.setS]
  split
  · exact .inl rfl
  · exact h.V k, h.F, h.N⟩
theorem kv_eq {K L : Kv} (h1 : ∀ i, K.tb.t i = L.tb.t i) (h2 : ∀ i, K.tb.B i = L.tb.B i) (h3 : ∀ i, K.tb.V i = L.tb.V i) (h4 : ∀ i, K.F i = L.F i) (h5 : ∀ i, K.N i = L.N i) : K = L := by
  obtain ⟨⟨a, b, c⟩, d, e⟩ := K
  obtain ⟨⟨a', b', c'⟩, d', e'⟩ := L
  obtain rfl : a = a' := funext h1
  obtain rfl : b = b' := funext h2
  obtain rfl : c = c' := funext h3
  obtain rfl : d = d' := funext h4
  obtain rfl : e = e' := funext h5
  rfl
theorem Twin.same {M L : Kv} (h : Twin M M L) : L = M := kv_eq (fun i => (h.t i).elim id id) (fun i => (h.B i).elim id id) (fun i => (h.V i).elim id id) (fun i => (h.F i).elim id (·.2)) h.N
/-- a body that is read with either is read alike -/
def Alike2 (M : Kv) (r s : Option Kv) : Prop := (r = none ∧ s = none) ∨ ∃ K L, r = some K ∧ s = some L ∧ Twin M K L
theorem rdSteps_twin (M : Kv) : ∀ (f : Nat) (b : List Int) (K L : Kv), Twin M K L → Alike2 M (rdSteps f b K) (rdSteps f b L)
  | 0, _, _, _, _ => .inl ⟨rfl, rfl⟩
  | f + 1, b, K, L, h => by
    rw [rdSteps, rdSteps]
    split
    · exact .inr ⟨K, L, rfl, rfl, h⟩
    · split
      · exact .inl ⟨rfl, rfl⟩
      · split
        · exact rdSteps_twin M f _ _ _ ((h.setT _ _).setF _ _)
        · exact .inl ⟨rfl, rfl⟩
theorem rdSpecs_twin (M : Kv) : ∀ (f : Nat) (b : List Int) (K L : Kv), Twin M K L → Alike2 M (rdSpecs f b K) (rdSpecs f b L)
  | 0, _, _, _, _ => .inl ⟨rfl, rfl⟩
  | f + 1, b, K, L, h => by
    rw [rdSpecs, rdSpecs]
    split
    · exact .inr ⟨K, L, rfl, rfl, h⟩
    · split
      · exact .inl ⟨rfl, rfl⟩
      · split
        · exact .inl ⟨rfl, rfl⟩
        · split
          · exact .inl ⟨rfl, rfl⟩
          · split
            · exact .inl ⟨rfl, rfl⟩
            · exact rdSpecs_twin M f _ _ _ ((h.setS _ _ _).setF _ _)
theorem Twin.frame {M K L : Kv} (h : Twin M K L) (b : List Int) (k : Int) : Twin M (K.frame b k) (L.frame b k) := (((h.setN _ _).setN _ _).setN _ _).setF _ _
theorem rdFrame_twin (M : Kv) (b : List Int) (K L : Kv) (h : Twin M K L) : Alike2 M (rdFrame b K) (rdFrame b L) := by
  unfold rdFrame
  rw [h.F6 (i := 6) (by omega)]
  split
  · exact .inl ⟨rfl, rfl⟩
  · split
    · exact .inr ⟨_, _, rfl, rfl, h.frame _ _⟩
    · split
      · exact .inr ⟨_, _, rfl, rfl, h.frame _ _⟩
      · split
        · exact .inr ⟨_, _, rfl, rfl, h.frame _ _⟩
        · split
          · exact .inr ⟨_, _, rfl, rfl, h.frame _ _⟩
          · exact .inl ⟨rfl, rfl⟩
theorem rdBody_twin (M : Kv) (m : Int) (b : List Int) (K L : Kv) (h : Twin M K L) : Alike2 M (rdBody m b K) (rdBody m b L) := by
  unfold rdBody
  split
  · exact rdSteps_twin M _ _ _ _ h
  · split
    · exact rdSpecs_twin M _ _ _ _ h
    · split
      · exact rdFrame_twin M _ _ _ h
      · split
        · unfold rdScan
          rw [h.F6 (i := 6) (by omega), h.N 2]
          split
          · exact .inr ⟨_, _, rfl, rfl, h.setF _ _⟩
          · exact .inl ⟨rfl, rfl⟩
        · split
          · split
            · exact .inr ⟨_, _, rfl, rfl, h.setN _ _⟩
            · exact .inl ⟨rfl, rfl⟩
          · exact .inr ⟨_, _, rfl, rfl, h⟩
/-- either the same error, or both are known -/
def AlikeR (M : Kv) (r s : Kv × Int) : Prop := (r.1 = kz ∧ r.2 ≠ 0 ∧ s = r) ∨ (r.2 = 0 ∧ s.2 = 0 ∧ Twin M r.1 s.1)
theorem rdLoop_twin (M : Kv) : ∀ (f : Nat) (l : List Int) (p : Int) (K L : Kv), Twin M K L → AlikeR M (rdLoop f l p K) (rdLoop f l p L)
  | 0, _, _, _, _, _ => .inl ⟨rfl, by show (99 : Int) ≠ 0; decide, rfl⟩
  | f + 1, l, p, K, L, h => by
    rw [rdLoop, rdLoop]
    have er : ∀ e : Int, e ≠ 0 → AlikeR M (kz, e) (kz, e) := fun e he => .inl ⟨rfl, he, rfl⟩
    split
    · exact er 3 (by decide)
    split
    · exact er 7 (by decide)
    split
    · exact er 3 (by decide)
    split
    · split
      · exact er 5 (by decide)
      · exact .inr ⟨rfl, rfl, h.setF _ _⟩
    split
    · exact er 7 (by decide)
    split
    · exact er 3 (by decide)
    split
    · exact er 4 (by decide)
    split
    · exact er 3 (by decide)
    rcases rdBody_twin M (l.getD 1 0) ((l.drop 4).take (256 * l.getD 2 0 + l.getD 3 0 - 2).toNat) K L h with ⟨e1, e2⟩ | ⟨K', L', e1, e2, h'⟩
    · rw [e1, e2]
      exact er 4 (by decide)
    · rw [e1, e2]
      dsimp only
      rw [h'.F6 (i := 7) (by omega)]
      split
      · exact .inr ⟨rfl, rfl, h'.setN _ _⟩
      · exact rdLoop_twin M f _ _ _ _ h'
theorem kz_old : kz.old = kz := kv_eq (fun _ => rfl) (fun _ => rfl) (fun _ => rfl) (fun i => by show (if i < 6 then false else false) = false; split <;> rfl) (fun _ => rfl)
theorem twin_old (M : Kv) : Twin M kz M.old := ⟨fun _ => .inr rfl, fun _ => .inr rfl, fun _ => .inr rfl, fun i => by
  show (if i < 6 then M.F i else false) = false ∨ (i < 6 ∧ (if i < 6 then M.F i else false) = M.F i)
  by_cases hi : i < 6
  · rw [if_pos hi]; exact .inr ⟨hi, rfl⟩
  · rw [if_neg hi]; exact .inl rfl, fun _ => rfl⟩
/-- a stream that is read twice is known as when it was read once -/
theorem readF_twice (l : List Int) : readF l (readF l kz).1 = readF l kz := by
  obtain ⟨r, hr⟩ : ∃ r, r = readF l kz := ⟨_, rfl⟩
  have hr' := hr
  unfold readF at hr'
  rw [kz_old] at hr'
  have h2 : readF l r.1 = if l.length < 2 then (kz, 3) else if l.getD 0 0 ≠ 255 ∨ l.getD 1 0 ≠ 216 then (kz, 4) else rdLoop (l.length + 1) (l.drop 2) 2 r.1.old := rfl
  rw [← hr, h2]
  split
  · rename_i c; rw [if_pos c] at hr'; exact hr'.symm
  · rename_i c
    rw [if_neg c] at hr'
    split
    · rename_i c2; rw [if_pos c2] at hr'; exact hr'.symm
    · rename_i c2
      rw [if_neg c2] at hr'
      rcases rdLoop_twin r.1 (l.length + 1) (l.drop 2) 2 kz r.1.old (twin_old r.1) with ⟨_, _, e⟩ | ⟨e1, e2, e3⟩
      · rw [e]; exact hr'.symm
      · rw [← hr'] at e1 e3
        exact Prod.ext e3.same (e2.trans e1.symm)

/-! how long -/
def Short (M : Nat) (K : Kv) : Prop := ∀ j, (K.tb.V j).length ≤ M
theorem Short.setS {M : Nat} {K : Kv} (h : Short M K) (i : Nat) (B : List Int) {V : List Int} (hV : V.length ≤ M) : Short M (K.setS i B V) := fun j => by
  simp only [Kv.setS, Tb.setS]
  split
  · exact hV
  · exact h j
theorem rdSteps_short {M : Nat} : ∀ {f : Nat} {b : List Int} {K K' : Kv}, Short M K → rdSteps f b K = some K' → Short M K'
  | 0, _, _, _, _, h => by cases h
  | f + 1, b, K, K', hs, h => by
    rw [rdSteps] at h
    split at h
    · cases h; exact hs
    · split at h
      · cases h
      · split at h
        · exact rdSteps_short (show Short M ((K.setT _ _).setF _ true) from hs) h
        · cases h
theorem rdSpecs_short {M : Nat} : ∀ {f : Nat} {b : List Int} {K K' : Kv}, b.length ≤ M → Short M K → rdSpecs f b K = some K' → Short M K'
  | 0, _, _, _, _, _, h => by cases h
  | f + 1, b, K, K', hb, hs, h => by
    rw [rdSpecs] at h
    split at h
    · cases h; exact hs
    · split at h
      · cases h
      · split at h
        · cases h
        · split at h
          · cases h
          · split at h
            · cases h
            · exact rdSpecs_short (by rw [List.length_drop]; omega) (show Short M ((K.setS _ _ _).setF _ true) from hs.setS _ _ (by rw [List.length_take, List.length_drop]; omega)) h
theorem rdBody_short {M : Nat} {m : Int} {b : List Int} {K K' : Kv} (hb : b.length ≤ M) (hs : Short M K) (h : rdBody m b K = some K') : Short M K' := by
  unfold rdBody at h
  split at h
  · exact rdSteps_short hs h
  · split at h
    · exact rdSpecs_short hb hs h
    · split at h
      · unfold rdFrame at h
        split at h
        · cases h
        · split at h
          · cases h; exact hs
          · split at h
            · cases h; exact hs
            · split at h
              · cases h; exact hs
              · split at h
                · cases h; exact hs
                · cases h
      · split at h
        · unfold rdScan at h
          split at h
          · cases h; exact hs
          · cases h
        · split at h
          · split at h
            · cases h; exact hs
            · cases h
          · cases h; exact hs
theorem kz_short (M : Nat) : Short M kz := fun _ => Nat.zero_le _
theorem rdLoop_short {M : Nat} : ∀ (f : Nat) (l : List Int) (p : Int) (K : Kv), l.length ≤ M → Short M K → Short M (rdLoop f l p K).1
  | 0, _, _, _, _, _ => kz_short M
  | f + 1, l, p, K, hl, hs => by
    rw [rdLoop]
    split
    · exact kz_short M
    split
    · exact kz_short M
    split
    · exact kz_short M
    split
    · split
      · exact kz_short M
      · exact hs
    split
    · exact kz_short M
    split
    · exact kz_short M
    split
    · exact kz_short M
    split
    · exact kz_short M
    split
    · exact kz_short M
    · rename_i K' e
      have hk := rdBody_short (by rw [List.length_take, List.length_drop]; omega) hs e
      split
      · exact hk
      · exact rdLoop_short f _ _ _ (by rw [List.length_drop]; omega) hk
theorem readF_short (l : List Int) {M : Nat} (hl : l.length ≤ M) : Short M (readF l kz).1 := by
  unfold readF
  split
  · exact kz_short M
  · split
    · exact kz_short M
    · exact rdLoop_short _ _ _ _ (by rw [List.length_drop]; omega) (kz_short M)

/-! a segment that says nothing -/
/-- where the scan begins, by d more -/
def Kv.off (K : Kv) (d : Int) : Kv := if K.F 7 then K.setN 4 (K.N 4 + d) else K
theorem rdLoop_off (d : Int) : ∀ (f f' : Nat) (l : List Int) (p : Int) (K : Kv), l.length < f → l.length < f' → K.F 7 = false → Fit l → rdLoop f' l (p + d) K = ((rdLoop f l p K).1.off d, (rdLoop f l p K).2)
  | 0, _, _, _, _, h, _, _, _ => absurd h (by omega)
  | _ + 1, 0, _, _, _, _, h, _, _ => absurd h (by omega)
  | f + 1, f' + 1, l, p, K, h, h', h7, hf => by
    rw [rdLoop, rdLoop]
    have er : ∀ e : Int, ((kz, e) : Kv × Int) = (kz.off d, e) := fun e => rfl
    split
    · exact er 3
    split
    · exact er 7
    split
    · exact er 3
    rename_i c1 c2 c3
    split
    · split
      · exact er 5
      · show (K.setF 8 true, (0 : Int)) = ((K.setF 8 true).off d, 0)
        unfold Kv.off
        rw [if_neg (by simp [Kv.setF, h7])]
    split
    · exact er 7
    split
    · exact er 3
    split
    · exact er 4
    split
    · exact er 3
    rename_i c4 c5 c6 c7 c8
    cases e : rdBody (l.getD 1 0) ((l.drop 4).take (256 * l.getD 2 0 + l.getD 3 0 - 2).toNat) K with
    | none => exact er 4
    | some K' =>
      dsimp only
      by_cases k7 : K'.F 7 = true
      · rw [if_pos k7, if_pos k7]
        have e7 : (K'.setN 4 (p + 2 + (256 * l.getD 2 0 + l.getD 3 0))).F 7 = true := k7
        unfold Kv.off
        dsimp only
        rw [if_pos e7]
        congr 1
        refine kv_eq (fun _ => rfl) (fun _ => rfl) (fun _ => rfl) (fun _ => rfl) (fun i => ?_)
        simp only [Kv.setN]
        split
        · simp; omega
        · rfl
      · rw [if_neg k7, if_neg k7]
        have := rdLoop_off d f f' (l.drop (2 + (256 * l.getD 2 0 + l.getD 3 0)).toNat) (p + 2 + (256 * l.getD 2 0 + l.getD 3 0)) K' (by rw [List.length_drop]; omega) (by rw [List.length_drop]; omega) (by simpa using k7) (hf.drop _)
        rw [← this, show p + d + 2 + (256 * l.getD 2 0 + l.getD 3 0) = p + 2 + (256 * l.getD 2 0 + l.getD 3 0) + d by omega]
/-- where a scan begins lies in the stream -/
theorem rdLoop_at : ∀ (f : Nat) (l : List Int) (p : Int) (K : Kv), 0 ≤ p → K.F 7 = false → (rdLoop f l p K).1.F 7 = true → 0 ≤ (rdLoop f l p K).1.N 4 ∧ (rdLoop f l p K).1.N 4 ≤ p + l.length
  | 0, _, _, _, _, _, h => by cases h
  | f + 1, l, p, K, hp, h7, h => by
    rw [rdLoop] at h ⊢
    split at h
    · cases h
    rename_i c1
    rw [if_neg c1]
    split at h
    · cases h
    rename_i c2
    rw [if_neg c2]
    split at h
    · cases h
    rename_i c3
    rw [if_neg c3]
    split at h
    · split at h
      · cases h
      · exfalso
        have h' : K.F 7 = true := h
        rw [h7] at h'
        cases h'
    rename_i c4
    rw [if_neg c4]
    split at h
    · cases h
    rename_i c5
    rw [if_neg c5]
    split at h
    · cases h
    rename_i c6
    rw [if_neg c6]
    split at h
    · cases h
    rename_i c7
    rw [if_neg c7]
    split at h
    · cases h
    rename_i c8
    rw [if_neg c8]
    cases e : rdBody (l.getD 1 0) ((l.drop 4).take (256 * l.getD 2 0 + l.getD 3 0 - 2).toNat) K with
    | none => rw [e] at h; cases h
    | some K' =>
      rw [e] at h
      dsimp only at h ⊢
      by_cases k7 : K'.F 7 = true
      · rw [if_pos k7]
        show 0 ≤ p + 2 + (256 * l.getD 2 0 + l.getD 3 0) ∧ p + 2 + (256 * l.getD 2 0 + l.getD 3 0) ≤ p + l.length
        omega
      · rw [if_neg k7] at h ⊢
        have ih := rdLoop_at f (l.drop (2 + (256 * l.getD 2 0 + l.getD 3 0)).toNat) (p + 2 + (256 * l.getD 2 0 + l.getD 3 0)) K' (by omega) (by simpa using k7) h
        refine ⟨ih.1, ?_⟩
        have := ih.2
        rw [List.length_drop] at this
        omega
theorem readF_at (l : List Int) (h : (readF l kz).1.F 7 = true) : 0 ≤ (readF l kz).1.N 4 ∧ (readF l kz).1.N 4 ≤ l.length := by
  unfold readF at h ⊢
  split at h
  · cases h
  rename_i c1
  rw [if_neg c1]
  split at h
  · cases h
  rename_i c2
  rw [if_neg c2]
  have := rdLoop_at (l.length + 1) (l.drop 2) 2 kz.old (by omega) rfl h
  rw [List.length_drop] at this
  exact ⟨this.1, by omega⟩
/-- a mark that says nothing of the image -/
theorem readF_more (l body : List Int) (m : Int) (hf : Fit l) (hl : 2 ≤ l.length) (hb : body.length ≤ 60000) (hm : m = 254 ∨ (224 ≤ m ∧ m ≤ 239)) :
    readF (l.take 2 ++ segB m body ++ l.drop 2) kz = ((readF l kz).1.off (body.length + 4), (readF l kz).2) := by
  obtain ⟨a, b, r, rfl⟩ : ∃ a b r, l = a :: b :: r := by
    match l, hl with
    | a :: b :: r, _ => exact ⟨a, b, r, rfl⟩
  have el : (a :: b :: r).take 2 ++ segB m body ++ (a :: b :: r).drop 2 = a :: b :: (255 :: m :: ((body.length + 2 : Nat) : Int) / 256 % 256 :: ((body.length + 2 : Nat) : Int) % 256 :: (body ++ r)) := by
    simp [segB, be2]
  rw [el]
  have hL : ∀ t : List Int, readF (a :: b :: t) kz = if a ≠ 255 ∨ b ≠ 216 then (kz, 4) else rdLoop (t.length + 3) t 2 kz := fun t => by
    unfold readF
    rw [if_neg (by simp), kz_old]
    rfl
  rw [hL, hL]
  by_cases c : a ≠ 255 ∨ b ≠ 216
  · rw [if_pos c, if_pos c]
    rfl
  · rw [if_neg c, if_neg c, show (255 :: m :: ((body.length + 2 : Nat) : Int) / 256 % 256 :: ((body.length + 2 : Nat) : Int) % 256 :: (body ++ r)).length + 3 = (body.length + r.length + 6) + 1 by simp]
    obtain ⟨h1, hh1⟩ : ∃ z : Int, z = ((body.length + 2 : Nat) : Int) / 256 % 256 := ⟨_, rfl⟩
    obtain ⟨h2, hh2⟩ : ∃ z : Int, z = ((body.length + 2 : Nat) : Int) % 256 := ⟨_, rfl⟩
    have hz : 256 * h1 + h2 = body.length + 2 := by omega
    rw [← hh1, ← hh2]
    rw [rdLoop]
    have g0 : (255 :: m :: h1 :: h2 :: (body ++ r)).getD 0 0 = 255 := rfl
    have g1 : (255 :: m :: h1 :: h2 :: (body ++ r)).getD 1 0 = m := rfl
    have g2 : (255 :: m :: h1 :: h2 :: (body ++ r)).getD 2 0 = h1 := rfl
    have g3 : (255 :: m :: h1 :: h2 :: (body ++ r)).getD 3 0 = h2 := rfl
    have gl : (255 :: m :: h1 :: h2 :: (body ++ r)).length = body.length + r.length + 4 := by simp
    rw [g0, g1, g2, g3, gl, hz, if_neg (by omega), if_neg (by simp), if_neg (by omega), if_neg (by omega), if_neg (by unfold MarkOk; omega), if_neg (by omega), if_neg (by omega), if_neg (by omega)]
    have eb : ∀ x, rdBody m x kz = some kz := fun x => by
      unfold rdBody
      rw [if_neg (by omega), if_neg (by omega), if_neg (by omega), if_neg (by omega), if_neg (by omega)]
    rw [eb]
    dsimp only
    rw [if_neg (by simp [kz])]
    have ed : (255 :: m :: h1 :: h2 :: (body ++ r)).drop (2 + ((body.length : Int) + 2)).toNat = r := by
      rw [show (2 + ((body.length : Int) + 2)).toNat = body.length + 4 by omega]
      show (body ++ r).drop body.length = r
      simp
    rw [ed, show (2 : Int) + 2 + ((body.length : Int) + 2) = 2 + ((body.length : Int) + 4) by omega]
    exact rdLoop_off ((body.length : Int) + 4) (r.length + 3) _ r 2 kz (by omega) (by omega) rfl (fun z hz => hf z (by simp [hz]))
end Go.Proofs.YtgipngedmblnmaaDoor
