/-
  Extents and sectors, without code: free extents that rise, their only list, what taking and giving make of them.
-/
import Derived.WalkKit
namespace Go.Proofs.Ytcgajomngcgchaa

/-- an extent: where it begins, how many sectors -/
abbrev X := Int × Int
/-- is sector k in one of them? -/
def InE (l : List X) (k : Int) : Prop := ∃ e ∈ l, e.1 ≤ k ∧ k < e.1 + e.2
/-- extents that rise from lo on, with something between any two, that end at hi at most -/
def Rise (hi : Int) : Int → List X → Prop
  | _, [] => True
  | lo, e :: t => lo ≤ e.1 ∧ 1 ≤ e.2 ∧ e.1 + e.2 ≤ hi ∧ Rise hi (e.1 + e.2 + 1) t
/-- where the next one may begin -/
def aft : Int → List X → Int
  | lo, [] => lo
  | _, e :: t => aft (e.1 + e.2 + 1) t
/-- how many sectors -/
def sumS : List X → Int
  | [] => 0
  | e :: t => e.2 + sumS t

theorem InE.nil (k : Int) : ¬ InE [] k := fun ⟨_, h, _⟩ => by cases h
theorem inE_cons {e : X} {l : List X} {k : Int} : InE (e :: l) k ↔ (e.1 ≤ k ∧ k < e.1 + e.2) ∨ InE l k := by
  constructor
  · rintro ⟨x, hx, h⟩
    rcases List.mem_cons.1 hx with rfl | hx
    · exact .inl h
    · exact .inr ⟨x, hx, h⟩
  · rintro (h | ⟨x, hx, h⟩)
    · exact ⟨e, by simp, h⟩
    · exact ⟨x, by simp [hx], h⟩
theorem inE_app {a b : List X} {k : Int} : InE (a ++ b) k ↔ InE a k ∨ InE b k := by
  induction a with
  | nil => simp [InE.nil]
  | cons e a ih => rw [List.cons_append, inE_cons, inE_cons, ih, or_assoc]
theorem inE_one {e : X} {k : Int} : InE [e] k ↔ e.1 ≤ k ∧ k < e.1 + e.2 := by rw [inE_cons]; simp [InE.nil]

theorem sumS_app (a b : List X) : sumS (a ++ b) = sumS a + sumS b := by
  induction a with
  | nil => simp [sumS]
  | cons e a ih => simp only [List.cons_append, sumS, ih]; omega
theorem sumS_perm {a b : List X} (h : a.Perm b) : sumS a = sumS b := by
  induction h with
  | nil => rfl
  | cons x _ ih => simp [sumS, ih]
  | swap x y l => simp only [sumS]; omega
  | trans _ _ h1 h2 => exact h1.trans h2
theorem inE_perm {a b : List X} (h : a.Perm b) (k : Int) : InE a k ↔ InE b k := ⟨fun ⟨e, he, hk⟩ => ⟨e, h.mem_iff.1 he, hk⟩, fun ⟨e, he, hk⟩ => ⟨e, h.mem_iff.2 he, hk⟩⟩

section
variable {hi lo : Int} {a b l m : List X} {e : X}
theorem rise_app : ∀ {lo : Int} {a : List X}, Rise hi lo (a ++ b) ↔ Rise hi lo a ∧ Rise hi (aft lo a) b
  | lo, [] => by simp [Rise, aft]
  | lo, e :: a => by
    simp only [List.cons_append, Rise, aft]
    rw [rise_app (a := a)]
    constructor
    · rintro ⟨h1, h2, h3, h4, h5⟩; exact ⟨⟨h1, h2, h3, h4⟩, h5⟩
    · rintro ⟨⟨h1, h2, h3, h4⟩, h5⟩; exact ⟨h1, h2, h3, h4, h5⟩
theorem Rise.mono : ∀ {lo lo' : Int} {l : List X}, Rise hi lo l → lo' ≤ lo → Rise hi lo' l
  | _, _, [], _, _ => trivial
  | _, _, _ :: _, h, hl => ⟨by have := h.1; omega, h.2⟩
theorem Rise.upto {hi' : Int} : ∀ {lo : Int} {l : List X}, Rise hi lo l → hi ≤ hi' → Rise hi' lo l
  | _, [], _, _ => trivial
  | _, _ :: _, h, hl => ⟨h.1, h.2.1, by have := h.2.2.1; omega, h.2.2.2.upto hl⟩
theorem Rise.at_ : ∀ {lo : Int} {l : List X}, Rise hi lo l → ∀ e ∈ l, lo ≤ e.1 ∧ 1 ≤ e.2 ∧ e.1 + e.2 ≤ hi
  | lo, x :: t, h, e, he => by
    rcases List.mem_cons.1 he with rfl | he
    · exact ⟨h.1, h.2.1, h.2.2.1⟩
    · have := h.2.2.2.at_ e he
      have h1 := h.1; have h2 := h.2.1
      exact ⟨by omega, this.2⟩
theorem aft_ge : ∀ {lo : Int} {l : List X}, Rise hi lo l → lo ≤ aft lo l
  | _, [], _ => Int.le_refl _
  | _, x :: t, h => by
    have := aft_ge h.2.2.2
    have h1 := h.1; have h2 := h.2.1
    simp only [aft]; omega
theorem aft_app : ∀ {lo : Int} {a : List X}, aft lo (a ++ b) = aft (aft lo a) b
  | _, [] => rfl
  | _, x :: t => by simp only [List.cons_append, aft]; exact aft_app
theorem Rise.end_lt : ∀ {lo : Int} {l : List X}, Rise hi lo l → ∀ e ∈ l, e.1 + e.2 + 1 ≤ aft lo l
  | lo, x :: t, h, e, he => by
    rcases List.mem_cons.1 he with rfl | he
    · exact aft_ge h.2.2.2
    · exact h.2.2.2.end_lt e he
/-- what lies ahead of one of them ends ahead of it, what lies behind it begins behind it -/
theorem Rise.ahead (h : Rise hi lo (a ++ e :: b)) : (∀ x ∈ a, x.1 + x.2 + 1 ≤ e.1) ∧ (∀ x ∈ b, e.1 + e.2 + 1 ≤ x.1) := by
  obtain ⟨h1, h2⟩ := rise_app.1 h
  exact ⟨fun x hx => by have := h1.end_lt x hx; have := h2.1; omega, fun x hx => (h2.2.2.2.at_ x hx).1⟩

/-- lists that rise and have the same sectors are one -/
theorem Rise.only : ∀ {lo : Int} {l m : List X}, Rise hi lo l → Rise hi lo m → (∀ k, lo ≤ k → k < hi → (InE l k ↔ InE m k)) → l = m
  | _, [], [], _, _, _ => rfl
  | lo, [], f :: m, _, hm, h => by
    have h1 := hm.1; have h2 := hm.2.1; have h3 := hm.2.2.1
    exact absurd ((h f.1 h1 (by omega)).2 (inE_cons.2 (.inl ⟨by omega, by omega⟩))) (InE.nil _)
  | lo, e :: l, [], hl, _, h => by
    have h1 := hl.1; have h2 := hl.2.1; have h3 := hl.2.2.1
    exact absurd ((h e.1 h1 (by omega)).1 (inE_cons.2 (.inl ⟨by omega, by omega⟩))) (InE.nil _)
  | lo, e :: l, f :: m, hl, hm, h => by
    have h1 := hl.1; have h2 := hl.2.1; have h3 := hl.2.2.1; have h4 := hl.2.2.2
    have g1 := hm.1; have g2 := hm.2.1; have g3 := hm.2.2.1; have g4 := hm.2.2.2
    have away : ∀ {q : Int} {r : List X} {k : Int}, Rise hi (q + 1) r → k ≤ q → ¬ InE r k := by
      intro q r k hr hk ⟨x, hx, hx1, _⟩
      have := (hr.at_ x hx).1
      omega
    have e1 : e.1 = f.1 := by
      rcases Int.lt_trichotomy e.1 f.1 with hlt | heq | hgt
      · have := (h e.1 h1 (by omega)).1 (inE_cons.2 (.inl ⟨by omega, by omega⟩))
        rcases inE_cons.1 this with hh | hh
        · omega
        · exact absurd hh (away g4 (by omega))
      · exact heq
      · have := (h f.1 g1 (by omega)).2 (inE_cons.2 (.inl ⟨by omega, by omega⟩))
        rcases inE_cons.1 this with hh | hh
        · omega
        · exact absurd hh (away h4 (by omega))
    have e2 : e.2 = f.2 := by
      rcases Int.lt_trichotomy e.2 f.2 with hlt | heq | hgt
      · have := (h (e.1 + e.2) (by omega) (by omega)).2 (inE_cons.2 (.inl ⟨by omega, by omega⟩))
        rcases inE_cons.1 this with hh | hh
        · omega
        · exact absurd hh (away h4 (by omega))
      · exact heq
      · have := (h (f.1 + f.2) (by omega) (by omega)).1 (inE_cons.2 (.inl ⟨by omega, by omega⟩))
        rcases inE_cons.1 this with hh | hh
        · omega
        · exact absurd hh (away g4 (by omega))
    have ef : e = f := Prod.ext e1 e2
    subst ef
    rw [h4.only g4 (fun k hk hk2 => ?_)]
    have := h k (by omega) hk2
    rw [inE_cons, inE_cons] at this
    constructor
    · intro hh
      rcases this.1 (.inr hh) with x | x
      · omega
      · exact x
    · intro hh
      rcases this.2 (.inr hh) with x | x
      · omega
      · exact x
end

/-- the sectors up to i that are free are those of fs; u: whether each is used -/
structure CanTo (u : List Bool) (i : Nat) (fs : List X) : Prop where
  rise : Rise i 0 fs
  mem : ∀ k : Nat, k < i → (u.getD k true = false ↔ InE fs k)
/-- fs is the free extents -/
def Can (u : List Bool) (fs : List X) : Prop := CanTo u u.length fs
theorem Can.only {u : List Bool} {f g : List X} (h : Can u f) (k : Can u g) : f = g :=
  h.rise.only k.rise fun z h0 h1 => by
    obtain ⟨n, rfl⟩ : ∃ n : Nat, z = n := ⟨z.toNat, by omega⟩
    rw [← h.mem n (by omega), k.mem n (by omega)]
theorem Can.only' {u v : List Bool} {f g : List X} (h : Can u f) (k : Can v g) (hl : u.length = v.length) (hu : ∀ i, i < u.length → u.getD i true = v.getD i true) : f = g := by
  have : u = v := by
    apply List.ext_getElem hl
    intro i h1 h2
    have := hu i h1
    simpa [List.getD_eq_getElem?_getD, h1, h2] using this
  subst this
  exact h.only k

/-- with an extent used, or free -/
def mark (u : List Bool) (e : X) (b : Bool) : List Bool := u.mapIdx fun k x => if e.1 ≤ (k : Int) ∧ (k : Int) < e.1 + e.2 then b else x
theorem mark_len (u : List Bool) (e : X) (b : Bool) : (mark u e b).length = u.length := by simp [mark]
theorem mark_at (u : List Bool) (e : X) (b : Bool) (k : Nat) (hk : k < u.length) : (mark u e b).getD k true = if e.1 ≤ (k : Int) ∧ (k : Int) < e.1 + e.2 then b else u.getD k true := by
  simp [mark, List.getD_eq_getElem?_getD, hk]
theorem mark_none (u : List Bool) (a : Int) (b : Bool) : mark u (a, 0) b = u := by
  apply List.ext_getElem (mark_len _ _ _)
  intro i h1 h2
  simp [mark]
  omega
theorem mark_more (u : List Bool) (a k : Nat) (b : Bool) : (mark u (a, k) b).set (a + k) b = mark u ((a : Int), ((k + 1 : Nat) : Int)) b := by
  apply List.ext_getElem (by simp [mark_len])
  intro i h1 h2
  simp only [mark, List.getElem_set, List.getElem_mapIdx]
  by_cases he : a + k = i
  · rw [if_pos he, if_pos (by omega)]
  · rw [if_neg he]
    by_cases hi : (a : Int) ≤ i ∧ (i : Int) < a + k
    · rw [if_pos hi, if_pos (by omega)]
    · rw [if_neg hi, if_neg (by omega)]

/-- may an extent be on a disk? -/
def Ok (n : Int) (e : X) : Prop := 0 ≤ e.1 ∧ 1 ≤ e.2 ∧ e.1 + e.2 ≤ n
instance (n : Int) (e : X) : Decidable (Ok n e) := by unfold Ok; infer_instance
/-- no two have a sector in common -/
def Apart (a b : X) : Prop := a.1 + a.2 ≤ b.1 ∨ b.1 + b.2 ≤ a.1
instance (a b : X) : Decidable (Apart a b) := by unfold Apart; infer_instance
def Dis (l : List X) : Prop := l.Pairwise Apart
instance (l : List X) : Decidable (Dis l) := by unfold Dis; infer_instance
theorem Dis.perm {a b : List X} (h : a.Perm b) (k : Dis a) : Dis b := by
  unfold Dis at *
  exact (h.pairwise_iff (fun {x y} g => Or.symm g)).1 k
/-- why there is no map -/
def newE (n : Int) (l : List X) : Int := if ¬ (1 ≤ n ∧ n ≤ 4096) then 1 else if ¬ (∀ e ∈ l, Ok n e) then 11 else if ¬ Dis l then 13 else 0

/-- u is which sectors the extents use -/
structure Uses (n : Int) (l : List X) (u : List Bool) : Prop where
  len : (u.length : Int) = n
  mem : ∀ k : Nat, k < u.length → (u.getD k true = true ↔ InE l k)
theorem Uses.only {n : Int} {l : List X} {u v : List Bool} (h : Uses n l u) (k : Uses n l v) : u = v := by
  have hl : u.length = v.length := by have := h.len; have := k.len; omega
  apply List.ext_getElem hl
  intro i h1 h2
  have a := h.mem i h1
  have b := k.mem i h2
  simp only [List.getD_eq_getElem?_getD, List.getElem?_eq_getElem h1, List.getElem?_eq_getElem h2, Option.getD_some] at a b
  rw [Bool.eq_iff_iff, a, b]

/-- the first that has room -/
def takeX (fs : List X) (size : Int) : Option X := fs.find? fun f => decide (size ≤ f.2)

theorem Can.take {u : List Bool} {a b : List X} {f : X} {size : Int} (h : Can u (a ++ f :: b)) (h1 : 1 ≤ size) (h2 : size ≤ f.2) :
    Can (mark u (f.1, size) true) (a ++ (if size < f.2 then [(f.1 + size, f.2 - size)] else []) ++ b) := by
  have hr := h.rise
  obtain ⟨ha, hb⟩ := hr.ahead
  obtain ⟨r1, r2⟩ := rise_app.1 hr
  have r3 := r2.1; have r4 := r2.2.1; have r5 := r2.2.2.1; have r6 := r2.2.2.2
  unfold Can
  rw [mark_len]
  constructor
  · rw [List.append_assoc, rise_app]
    refine ⟨r1, ?_⟩
    by_cases hs : size < f.2
    · rw [if_pos hs]
      exact ⟨by simp only; omega, by simp only; omega, by simp only; omega, by simp only; exact r6.mono (by omega)⟩
    · rw [if_neg hs]
      exact r6.mono (by omega)
  · intro k hk
    rw [mark_at _ _ _ _ hk, List.append_assoc, inE_app, inE_app]
    have hm := h.mem k hk
    rw [inE_app, inE_cons] at hm
    have hna : f.1 ≤ (k : Int) → ¬ InE a k := fun hk1 ⟨x, hx, _, hx2⟩ => by have := ha x hx; omega
    have hnb : (k : Int) < f.1 + f.2 → ¬ InE b k := fun hk1 ⟨x, hx, hx1, _⟩ => by have := hb x hx; omega
    have hc : InE (if size < f.2 then [(f.1 + size, f.2 - size)] else []) k ↔ f.1 + size ≤ (k : Int) ∧ (k : Int) < f.1 + f.2 := by
      by_cases hs : size < f.2
      · rw [if_pos hs, inE_one]; simp only; omega
      · rw [if_neg hs]; exact ⟨fun x => absurd x (InE.nil _), fun x => by omega⟩
    rw [hc]
    by_cases hin : f.1 ≤ (k : Int) ∧ (k : Int) < f.1 + size
    · rw [if_pos hin]
      simp only [Bool.true_eq_false, false_iff]
      have := hna hin.1; have := hnb (by omega)
      rintro (x | x | x)
      · contradiction
      · omega
      · contradiction
    · rw [if_neg hin, hm]
      constructor
      · rintro (x | x | x)
        · exact .inl x
        · exact .inr (.inl (by omega))
        · exact .inr (.inr x)
      · rintro (x | x | x)
        · exact .inl x
        · exact .inr (.inl (by omega))
        · exact .inr (.inr x)
end Go.Proofs.Ytcgajomngcgchaa
