/-
  Layer 12's mathematics: planes as lists: samples beyond the edge, cropped, halved, grown, cut into blocks and joined. No code.
-/
import Derived.Test.YtadlaljohlpabaaColourMath
namespace Go.Proofs.Ytadlaljohlpabaa
open Go.RowKit

/-- the first n numbers of a grid of w columns, row by row -/
def gridK (w : Nat) (f : Nat → Nat → Int) (n : Nat) : List Int := (List.range n).map fun j => f (j % w) (j / w)
/-- a grid of w columns and h rows -/
def gridL (w h : Nat) (f : Nat → Nat → Int) : List Int := gridK w f (w * h)
section
variable {w h : Nat} {f : Nat → Nat → Int}
theorem gridK_len (w : Nat) (f : Nat → Nat → Int) (n : Nat) : (gridK w f n).length = n := by rw [gridK, List.length_map, List.length_range]
theorem gridL_len (w h : Nat) (f : Nat → Nat → Int) : (gridL w h f).length = w * h := gridK_len _ _ _
theorem gridK_get (w : Nat) (f : Nat → Nat → Int) {n j : Nat} (hj : j < n) : (gridK w f n).getD j 0 = f (j % w) (j / w) := by
  unfold gridK
  rw [List.getD_eq_getElem?_getD, List.getElem?_map, List.getElem?_range hj]
  rfl
theorem gridK_zero : gridK w f 0 = [] := rfl
theorem row_place {x : Nat} (hx : x < w) (y : Nat) : (y * w + x) % w = x ∧ (y * w + x) / w = y := by
  constructor
  · rw [Nat.add_comm, Nat.add_mul_mod_self_right, Nat.mod_eq_of_lt hx]
  · rw [Nat.add_comm, Nat.add_mul_div_right _ _ (by omega), Nat.div_eq_of_lt hx, Nat.zero_add]
theorem row_lt {x y : Nat} (hx : x < w) (hy : y < h) : y * w + x < w * h := by
  have := Nat.mul_le_mul_right w (show y + 1 ≤ h from hy)
  rw [Nat.add_mul, Nat.one_mul, Nat.mul_comm h w] at this
  omega
/-- one number more -/
theorem gridK_more {x : Nat} (hx : x < w) (y : Nat) : gridK w f (y * w + x) ++ [f x y] = gridK w f (y * w + (x + 1)) := by
  have e := row_place hx y
  conv => rhs; unfold gridK
  rw [← Nat.add_assoc, List.range_succ, List.map_append, List.map_cons, List.map_nil, e.1, e.2]
  rfl
theorem gridL_at {x y : Nat} (hx : x < w) (hy : y < h) : (gridL w h f).getD (y * w + x) 0 = f x y := by
  have e := row_place hx y
  unfold gridL
  rw [gridK_get _ _ (row_lt hx hy), e.1, e.2]
theorem grid_eq {l : List Int} (hl : l.length = w * h) (e : ∀ y, y < h → ∀ x, x < w → l.getD (y * w + x) 0 = f x y) : gridL w h f = l := by
  apply List.ext_getElem (by rw [gridL_len, hl])
  intro i h1 h2
  rw [gridL_len] at h1
  have hw : 0 < w := Nat.pos_of_mul_pos_right (Nat.lt_of_le_of_lt (Nat.zero_le i) h1)
  have a := e (i / w) (Nat.div_lt_of_lt_mul h1) (i % w) (Nat.mod_lt _ hw)
  have b := gridK_get w f (n := w * h) (j := i) h1
  rw [show i / w * w + i % w = i by rw [Nat.mul_comm]; exact Nat.div_add_mod i w] at a
  rw [← a] at b
  have c := b
  rw [List.getD_eq_getElem?_getD, List.getD_eq_getElem?_getD, List.getElem?_eq_getElem (by rw [gridK_len]; exact h1), List.getElem?_eq_getElem h2] at c
  exact c
theorem grid_congr {g : Nat → Nat → Int} (e : ∀ y, y < h → ∀ x, x < w → f x y = g x y) : gridL w h f = gridL w h g :=
  grid_eq (gridL_len _ _ _) fun y hy x hx => by rw [gridL_at hx hy, e y hy x hx]
theorem grid_all {P : Int → Prop} (e : ∀ y, y < h → ∀ x, x < w → P (f x y)) {j : Nat} (hj : j < w * h) : P ((gridL w h f).getD j 0) := by
  have hw : 0 < w := Nat.pos_of_mul_pos_right (Nat.lt_of_le_of_lt (Nat.zero_le j) hj)
  unfold gridL
  rw [gridK_get _ _ hj]
  exact e _ (Nat.div_lt_of_lt_mul hj) _ (Nat.mod_lt _ hw)
end
/-- a place held within n places -/
def clampN (x : Int) (n : Nat) : Nat := if x < 0 then 0 else if (n : Int) ≤ x then n - 1 else x.toNat
theorem clamp_lt (x : Int) {n : Nat} (h : 0 < n) : clampN x n < n := by
  unfold clampN
  split
  · exact h
  · split <;> omega
theorem clamp_in {x n : Nat} (h : x < n) : clampN (x : Int) n = x := by
  unfold clampN
  rw [if_neg (by omega), if_neg (by omega)]
  omega
theorem clamp_out {x n : Nat} (h : n ≤ x) : clampN (x : Int) n = n - 1 := by
  unfold clampN
  rw [if_neg (by omega), if_pos (by omega)]
theorem clamp_neg {x : Int} (h : x < 0) (n : Nat) : clampN x n = 0 := if_pos h
/-- a sample of a plane, beyond the edge too -/
def atL (p : List Int) (w h : Nat) (x y : Int) : Int := p.getD (clampN y h * w + clampN x w) 0
/-- a plane that may be -/
structure RightP (p : List Int) (w h : Nat) : Prop where
  w0 : 1 ≤ w
  w1 : w ≤ 128
  h0 : 1 ≤ h
  h1 : h ≤ 128
  len : p.length = w * h
  all : ∀ j, j < w * h → In8 (p.getD j 0)
section
variable {p : List Int} {w h : Nat}
theorem at_all {P : Int → Prop} (hw : 0 < w) (hh : 0 < h) (e : ∀ j, j < w * h → P (p.getD j 0)) (x y : Int) : P (atL p w h x y) := e _ (row_lt (clamp_lt x hw) (clamp_lt y hh))
theorem RightP.at (r : RightP p w h) (x y : Int) : In8 (atL p w h x y) := at_all r.w0 r.h0 r.all x y
theorem at_in {x y : Nat} (hx : x < w) (hy : y < h) : atL p w h x y = p.getD (y * w + x) 0 := by
  unfold atL
  rw [clamp_in hx, clamp_in hy]
end
/-- columns and rows of a plane -/
def cropL (p : List Int) (w0 h0 x y w h : Nat) : List Int := gridL w h fun i k => atL p w0 h0 ((x + i : Nat) : Int) ((y + k : Nat) : Int)
/-- a plane grown -/
def growL (p : List Int) (w0 h0 : Nat) (a d : Bool) (w h : Nat) : List Int := gridL w h fun x y => atL p w0 h0 ((if a then x / 2 else x : Nat) : Int) ((if d then y / 2 else y : Nat) : Int)
/-- half as many, rounded up -/
def halfN (a : Bool) (n : Nat) : Nat := if a then n / 2 + n % 2 else n
/-- a sample of a plane halved -/
def halfT (p : List Int) (w h : Nat) (a d : Bool) (x y : Nat) : Int :=
  match a, d with
  | false, false => rnd (atL p w h x y) 1
  | true, false => rnd (atL p w h ((2 * x : Nat) : Int) y + atL p w h ((2 * x + 1 : Nat) : Int) y) 2
  | false, true => rnd (atL p w h x ((2 * y : Nat) : Int) + atL p w h x ((2 * y + 1 : Nat) : Int)) 2
  | true, true => rnd (atL p w h ((2 * x : Nat) : Int) ((2 * y : Nat) : Int) + atL p w h ((2 * x + 1 : Nat) : Int) ((2 * y : Nat) : Int) + atL p w h ((2 * x : Nat) : Int) ((2 * y + 1 : Nat) : Int) + atL p w h ((2 * x + 1 : Nat) : Int) ((2 * y + 1 : Nat) : Int)) 4
def halveL (p : List Int) (w h : Nat) (a d : Bool) : List Int := gridL (halfN a w) (halfN d h) (halfT p w h a d)
theorem halfN_pos {a : Bool} {n : Nat} (h : 1 ≤ n) : 1 ≤ halfN a n := by unfold halfN; split <;> omega
theorem halfN_le (a : Bool) (n : Nat) : halfN a n ≤ n := by unfold halfN; split <;> omega
/-- means lie between -/
theorem mean1 {a lo hi : Int} (h0 : 0 ≤ lo) (h1 : hi ≤ 255) (a0 : lo ≤ a) (a1 : a ≤ hi) : lo ≤ rnd a 1 ∧ rnd a 1 ≤ hi := by
  rw [rnd_pos (by unfold Frac; omega) (by omega)]
  omega
theorem mean2 {s lo hi : Int} (h0 : 0 ≤ lo) (h1 : hi ≤ 255) (a0 : 2 * lo ≤ s) (a1 : s ≤ 2 * hi) : lo ≤ rnd s 2 ∧ rnd s 2 ≤ hi := by
  rw [rnd_pos (by unfold Frac; omega) (by omega)]
  omega
theorem mean4 {s lo hi : Int} (h0 : 0 ≤ lo) (h1 : hi ≤ 255) (a0 : 4 * lo ≤ s) (a1 : s ≤ 4 * hi) : lo ≤ rnd s 4 ∧ rnd s 4 ≤ hi := by
  rw [rnd_pos (by unfold Frac; omega) (by omega)]
  omega
theorem half_between {p : List Int} {w h : Nat} (hw : 0 < w) (hh : 0 < h) {lo hi : Int} (h0 : 0 ≤ lo) (h1 : hi ≤ 255) (e : ∀ j, j < w * h → lo ≤ p.getD j 0 ∧ p.getD j 0 ≤ hi) (a d : Bool) (x y : Nat) : lo ≤ halfT p w h a d x y ∧ halfT p w h a d x y ≤ hi := by
  have q := fun x y => at_all (P := fun z => lo ≤ z ∧ z ≤ hi) hw hh e x y
  cases a <;> cases d <;> unfold halfT <;> dsimp only
  · have := q x y
    exact mean1 h0 h1 this.1 this.2
  · have a1 := q x ((2 * y : Nat) : Int)
    have a2 := q x ((2 * y + 1 : Nat) : Int)
    exact mean2 h0 h1 (by omega) (by omega)
  · have a1 := q ((2 * x : Nat) : Int) y
    have a2 := q ((2 * x + 1 : Nat) : Int) y
    exact mean2 h0 h1 (by omega) (by omega)
  · have a1 := q ((2 * x : Nat) : Int) ((2 * y : Nat) : Int)
    have a2 := q ((2 * x + 1 : Nat) : Int) ((2 * y : Nat) : Int)
    have a3 := q ((2 * x : Nat) : Int) ((2 * y + 1 : Nat) : Int)
    have a4 := q ((2 * x + 1 : Nat) : Int) ((2 * y + 1 : Nat) : Int)
    exact mean4 h0 h1 (by omega) (by omega)
/-- halved samples lie between the least and the greatest -/
theorem halve_bounds {p : List Int} {w h : Nat} (r : RightP p w h) {lo hi : Int} (h0 : 0 ≤ lo) (h1 : hi ≤ 255) (e : ∀ j, j < w * h → lo ≤ p.getD j 0 ∧ p.getD j 0 ≤ hi) (a d : Bool) {j : Nat} (hj : j < halfN a w * halfN d h) : lo ≤ (halveL p w h a d).getD j 0 ∧ (halveL p w h a d).getD j 0 ≤ hi :=
  grid_all (P := fun z => lo ≤ z ∧ z ≤ hi) (fun y _ x _ => half_between r.w0 r.h0 h0 h1 e a d x y) hj
theorem halve_right {p : List Int} {w h : Nat} (r : RightP p w h) (a d : Bool) : RightP (halveL p w h a d) (halfN a w) (halfN d h) :=
  ⟨halfN_pos r.w0, Nat.le_trans (halfN_le a w) r.w1, halfN_pos r.h0, Nat.le_trans (halfN_le d h) r.h1, gridL_len _ _ _, fun _ hj => halve_bounds r (Int.le_refl 0) (Int.le_refl 255) (fun j hj => r.all j hj) a d hj⟩
theorem grow_right {p : List Int} {w h : Nat} (r : RightP p w h) (a d : Bool) {w' h' : Nat} (w0 : 1 ≤ w') (w1 : w' ≤ 128) (h0 : 1 ≤ h') (h1 : h' ≤ 128) : RightP (growL p w h a d w' h') w' h' :=
  ⟨w0, w1, h0, h1, gridL_len _ _ _, fun _ hj => grid_all (P := In8) (fun _ _ _ _ => r.at _ _) hj⟩
theorem crop_right {p : List Int} {w h : Nat} (r : RightP p w h) (x y : Nat) {w' h' : Nat} (w0 : 1 ≤ w') (w1 : w' ≤ 128) (h0 : 1 ≤ h') (h1 : h' ≤ 128) : RightP (cropL p w h x y w' h') w' h' :=
  ⟨w0, w1, h0, h1, gridL_len _ _ _, fun _ hj => grid_all (P := In8) (fun _ _ _ _ => r.at _ _) hj⟩
/-- twice as many, if so -/
def twiceN (a : Bool) (n : Nat) : Nat := if a then 2 * n else n
theorem half_twice (a : Bool) (n : Nat) : halfN a (twiceN a n) = n := by
  unfold halfN twiceN
  cases a
  · rfl
  · simp only [if_true]; omega
theorem rnd_one {z : Int} (h : In8 z) : rnd z 1 = z := by
  have := mean1 (a := z) h.1 h.2 (Int.le_refl z) (Int.le_refl z)
  omega
theorem rnd_two {z : Int} (h : In8 z) : rnd (z + z) 2 = z := by
  have := mean2 (s := z + z) h.1 h.2 (by omega) (by omega)
  omega
theorem rnd_four {z : Int} (h : In8 z) : rnd (z + z + z + z) 4 = z := by
  have := mean4 (s := z + z + z + z) h.1 h.2 (by omega) (by omega)
  omega
/-- what is grown to twice the size and halved is what it was -/
theorem halve_grow {p : List Int} {w h : Nat} (r : RightP p w h) (a d : Bool) : halveL (growL p w h a d (twiceN a w) (twiceN d h)) (twiceN a w) (twiceN d h) a d = p := by
  have hw := r.w0
  have hh := r.h0
  unfold halveL
  rw [half_twice, half_twice]
  refine grid_eq r.len fun y hy x hx => ?_
  obtain ⟨z, hz'⟩ : ∃ z, z = p.getD (y * w + x) 0 := ⟨_, rfl⟩
  have zin : In8 z := by rw [hz']; exact r.all _ (row_lt hx hy)
  have key : ∀ i k : Nat, i < twiceN a w → k < twiceN d h → (if a then i / 2 else i) = x → (if d then k / 2 else k) = y → atL (growL p w h a d (twiceN a w) (twiceN d h)) (twiceN a w) (twiceN d h) (i : Int) (k : Int) = z := by
    intro i k hi hk e1 e2
    rw [at_in hi hk]
    unfold growL
    rw [gridL_at hi hk, e1, e2, at_in hx hy, hz']
  rw [← hz']
  cases a <;> cases d <;> unfold halfT <;> dsimp only
  · rw [key x y hx hy rfl rfl, rnd_one zin]
  · rw [key x (2 * y) hx (by unfold twiceN; simp only [if_true]; omega) rfl (by simp only [if_true]; omega), key x (2 * y + 1) hx (by unfold twiceN; simp only [if_true]; omega) rfl (by simp only [if_true]; omega), rnd_two zin]
  · rw [key (2 * x) y (by unfold twiceN; simp only [if_true]; omega) hy (by simp only [if_true]; omega) rfl, key (2 * x + 1) y (by unfold twiceN; simp only [if_true]; omega) hy (by simp only [if_true]; omega) rfl, rnd_two zin]
  · have b0 : 2 * x < twiceN true w := by unfold twiceN; simp only [if_true]; omega
    have b1 : 2 * x + 1 < twiceN true w := by unfold twiceN; simp only [if_true]; omega
    have b2 : 2 * y < twiceN true h := by unfold twiceN; simp only [if_true]; omega
    have b3 : 2 * y + 1 < twiceN true h := by unfold twiceN; simp only [if_true]; omega
    rw [key _ _ b0 b2 (by simp only [if_true]; omega) (by simp only [if_true]; omega), key _ _ b1 b2 (by simp only [if_true]; omega) (by simp only [if_true]; omega),
      key _ _ b0 b3 (by simp only [if_true]; omega) (by simp only [if_true]; omega), key _ _ b1 b3 (by simp only [if_true]; omega) (by simp only [if_true]; omega), rnd_four zin]
/-- a plane of one sample -/
def flatP (n : Int) (w h : Nat) : List Int := gridL w h fun _ _ => n
theorem flat_right {n : Int} (hn : In8 n) {w h : Nat} (w0 : 1 ≤ w) (w1 : w ≤ 128) (h0 : 1 ≤ h) (h1 : h ≤ 128) : RightP (flatP n w h) w h :=
  ⟨w0, w1, h0, h1, gridL_len _ _ _, fun _ hj => grid_all (P := In8) (fun _ _ _ _ => hn) hj⟩
theorem at_flat (n : Int) {w h : Nat} (w0 : 0 < w) (h0 : 0 < h) (x y : Int) : atL (flatP n w h) w h x y = n :=
  at_all (P := fun z => z = n) w0 h0 (fun _ hj => grid_all (P := fun z => z = n) (fun _ _ _ _ => rfl) hj) x y
theorem halve_flat {n : Int} (hn : In8 n) {w h : Nat} (w0 : 1 ≤ w) (h0 : 1 ≤ h) (a d : Bool) {j : Nat} (hj : j < halfN a w * halfN d h) : (halveL (flatP n w h) w h a d).getD j 0 = n := by
  refine grid_all (P := fun z => z = n) (fun y _ x _ => ?_) hj
  have := half_between (p := flatP n w h) w0 h0 hn.1 hn.2 (fun _ hj => grid_all (P := fun z => n ≤ z ∧ z ≤ n) (fun _ _ _ _ => ⟨Int.le_refl n, Int.le_refl n⟩) hj) a d x y
  omega
theorem grow_flat (n : Int) {w h : Nat} (w0 : 1 ≤ w) (h0 : 1 ≤ h) (a d : Bool) (w' h' : Nat) {j : Nat} (hj : j < w' * h') : (growL (flatP n w h) w h a d w' h').getD j 0 = n :=
  grid_all (P := fun z => z = n) (fun _ _ _ _ => at_flat n w0 h0 _ _) hj
theorem crop_flat (n : Int) {w h : Nat} (w0 : 1 ≤ w) (h0 : 1 ≤ h) (x y w' h' : Nat) {j : Nat} (hj : j < w' * h') : (cropL (flatP n w h) w h x y w' h').getD j 0 = n :=
  grid_all (P := fun z => z = n) (fun _ _ _ _ => at_flat n w0 h0 _ _) hj

/-- how many blocks so many samples need -/
def nb (n : Nat) : Nat := (n + 7) / 8
theorem nb_pos {n : Nat} (h : 1 ≤ n) : 1 ≤ nb n := by unfold nb; omega
theorem nb_lt {x n : Nat} (h : x < n) : x / 8 < nb n := by unfold nb; omega
/-- a block of a plane -/
def cutB (p : List Int) (w h bx by' : Nat) : List Int := tab fun j => atL p w h ((8 * bx + j % 8 : Nat) : Int) ((8 * by' + j / 8 : Nat) : Int) - 128
theorem cutB_len (p : List Int) (w h bx by' : Nat) : (cutB p w h bx by').length = 64 := tab_len _
/-- the blocks of a plane, row by row: the first n -/
def cutK (p : List Int) (w h n : Nat) : List (List Int) := (List.range n).map fun j => cutB p w h (j % nb w) (j / nb w)
def cutL (p : List Int) (w h : Nat) : List (List Int) := cutK p w h (nb w * nb h)
theorem cutK_len (p : List Int) (w h n : Nat) : (cutK p w h n).length = n := by rw [cutK, List.length_map, List.length_range]
theorem cutK_get (p : List Int) (w h : Nat) {n j : Nat} (hj : j < n) : (cutK p w h n).getD j [] = cutB p w h (j % nb w) (j / nb w) := by
  unfold cutK
  rw [List.getD_eq_getElem?_getD, List.getElem?_map, List.getElem?_range hj]
  rfl
theorem cutK_more (p : List Int) (w h : Nat) {x : Nat} (hx : x < nb w) (y : Nat) : cutK p w h (y * nb w + x) ++ [cutB p w h x y] = cutK p w h (y * nb w + (x + 1)) := by
  have e := row_place hx y
  conv => rhs; unfold cutK
  rw [← Nat.add_assoc, List.range_succ, List.map_append, List.map_cons, List.map_nil, e.1, e.2]
  rfl
/-- a sample of blocks that are joined -/
def joinT (l : List (List Int)) (w x y : Nat) : Int := held ((l.getD (nb w * (y / 8) + x / 8) []).getD (8 * (y % 8) + x % 8) 0) (-128) 127 + 128
def joinL (l : List (List Int)) (w h : Nat) : List Int := gridL w h (joinT l w)
theorem held_127 (z : Int) : -128 ≤ held z (-128) 127 ∧ held z (-128) 127 ≤ 127 := by
  unfold held
  split
  · omega
  · split <;> omega
theorem join_cut8 (z : Int) : held z (-128) 127 + 128 = cut8 (z + 128) := by
  unfold cut8 held
  split
  · rw [if_pos (by omega)]; rfl
  · split
    · rw [if_neg (show ¬ z + 128 < 0 by omega), if_pos (by omega)]; rfl
    · rw [if_neg (show ¬ z + 128 < 0 by omega), if_neg (by omega)]
theorem join_right (l : List (List Int)) {w h : Nat} (w0 : 1 ≤ w) (w1 : w ≤ 128) (h0 : 1 ≤ h) (h1 : h ≤ 128) : RightP (joinL l w h) w h :=
  ⟨w0, w1, h0, h1, gridL_len _ _ _, fun _ hj => grid_all (P := In8) (fun y _ x _ => by
    have := held_127 ((l.getD (nb w * (y / 8) + x / 8) []).getD (8 * (y % 8) + x % 8) 0)
    unfold joinT In8
    omega) hj⟩
/-- what is cut and joined is what it was -/
theorem join_cut {p : List Int} {w h : Nat} (r : RightP p w h) : joinL (cutL p w h) w h = p := by
  refine grid_eq r.len fun y hy x hx => ?_
  have hw := r.w0
  have b1 := nb_lt hx
  have b2 := nb_lt hy
  have e := row_place b1 (y / 8)
  have z := r.all _ (row_lt hx hy)
  unfold joinT cutL
  rw [show nb w * (y / 8) + x / 8 = y / 8 * nb w + x / 8 by rw [Nat.mul_comm], cutK_get p w h (row_lt b1 b2), e.1, e.2]
  unfold cutB
  rw [tab_at _ (by omega), show 8 * (x / 8) + (8 * (y % 8) + x % 8) % 8 = x by omega, show 8 * (y / 8) + (8 * (y % 8) + x % 8) / 8 = y by omega, at_in hx hy]
  obtain ⟨q, hq⟩ : ∃ q, q = p.getD (y * w + x) 0 := ⟨_, rfl⟩
  rw [← hq] at z ⊢
  rw [join_cut8, show q - 128 + 128 = q by omega, cut8_same z]
end Go.Proofs.Ytadlaljohlpabaa
