/-
  How New goes on: what stands in memory.
-/
import Derived.Test.YthfpdebpepbejaaDoorCode
namespace Go.Proofs.YthfpdebpepbejaaDoor
open Go.RowKit

/-- what New leaves -/
def Newed (w : World) (B V : List Int) (e : Ending) (w' : World) : Prop := Below w.heap.size w w' ∧
  ((¬ Valid B V ∧ e = .returned (.tuple #[.pointer none, .int .i64 4])) ∨ (Valid B V ∧ ∃ t, e = .returned (.tuple #[.pointer (some ⟨t, 0, none⟩), .int .i64 0]) ∧ Tb w' w.heap.size w'.heap.size t B V (codes B V)))

theorem TbAt.drew {w : World} {lo hi t : Nat} {B V : List Int} {L : List En} {A : Option Addr} {n c m : Nat} (h : TbAt w lo hi t B V L A n c m) : TbAt w.drew lo hi t B V L A n c m := h.kept ((Kept.refl (fun _ => False) w).drew) (fun _ _ _ h => h)
theorem TbAt.ne {w : World} {lo hi t : Nat} {B V : List Int} {L : List En} {A : Option Addr} {n c m : Nat} (h : TbAt w lo hi t B V L A n c m) : t ≠ m := by
  obtain ⟨es, k, hm⟩ := h.map.is
  have hb := h.box
  unfold Box at hb
  intro e
  rw [e, hm] at hb
  cases hb
theorem TbAt.ain2 {w : World} {lo hi t : Nat} {B V : List Int} {L : List En} {A : Option Addr} {n c m : Nat} (h : TbAt w lo hi t B V L A n c m) : ∀ b off, A = some ⟨b, off, none⟩ → b ≠ t ∧ b ≠ m := by
  intro b off e
  obtain ⟨cs, fr, hh⟩ := h.vals.typ b off e
  obtain ⟨es, k, hm⟩ := h.map.is
  have hb := h.box
  unfold Box at hb
  constructor
  · intro e; rw [e, hb] at hh; simp at hh
  · intro e; rw [e, hm] at hh; cases hh
/-- a code is written into the array -/
theorem TbAt.put1 {w : World} {lo hi t : Nat} {B V : List Int} {L : List En} {A : Option Addr} {n c m : Nat} (h : TbAt w lo hi t B V L A n c m) (z b s : Nat) (hz : z < 256) (hn : ∀ y ∈ L, y.1 ≠ (z : Int)) :
    ∀ w1, w1 = (w.setCell ⟨t, 17 + z * 2, none⟩ (.int .i64 (b : Int))).setCell ⟨t, 17 + z * 2 + 1, none⟩ (.int .i64 (s : Int)) →
    Box w1 t 119 (tabC B (.slice A n c) (L ++ [((z : Int), b, s)]) m) ∧ Mq w1 m L ∧ Kept (fun i => i = t) w w1 := by
  rintro w1 rfl
  have k1 : Kept (fun i => i = t) w ((w.setCell ⟨t, 17 + z * 2, none⟩ (.int .i64 (b : Int))).setCell ⟨t, 17 + z * 2 + 1, none⟩ (.int .i64 (s : Int))) :=
    ((Kept.refl (fun i => i = t) w).setCell (p := ⟨t, 17 + z * 2, none⟩) (fun _ => rfl) _).setCell (p := ⟨t, 17 + z * 2 + 1, none⟩) (fun _ => rfl) _
  have b1 := (h.box.put (17 + z * 2) (.int .i64 (b : Int))).put (17 + z * 2 + 1) (.int .i64 (s : Int))
  rw [tabC_put h.len z b s hz hn] at b1
  exact ⟨b1, h.map.block (k1.block m h.map.lt (fun e => h.ne e.symm)), k1⟩
/-- .. and into the map -/
theorem TbAt.put2 {w w1 w2 : World} {lo hi t : Nat} {B V : List Int} {L : List En} {A : Option Addr} {n c m : Nat} (h : TbAt w lo hi t B V L A n c m) {e : En}
    (b1 : Box w1 t 119 (tabC B (.slice A n c) (L ++ [e]) m)) (k1 : Kept (fun i => i = t) w w1) (m2 : Mq w2 m (L ++ [e])) (g2 : w1.grownBy w2 (some m)) :
    TbAt w2 lo hi t B V (L ++ [e]) A n c m ∧ Kept (fun i => i = t ∨ i = m) w w2 := by
  have k2 : Kept (fun i => i = m) w1 w2 := ⟨g2.os, g2.tape, g2.output, g2.size, fun i hi hne => g2.block i hi (fun e => hne (by cases e; rfl))⟩
  have k3 : Kept (fun i => i = t ∨ i = m) w w2 := (k1.mono (S' := fun i => i = t ∨ i = m) (fun _ _ e => Or.inl e)).trans k2 (fun _ _ e => Or.inr e)
  exact ⟨⟨k2.box b1 h.ne, h.vals.kept k3 (fun b off e => by have := h.ain2 b off e; omega), m2, h.tin, h.min, h.ain, h.len, h.few⟩, k3⟩
theorem Tb.more {w : World} {lo hi hi' t : Nat} {B V : List Int} {L : List En} (h : Tb w lo hi t B V L) (hh : hi ≤ hi') : Tb w lo hi' t B V L := by
  obtain ⟨A, n, c, m, h⟩ := h
  exact ⟨A, n, c, m, h.box, h.vals, h.map, ⟨h.tin.1, by have := h.tin.2; omega⟩, ⟨h.min.1, by have := h.min.2; omega⟩, fun b off e => ⟨(h.ain b off e).1, by have := (h.ain b off e).2; omega⟩, h.len, h.few⟩

/-- the head of a slice of numbers -/
theorem il_head {w : World} {A : Option Addr} {n c k : Nat} {xs : List Int} (h : Il w A n c xs) (hk : k ≤ n) : Il w A k c (xs.take k) := by
  refine ⟨by have := h.len; rw [List.length_take]; omega, by have := h.cap; omega, h.max, h.nil, h.typ, fun h0 => ?_⟩
  obtain ⟨b, off, e, hb, hc⟩ := h.at_ (by omega)
  refine ⟨b, off, e, hb, fun i hi => ?_⟩
  rw [hc i (by omega)]
  simp only [List.getD_eq_getElem?_getD]
  rw [List.getElem?_take_of_lt hi]
/-- what is left of a slice of numbers -/
theorem il_rest {w : World} {b off n c k : Nat} {xs : List Int} (h : Il w (some ⟨b, off, none⟩) n c xs) (hk : k ≤ n) : Il w (some ⟨b, if c = k then off else off + k, none⟩) (n - k) (c - k) (xs.drop k) := by
  refine ⟨by have := h.len; rw [List.length_drop]; omega, by have := h.cap; omega, by have := h.max; omega, (fun e => by cases e), (fun b2 off2 e => by cases e; exact h.typ _ _ rfl), fun h0 => ?_⟩
  obtain ⟨b', off', e, hb, hc⟩ := h.at_ (by omega)
  cases e
  have := h.cap
  refine ⟨b, _, rfl, hb, fun i hi => ?_⟩
  rw [if_neg (by omega), Nat.add_assoc, hc (k + i) (by omega)]
  simp only [List.getD_eq_getElem?_getD, List.getElem?_drop]

/-- how New stands: the codes cs are in the table, the next one is x of y bits -/
structure Newing (w : World) (lo hi t q : Nat) (B V : List Int) (A : Option Addr) (n c m : Nat) (cs : List (Nat × Nat)) (x y : Nat) (wr : World) : Prop where
  tab : TbAt wr lo hi t B V (ents V cs) A n c m
  nxt : Box wr q 116 #[.int .i64 (x : Int), .int .i64 (y : Int)]
  bel : Below lo w wr
  out : hi ≤ q
  lo_ : lo = w.heap.size
/-- what is left of the values -/
structure Resting (wr : World) (lo hi : Nat) (V : List Int) (S : Nat) (Ar : Option Addr) (nr cr : Nat) : Prop where
  row : Il wr Ar nr cr (V.drop S)
  ain : ∀ b off, Ar = some ⟨b, off, none⟩ → lo ≤ b ∧ b < hi
  some_ : ∃ b off, Ar = some ⟨b, off, none⟩
end Go.Proofs.YthfpdebpepbejaaDoor
