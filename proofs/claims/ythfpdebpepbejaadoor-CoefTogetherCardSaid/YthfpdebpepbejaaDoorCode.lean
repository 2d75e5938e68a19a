/-
  The contracts of Code and Spec. How New goes on: what stands in memory.
-/
import Derived.Test.YthfpdebpepbejaaDoorTable
namespace Go.Proofs.YthfpdebpepbejaaDoor
open Go.RowKit

/-- what Code tells -/
def Coded (w : World) (x : Nat × Nat) (e : Ending) (w' : World) : Prop := e = .returned (.tuple #[.int .i64 (x.1 : Int), .int .i64 (x.2 : Int), .bool (decide (0 < x.2))]) ∧ Below w.heap.size w w'

set_option maxHeartbeats 400000 in
theorem code_nil (w : World) (v : Int) : Calls Tryd.prog 42 #[.pointer none, .int .i64 v] w (Coded w (0, 0)) := by
  go_enter Tryd.func42, Tryd.ntmps42
  go_wp2
  go_ret3
  exact ⟨rfl, Below.refl _ _⟩

theorem codeOf_out {L : List En} {v : Int} (hL : ∀ e ∈ L, e.1 ≠ v) : codeOf L v = (0, 0) := by
  have : fnd L v = none := List.find?_eq_none.2 (fun y hy => by simpa using hL y hy)
  unfold codeOf
  rw [this]
  rfl
theorem numAt_even (L : List En) (z : Nat) : numAt L (z * 2) = (codeOf L (z : Int)).1 := by
  unfold numAt
  rw [if_pos (by omega), show z * 2 / 2 = z by omega]
theorem numAt_odd (L : List En) (z : Nat) : numAt L (z * 2 + 1) = (codeOf L (z : Int)).2 := by
  unfold numAt
  rw [if_neg (by omega), show (z * 2 + 1) / 2 = z by omega]

set_option maxRecDepth 20000 in
set_option maxHeartbeats 800000 in
theorem code_any (w : World) (lo hi t : Nat) (B V : List Int) (L : List En) (v : Int) (h : Tb w lo hi t B V L) (hL : ∀ e ∈ L, 0 ≤ e.1 ∧ e.1 ≤ 255) :
    Calls Tryd.prog 42 #[.pointer (some ⟨t, 0, none⟩), .int .i64 v] w (Coded w (codeOf L v)) := by
  obtain ⟨A, n, c, m, h⟩ := h
  by_cases h0 : v < 0
  · rw [codeOf_out (fun e he e' => by have := hL e he; omega)]
    clear h hL
    go_enter Tryd.func42, Tryd.ntmps42
    go_wp2
    go_ret3
    exact ⟨rfl, Below.refl _ _⟩
  by_cases h1 : 256 ≤ v
  · rw [codeOf_out (fun e he e' => by have := hL e he; omega)]
    clear h hL
    go_enter Tryd.func42, Tryd.ntmps42
    go_wp2
    go_ret3
    exact ⟨rfl, Below.refl _ _⟩
  obtain ⟨z, rfl⟩ := Int.eq_ofNat_of_zero_le (show 0 ≤ v by omega)
  have hz : z < 256 := by omega
  have c0 := (h.box.cell (17 + z * 2)).trans (tabC_num h.len (show z * 2 < 512 by omega))
  have c1 := (h.box.cell (17 + (z * 2 + 1))).trans (tabC_num h.len (show z * 2 + 1 < 512 by omega))
  rw [numAt_even] at c0
  rw [numAt_odd, ← Nat.add_assoc] at c1
  obtain ⟨x, hx⟩ : ∃ x, x = codeOf L (z : Int) := ⟨_, rfl⟩
  rw [← hx] at c0 c1 ⊢
  obtain ⟨b, s⟩ := x
  dsimp only at c0 c1
  have ht := h.box.lt
  have hne : t ≠ w.heap.size := by omega
  have hz63 : ∀ w, (zeroValue 116).run Tryd.prog w = .ok (.agg #[.int .i64 0, .int .i64 0]) w := fun w => by kernel_rfl
  clear h hL hx
  go_enter Tryd.func42, Tryd.ntmps42
  go_wp2_with fail
  go_quiet (fail)
  go_wp2
  go_ret3
  exact ⟨by simp, on_trans (on_alloc _ _) (below_drewN_refl _ _)⟩

/-- a table's specification is read -/
theorem load_tab {w : World} {t m : Nat} {B : List Int} {v : Value} {L : List En} (h : Box w t 119 (tabC B v L m)) (hB : B.length = 16) : (Instr.loadAt 42 (.pointer (some ⟨t, 0, none⟩))).run Tryd.prog w = .ok (specV B v) w := by
  refine run_loadAt_mid w t 0 42 (cellsI B ++ [v]) _ ?_ Tryd.underlying42 rfl (by rw [spec_size]; simp [cellsI_len, hB])
  intro j u hu
  have hj : j < (cellsI B ++ [v]).length := (List.getElem?_eq_some_iff.1 hu).1
  rw [Nat.zero_add, h.cell j]
  have e : (cellsI B ++ [v])[j]? = (specC B v)[j]? := by simp [specC]
  rw [← hu, e]
  rw [List.length_append, cellsI_len, hB] at hj
  by_cases h16 : j < 16
  · rw [tabC_bits hB h16, specC_at hB h16]
  · obtain rfl : j = 16 := by simp at hj; omega
    rw [tabC_vals hB, specC_last hB]

end Go.Proofs.YthfpdebpepbejaaDoor

namespace Go.Proofs.YthfpdebpepbejaaDoor
open Go.RowKit

/-- what New leaves -/
def Newed (w : World) (B V : List Int) (e : Ending) (w' : World) : Prop := Below w.heap.size w w' ∧
  ((¬ Valid B V ∧ e = .returned (.tuple #[.pointer none, .int .i64 4])) ∨ (Valid B V ∧ ∃ t, e = .returned (.tuple #[.pointer (some ⟨t, 0, none⟩), .int .i64 0]) ∧ Tb w' w.heap.size w'.heap.size t B V (codes B V)))

theorem TbAt.drew {w : World} {lo hi t : Nat} {B V : List Int} {L : List En} {A : Option Addr} {n c m : Nat} (h : TbAt w lo hi t B V L A n c m) : TbAt w.drew lo hi t B V L A n c m := h.kept ((Kept.refl (fun _ => False) w).drew) (fun _ _ _ h => h)
theorem TbAt.ne {w : World} {lo hi t : Nat} {B V : List Int} {L : List En} {A : Option Addr} {n c m : Nat} (h : TbAt w lo hi t B V L A n c m) : t ≠ m := by
  obtain ⟨es, k, hm⟩ := h.map.is
  have hb := h.box
  unfold Box at hb
  intro e
  rw [e, hm] at hb
  cases hb
theorem TbAt.ain2 {w : World} {lo hi t : Nat} {B V : List Int} {L : List En} {A : Option Addr} {n c m : Nat} (h : TbAt w lo hi t B V L A n c m) : ∀ b off, A = some ⟨b, off, none⟩ → b ≠ t ∧ b ≠ m := by
  intro b off e
  obtain ⟨cs, fr, hh⟩ := h.vals.typ b off e
  obtain ⟨es, k, hm⟩ := h.map.is
  have hb := h.box
  unfold Box at hb
  constructor
  · intro e; rw [e, hb] at hh; simp at hh
  · intro e; rw [e, hm] at hh; cases hh
/-- a code is written into the array -/
theorem TbAt.put1 {w : World} {lo hi t : Nat} {B V : List Int} {L : List En} {A : Option Addr} {n c m : Nat} (h : TbAt w lo hi t B V L A n c m) (z b s : Nat) (hz : z < 256) (hn : ∀ y ∈ L, y.1 ≠ (z : Int)) :
    ∀ w1, w1 = (w.setCell ⟨t, 17 + z * 2, none⟩ (.int .i64 (b : Int))).setCell ⟨t, 17 + z * 2 + 1, none⟩ (.int .i64 (s : Int)) →
    Box w1 t 119 (tabC B (.slice A n c) (L ++ [((z : Int), b, s)]) m) ∧ Mq w1 m L ∧ Kept (fun i => i = t) w w1 := by
  rintro w1 rfl
  have k1 : Kept (fun i => i = t) w ((w.setCell ⟨t, 17 + z * 2, none⟩ (.int .i64 (b : Int))).setCell ⟨t, 17 + z * 2 + 1, none⟩ (.int .i64 (s : Int))) :=
    ((Kept.refl (fun i => i = t) w).setCell (p := ⟨t, 17 + z * 2, none⟩) (fun _ => rfl) _).setCell (p := ⟨t, 17 + z * 2 + 1, none⟩) (fun _ => rfl) _
  have b1 := (h.box.put (17 + z * 2) (.int .i64 (b : Int))).put (17 + z * 2 + 1) (.int .i64 (s : Int))
  rw [tabC_put h.len z b s hz hn] at b1
  exact ⟨b1, h.map.block (k1.block m h.map.lt (fun e => h.ne e.symm)), k1⟩
/-- .. and into the map -/
theorem TbAt.put2 {w w1 w2 : World} {lo hi t : Nat} {B V : List Int} {L : List En} {A : Option Addr} {n c m : Nat} (h : TbAt w lo hi t B V L A n c m) {e : En}
    (b1 : Box w1 t 119 (tabC B (.slice A n c) (L ++ [e]) m)) (k1 : Kept (fun i => i = t) w w1) (m2 : Mq w2 m (L ++ [e])) (g2 : w1.grownBy w2 (some m)) :
    TbAt w2 lo hi t B V (L ++ [e]) A n c m ∧ Kept (fun i => i = t ∨ i = m) w w2 := by
  have k2 : Kept (fun i => i = m) w1 w2 := ⟨g2.os, g2.tape, g2.output, g2.size, fun i hi hne => g2.block i hi (fun e => hne (by cases e; rfl))⟩
  have k3 : Kept (fun i => i = t ∨ i = m) w w2 := (k1.mono (S' := fun i => i = t ∨ i = m) (fun _ _ e => Or.inl e)).trans k2 (fun _ _ e => Or.inr e)
  exact ⟨⟨k2.box b1 h.ne, h.vals.kept k3 (fun b off e => by have := h.ain2 b off e; omega), m2, h.tin, h.min, h.ain, h.len, h.few⟩, k3⟩
theorem Tb.more {w : World} {lo hi hi' t : Nat} {B V : List Int} {L : List En} (h : Tb w lo hi t B V L) (hh : hi ≤ hi') : Tb w lo hi' t B V L := by
  obtain ⟨A, n, c, m, h⟩ := h
  exact ⟨A, n, c, m, h.box, h.vals, h.map, ⟨h.tin.1, by have := h.tin.2; omega⟩, ⟨h.min.1, by have := h.min.2; omega⟩, fun b off e => ⟨(h.ain b off e).1, by have := (h.ain b off e).2; omega⟩, h.len, h.few⟩

/-- the head of a slice of numbers -/
theorem il_head {w : World} {A : Option Addr} {n c k : Nat} {xs : List Int} (h : Il w A n c xs) (hk : k ≤ n) : Il w A k c (xs.take k) := by
  refine ⟨by have := h.len; rw [List.length_take]; omega, by have := h.cap; omega, h.max, h.nil, h.typ, fun h0 => ?_⟩
  obtain ⟨b, off, e, hb, hc⟩ := h.at_ (by omega)
  refine ⟨b, off, e, hb, fun i hi => ?_⟩
  rw [hc i (by omega)]
  simp only [List.getD_eq_getElem?_getD]
  rw [List.getElem?_take_of_lt hi]
/-- what is left of a slice of numbers -/
theorem il_rest {w : World} {b off n c k : Nat} {xs : List Int} (h : Il w (some ⟨b, off, none⟩) n c xs) (hk : k ≤ n) : Il w (some ⟨b, if c = k then off else off + k, none⟩) (n - k) (c - k) (xs.drop k) := by
  refine ⟨by have := h.len; rw [List.length_drop]; omega, by have := h.cap; omega, by have := h.max; omega, (fun e => by cases e), (fun b2 off2 e => by cases e; exact h.typ _ _ rfl), fun h0 => ?_⟩
  obtain ⟨b', off', e, hb, hc⟩ := h.at_ (by omega)
  cases e
  have := h.cap
  refine ⟨b, _, rfl, hb, fun i hi => ?_⟩
  rw [if_neg (by omega), Nat.add_assoc, hc (k + i) (by omega)]
  simp only [List.getD_eq_getElem?_getD, List.getElem?_drop]

/-- how New stands: the codes cs are in the table, the next one is x of y bits -/
structure Newing (w : World) (lo hi t q : Nat) (B V : List Int) (A : Option Addr) (n c m : Nat) (cs : List (Nat × Nat)) (x y : Nat) (wr : World) : Prop where
  tab : TbAt wr lo hi t B V (ents V cs) A n c m
  nxt : Box wr q 116 #[.int .i64 (x : Int), .int .i64 (y : Int)]
  bel : Below lo w wr
  out : hi ≤ q
  lo_ : lo = w.heap.size
/-- what is left of the values -/
structure Resting (wr : World) (lo hi : Nat) (V : List Int) (S : Nat) (Ar : Option Addr) (nr cr : Nat) : Prop where
  row : Il wr Ar nr cr (V.drop S)
  ain : ∀ b off, Ar = some ⟨b, off, none⟩ → lo ≤ b ∧ b < hi
  some_ : ∃ b off, Ar = some ⟨b, off, none⟩
end Go.Proofs.YthfpdebpepbejaaDoor
