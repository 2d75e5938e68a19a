/-
  HuffCodes: what the walk holds on to.
-/
import Derived.Test.YtmaffonnekgekaaRefCodes
import Derived.Test.YtmaffonnekgekaaFind
import Derived.Test.YtmaffonnekgekaaArrEq
namespace Go.Proofs.Ytmaffonnekgekaa
open Go.RowKit

/-- a slice of numbers that may be written, whatever they are -/
structure Wn (w : World) (lo hi : Nat) (A : Option Addr) (n : Nat) : Prop where
  cells : ∀ b off, A = some ⟨b, off, none⟩ → ∀ i, i < n → (∃ z, w.cell? ⟨b, off + i, none⟩ = some (.int .i64 z)) ∧ w.frozen? ⟨b, off + i, none⟩ = false
  ain : ∀ b off, A = some ⟨b, off, none⟩ → lo ≤ b ∧ b < hi
  some_ : 0 < n → ∃ b off, A = some ⟨b, off, none⟩
theorem wn_of_il {w : World} {lo : Nat} {A : Option Addr} {n c : Nat} {V : List Int} (h : Il w A n c V) (hf : ∀ b off, A = some ⟨b, off, none⟩ → lo ≤ b ∧ ∀ i, w.frozen? ⟨b, off + i, none⟩ = false) : Wn w lo w.heap.size A n := by
  refine ⟨fun b off e i hi => ⟨?_, (hf b off e).2 i⟩, fun b off e => ⟨(hf b off e).1, ?_⟩, fun h0 => ?_⟩
  · obtain ⟨b', off', e', _, hc⟩ := h.at_ (by omega)
    rw [e] at e'
    cases e'
    exact ⟨_, hc i hi⟩
  · obtain ⟨cs, fr, hh⟩ := h.typ b off e
    exact (Array.getElem?_eq_some_iff.1 hh).1
  · obtain ⟨b, off, e, _⟩ := h.at_ h0
    exact ⟨b, off, e⟩
theorem Wn.on {w w' : World} {lo hi : Nat} {A : Option Addr} {n : Nat} (h : Wn w lo hi A n) (k : Below w.heap.size w w') : Wn w' lo hi A n := by
  refine ⟨fun b off e i hi => ?_, h.ain, h.some_⟩
  obtain ⟨⟨z, hz⟩, hf⟩ := h.cells b off e i hi
  have hb := World.block_lt_of_cell? w ⟨b, off + i, none⟩ hz
  exact ⟨⟨z, (k.cell (p := ⟨b, off + i, none⟩) hb).trans hz⟩, ((Kept.of_below k (fun _ => False)).frozen hb (fun h => h)).trans hf⟩
theorem Wn.put {w : World} {lo hi b off i n : Nat} (h : Wn w lo hi (some ⟨b, off, none⟩) n) (z : Int) : Wn (w.setCell ⟨b, off + i, none⟩ (.int .i64 z)) lo hi (some ⟨b, off, none⟩) n := by
  refine ⟨fun b' off' e j hj => ?_, h.ain, h.some_⟩
  cases e
  obtain ⟨⟨y, hy⟩, hf⟩ := h.cells b off rfl j hj
  refine ⟨?_, by rw [World.frozen?_setCell]; exact hf⟩
  by_cases e : off + i = off + j
  · rw [← e] at hy ⊢
    exact ⟨z, World.cell?_setCell_same _ _ _ hy⟩
  · exact ⟨y, (World.cell?_setCell_other _ _ _ _ (fun e' => e (congrArg Addr.off e'))).trans hy⟩

theorem Wn.kept {w w' : World} {lo hi : Nat} {A : Option Addr} {n : Nat} (h : Wn w lo hi A n) {S : Nat → Prop} (k : Kept S w w') (hS : ∀ b, lo ≤ b → b < hi → ¬ S b) : Wn w' lo hi A n := by
  refine ⟨fun b off e i hi => ?_, h.ain, h.some_⟩
  obtain ⟨⟨z, hz⟩, hf⟩ := h.cells b off e i hi
  have hb := World.block_lt_of_cell? w ⟨b, off + i, none⟩ hz
  have hs := hS b (h.ain b off e).1 (h.ain b off e).2
  exact ⟨⟨z, (k.cell (p := ⟨b, off + i, none⟩) hb hs).trans hz⟩, (k.frozen hb hs).trans hf⟩
theorem kept_put (w : World) (b o : Nat) (u : Value) : Kept (fun i => i = b) w (w.setCell ⟨b, o, none⟩ u) := (Kept.refl (fun i => i = b) w).setCell (p := ⟨b, o, none⟩) (fun _ => rfl) u
theorem Ia.kept {w w' : World} {S : Nat → Prop} {A : Option Addr} {n c : Nat} {xs : List Int} (h : Ia w A n c xs) (k : Kept S w w') {top : Nat} (ht : ∀ b off, A = some ⟨b, off, none⟩ → 0 < n → b < top) (hS : ∀ b, b < top → ¬ S b) : Ia w' A n c xs :=
  ⟨h.len, h.cap, h.max, h.nil, fun h0 => by
    obtain ⟨b, off, e, hb, hc⟩ := h.at_ h0
    exact ⟨b, off, e, Nat.lt_of_lt_of_le hb k.size, fun i hi => (k.cell (p := ⟨b, off + i, none⟩) hb (hS b (ht b off e h0))).trans (hc i hi)⟩⟩

/-- the law's specification, and the one of its own -/
structure Held1 (w wr : World) (g p lo2 hi2 : Nat) (B V : List Int) (A : Option Addr) (n c : Nat) (A2 : Option Addr) (c2 : Nat) : Prop where
  box : Box wr g 26 (specC B (.slice A n c))
  vals : Ia wr A n c V
  bel : Below w.heap.size w wr
  len : B.length = 16
  px : Box wr p 26 (specC B (.slice A2 n c2))
  xw : Wn wr lo2 hi2 A2 n
  ord : g = w.heap.size ∧ g < lo2 ∧ hi2 ≤ p ∧ lo2 ≤ p
  arg : ∀ b off, A = some ⟨b, off, none⟩ → 0 < n → b < w.heap.size
theorem Held1.on {w wr w' : World} {g p lo2 hi2 : Nat} {B V : List Int} {A : Option Addr} {n c : Nat} {A2 : Option Addr} {c2 : Nat} (h : Held1 w wr g p lo2 hi2 B V A n c A2 c2) (k : Below wr.heap.size wr w') : Held1 w w' g p lo2 hi2 B V A n c A2 c2 :=
  ⟨h.box.on k, h.vals.on k, on_trans h.bel k, h.len, h.px.on k, h.xw.on k, h.ord, h.arg⟩
theorem Held1.boxed {w wr : World} {g p lo2 hi2 : Nat} {B V : List Int} {A : Option Addr} {n c : Nat} {A2 : Option Addr} {c2 : Nat} (h : Held1 w wr g p lo2 hi2 B V A n c A2 c2) : Boxed w wr g B V A n c := ⟨h.box, h.vals, h.bel, h.len⟩
/-- one of its own numbers is written -/
theorem Held1.put {w wr : World} {g p lo2 hi2 : Nat} {B V : List Int} {A : Option Addr} {n c : Nat} {b off c2 : Nat} (h : Held1 w wr g p lo2 hi2 B V A n c (some ⟨b, off, none⟩) c2) (i : Nat) (z : Int) :
    Held1 w (wr.setCell ⟨b, off + i, none⟩ (.int .i64 z)) g p lo2 hi2 B V A n c (some ⟨b, off, none⟩) c2 ∧ Kept (fun j => j = b) wr (wr.setCell ⟨b, off + i, none⟩ (.int .i64 z)) ∧ lo2 ≤ b ∧ b < hi2 := by
  have k := kept_put wr b (off + i) (.int .i64 z)
  have hb := h.xw.ain b off rfl
  obtain ⟨o1, o2, o3, o4⟩ := h.ord
  refine ⟨⟨k.box h.box (by omega), h.vals.kept k h.arg (fun b' hb' => by omega), h.bel.trans (k.below (by have := h.bel.size; omega) (fun i hi e => by omega)), h.len, k.box h.px (by omega), h.xw.put z, h.ord, h.arg⟩, k, hb⟩
/-- a store into new memory -/
theorem Held1.far {w wr w' : World} {g p lo2 hi2 : Nat} {B V : List Int} {A : Option Addr} {n c : Nat} {A2 : Option Addr} {c2 : Nat} (h : Held1 w wr g p lo2 hi2 B V A n c A2 c2) {S : Nat → Prop} (k : Kept S wr w') (hS : ∀ b, b ≤ p → ¬ S b) : Held1 w w' g p lo2 hi2 B V A n c A2 c2 := by
  obtain ⟨o1, o2, o3, o4⟩ := h.ord
  have hw : Wn w' lo2 hi2 A2 n := by
    refine ⟨fun b off e i hi => ?_, h.xw.ain, h.xw.some_⟩
    obtain ⟨⟨z, hz⟩, hf⟩ := h.xw.cells b off e i hi
    have hb := World.block_lt_of_cell? wr ⟨b, off + i, none⟩ hz
    have := h.xw.ain b off e
    exact ⟨⟨z, (k.cell (p := ⟨b, off + i, none⟩) hb (hS b (by omega))).trans hz⟩, (k.frozen hb (hS b (by omega))).trans hf⟩
  refine ⟨k.box h.box (hS _ ?_), h.vals.kept k h.arg (fun b' hb' => hS _ ?_), h.bel.trans (k.below (by have := h.bel.size; omega) (fun i hi => hS _ (by omega))), h.len, k.box h.px (hS _ (Nat.le_refl _)), hw, h.ord, h.arg⟩
  all_goals
    have h1 := h.xw
    omega

/-- the table and the reference's list -/
structure Held2 (wr : World) (lo hi t : Nat) (B V : List Int) (Al : Option Addr) (nl tlo thi : Nat) : Prop where
  tab : Tb wr lo hi t B V (codes B V)
  te : Te wr Al nl (codes B V)
  tin : ∀ b off, Al = some ⟨b, off, none⟩ → tlo ≤ b ∧ b < thi
  few : nl ≤ 256
  top : hi ≤ thi ∧ thi ≤ wr.heap.size
theorem Held2.on {wr w' : World} {lo hi t : Nat} {B V : List Int} {Al : Option Addr} {nl tlo thi : Nat} (h : Held2 wr lo hi t B V Al nl tlo thi) (k : Below wr.heap.size wr w') : Held2 w' lo hi t B V Al nl tlo thi := ⟨h.tab.on k, h.te.on k, h.tin, h.few, h.top.1, Nat.le_trans h.top.2 k.size⟩
theorem Held2.kept {wr w' : World} {lo hi t : Nat} {B V : List Int} {Al : Option Addr} {nl tlo thi : Nat} (h : Held2 wr lo hi t B V Al nl tlo thi) {S : Nat → Prop} (k : Kept S wr w') (hS : ∀ b, (lo ≤ b ∧ b < hi) ∨ (tlo ≤ b ∧ b < thi) → ¬ S b) : Held2 w' lo hi t B V Al nl tlo thi := by
  refine ⟨h.tab.kept k (fun b h1 h2 => hS b (.inl ⟨h1, h2⟩)), ⟨h.te.len, fun h0 => ?_⟩, h.tin, h.few, h.top.1, Nat.le_trans h.top.2 k.size⟩
  obtain ⟨b, off, e, hb, hc⟩ := h.te.at_ h0
  have hs := hS b (.inr (h.tin b off e))
  exact ⟨b, off, e, Nat.lt_of_lt_of_le hb k.size, fun i en he => ⟨(k.cell (p := ⟨b, off + i * 3, none⟩) hb hs).trans (hc i en he).1, (k.cell (p := ⟨b, off + i * 3 + 1, none⟩) hb hs).trans (hc i en he).2.1, (k.cell (p := ⟨b, off + i * 3 + 2, none⟩) hb hs).trans (hc i en he).2.2⟩⟩

/-- the values that the table tells: those from k on are as they were told -/
structure Sp (wr : World) (r slo : Nat) (B V : List Int) (A7 : Option Addr) (n c7 k : Nat) : Prop where
  box : Box wr r 26 (specC B (.slice A7 n c7))
  cells : ∀ b off, A7 = some ⟨b, off, none⟩ → (∀ j, k ≤ j → j < n → wr.cell? ⟨b, off + j, none⟩ = some (.int .i64 (V.getD j 0))) ∧ (∀ j, wr.frozen? ⟨b, off + j, none⟩ = false)
  ain : ∀ b off, A7 = some ⟨b, off, none⟩ → slo ≤ b ∧ b < r
  some_ : 0 < n → ∃ b off, A7 = some ⟨b, off, none⟩
theorem Sp.put {wr : World} {r slo : Nat} {B V : List Int} {b off n c7 k : Nat} (h : Sp wr r slo B V (some ⟨b, off, none⟩) n c7 k) (z : Int) :
    Sp (wr.setCell ⟨b, off + k, none⟩ (.int .i64 z)) r slo B V (some ⟨b, off, none⟩) n c7 (k + 1) := by
  have hb := h.ain b off rfl
  refine ⟨(kept_put wr b (off + k) (.int .i64 z)).box h.box (by omega), fun b' off' e => ?_, h.ain, h.some_⟩
  cases e
  obtain ⟨h1, h2⟩ := h.cells b off rfl
  refine ⟨fun j hj hn => ?_, fun j => by rw [World.frozen?_setCell]; exact h2 j⟩
  exact (World.cell?_setCell_other _ _ _ _ (fun e' => by have := congrArg Addr.off e'; dsimp only at this; omega)).trans (h1 j (by omega) hn)
theorem Sp.on {wr w' : World} {r slo : Nat} {B V : List Int} {A7 : Option Addr} {n c7 k : Nat} (h : Sp wr r slo B V A7 n c7 k) (bel : Below wr.heap.size wr w') : Sp w' r slo B V A7 n c7 k := by
  have hr := h.box.lt
  refine ⟨h.box.on bel, fun b off e => ?_, h.ain, h.some_⟩
  obtain ⟨h1, h2⟩ := h.cells b off e
  have hb := h.ain b off e
  exact ⟨fun j hj hn => (bel.cell (p := ⟨b, off + j, none⟩) (by show b < _; omega)).trans (h1 j hj hn), fun j => ((Kept.of_below bel (fun _ => False)).frozen (by omega) (fun h => h)).trans (h2 j)⟩

theorem sp_made {w8 w9 : World} {r slo : Nat} {B V : List Int} {A7 : Option Addr} {n c7 : Nat} (hr : r = w8.heap.size) (hi : Il w8 A7 n c7 V) (hf : ∀ b off, A7 = some ⟨b, off, none⟩ → slo ≤ b ∧ ∀ i, w8.frozen? ⟨b, off + i, none⟩ = false)
    (b9 : Box w9 r 26 (specC B (.slice A7 n c7))) (k9 : Kept (fun i => i = r) w8 w9) : Sp w9 r slo B V A7 n c7 0 := by
  refine ⟨b9, fun b off e => ?_, fun b off e => ⟨(hf b off e).1, ?_⟩, fun h0 => ?_⟩
  · obtain ⟨cs, fr, hh⟩ := hi.typ b off e
    have hb : b < w8.heap.size := (Array.getElem?_eq_some_iff.1 hh).1
    refine ⟨fun j _ hn => ?_, fun j => (k9.frozen hb (by omega)).trans ((hf b off e).2 j)⟩
    obtain ⟨b', off', e', _, hc⟩ := hi.at_ (by omega)
    rw [e] at e'
    cases e'
    exact (k9.cell (p := ⟨b, off + j, none⟩) hb (by show ¬ b = r; omega)).trans (hc j hn)
  · obtain ⟨cs, fr, hh⟩ := hi.typ b off e
    have hb : b < w8.heap.size := (Array.getElem?_eq_some_iff.1 hh).1
    omega
  · obtain ⟨b, off, e, _⟩ := hi.at_ h0
    exact ⟨b, off, e⟩
/-- what the law holds behind its first two statements -/
theorem held1_made {w w1 w2 w3 : World} {g p : Nat} {B V : List Int} {A : Option Addr} {n c : Nat} {A2 : Option Addr} {c2 : Nat} (hg : g = w.heap.size) (hs : w1.heap.size = w.heap.size + 1) (harg : ∀ b off, A = some ⟨b, off, none⟩ → 0 < n → b < w.heap.size)
    (hx : Boxed w w2 g B V A n c) (hi : Il w2 A2 n c2 V) (hf : ∀ b off, A2 = some ⟨b, off, none⟩ → w1.heap.size ≤ b ∧ ∀ i, w2.frozen? ⟨b, off + i, none⟩ = false) (bel : Below w1.heap.size w1 w2) (hp : p = w2.heap.size)
    (b3 : Box w3 p 26 (specC B (.slice A2 n c2))) (k3 : Kept (fun i => i = p) w2 w3) : Held1 w w3 g p w1.heap.size p B V A n c A2 c2 ∧ Il w3 A2 n c2 V := by
  have hsz := bel.size
  have hw := wn_of_il hi hf
  rw [← hp] at hw
  have hpl : p ≤ w3.heap.size := by have := k3.size; omega
  refine ⟨⟨k3.box hx.box (by omega), hx.vals.kept k3 harg (fun b hb => by omega), hx.bel.trans (k3.below (by have := hx.bel.size; omega) (fun i hi e => by omega)), hx.len, b3, hw.kept k3 (fun b h1 h2 => by omega), ⟨hg, by omega, Nat.le_refl _, by omega⟩, harg⟩, hi.kept k3 (fun b off e => ?_)⟩
  have := (hw.ain b off e).2
  omega
end Go.Proofs.Ytmaffonnekgekaa
