/-
  The reference's sum, term by term: mathematics; what lies in memory while it is worked out.
-/
import Derived.Test.YtjkmbiieagmjkaaDoorMerge
namespace Go.Proofs.YtjkmbiieagmjkaaDoor
open Go.RowKit

/-- a term of the sum -/
def trm (f : List Int) (u v p q i k : Nat) : Int := hv p u i * hv q v k * fo f (2 * p + q) (8 * i + k)
/-- the first terms of each loop -/
def kT (f : List Int) (u v p q i k : Nat) : Int := su (fun k => trm f u v p q i k) k
def iT (f : List Int) (u v p q i : Nat) : Int := su (fun i => kT f u v p q i 4) i
def qT (f : List Int) (u v p q : Nat) : Int := su (fun q => iT f u v p q 4) q
def pT (f : List Int) (u v p : Nat) : Int := su (fun p => qT f u v p 2) p
theorem pT_all (f : List Int) (u v : Nat) : pT f u v 2 = mrgT f u v := rfl
theorem kT_more (f : List Int) (u v p q i k : Nat) : kT f u v p q i (k + 1) = kT f u v p q i k + trm f u v p q i k := rfl
theorem iT_more (f : List Int) (u v p q i : Nat) : iT f u v p q (i + 1) = iT f u v p q i + kT f u v p q i 4 := rfl
theorem qT_more (f : List Int) (u v p q : Nat) : qT f u v p (q + 1) = qT f u v p q + iT f u v p q 4 := rfl
theorem pT_more (f : List Int) (u v p : Nat) : pT f u v (p + 1) = pT f u v p + qT f u v p 2 := rfl
theorem prodHH {x y : Int} (x0 : -2896 ≤ x) (x1 : x ≤ 2896) (y0 : -2896 ≤ y) (y1 : y ≤ 2896) : -8386816 ≤ x * y ∧ x * y ≤ 8386816 := by
  have a := mul_abs (c := x) y0 y1
  have h : (x.natAbs : Int) * 2896 ≤ 2896 * 2896 := Int.mul_le_mul_of_nonneg_right (by omega) (by omega)
  omega
theorem prod3_small {v z : Int} (v0 : -8386816 ≤ v) (v1 : v ≤ 8386816) (z0 : -1048576 ≤ z) (z1 : z ≤ 1048576) : -8794213974016 ≤ v * z ∧ v * z ≤ 8794213974016 := by
  have a := mul_abs (c := v) z0 z1
  have h : (v.natAbs : Int) * 1048576 ≤ 8386816 * 1048576 := Int.mul_le_mul_of_nonneg_right (by omega) (by omega)
  omega
section
variable {f : List Int} (wf : W4 f (-1048576) 1048576) {u v p q i k : Nat}
include wf
theorem trm_small (hu : u < 8) (hv' : v < 8) (hp : p < 2) (hq : q < 2) (hi : i < 4) (hk : k < 4) : -8794213974016 ≤ trm f u v p q i k ∧ trm f u v p q i k ≤ 8794213974016 := by
  have a1 := hv_small p hp u hu i hi
  have a2 := hv_small q hq v hv' k hk
  have a3 := wf (2 * p + q) (by omega) (8 * i + k) (by omega)
  have b1 := prodHH a1.1 a1.2 a2.1 a2.2
  exact prod3_small b1.1 b1.2 a3.1 a3.2
theorem kT_small (hu : u < 8) (hv' : v < 8) (hp : p < 2) (hq : q < 2) (hi : i < 4) (hk : k ≤ 4) : -35176855896064 ≤ kT f u v p q i k ∧ kT f u v p q i k ≤ 35176855896064 := by
  have := su_bound (f := fun k => trm f u v p q i k) (V := 8794213974016) (n := k) (fun j hj => trm_small wf hu hv' hp hq hi (by omega))
  unfold kT
  omega
theorem iT_small (hu : u < 8) (hv' : v < 8) (hp : p < 2) (hq : q < 2) (hi : i ≤ 4) : -140707423584256 ≤ iT f u v p q i ∧ iT f u v p q i ≤ 140707423584256 := by
  have := su_bound (f := fun i => kT f u v p q i 4) (V := 35176855896064) (n := i) (fun j hj => kT_small wf hu hv' hp hq (by omega) (by omega))
  unfold iT
  omega
theorem qT_small (hu : u < 8) (hv' : v < 8) (hp : p < 2) (hq : q ≤ 2) : -281414847168512 ≤ qT f u v p q ∧ qT f u v p q ≤ 281414847168512 := by
  have := su_bound (f := fun q => iT f u v p q 4) (V := 140707423584256) (n := q) (fun j hj => iT_small wf hu hv' hp (by omega) (by omega))
  unfold qT
  omega
theorem pT_small (hu : u < 8) (hv' : v < 8) (hp : p ≤ 2) : -562829694337024 ≤ pT f u v p ∧ pT f u v p ≤ 562829694337024 := by
  have := su_bound (f := fun p => qT f u v p 2) (V := 281414847168512) (n := p) (fun j hj => qT_small wf hu hv' (by omega) (by omega))
  unfold pT
  omega
end
theorem il_cell {w : World} {a off n c : Nat} {xs : List Int} (h : Il w (some ⟨a, off, none⟩) n c xs) {j : Nat} (hj : j < n) : w.cell? ⟨a, off + j, none⟩ = some (.int .i64 (xs.getD j 0)) := by
  obtain ⟨a', off', e, _, hc⟩ := h.at_ (by omega)
  cases e
  exact hc j hj
theorem Frs.cellF {w : World} {g : Nat} {f : List Int} (h : Frs w g f) {m j : Nat} (hm : m < 4) (hj : j < 64) : w.cell? ⟨g, m * 64 + j, none⟩ = some (.int .i64 (fo f m j)) := by
  rw [h.cell (by omega)]
  unfold fo
  rw [Nat.mul_comm]
theorem mrgL_put {f : List Int} {u v : Nat} (hu : u < 8) (hv' : v < 8) : (mix (8 * u + v) (mrgL f) zeros64).set (8 * u + v) (rnd (mrgT f u v) 33554432) = mix (8 * u + (v + 1)) (mrgL f) zeros64 := by
  rw [← mrgL_at f hu hv', mix_more (mrgL_len f) zeros_len (by omega)]
  rfl
/-- the four blocks, the answer's, the one that is worked on, and the half matrices -/
structure Mg (w wr : World) (f o : List Int) (A : Option Addr) (n : Nat) : Prop where
  know : Know w wr [.blk (w.heap.size + 1 + 1) o, .blk (w.heap.size + 1) zeros64, .four w.heap.size f]
  il : Il wr A 64 n hz
  far : ∀ b off, A = some ⟨b, off, none⟩ → w.heap.size + 1 + 1 < b
section
variable {w wr w' : World} {f o : List Int} {A : Option Addr} {n : Nat}
theorem Mg.on (h : Mg w wr f o A n) (k : Below wr.heap.size wr w') : Mg w w' f o A n := ⟨h.know.on k, h.il.on k, h.far⟩
theorem Mg.put (h : Mg w wr f o A n) (hT : Tab w) (k : Nat) (z : Int) : Mg w (wr.setCell ⟨w.heap.size + 1 + 1, k, none⟩ (.int .i64 z)) f (o.set k z) A n := by
  have k1 := (Kept.refl (fun i => i = w.heap.size + 1 + 1) wr).setCell (p := ⟨w.heap.size + 1 + 1, k, none⟩) (fun _ => rfl) (.int .i64 z)
  refine ⟨h.know.turn (p' := .blk (w.heap.size + 1 + 1) (o.set k z)) hT (by show w.heap.size ≤ w.heap.size + 1 + 1; omega) (fun q hq => ?_) k1 (h.know.b0.put k z), h.il.kept k1 (fun b off e hb => by have := h.far b off e; omega), h.far⟩
  rcases List.mem_cons.1 hq with rfl | hq
  · show w.heap.size + 1 ≠ w.heap.size + 1 + 1; omega
  · rw [List.mem_singleton] at hq
    subst hq
    show w.heap.size ≠ w.heap.size + 1 + 1; omega
end
end Go.Proofs.YtjkmbiieagmjkaaDoor
