/-
  The steps, read.
-/
import Derived.Test.YtcgajomngcgchaaFrame
namespace Go.Proofs.Ytcgajomngcgchaa
open Go.ChangeShapes Go.WideShapes Go.ChangeAt Go.RowKit

/-- a step: whether it gives, and its extent -/
abbrev S3 := Bool × Int × Int
def W3 (s : S3) : Prop := I64 s.2.1 ∧ I64 s.2.2
/-- a slice that reads as steps -/
structure Dl (w : World) (A : Option Addr) (n c : Nat) (l : List S3) : Prop where
  len : l.length = n
  cap : n ≤ c
  max : c ≤ maxLen
  at_ : ∀ i, i < n → ∃ b off, A = some ⟨b, off, none⟩ ∧ b < w.heap.size ∧ w.cell? ⟨b, off + i * 3, none⟩ = some (.bool (l.getD i (false, 0, 0)).1) ∧ w.cell? ⟨b, off + i * 3 + 1, none⟩ = some (.int .i64 (l.getD i (false, 0, 0)).2.1) ∧ w.cell? ⟨b, off + i * 3 + 2, none⟩ = some (.int .i64 (l.getD i (false, 0, 0)).2.2)
theorem Dl.on {w w' : World} {A : Option Addr} {n c : Nat} {l : List S3} (h : Dl w A n c l) (k : Below w.heap.size w w') : Dl w' A n c l := by
  refine ⟨h.len, h.cap, h.max, fun i hi => ?_⟩
  obtain ⟨b, off, e, hb, h0, h1, h2⟩ := h.at_ i hi
  have hc : ∀ j, w'.cell? ⟨b, j, none⟩ = w.cell? ⟨b, j, none⟩ := fun j => World.cell?_of_block (w := w) (k.block b hb)
  exact ⟨b, off, e, Nat.lt_of_lt_of_le hb k.size, by rw [hc, h0], by rw [hc, h1], by rw [hc, h2]⟩
theorem cellsAt44 : Try.prog.cellsOf 44 = 3 := by kernel_rfl
theorem cellsAt4 : Try.prog.cellsOf 4 = 1 := by kernel_rfl
theorem dl_of_trod {H : Type} {enc : TypeId × Value → H} {W : World} {a : Option Addr} {len cap : Nat} {d : DataW H} {p : List MemPlace} {b : Nat} {sp : Bool}
    (h : DataW.Trod enc Try.prog W b (fun _ => true) sp 37 (.slice a len cap) d p) : ∃ l, Dl W a len cap l ∧ ∀ e ∈ l, W3 e := by
  obtain ⟨fuel, hf⟩ := h
  rcases Go.Deep.open_slice Try.underlying37 hf with ⟨hcs, _⟩ | ⟨x, len', cap', m, n, D, Pl, hcs, _, hl, hcap, hm, _, hc⟩
  · simp [Value.cells] at hcs
    obtain ⟨rfl, rfl, rfl⟩ := hcs
    exact ⟨[], ⟨rfl, Nat.le_refl _, by simp [maxLen], fun i hi => by omega⟩, fun e he => by cases he⟩
  · simp [Value.cells] at hcs
    obtain ⟨rfl, rfl, rfl⟩ := hcs
    simp at hm
    subst hm
    have each : ∀ i, i < m → ∃ q : S3, (W.cell? (x.add (i * 3)) = some (.bool q.1) ∧ W.cell? ((x.add (i * 3)).add 1) = some (.int .i64 q.2.1) ∧ W.cell? ((x.add (i * 3)).add 2) = some (.int .i64 q.2.2)) ∧ W3 q := by
      intro i hi
      obtain ⟨cs', h1, h2⟩ := hc i hi
      rw [cellsAt44] at h1
      obtain ⟨_, hlen, hcell⟩ := World.cells?_some h1
      obtain ⟨xs, k, _, _, _, hxl, hg⟩ := DataW.trod_struct Try.underlying44 h2
      match xs, hxl, cs', hlen with
      | [y0, y1], _, [v0, v1, v2], _ =>
        have g0 := hg 0 _ rfl
        have g1 := hg 1 _ rfl
        simp [cellsAt4, cellsAt42] at g0 g1
        obtain ⟨z0, e0, _⟩ := DataW.trod_bool Try.underlying4 g0
        obtain ⟨ys, k2, _, _, _, hyl, hg2⟩ := DataW.trod_struct Try.underlying42 g1
        match ys, hyl with
        | [u0, u1], _ =>
          have k0 := hg2 0 _ rfl
          have k1 := hg2 1 _ rfl
          simp [cellsAt3] at k0 k1
          obtain ⟨z1, e1, _, w1⟩ := DataW.trod_int Try.underlying3 k0
          obtain ⟨z2, e2, _, w2⟩ := DataW.trod_int Try.underlying3 k1
          simp at e0 e1 e2
          have c0 := hcell 0 (by omega)
          have c1 := hcell 1 (by omega)
          have c2 := hcell 2 (by omega)
          simp at c0 c1 c2
          subst e0 e1 e2
          refine ⟨(z0, z1, z2), ⟨?_, c1, c2⟩, wf_i64 w1, wf_i64 w2⟩
          simpa [Addr.add] using c0
    obtain ⟨q, hq⟩ := Go.Deep.choose_lt each
    have hg : ∀ i, i < len → ((List.range len).map q).getD i (false, 0, 0) = q i := fun i hi => by simp [List.getD_eq_getElem?_getD, hi]
    refine ⟨(List.range len).map q, ⟨by simp, hl, hcap, fun i hi => ?_⟩, fun e he => ?_⟩
    · obtain ⟨b, off, spot⟩ := x
      have h1 := (hq 0 (by omega)).1.1
      have hs : spot = none := by simpa [Addr.add] using World.cell?_spot h1
      subst hs
      have h2 := (hq i (by omega)).1
      rw [plain_add, plain_add, plain_add] at h2
      rw [hg i hi]
      exact ⟨b, off, rfl, World.block_lt_of_cell? W ⟨b, off + i * 3, none⟩ h2.1, h2⟩
    · obtain ⟨i, hi, rfl⟩ := List.mem_map.1 he
      have := List.mem_range.1 hi
      exact (hq i (by omega)).2
end Go.Proofs.Ytcgajomngcgchaa
