/-
  A plane of one's own whose samples are written over, beside planes that stay.
-/
import Derived.Test.YtadlaljohlpabaaPLen
namespace Go.Proofs.Ytadlaljohlpabaa
open Go.RowKit

theorem Ia.beside {w : World} {A : Option Addr} {n c : Nat} {xs : List Int} (h : Ia w A n c xs) {p : Addr} (hp : 0 < n → ∀ b off, A = some ⟨b, off, none⟩ → p.block ≠ b) (u : Value) : Ia (w.setCell p u) A n c xs :=
  ⟨h.len, h.cap, h.max, h.nil, fun h0 => by
    obtain ⟨b, off, e, hb, hc⟩ := h.at_ h0
    have k : Kept (fun i => i = p.block) w (w.setCell p u) := (Kept.refl (fun i => i = p.block) w).setCell (fun _ => rfl) u
    exact ⟨b, off, e, Nat.lt_of_lt_of_le hb k.size, fun i hi => (k.cell (p := ⟨b, off + i, none⟩) hb (fun e' => hp h0 b off e e'.symm)).trans (hc i hi)⟩⟩
/-- the first k samples have been written over -/
structure Inc (w wr : World) (L : List PlK) (g : Nat) (W H : Int) (A : Option Addr) (n c : Nat) (xs : List Int) (k : Nat) : Prop where
  kn : Kn w wr L
  box : Box wr g 24 #[.int .i64 W, .int .i64 H, .slice A n c]
  left : ∀ i, k ≤ i → i < n → ∃ b off, A = some ⟨b, off, none⟩ ∧ wr.cell? ⟨b, off + i, none⟩ = some (.int .i64 (xs.getD i 0)) ∧ wr.frozen? ⟨b, off + i, none⟩ = false
  apart : ∀ b off, A = some ⟨b, off, none⟩ → b ≠ g ∧ w.heap.size ≤ b ∧ ∀ p ∈ L, b ≠ p.g ∧ (0 < p.n → ∀ b' off', p.A = some ⟨b', off', none⟩ → b ≠ b')
section
variable {w wr : World} {L : List PlK} {g n c k : Nat} {W H : Int} {A : Option Addr} {xs : List Int}
theorem Inc.step {b off : Nat} (h : Inc w wr L g W H (some ⟨b, off, none⟩) n c xs k) (u : Value) : Inc w (wr.setCell ⟨b, off + k, none⟩ u) L g W H (some ⟨b, off, none⟩) n c xs (k + 1) := by
  obtain ⟨a1, a2, a3⟩ := h.apart b off rfl
  have kk : Kept (fun i => i = b) wr (wr.setCell ⟨b, off + k, none⟩ u) := (Kept.refl (fun i => i = b) wr).setCell (p := ⟨b, off + k, none⟩) (fun _ => rfl) u
  refine ⟨⟨fun p hp => ?_, h.kn.bel.trans (kk.below h.kn.bel.size (fun i hi e => by omega))⟩, h.box.beside (p := ⟨b, off + k, none⟩) (fun e => a1 e.symm) _, fun i hi hn => ?_, h.apart⟩
  · have hq : Pb wr p.g p.W p.H p.A p.n p.c p.xs := h.kn.all p hp
    exact ⟨hq.box.beside (p := ⟨b, off + k, none⟩) (fun e => (a3 p hp).1 e.symm) _, hq.sl.beside (p := ⟨b, off + k, none⟩) (fun h0 b' off' e => (a3 p hp).2 h0 b' off' e) _⟩
  · obtain ⟨b', off', e, h1, h2⟩ := h.left i (by omega) hn
    cases e
    refine ⟨b, off, rfl, ?_, ?_⟩
    · rw [← h1]
      exact World.cell?_setCell_other _ _ _ _ (by intro e; injection e; omega)
    · rw [← h2]
      exact World.frozen?_setCell _ _ _ _
/-- at its start: the plane lies in memory that came behind the others' -/
theorem Inc.start {B : Nat} {wa wb : World} (hk : Kn w wb L) (hx : Box wb g 24 #[.int .i64 W, .int .i64 H, .slice A n c]) (ho : Os wb B A n c xs) (hB : w.heap.size ≤ B) (hw : Kn w wa L) (he : wa.heap.size = B) : Inc w wb L g W H A n c xs 0 := by
  refine ⟨hk, hx, fun i _ hi => ?_, fun b off e => ?_⟩
  · obtain ⟨b, off, e, _, hc⟩ := ho.il.at_ (by omega)
    exact ⟨b, off, e, hc i hi, (ho.new b off e).2.2 i⟩
  · obtain ⟨n1, n2, n3⟩ := ho.new b off e
    have ht := ho.il.typ b off e
    refine ⟨fun eg => ?_, Nat.le_trans hB n1, fun p hp => ?_⟩
    · obtain ⟨cs, fr, hh⟩ := ht
      rw [eg] at hh
      unfold Box at hx
      rw [hx] at hh
      simp at hh
    · have hq : Pb wa p.g p.W p.H p.A p.n p.c p.xs := hw.all p hp
      refine ⟨fun e1 => by have := hq.box.lt; omega, fun h0 b' off' e' e1 => ?_⟩
      obtain ⟨b2, off2, e2, hb2, _⟩ := hq.sl.at_ h0
      rw [e'] at e2
      cases e2
      omega
end
end Go.Proofs.Ytadlaljohlpabaa
