/-
  Tally: the contract of the closure that counts.
-/
import Derived.Test.YthfpdebpepbejaaDoorCopiedC
namespace Go.Proofs.YthfpdebpepbejaaDoor
open Go.RowKit

/-- both counts, and the array that the closure has -/
structure Cnts (w : World) (cb p q : Nat) (P Q : List Int) : Prop where
  box : Box w cb 71 #[.slice (some ⟨p, 0, none⟩) 256 256, .slice (some ⟨q, 0, none⟩) 256 256]
  bp : Box w p 3 (cellsI P).toArray
  bq : Box w q 3 (cellsI Q).toArray
  lp : P.length = 256
  lq : Q.length = 256
  ne : p ≠ q
/-- one more -/
def bump (P : List Int) (v : Nat) : List Int := P.set v (wrap64 (P.getD v 0 + 1))
section
variable {w w' : World} {cb p q : Nat} {P Q : List Int}
theorem Cnts.on (h : Cnts w cb p q P Q) (k : Below w.heap.size w w') : Cnts w' cb p q P Q := ⟨h.box.on k, h.bp.on k, h.bq.on k, h.lp, h.lq, h.ne⟩
theorem Cnts.drewN (h : Cnts w cb p q P Q) (n : Nat) : Cnts (w.drewN n) cb p q P Q := ⟨h.box.drewN n, h.bp.drewN n, h.bq.drewN n, h.lp, h.lq, h.ne⟩
theorem Cnts.putp (h : Cnts w cb p q P Q) (v : Nat) : Cnts (w.setCell ⟨p, v, none⟩ (.int .i64 (wrap64 (P.getD v 0 + 1)))) cb p q (bump P v) Q := by
  have hne : cb ≠ p := h.box.apart h.bp (by decide)
  have hb := h.bp.put v (.int .i64 (wrap64 (P.getD v 0 + 1)))
  rw [put_cellsI] at hb
  exact ⟨h.box.beside (p := ⟨p, v, none⟩) hne _, hb, h.bq.beside (p := ⟨p, v, none⟩) h.ne.symm _, by unfold bump; rw [List.length_set, h.lp], h.lq, h.ne⟩
theorem Cnts.putq (h : Cnts w cb p q P Q) (v : Nat) : Cnts (w.setCell ⟨q, v, none⟩ (.int .i64 (wrap64 (Q.getD v 0 + 1)))) cb p q P (bump Q v) := by
  have hne : cb ≠ q := h.box.apart h.bq (by decide)
  have hb := h.bq.put v (.int .i64 (wrap64 (Q.getD v 0 + 1)))
  rw [put_cellsI] at hb
  exact ⟨h.box.beside (p := ⟨q, v, none⟩) hne _, h.bp.beside (p := ⟨q, v, none⟩) h.ne _, hb, h.lp, by unfold bump; rw [List.length_set, h.lq], h.ne⟩
end

/-- what the closure leaves -/
def Counted1 (w : World) (cb p q : Nat) (P Q : List Int) (s : Sym) (e : Ending) (w' : World) : Prop :=
  e = .returned (.tuple #[]) ∧ Cnts w' cb p q (if s.1 = 0 then bump P s.2.1 else P) (if s.1 = 0 then Q else bump Q s.2.1) ∧ Kept (fun i => i = p ∨ i = q) w w'

set_option maxRecDepth 10000 in
set_option maxHeartbeats 1600000 in
theorem tally1_any (w : World) (cb p q : Nat) (P Q : List Int) (s : Sym) (hs : SymOk s) (h : Cnts w cb p q P Q) :
    Calls Tryd.prog 35 #[symV s, .pointer (some ⟨cb, 0, none⟩)] w (Counted1 w cb p q P Q s) := by
  obtain ⟨t, v, x⟩ := s
  obtain ⟨ht, hv, -⟩ := hs
  dsimp only at ht hv
  unfold symV Counted1
  dsimp only
  obtain ⟨T, hT⟩ : ∃ T : Int, T = (t : Int) := ⟨_, rfl⟩
  rw [← hT]
  obtain ⟨w1, hw1⟩ : ∃ w1, w1 = w.alloc (.cells #[.int .i64 T, .int .i64 (v : Int), .int .i64 x] 74) := ⟨_, rfl⟩
  have bel : Below w.heap.size w w1 := by rw [hw1]; exact on_alloc _ _
  have h1 := h.on bel
  have hb1 : Box w1 w.heap.size 74 #[.int .i64 T, .int .i64 (v : Int), .int .i64 x] := by rw [hw1]; exact Box.made _ _ _
  have c0 : w1.cell? ⟨w.heap.size, 0, none⟩ = some (.int .i64 T) := hb1.cell 0
  have c1 : w1.cell? ⟨w.heap.size, 1, none⟩ = some (.int .i64 (v : Int)) := hb1.cell 1
  have c3 : w1.cell? ⟨cb, 0, none⟩ = some (.slice (some ⟨p, 0, none⟩) 256 256) := h1.box.cell 0
  have c4 : w1.cell? ⟨cb, 1, none⟩ = some (.slice (some ⟨q, 0, none⟩) 256 256) := h1.box.cell 1
  have hvi : (v : Int) < 256 := by omega
  have ht2 : t = 0 ∨ t = 1 := by omega
  rcases ht2 with rfl | rfl
  · obtain rfl : T = 0 := hT
    obtain ⟨z, hz⟩ : ∃ z, z = P.getD v 0 := ⟨_, rfl⟩
    have c5 : w1.cell? ⟨p, v, none⟩ = some (.int .i64 z) := by
      rw [hz, h1.bp.cell v, List.getElem?_toArray, cellsI_get _ _ (by rw [h1.lp]; exact hv)]
    have f5 : w1.frozen? ⟨p, v, none⟩ = false := h1.bp.free v
    have HH := Lib.hid (And.intro h1 (And.intro bel (And.intro hw1 hz)))
    clear h1 bel hz hw1 h hb1
    go_enter Tryd.func35, Tryd.ntmps35
    go_wp2_with fail
    rw [← HH.out.2.2.1]
    go_region
    all_goals
      (go_wp2
       go_end0
       refine ⟨rfl, ?_, ?_⟩
       · have hput := HH.out.1.putp v
         rw [← HH.out.2.2.2] at hput
         exact hput.on (on_drew _)
       · exact ((Kept.of_below HH.out.2.1 _).setCell (p := ⟨p, v, none⟩) (fun _ => .inl rfl) _).drew)
  · obtain rfl : T = 1 := hT
    obtain ⟨z, hz⟩ : ∃ z, z = Q.getD v 0 := ⟨_, rfl⟩
    have c5 : w1.cell? ⟨q, v, none⟩ = some (.int .i64 z) := by
      rw [hz, h1.bq.cell v, List.getElem?_toArray, cellsI_get _ _ (by rw [h1.lq]; exact hv)]
    have f5 : w1.frozen? ⟨q, v, none⟩ = false := h1.bq.free v
    have HH := Lib.hid (And.intro h1 (And.intro bel (And.intro hw1 hz)))
    clear h1 bel hz hw1 h hb1
    go_enter Tryd.func35, Tryd.ntmps35
    go_wp2_with fail
    rw [← HH.out.2.2.1]
    go_region
    all_goals
      (go_wp2
       go_end0
       refine ⟨rfl, ?_, ?_⟩
       · have hput := HH.out.1.putq v
         rw [← HH.out.2.2.2] at hput
         exact hput.on (on_drew _)
       · exact ((Kept.of_below HH.out.2.1 _).setCell (p := ⟨q, v, none⟩) (fun _ => .inr rfl) _).drew)
end Go.Proofs.YthfpdebpepbejaaDoor
