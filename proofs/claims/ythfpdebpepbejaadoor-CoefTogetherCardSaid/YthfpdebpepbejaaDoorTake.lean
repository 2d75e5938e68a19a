/-
  The contract of take.
-/
import Derived.Test.YthfpdebpepbejaaDoorOwn
namespace Go.Proofs.YthfpdebpepbejaaDoor
open Go.RowKit

theorem pow40 {j : Nat} (h : j ≤ 40) : 2 ^ j ≤ 1099511627776 := Nat.le_trans (Nat.pow_le_pow_right (by omega) h) (by decide)
theorem pow_pos' (j : Nat) : 0 < 2 ^ j := Nat.pow_pos (by omega)
theorem wrap_small {z : Int} (h0 : -9223372036854775808 ≤ z) (h1 : z ≤ 9223372036854775807) : IntKind.i64.wrap z = z := by simp [IntKind.wrap, IntKind.bits, IntKind.signed]; omega

/-- what take leaves -/
def Took (w : World) (g : Nat) (t : TypeId) (cs : Array Value) (o v j : Nat) (e : Ending) (w' : World) : Prop :=
  e = .returned (.int .i64 ((v / 2 ^ j : Nat) : Int)) ∧ Box w' g t ((cs.setIfInBounds (o + 1) (.int .i64 (j : Int))).setIfInBounds o (.int .i64 ((v % 2 ^ j : Nat) : Int))) ∧ Kept (fun i => i = g) w w'

set_option maxHeartbeats 800000 in
theorem take_any (w : World) (g o : Nat) (t : TypeId) (cs : Array Value) (v c k j : Nat) (hb : Box w g t cs) (h0 : cs[o]? = some (.int .i64 (v : Int))) (h1 : cs[o + 1]? = some (.int .i64 (c : Int))) (hj : c = k + j) (hc : c ≤ 40) (hv : v < 1099511627776) :
    Calls Tryd.prog 40 #[.pointer (some ⟨g, o, none⟩), .int .i64 (k : Int)] w (Took w g t cs o v j) := by
  have c0 : w.cell? ⟨g, o, none⟩ = some (.int .i64 (v : Int)) := (hb.cell o).trans h0
  have c1 : w.cell? ⟨g, o + 1, none⟩ = some (.int .i64 (c : Int)) := (hb.cell (o + 1)).trans h1
  have f0 := hb.free o
  have f1 := hb.free (o + 1)
  have e1 : (c : Int) - k = j := by omega
  have hj2 : (j : Int) ≤ 40 := by omega
  obtain ⟨q, hq⟩ : ∃ q, q = v / 2 ^ j := ⟨_, rfl⟩
  obtain ⟨m, hm⟩ : ∃ m, m = q * 2 ^ j := ⟨_, rfl⟩
  obtain ⟨r, hr⟩ : ∃ r, r = v % 2 ^ j := ⟨_, rfl⟩
  have e2 : (v : Int) / 2 ^ j = (q : Int) := by rw [hq]; simp
  have e3 : (q : Int) * 2 ^ j = (m : Int) := by rw [hm]; simp
  have hmv : m ≤ v := by rw [hm, hq]; exact Nat.div_mul_le_self v _
  have e4 : (v : Int) - (m : Int) = (r : Int) := by
    have := Nat.div_add_mod v (2 ^ j)
    rw [Nat.mul_comm, ← hq, ← hm, ← hr] at this
    omega
  obtain ⟨w1, hw1⟩ : ∃ w1, w1 = w.setCell ⟨g, o + 1, none⟩ (.int .i64 (j : Int)) := ⟨_, rfl⟩
  have b1 : Box w1 g t (cs.setIfInBounds (o + 1) (.int .i64 (j : Int))) := by rw [hw1]; exact hb.put (o + 1) _
  have k1 : Kept (fun i => i = g) w w1 := by rw [hw1]; exact (Kept.refl (fun i => i = g) _).setCell (p := ⟨g, o + 1, none⟩) (fun _ => rfl) _
  have d0 : w1.cell? ⟨g, o, none⟩ = some (.int .i64 (v : Int)) := by rw [b1.cell o]; simp [h0]
  have d1 : w1.cell? ⟨g, o + 1, none⟩ = some (.int .i64 (j : Int)) := by
    have hs : o + 1 < cs.size := (Array.getElem?_eq_some_iff.1 h1).1
    rw [b1.cell (o + 1)]; simp [hs]
  have g0 := b1.free o
  have H := Lib.hid (And.intro hq (And.intro hr (And.intro b1 (And.intro k1 (And.intro e2 (And.intro e3 (And.intro e4 hw1)))))))
  clear hq hr hb h0 h1 hm b1 k1 hw1 hj e3 e4
  go_enter Tryd.func40, Tryd.ntmps40
  go_wp2_with fail
  rw [← H.out.2.2.2.2.2.2.2]
  clear c0 c1 f0 f1
  go_quiet (fail)
  have e3 := H.out.2.2.2.2.2.1
  have e4 := H.out.2.2.2.2.2.2.1
  go_wp2_with fail
  go_region
  all_goals
    (go_wp2
     go_ret
     refine ⟨by rw [← H.out.1]; rfl, ?_, ?_⟩
     · rw [← H.out.2.1]; exact ((H.out.2.2.1.drewN _).put o _)
     · exact ((H.out.2.2.2.1.drewN _).setCell (p := ⟨g, o, none⟩) (fun _ => rfl) _))
theorem take_at (w : World) (g o : Nat) (t : TypeId) (cs : Array Value) (v c j : Nat) (K : Int) (hb : Box w g t cs) (h0 : cs[o]? = some (.int .i64 (v : Int))) (h1 : cs[o + 1]? = some (.int .i64 (c : Int))) (hj : (c : Int) = K + j) (hK : 0 ≤ K) (hc : c ≤ 40) (hv : v < 1099511627776) :
    Calls Tryd.prog 40 #[.pointer (some ⟨g, o, none⟩), .int .i64 K] w (Took w g t cs o v j) := by
  obtain ⟨k, rfl⟩ := Int.eq_ofNat_of_zero_le hK
  exact take_any w g o t cs v c k j hb h0 h1 (by omega) hc hv
end Go.Proofs.YthfpdebpepbejaaDoor
