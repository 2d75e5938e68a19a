/-
  The contract of the reference's sum.
-/
import Derived.Test.YteoahoepipnkfaaDoorWave
namespace Go.Proofs.YteoahoepipnkfaaDoor
open Go.RowKit

theorem trm_small {b : List Int} (wb : Wi b (-1048576) 1048576) (k' : Bool) {i k p q : Nat} (hi : i < 8) (hk : k < 8) (hp : p < 8) (hq : q < 8) : -16920125374464 ≤ trm k' b i k p q ∧ trm k' b i k p q ≤ 16920125374464 := by
  have a3 := wb (8 * p + q) (by omega)
  unfold trm
  cases k'
  · have a1 := wv_small i hi p hp
    have a2 := wv_small k hk q hq
    have b1 := prod_small a1.1 a1.2 a2.1 a2.2
    exact prod3_small b1.1 b1.2 a3.1 a3.2
  · have a1 := wv_small p hp i hi
    have a2 := wv_small q hq k hk
    have b1 := prod_small a1.1 a1.2 a2.1 a2.2
    exact prod3_small b1.1 b1.2 a3.1 a3.2
theorem rowT_small {b : List Int} (wb : Wi b (-1048576) 1048576) (k' : Bool) {i k p : Nat} (hi : i < 8) (hk : k < 8) (hp : p < 8) {q : Nat} (hq : q ≤ 8) : -135361002995712 ≤ rowT k' b i k p q ∧ rowT k' b i k p q ≤ 135361002995712 := by
  have := su_bound (f := fun q => trm k' b i k p q) (V := 16920125374464) (n := q) (fun j hj => trm_small wb k' hi hk hp (by omega))
  unfold rowT
  omega
theorem sumT_small {b : List Int} (wb : Wi b (-1048576) 1048576) (k' : Bool) {i k : Nat} (hi : i < 8) (hk : k < 8) {p : Nat} (hp : p ≤ 8) : -1082888023965696 ≤ sumT k' b i k p ∧ sumT k' b i k p ≤ 1082888023965696 := by
  have := su_bound (f := fun p => rowT k' b i k p 8) (V := 135361002995712) (n := p) (fun j hj => rowT_small wb k' hi hk (by omega) (by omega))
  unfold sumT
  omega
/-- what sum answers -/
def Sums (w : World) (k' : Bool) (b : List Int) (i k : Nat) (e : Ending) (w' : World) : Prop := e = .returned (.int .i64 (rnd (sumT k' b i k 8) 67108864)) ∧ Below w.heap.size w w'

set_option maxRecDepth 10000 in
set_option maxHeartbeats 3200000 in
theorem sum_false (w : World) (A : Option Addr) (n : Nat) (b : List Int) (i k : Nat) (hI : Il w A 64 n wz) (hb : b.length = 64) (wb : Wi b (-1048576) 1048576) (hi : i < 8) (hk : k < 8) :
    Calls Tryd.prog 23 #[.slice A 64 n, blkV b, .int .i64 i, .int .i64 k, .bool false] w (Sums w false b i k) := by
  obtain ⟨w1, hw1⟩ : ∃ w1, w1 = w.alloc (.cells (cellsI b).toArray 23) := ⟨_, rfl⟩
  have hB : Blk w1 w.heap.size b := by rw [hw1]; exact Blk.made _ _ hb
  have bel : Below w.heap.size w w1 := by rw [hw1]; exact on_alloc _ _
  obtain ⟨a, off, hA, _, hc⟩ := (hI.on (show Below w.heap.size w w1 from bel)).at_ (by omega)
  subst hA
  have H := Lib.hid (And.intro hB (And.intro bel (And.intro hc wb)))
  obtain ⟨cs, hcs⟩ : ∃ cs, cs = (cellsI b).toArray := ⟨_, rfl⟩
  rw [← hcs] at hw1
  have hvc : blkV b = .agg cs := by rw [hcs]; rfl
  rw [hvc]
  have HV := Lib.hid hw1.symm
  clear hcs hvc hw1 hB bel hc hb wb hI
  go_enter Tryd.func23, Tryd.ntmps23
  go_wp2_with fail
  rw [HV.out]
  go_loopw [11, 12] (fun s v wr => ∃ p : Nat, p ≤ 8 ∧ s = .int .i64 (sumT false b i k p) ∧ v = .int .i64 p ∧ Below w1.heap.size w1 wr) (fun _ v _ => 8 - (intOf v).toNat)
  case atStart => exact ⟨0, by omega, rfl, rfl, Below.refl _ _⟩
  case round =>
    obtain ⟨p, hp, rfl, rfl, hR⟩ := hrel
    have HR := Lib.hid hR
    clear hR
    have hs := sumT_small H.out.2.2.2 false hi hk (p := p) hp
    by_cases hp8 : p < 8
    · have hm := sumT_more false b i k p
      obtain ⟨s, hs'⟩ : ∃ s, s = sumT false b i k p := ⟨_, rfl⟩
      rw [← hs'] at hs hm
      obtain ⟨s0, s1⟩ := hs
      have HM := Lib.hid hm
      rw [← hs']
      clear hs' hm
      go_wp2_with fail
      go_loopw [11, 13] (fun s' v wr => ∃ q : Nat, q ≤ 8 ∧ s' = .int .i64 (s + rowT false b i k p q) ∧ v = .int .i64 q ∧ Below w1.heap.size w1 wr) (fun _ v _ => 8 - (intOf v).toNat)
      case atStart => exact ⟨0, by omega, by show Value.int .i64 s = .int .i64 (s + 0); rw [Int.add_zero], rfl, HR.out⟩
      case round =>
        obtain ⟨q, hq, rfl, rfl, hR⟩ := hrel
        have HR := Lib.hid hR
        clear hR
        have ht := rowT_small H.out.2.2.2 false hi hk hp8 (q := q) hq
        by_cases hq8 : q < 8
        · have hbl := H.out.1.on HR.out
          have c3 := hbl.cell (k := 8 * p + q) (by omega)
          have c1 := (HR.out.cell (p := ⟨a, off + (8 * i + p), none⟩) (World.block_lt_of_cell? w1 ⟨a, off + (8 * i + p), none⟩ (H.out.2.2.1 (8 * i + p) (by omega)))).trans (H.out.2.2.1 (8 * i + p) (by omega))
          have c2 := (HR.out.cell (p := ⟨a, off + (8 * k + q), none⟩) (World.block_lt_of_cell? w1 ⟨a, off + (8 * k + q), none⟩ (H.out.2.2.1 (8 * k + q) (by omega)))).trans (H.out.2.2.1 (8 * k + q) (by omega))
          have a1 := wv_small (i) (by omega) (p) (by omega)
          have a2 := wv_small (k) (by omega) (q) (by omega)
          have a3 := H.out.2.2.2 (8 * p + q) (by omega)
          have hm := rowT_more false b i k p q
          have e : trm false b i k p q = wv i p * wv k q * b.getD (8 * p + q) 0 := rfl
          rw [e] at hm
          unfold wv at hm a1 a2
          obtain ⟨t, ht'⟩ : ∃ t, t = rowT false b i k p q := ⟨_, rfl⟩
          obtain ⟨x, hx⟩ : ∃ x, x = wz.getD (8 * i + p) 0 := ⟨_, rfl⟩
          obtain ⟨y, hy⟩ : ∃ y, y = wz.getD (8 * k + q) 0 := ⟨_, rfl⟩
          obtain ⟨z, hz'⟩ : ∃ z, z = b.getD (8 * p + q) 0 := ⟨_, rfl⟩
          rw [← ht'] at ht hm
          rw [← hx] at c1 a1 hm
          rw [← hy] at c2 a2 hm
          rw [← hz'] at c3 a3 hm
          have b1 := prod_small a1.1 a1.2 a2.1 a2.2
          obtain ⟨v, hv⟩ : ∃ v, v = x * y := ⟨_, rfl⟩
          rw [← hv] at b1 hm
          have b2 := prod3_small b1.1 b1.2 a3.1 a3.2
          obtain ⟨u, hu⟩ : ∃ u, u = v * z := ⟨_, rfl⟩
          rw [← hu] at b2 hm
          have hxy := hv.symm
          have hvz := hu.symm
          rw [← ht']
          obtain ⟨t0, t1⟩ := ht
          obtain ⟨v0, v1⟩ := b1
          obtain ⟨u0, u1⟩ := b2
          have HN := Lib.hid hm
          clear e ht' hx hy hz' hv hu hm a1 a2 a3 hbl
          go_wp2_with fail
          go_region
          go_wp2_with fail
          go_roundw
          case rel =>
            refine ⟨q + 1, by omega, ?_, by go_num, HR.out.drew⟩
            rw [HN.out]
            go_num
          case measure => simp [intOf]; omega
        · obtain rfl : q = 8 := by omega
          go_wp2_with fail
          go_roundw
          case rel =>
            refine ⟨p + 1, by omega, ?_, by go_num, HR.out⟩
            rw [HM.out]
          case measure => simp [intOf]; omega
    · obtain rfl : p = 8 := by omega
      obtain ⟨s, hs'⟩ : ∃ s, s = sumT false b i k 8 := ⟨_, rfl⟩
      rw [← hs'] at hs ⊢
      obtain ⟨s0, s1⟩ := hs
      have HS := Lib.hid hs'
      clear hs'
      go_wp2_with fail
      refine (refRound_any wr s 67108864 (by unfold isInt; omega) (by unfold isInt; omega)).mono ?_
      rintro e w7 ⟨rfl, rfl⟩
      rw [HS.out]
      go_wp2_with fail
      go_ret
      exact ⟨rfl, H.out.2.1.trans (HR.out.mono H.out.2.1.size)⟩
end Go.Proofs.YteoahoepipnkfaaDoor
