/-
  The contracts of Wave, and of the reference's Waves, sum and all. The contract of the reference's sum. The contract of the reference's sum, back. The contracts of the reference's all, Forward and Inverse.
-/
import Derived.Test.YtmadkpnkmkajoaaDoorP12A
import Derived.Test.YtmadkpnkmkajoaaDoorP9A
namespace Go.Proofs.YtmadkpnkmkajoaaDoor
open Go.RowKit
set_option maxRecDepth 20000

/-- what Wave answers -/
def waveF (u x : Int) : Int := if 0 ≤ u ∧ u < 8 ∧ 0 ≤ x ∧ x < 8 then wz.getD (8 * u + x).toNat 0 else 0
def Waved (w : World) (u x : Int) (e : Ending) (w' : World) : Prop := e = .returned (.int .i64 (waveF u x)) ∧ w = w'
/-- what Waves tells -/
def Waves (w : World) (e : Ending) (w' : World) : Prop := ∃ A n, e = .returned (.slice A 64 n) ∧ Il w' A 64 n wz ∧ (∀ b off, A = some ⟨b, off, none⟩ → w.heap.size ≤ b) ∧ Below w.heap.size w w'
set_option maxRecDepth 10000 in
set_option maxHeartbeats 3200000 in
theorem waves_any (w : World) : Calls Tryd.prog 105 #[] w (Waves w) := by
  have hb := il_of_box (w := w.alloc (.cells (cellsI wz).toArray 3)) (n := 64) (Box.made w 3 (cellsI wz).toArray) rfl (by decide)
  have H := Lib.hid hb
  clear hb
  go_enter Tryd.func105, Tryd.ntmps105
  go_wp2_with fail
  go_ret
  exact ⟨_, _, rfl, H.out, fun b off e => by cases e; exact Nat.le_refl _, on_alloc _ _⟩

/-- a term of the reference's sum -/
def trm (k' : Bool) (b : List Int) (i k p q : Nat) : Int := (if k' then wv p i * wv q k else wv i p * wv k q) * b.getD (8 * p + q) 0
/-- the first terms: those of the rows ahead, and q of row p -/
def rowT (k' : Bool) (b : List Int) (i k p q : Nat) : Int := su (fun q => trm k' b i k p q) q
def sumT9_ (k' : Bool) (b : List Int) (i k p : Nat) : Int := su (fun p => rowT k' b i k p 8) p
def refL (k' : Bool) (b : List Int) : List Int := if k' then invL b else fwdL b
theorem refL_len (k' : Bool) (b : List Int) : (refL k' b).length = 64 := by cases k'; exact fwdL_len b; exact invL_len b
theorem sumT_is (k' : Bool) (b : List Int) {i k : Nat} (hi : i < 8) (hk : k < 8) : (refL k' b).getD (8 * i + k) 0 = rnd (sumT9_ k' b i k 8) 67108864 := by
  cases k'
  · exact fwdL_at b hi hk
  · exact invL_at b hi hk
theorem rowT_more (k' : Bool) (b : List Int) (i k p q : Nat) : rowT k' b i k p (q + 1) = rowT k' b i k p q + trm k' b i k p q := rfl
theorem sumT_more (k' : Bool) (b : List Int) (i k p : Nat) : sumT9_ k' b i k (p + 1) = sumT9_ k' b i k p + rowT k' b i k p 8 := rfl
theorem su_bound {f : Nat → Int} {V : Int} : ∀ {n : Nat}, (∀ i, i < n → -V ≤ f i ∧ f i ≤ V) → -(V * n) ≤ su f n ∧ su f n ≤ V * n
  | 0, _ => by rw [su_zero]; omega
  | n + 1, h => by
    have ih := su_bound (n := n) (fun i hi => h i (by omega))
    have := h n (by omega)
    rw [su_succ, show V * ((n + 1 : Nat) : Int) = V * n + V by rw [Int.natCast_add, Int.mul_add]; omega]
    omega
theorem prod_small {x y : Int} (x0 : -4017 ≤ x) (x1 : x ≤ 4017) (y0 : -4017 ≤ y) (y1 : y ≤ 4017) : -16136289 ≤ x * y ∧ x * y ≤ 16136289 := by
  have := term_small x0 x1 y0 y1
  omega
theorem prod3_small {v z : Int} (v0 : -16136289 ≤ v) (v1 : v ≤ 16136289) (z0 : -1048576 ≤ z) (z1 : z ≤ 1048576) : -16920125374464 ≤ v * z ∧ v * z ≤ 16920125374464 := by
  have a := mul_abs (c := v) z0 z1
  have h : (v.natAbs : Int) * 1048576 ≤ 16136289 * 1048576 := Int.mul_le_mul_of_nonneg_right (by omega) (by omega)
  omega
end Go.Proofs.YtmadkpnkmkajoaaDoor

namespace Go.Proofs.YtmadkpnkmkajoaaDoor
open Go.RowKit
set_option maxRecDepth 20000

theorem trm_small {b : List Int} (wb : Wi b (-1048576) 1048576) (k' : Bool) {i k p q : Nat} (hi : i < 8) (hk : k < 8) (hp : p < 8) (hq : q < 8) : -16920125374464 ≤ trm k' b i k p q ∧ trm k' b i k p q ≤ 16920125374464 := by
  have a3 := wb (8 * p + q) (by omega)
  unfold trm
  cases k'
  · have a1 := wv_small i hi p hp
    have a2 := wv_small k hk q hq
    have b1 := prod_small a1.1 a1.2 a2.1 a2.2
    exact prod3_small b1.1 b1.2 a3.1 a3.2
  · have a1 := wv_small p hp i hi
    have a2 := wv_small q hq k hk
    have b1 := prod_small a1.1 a1.2 a2.1 a2.2
    exact prod3_small b1.1 b1.2 a3.1 a3.2
theorem rowT_small {b : List Int} (wb : Wi b (-1048576) 1048576) (k' : Bool) {i k p : Nat} (hi : i < 8) (hk : k < 8) (hp : p < 8) {q : Nat} (hq : q ≤ 8) : -135361002995712 ≤ rowT k' b i k p q ∧ rowT k' b i k p q ≤ 135361002995712 := by
  have := su_bound (f := fun q => trm k' b i k p q) (V := 16920125374464) (n := q) (fun j hj => trm_small wb k' hi hk hp (by omega))
  unfold rowT
  omega
theorem sumT_small {b : List Int} (wb : Wi b (-1048576) 1048576) (k' : Bool) {i k : Nat} (hi : i < 8) (hk : k < 8) {p : Nat} (hp : p ≤ 8) : -1082888023965696 ≤ sumT9_ k' b i k p ∧ sumT9_ k' b i k p ≤ 1082888023965696 := by
  have := su_bound (f := fun p => rowT k' b i k p 8) (V := 135361002995712) (n := p) (fun j hj => rowT_small wb k' hi hk (by omega) (by omega))
  unfold sumT9_
  omega
/-- what sum answers -/
def Sums (w : World) (k' : Bool) (b : List Int) (i k : Nat) (e : Ending) (w' : World) : Prop := e = .returned (.int .i64 (rnd (sumT9_ k' b i k 8) 67108864)) ∧ Below w.heap.size w w'

set_option maxRecDepth 10000 in
set_option maxHeartbeats 3200000 in
theorem sum_false (w : World) (A : Option Addr) (n : Nat) (b : List Int) (i k : Nat) (hI : Il w A 64 n wz) (hb : b.length = 64) (wb : Wi b (-1048576) 1048576) (hi : i < 8) (hk : k < 8) :
    Calls Tryd.prog 106 #[.slice A 64 n, blkV b, .int .i64 i, .int .i64 k, .bool false] w (Sums w false b i k) := by
  obtain ⟨w1, hw1⟩ : ∃ w1, w1 = w.alloc (.cells (cellsI b).toArray 29) := ⟨_, rfl⟩
  have hB : Blk w1 w.heap.size b := by rw [hw1]; exact Blk.made _ _ hb
  have bel : Below w.heap.size w w1 := by rw [hw1]; exact on_alloc _ _
  obtain ⟨a, off, hA, _, hc⟩ := (hI.on (show Below w.heap.size w w1 from bel)).at_ (by omega)
  subst hA
  have H := Lib.hid (And.intro hB (And.intro bel (And.intro hc wb)))
  obtain ⟨cs, hcs⟩ : ∃ cs, cs = (cellsI b).toArray := ⟨_, rfl⟩
  rw [← hcs] at hw1
  have hvc : blkV b = .agg cs := by rw [hcs]; rfl
  rw [hvc]
  have HV := Lib.hid hw1.symm
  clear hcs hvc hw1 hB bel hc hb wb hI
  go_enter Tryd.func106, Tryd.ntmps106
  go_wp2_with fail
  rw [HV.out]
  go_loopw [11, 12] (fun s v wr => ∃ p : Nat, p ≤ 8 ∧ s = .int .i64 (sumT9_ false b i k p) ∧ v = .int .i64 p ∧ Below w1.heap.size w1 wr) (fun _ v _ => 8 - (intOf v).toNat)
  case atStart => exact ⟨0, by omega, rfl, rfl, Below.refl _ _⟩
  case round =>
    obtain ⟨p, hp, rfl, rfl, hR⟩ := hrel
    have HR := Lib.hid hR
    clear hR
    have hs := sumT_small H.out.2.2.2 false hi hk (p := p) hp
    by_cases hp8 : p < 8
    · have hm := sumT_more false b i k p
      obtain ⟨s, hs'⟩ : ∃ s, s = sumT9_ false b i k p := ⟨_, rfl⟩
      rw [← hs'] at hs hm
      obtain ⟨s0, s1⟩ := hs
      have HM := Lib.hid hm
      rw [← hs']
      clear hs' hm
      go_wp2_with fail
      go_loopw [11, 13] (fun s' v wr => ∃ q : Nat, q ≤ 8 ∧ s' = .int .i64 (s + rowT false b i k p q) ∧ v = .int .i64 q ∧ Below w1.heap.size w1 wr) (fun _ v _ => 8 - (intOf v).toNat)
      case atStart => exact ⟨0, by omega, by show Value.int .i64 s = .int .i64 (s + 0); rw [Int.add_zero], rfl, HR.out⟩
      case round =>
        obtain ⟨q, hq, rfl, rfl, hR⟩ := hrel
        have HR := Lib.hid hR
        clear hR
        have ht := rowT_small H.out.2.2.2 false hi hk hp8 (q := q) hq
        by_cases hq8 : q < 8
        · have hbl := H.out.1.on HR.out
          have c3 := hbl.cell (k := 8 * p + q) (by omega)
          have c1 := (HR.out.cell (p := ⟨a, off + (8 * i + p), none⟩) (World.block_lt_of_cell? w1 ⟨a, off + (8 * i + p), none⟩ (H.out.2.2.1 (8 * i + p) (by omega)))).trans (H.out.2.2.1 (8 * i + p) (by omega))
          have c2 := (HR.out.cell (p := ⟨a, off + (8 * k + q), none⟩) (World.block_lt_of_cell? w1 ⟨a, off + (8 * k + q), none⟩ (H.out.2.2.1 (8 * k + q) (by omega)))).trans (H.out.2.2.1 (8 * k + q) (by omega))
          have a1 := wv_small (i) (by omega) (p) (by omega)
          have a2 := wv_small (k) (by omega) (q) (by omega)
          have a3 := H.out.2.2.2 (8 * p + q) (by omega)
          have hm := rowT_more false b i k p q
          have e : trm false b i k p q = wv i p * wv k q * b.getD (8 * p + q) 0 := rfl
          rw [e] at hm
          unfold wv at hm a1 a2
          obtain ⟨t, ht'⟩ : ∃ t, t = rowT false b i k p q := ⟨_, rfl⟩
          obtain ⟨x, hx⟩ : ∃ x, x = wz.getD (8 * i + p) 0 := ⟨_, rfl⟩
          obtain ⟨y, hy⟩ : ∃ y, y = wz.getD (8 * k + q) 0 := ⟨_, rfl⟩
          obtain ⟨z, hz'⟩ : ∃ z, z = b.getD (8 * p + q) 0 := ⟨_, rfl⟩
          rw [← ht'] at ht hm
          rw [← hx] at c1 a1 hm
          rw [← hy] at c2 a2 hm
          rw [← hz'] at c3 a3 hm
          have b1 := prod_small a1.1 a1.2 a2.1 a2.2
          obtain ⟨v, hv⟩ : ∃ v, v = x * y := ⟨_, rfl⟩
          rw [← hv] at b1 hm
          have b2 := prod3_small b1.1 b1.2 a3.1 a3.2
          obtain ⟨u, hu⟩ : ∃ u, u = v * z := ⟨_, rfl⟩
          rw [← hu] at b2 hm
          have hxy := hv.symm
          have hvz := hu.symm
          rw [← ht']
          obtain ⟨t0, t1⟩ := ht
          obtain ⟨v0, v1⟩ := b1
          obtain ⟨u0, u1⟩ := b2
          have HN := Lib.hid hm
          clear e ht' hx hy hz' hv hu hm a1 a2 a3 hbl
          go_wp2_with fail
          go_region
          go_wp2_with fail
          go_roundw
          case rel =>
            refine ⟨q + 1, by omega, ?_, by go_num, HR.out.drew⟩
            rw [HN.out]
            go_num
          case measure => simp [intOf]; omega
        · obtain rfl : q = 8 := by omega
          go_wp2_with fail
          go_roundw
          case rel =>
            refine ⟨p + 1, by omega, ?_, by go_num, HR.out⟩
            rw [HM.out]
          case measure => simp [intOf]; omega
    · obtain rfl : p = 8 := by omega
      obtain ⟨s, hs'⟩ : ∃ s, s = sumT9_ false b i k 8 := ⟨_, rfl⟩
      rw [← hs'] at hs ⊢
      obtain ⟨s0, s1⟩ := hs
      have HS := Lib.hid hs'
      clear hs'
      go_wp2_with fail
      refine (refRound_any wr s 67108864 (by unfold isInt; omega) (by unfold isInt; omega)).mono ?_
      rintro e w7 ⟨rfl, rfl⟩
      rw [HS.out]
      go_wp2_with fail
      go_ret
      exact ⟨rfl, H.out.2.1.trans (HR.out.mono H.out.2.1.size)⟩
end Go.Proofs.YtmadkpnkmkajoaaDoor

namespace Go.Proofs.YtmadkpnkmkajoaaDoor
open Go.RowKit
set_option maxRecDepth 20000

set_option maxRecDepth 10000 in
set_option maxHeartbeats 3200000 in
theorem sum_true (w : World) (A : Option Addr) (n : Nat) (b : List Int) (i k : Nat) (hI : Il w A 64 n wz) (hb : b.length = 64) (wb : Wi b (-1048576) 1048576) (hi : i < 8) (hk : k < 8) :
    Calls Tryd.prog 106 #[.slice A 64 n, blkV b, .int .i64 i, .int .i64 k, .bool true] w (Sums w true b i k) := by
  obtain ⟨w1, hw1⟩ : ∃ w1, w1 = w.alloc (.cells (cellsI b).toArray 29) := ⟨_, rfl⟩
  have hB : Blk w1 w.heap.size b := by rw [hw1]; exact Blk.made _ _ hb
  have bel : Below w.heap.size w w1 := by rw [hw1]; exact on_alloc _ _
  obtain ⟨a, off, hA, _, hc⟩ := (hI.on (show Below w.heap.size w w1 from bel)).at_ (by omega)
  subst hA
  have H := Lib.hid (And.intro hB (And.intro bel (And.intro hc wb)))
  obtain ⟨cs, hcs⟩ : ∃ cs, cs = (cellsI b).toArray := ⟨_, rfl⟩
  rw [← hcs] at hw1
  have hvc : blkV b = .agg cs := by rw [hcs]; rfl
  rw [hvc]
  have HV := Lib.hid hw1.symm
  clear hcs hvc hw1 hB bel hc hb wb hI
  go_enter Tryd.func106, Tryd.ntmps106
  go_wp2_with fail
  rw [HV.out]
  go_loopw [11, 12] (fun s v wr => ∃ p : Nat, p ≤ 8 ∧ s = .int .i64 (sumT9_ true b i k p) ∧ v = .int .i64 p ∧ Below w1.heap.size w1 wr) (fun _ v _ => 8 - (intOf v).toNat)
  case atStart => exact ⟨0, by omega, rfl, rfl, Below.refl _ _⟩
  case round =>
    obtain ⟨p, hp, rfl, rfl, hR⟩ := hrel
    have HR := Lib.hid hR
    clear hR
    have hs := sumT_small H.out.2.2.2 true hi hk (p := p) hp
    by_cases hp8 : p < 8
    · have hm := sumT_more true b i k p
      obtain ⟨s, hs'⟩ : ∃ s, s = sumT9_ true b i k p := ⟨_, rfl⟩
      rw [← hs'] at hs hm
      obtain ⟨s0, s1⟩ := hs
      have HM := Lib.hid hm
      rw [← hs']
      clear hs' hm
      go_wp2_with fail
      go_loopw [11, 13] (fun s' v wr => ∃ q : Nat, q ≤ 8 ∧ s' = .int .i64 (s + rowT true b i k p q) ∧ v = .int .i64 q ∧ Below w1.heap.size w1 wr) (fun _ v _ => 8 - (intOf v).toNat)
      case atStart => exact ⟨0, by omega, by show Value.int .i64 s = .int .i64 (s + 0); rw [Int.add_zero], rfl, HR.out⟩
      case round =>
        obtain ⟨q, hq, rfl, rfl, hR⟩ := hrel
        have HR := Lib.hid hR
        clear hR
        have ht := rowT_small H.out.2.2.2 true hi hk hp8 (q := q) hq
        by_cases hq8 : q < 8
        · have hbl := H.out.1.on HR.out
          have c3 := hbl.cell (k := 8 * p + q) (by omega)
          have c1 := (HR.out.cell (p := ⟨a, off + (8 * p + i), none⟩) (World.block_lt_of_cell? w1 ⟨a, off + (8 * p + i), none⟩ (H.out.2.2.1 (8 * p + i) (by omega)))).trans (H.out.2.2.1 (8 * p + i) (by omega))
          have c2 := (HR.out.cell (p := ⟨a, off + (8 * q + k), none⟩) (World.block_lt_of_cell? w1 ⟨a, off + (8 * q + k), none⟩ (H.out.2.2.1 (8 * q + k) (by omega)))).trans (H.out.2.2.1 (8 * q + k) (by omega))
          have a1 := wv_small (p) (by omega) (i) (by omega)
          have a2 := wv_small (q) (by omega) (k) (by omega)
          have a3 := H.out.2.2.2 (8 * p + q) (by omega)
          have hm := rowT_more true b i k p q
          have e : trm true b i k p q = wv p i * wv q k * b.getD (8 * p + q) 0 := rfl
          rw [e] at hm
          unfold wv at hm a1 a2
          obtain ⟨t, ht'⟩ : ∃ t, t = rowT true b i k p q := ⟨_, rfl⟩
          obtain ⟨x, hx⟩ : ∃ x, x = wz.getD (8 * p + i) 0 := ⟨_, rfl⟩
          obtain ⟨y, hy⟩ : ∃ y, y = wz.getD (8 * q + k) 0 := ⟨_, rfl⟩
          obtain ⟨z, hz'⟩ : ∃ z, z = b.getD (8 * p + q) 0 := ⟨_, rfl⟩
          rw [← ht'] at ht hm
          rw [← hx] at c1 a1 hm
          rw [← hy] at c2 a2 hm
          rw [← hz'] at c3 a3 hm
          have b1 := prod_small a1.1 a1.2 a2.1 a2.2
          obtain ⟨v, hv⟩ : ∃ v, v = x * y := ⟨_, rfl⟩
          rw [← hv] at b1 hm
          have b2 := prod3_small b1.1 b1.2 a3.1 a3.2
          obtain ⟨u, hu⟩ : ∃ u, u = v * z := ⟨_, rfl⟩
          rw [← hu] at b2 hm
          have hxy := hv.symm
          have hvz := hu.symm
          rw [← ht']
          obtain ⟨t0, t1⟩ := ht
          obtain ⟨v0, v1⟩ := b1
          obtain ⟨u0, u1⟩ := b2
          have HN := Lib.hid hm
          clear e ht' hx hy hz' hv hu hm a1 a2 a3 hbl
          go_wp2_with fail
          go_region
          go_wp2_with fail
          go_roundw
          case rel =>
            refine ⟨q + 1, by omega, ?_, by go_num, HR.out.drew⟩
            rw [HN.out]
            go_num
          case measure => simp [intOf]; omega
        · obtain rfl : q = 8 := by omega
          go_wp2_with fail
          go_roundw
          case rel =>
            refine ⟨p + 1, by omega, ?_, by go_num, HR.out⟩
            rw [HM.out]
          case measure => simp [intOf]; omega
    · obtain rfl : p = 8 := by omega
      obtain ⟨s, hs'⟩ : ∃ s, s = sumT9_ true b i k 8 := ⟨_, rfl⟩
      rw [← hs'] at hs ⊢
      obtain ⟨s0, s1⟩ := hs
      have HS := Lib.hid hs'
      clear hs'
      go_wp2_with fail
      refine (refRound_any wr s 67108864 (by unfold isInt; omega) (by unfold isInt; omega)).mono ?_
      rintro e w7 ⟨rfl, rfl⟩
      rw [HS.out]
      go_wp2_with fail
      go_ret
      exact ⟨rfl, H.out.2.1.trans (HR.out.mono H.out.2.1.size)⟩
end Go.Proofs.YtmadkpnkmkajoaaDoor

namespace Go.Proofs.YtmadkpnkmkajoaaDoor
open Go.RowKit
set_option maxRecDepth 20000

theorem sum_any (w : World) (k' : Bool) (A : Option Addr) (n : Nat) (b : List Int) (i k : Nat) (hI : Il w A 64 n wz) (hb : b.length = 64) (wb : Wi b (-1048576) 1048576) (hi : i < 8) (hk : k < 8) :
    Calls Tryd.prog 106 #[.slice A 64 n, blkV b, .int .i64 i, .int .i64 k, .bool k'] w (Sums w k' b i k) := by
  cases k'
  · exact sum_false w A n b i k hI hb wb hi hk
  · exact sum_true w A n b i k hI hb wb hi hk
/-- a block that is boxed, the answer's, one that is worked on, and the waves -/
structure AllS (w wr : World) (b o : List Int) (A : Option Addr) (n : Nat) : Prop where
  b1 : Blk wr w.heap.size b
  ans : Blk wr (w.heap.size + 1) zeros64
  out : Blk wr (w.heap.size + 1 + 1) o
  il : Il wr A 64 n wz
  far : ∀ b off, A = some ⟨b, off, none⟩ → w.heap.size + 1 + 1 < b
  bel : Below w.heap.size w wr
section
variable {w wr w' : World} {b o : List Int} {A : Option Addr} {n : Nat}
theorem AllS.on (h : AllS w wr b o A n) (k : Below wr.heap.size wr w') : AllS w w' b o A n := ⟨h.b1.on k, h.ans.on k, h.out.on k, h.il.on k, h.far, on_trans h.bel k⟩
theorem AllS.put (h : AllS w wr b o A n) (k : Nat) (z : Int) : AllS w (wr.setCell ⟨w.heap.size + 1 + 1, k, none⟩ (.int .i64 z)) b (o.set k z) A n :=
  ⟨⟨h.b1.box.beside (by show w.heap.size ≠ w.heap.size + 1 + 1; omega) _, h.b1.len⟩, ⟨h.ans.box.beside (by show w.heap.size + 1 ≠ w.heap.size + 1 + 1; omega) _, h.ans.len⟩, h.out.put k z,
    h.il.kept ((Kept.refl (fun i => i = w.heap.size + 1 + 1) _).setCell (p := ⟨w.heap.size + 1 + 1, k, none⟩) (fun _ => rfl) _) (fun b off e hb => by have := h.far b off e; omega), h.far,
    ((Kept.of_below h.bel (fun i => i = w.heap.size + 1 + 1)).setCell (p := ⟨w.heap.size + 1 + 1, k, none⟩) (fun _ => rfl) _).below (Nat.le_refl _) (fun i hi e => by omega)⟩
theorem AllS.done (h : AllS w wr b o A n) {c : List Int} (hc : Blk w' (w.heap.size + 1) c) (k : Kept (fun i => i = w.heap.size + 1) wr w') : Below w.heap.size w w' ∧ Blk w' (w.heap.size + 1) c :=
  ⟨h.bel.trans (k.below h.bel.size (fun i hi e => by omega)), hc⟩
end
theorem refL_put {k' : Bool} {b : List Int} {i k : Nat} (hi : i < 8) (hk : k < 8) : (mix (8 * i + k) (refL k' b) zeros64).set (8 * i + k) (rnd (sumT9_ k' b i k 8) 67108864) = mix (8 * i + (k + 1)) (refL k' b) zeros64 := by
  rw [← sumT_is k' b hi hk, mix_more (refL_len k' b) zeros_len (by omega)]
  rfl

set_option maxRecDepth 10000 in
set_option maxHeartbeats 3200000 in
theorem all_any (w : World) (k' : Bool) (b : List Int) (hb : b.length = 64) (wb : Wi b (-1048576) 1048576) : Calls Tryd.prog 73 #[blkV b, .bool k'] w (Gives w (refL k' b)) := by
  obtain ⟨cs, Z, w2, hbv, hZV, hZs, hz, hw2, hD, hsz⟩ := duo_boxed w b hb
  have hbd : ∀ w, (Instr.build 29 #[]).run Tryd.prog w = .ok (.agg Z) w := fun w => by rw [← hZV]; exact build0 w
  have H := Lib.hid (And.intro hD (And.intro hb (And.intro hZV.symm (And.intro hZs (And.intro wb hsz)))))
  have HW := Lib.hid hw2
  have HX := Lib.hid (show Box (w2.alloc (.cells Z 29)) (w.heap.size + 1 + 1) 29 Z by rw [← hsz]; exact Box.made _ _ _)
  rw [← hw2] at HX
  rw [hbv]
  clear hD hb wb hbv hZV hZs hsz hw2
  obtain ⟨R, hR⟩ : ∃ R, R = refL k' b := ⟨_, rfl⟩
  rw [← hR]
  have HRR := Lib.hid (And.intro hR (show R.length = 64 by rw [hR]; exact refL_len k' b))
  clear hR
  go_enter Tryd.func73, Tryd.ntmps73
  go_wp2_with (first
    | ((with_reducible refine wpList_store_blk9_ (o := ⟨none, _, _, _, _, _⟩) rfl (.tmp 5) (.tmp 9) rfl rfl (w.heap.size + 1 + 1) zeros64 rfl ?hy Z HX.out H.out.2.2.2.1 zeros_len ?_)
       case hy => exact H.out.2.2.1
       intro w4 b4 k4
       rw [HW.out] at k4
       have H4 := Lib.hid (And.intro b4 ((on_alloc w2 (.cells Z 29)).trans (k4.below (B := w2.heap.size) (by simp) (fun i hi e => by have := H.out.2.2.2.2.2; omega))))
       clear b4 k4)
    | fail)
  refine (waves_any w4).mono ?_
  rintro e w5 ⟨A, n, rfl, hI, hfar, b5⟩
  have hall : AllS w w5 b zeros64 A n := by
    have d := (H.out.1.on H4.out.2).on b5
    exact ⟨d.b1, d.out, H4.out.1.on b5, hI, fun g off e => by have := hfar g off e; have := H4.out.1.box.lt; omega, d.bel⟩
  have HA := Lib.hid hall
  clear hall hI hfar b5
  go_wp2_with fail
  go_loopw [7] (fun i wr => ∃ i' : Nat, i' ≤ 8 ∧ i = .int .i64 i' ∧ AllS w wr b (mix (8 * i') R zeros64) A n) (fun i _ => 8 - (intOf i).toNat)
  case atStart => exact ⟨0, by omega, rfl, by rw [Nat.mul_zero, mix_zero]; exact HA.out⟩
  case round =>
    obtain ⟨i, hi, rfl, hR⟩ := hrel
    have HR := Lib.hid hR
    clear hR
    by_cases hi8 : i < 8
    · go_wp2_with fail
      rw [show decide ((i : Int) < 8) = true from decide_eq_true (by omega)]
      go_loopw [8] (fun k wr => ∃ k' : Nat, k' ≤ 8 ∧ k = .int .i64 k' ∧ AllS w wr b (mix (8 * i + k') R zeros64) A n) (fun k _ => 8 - (intOf k).toNat)
      case atStart => exact ⟨0, by omega, rfl, HR.out⟩
      case round =>
        obtain ⟨k, hk, rfl, hR⟩ := hrel
        have HR := Lib.hid hR
        clear hR
        by_cases hk8 : k < 8
        · have c1 := HR.out.out.cell (k := 8 * i + k) (by omega)
          have hfr := HR.out.out.free (8 * i + k)
          have hm := refL_put (k' := k') (b := b) hi8 hk8
          rw [← HRR.out.1] at hm
          obtain ⟨x, hx⟩ : ∃ x, x = (mix (8 * i + k) R zeros64).getD (8 * i + k) 0 := ⟨_, rfl⟩
          rw [← hx] at c1
          have HM := Lib.hid hm
          have HC := Lib.hid (And.intro c1 hfr)
          clear hm hx c1 hfr
          go_wp2_with (first
            | (with_reducible refine wpList_load_to (op := ⟨some 24, _, _, _, _, _⟩) rfl 29 (.tmp 2) rfl (.pointer (some ⟨w.heap.size, 0, none⟩)) rfl (blkV b) HR.out.b1.load ?_)
            | fail)
          refine (sum_any wr k' A n b i k HR.out.il H.out.2.1 H.out.2.2.2.2.1 hi8 hk8).mono ?_
          rintro e w7 ⟨rfl, b7⟩
          have H7 := Lib.hid (HR.out.on b7)
          have c1 := H7.out.out.cell (k := 8 * i + k) (by omega)
          have hfr := H7.out.out.free (8 * i + k)
          obtain ⟨x, hx⟩ : ∃ x, x = (mix (8 * i + k) R zeros64).getD (8 * i + k) 0 := ⟨_, rfl⟩
          rw [← hx] at c1
          obtain ⟨z, hz'⟩ : ∃ z, z = rnd (sumT9_ k' b i k 8) 67108864 := ⟨_, rfl⟩
          rw [← hz'] at HM ⊢
          clear hx hz' b7 HC
          go_wp2_with fail
          go_roundw
          case rel =>
            refine ⟨k + 1, by omega, by go_num, ?_⟩
            rw [← HM.out]
            exact H7.out.put _ _
          case measure => simp [intOf]; omega
        · obtain rfl : k = 8 := by omega
          have hR := HR.out
          rw [show 8 * i + 8 = 8 * (i + 1) by omega] at hR
          have HR := Lib.hid hR
          clear hR
          go_wp2_with fail
          go_roundw
          case rel => exact ⟨i + 1, by omega, by go_num, HR.out⟩
          case measure => simp [intOf]; omega
    · obtain rfl : i = 8 := by omega
      have hR := HR.out
      rw [show 8 * 8 = 64 from rfl, mix_all HRR.out.2 zeros_len] at hR
      have HR := Lib.hid hR
      clear hR
      go_wp2_with (first
        | (with_reducible refine wpList_load_to (op := ⟨some 30, _, _, _, _, _⟩) rfl 29 (.tmp 5) rfl (.pointer (some ⟨w.heap.size + 1 + 1, 0, none⟩)) rfl (blkV R) HR.out.out.load ?_)
        | ((with_reducible refine wpList_store_blk9_ (o := ⟨none, _, _, _, _, _⟩) rfl (.tmp 4) (.tmp 30) rfl rfl (w.heap.size + 1) R rfl rfl _ HR.out.ans.box rfl HRR.out.2 ?_)
           intro w9 b9 k9
           have H9 := Lib.hid (HR.out.done b9 k9)
           clear b9 k9)
        | fail)
      refine bodyPost_ret (v := blkV R) (results_c (fn := Tryd.f73) Tryd.results73 _ _ (w.heap.size + 1) _ rfl (loadVar_blk H9.out.2)) rfl ?_
      exact ⟨rfl, H9.out.1⟩

set_option maxRecDepth 10000 in
set_option maxHeartbeats 3200000 in
theorem refInverse_any (w : World) (b : List Int) (hb : b.length = 64) : Calls Tryd.prog 36 #[blkV b] w (Tells9_ w (invF b)) := by
  obtain ⟨cs, Z, w2, hbv, hZV, hZs, hz, hw2, hD, hsz⟩ := duo_boxed w b hb
  have HL := Lib.hid hD.b1.load
  rw [← hw2] at HL
  have H := Lib.hid (And.intro hD (And.intro hb (And.intro hZV.symm hZs)))
  have HW := Lib.hid hw2
  rw [hbv]
  have hbd : ∀ w, (Instr.build 29 #[]).run Tryd.prog w = .ok (.agg Z) w := fun w => by rw [← hZV]; exact build0 w
  obtain ⟨R, hR⟩ : ∃ R, R = invF b := ⟨_, rfl⟩
  rw [← hR]
  have HR := Lib.hid hR
  clear hD hb hbv hZV hZs hw2 hsz hR
  go_enter Tryd.func36, Tryd.ntmps36
  go_wp2_with (first
    | (with_reducible refine wpList_load_to (op := ⟨some 4, _, _, _, _, _⟩) rfl 29 (.tmp 1) rfl (.pointer (some ⟨w.heap.size, 0, none⟩)) rfl (blkV b) HL.out ?_)
    | fail)
  rw [HW.out]
  refine (refIn_any9_ w2 b (-1048576) 1048576 H.out.2.1).mono ?_
  rintro e w4 ⟨rfl, b4⟩
  have H4 := Lib.hid (H.out.1.on b4)
  clear b4
  by_cases hw : Wi b (-1048576) 1048576
  · have hF : invF b = (invL b, 0) := by unfold invF; rw [if_pos hw]
    have HF := Lib.hid (And.intro hw (HR.out.trans hF))
    rw [decide_eq_true hw]
    clear hF hw
    go_wp2_with (first
      | (with_reducible refine wpList_load_to (op := ⟨some 8, _, _, _, _, _⟩) rfl 29 (.tmp 1) rfl (.pointer (some ⟨w.heap.size, 0, none⟩)) rfl (blkV b) H4.out.b1.load ?_)
      | fail)
    refine (all_any w4 true b H.out.2.1 HF.out.1).mono ?_
    rintro e w5 ⟨rfl, b5⟩
    rw [show refL true b = invL b from rfl]
    have H5 := Lib.hid (H4.out.on b5)
    clear b5
    go_wp2_with (first
      | ((with_reducible refine wpList_store_blk9_ (o := ⟨none, _, _, _, _, _⟩) rfl (.tmp 2) (.tmp 9) rfl rfl (w.heap.size + 1) (invL b) rfl rfl _ H5.out.out.box rfl (invL_len b) ?_)
         intro w9 b9 k9
         have H9 := Lib.hid (H5.out.done b9 k9)
         clear b9 k9)
      | fail)
    refine bodyPost_ret (v := .tuple #[blkV (invL b), .int .i64 0]) (results_ct (fn := Tryd.f36) Tryd.results36 _ _ (w.heap.size + 1) _ _ rfl rfl (loadVar_blk H9.out.2)) rfl ?_
    exact ⟨by rw [HF.out.2], H9.out.1⟩
  · have hF : invF b = (zeros64, 2) := by unfold invF; rw [if_neg hw]
    have HF := Lib.hid (HR.out.trans hF)
    rw [decide_eq_false hw]
    clear hF hw
    go_wp2_with (first
      | ((with_reducible refine wpList_store_blk9_ (o := ⟨none, _, _, _, _, _⟩) rfl (.tmp 2) (.tmp 7) rfl rfl (w.heap.size + 1) zeros64 rfl ?hy _ H4.out.out.box rfl zeros_len ?_)
         case hy => exact H.out.2.2.1
         intro w9 b9 k9
         have H9 := Lib.hid (H4.out.done b9 k9)
         clear b9 k9)
      | fail)
    refine bodyPost_ret (v := .tuple #[blkV zeros64, .int .i64 2]) (results_ct (fn := Tryd.f36) Tryd.results36 _ _ (w.heap.size + 1) _ _ rfl rfl (loadVar_blk H9.out.2)) rfl ?_
    exact ⟨by rw [HF.out], H9.out.1⟩
end Go.Proofs.YtmadkpnkmkajoaaDoor
