/-
  Planes as values; the contracts of few, and of the reference's Right, At and Blocks.
-/
import Derived.Test.YtadlaljohlpabaaSlices
namespace Go.Proofs.Ytadlaljohlpabaa
open Go.RowKit

/-- a plane may be: by any numbers -/
def RightI (W H : Int) (xs : List Int) : Prop := (1 ≤ W ∧ W ≤ 128) ∧ (1 ≤ H ∧ H ≤ 128) ∧ (xs.length : Int) = W * H ∧ ∀ j, j < xs.length → In8 (xs.getD j 0)
instance (W H : Int) (xs : List Int) : Decidable (RightI W H xs) := by unfold RightI; infer_instance
theorem RightI.plane {W H : Int} {xs : List Int} (r : RightI W H xs) : ∃ w h : Nat, W = w ∧ H = h ∧ RightP xs w h := by
  obtain ⟨⟨a, b⟩, ⟨c, d⟩, e, f⟩ := r
  obtain ⟨w, rfl⟩ := Int.eq_ofNat_of_zero_le (show 0 ≤ W by omega)
  obtain ⟨h, rfl⟩ := Int.eq_ofNat_of_zero_le (show 0 ≤ H by omega)
  have e' : xs.length = w * h := by
    have : (xs.length : Int) = ((w * h : Nat) : Int) := by rw [e, Int.natCast_mul]
    omega
  exact ⟨w, h, rfl, rfl, by omega, by omega, by omega, by omega, e', fun j hj => f j (by rw [e']; exact hj)⟩
theorem RightP.int {w h : Nat} {xs : List Int} (r : RightP xs w h) : RightI (w : Int) (h : Int) xs := by
  refine ⟨⟨by have := r.w0; omega, by have := r.w1; omega⟩, ⟨by have := r.h0; omega, by have := r.h1; omega⟩, by rw [r.len, Int.natCast_mul], fun j hj => r.all j (by rw [← r.len]; exact hj)⟩
theorem RightP.small {w h : Nat} {xs : List Int} (r : RightP xs w h) : w * h ≤ 16384 := by
  have : w * h ≤ 128 * 128 := Nat.mul_le_mul r.w1 r.h1
  omega
/-- what Right answers -/
def Righted (w : World) (W H : Int) (xs : List Int) (e : Ending) (w' : World) : Prop := e = .returned (.bool (decide (RightI W H xs))) ∧ Below w.heap.size w w'
theorem prod128 {W H : Int} (a : 1 ≤ W ∧ W ≤ 128) (b : 1 ≤ H ∧ H ≤ 128) : 1 ≤ W * H ∧ W * H ≤ 16384 := by
  have h1 : W * H ≤ 128 * 128 := Int.mul_le_mul a.2 b.2 (by omega) (by omega)
  have h2 : 1 * 1 ≤ W * H := Int.mul_le_mul a.1 b.1 (by omega) (by omega)
  omega
/-- what few answers -/
def Fewd (w : World) (n : Nat) (e : Ending) (w' : World) : Prop := e = .returned (.bool (decide (n ≤ 20000))) ∧ Below w.heap.size w w'
set_option maxHeartbeats 800000 in
theorem few_any (w : World) (W H : Int) (A : Option Addr) (n c : Nat) : Calls Try.prog 9 #[.agg #[.int .i64 W, .int .i64 H, .slice A n c]] w (Fewd w n) := by
  go_enter Try.func9, Try.ntmps9
  go_wp2_with fail
  go_ret
  exact ⟨by rw [show decide (n ≤ 20000) = decide ((n : Int) ≤ 20000) from decide_eq_decide.2 (by omega)]; rfl, on_alloc _ _⟩
/-- what Blocks answers -/
def Nbd (w : World) (n : Nat) (e : Ending) (w' : World) : Prop := e = .returned (.int .i64 (nb n : Nat)) ∧ w = w'
set_option maxHeartbeats 800000 in
theorem blocks_any (w : World) (n : Nat) (hn : n ≤ 1000) : Calls Try.prog 39 #[.int .i64 (n : Int)] w (Nbd w n) := by
  have e0 : n % 8 = 0 → ((n : Int) / 8 : Int) = (nb n : Nat) := fun h => by unfold nb; omega
  have e1 : ¬ n % 8 = 0 → ((n : Int) / 8 + 1 : Int) = (nb n : Nat) := fun h => by unfold nb; omega
  have E := Lib.hid (And.intro e0 e1)
  clear e0 e1
  by_cases h : n % 8 = 0
  · have h' : (n : Int) % 8 = 0 := by omega
    have E := Lib.hid (E.out.1 h)
    go_enter Try.func39, Try.ntmps39
    go_wp2_with fail
    go_ret
    exact ⟨by rw [← E.out]; rfl, rfl⟩
  · have h' : ((n : Int) % 8 == 0) = false := by simp; omega
    have E := Lib.hid (E.out.2 h)
    go_enter Try.func39, Try.ntmps39
    go_wp2_with fail
    go_ret
    exact ⟨by rw [← E.out]; rfl, rfl⟩

/-- the first k are samples -/
def Sk (xs : List Int) (k : Nat) : Prop := ∀ j, j < k → In8 (xs.getD j 0)
theorem Sk.more {l : List Int} {k : Nat} (h : Sk l k) (h0 : In8 (l.getD k 0)) : Sk l (k + 1) := fun j hj => by
  by_cases e : j = k
  · rw [e]; exact h0
  · exact h j (by omega)

set_option maxHeartbeats 1600000 in
theorem refRight_any (w : World) (W H : Int) (A : Option Addr) (n c : Nat) (xs : List Int) (hI : Ia w A n c xs) (hn : n ≤ 1000000) : Calls Try.prog 14 #[.agg #[.int .i64 W, .int .i64 H, .slice A n c]] w (Righted w W H xs) := by
  obtain ⟨w1, hw1⟩ : ∃ w1, w.alloc (.cells #[.int .i64 W, .int .i64 H, .slice A n c] 24) = w1 := ⟨_, rfl⟩
  have hb1 : Box w1 w.heap.size 24 #[.int .i64 W, .int .i64 H, .slice A n c] := by rw [← hw1]; exact Box.made _ _ _
  have k1 : Below w.heap.size w w1 := by rw [← hw1]; exact on_alloc _ _
  have HW := Lib.hid hw1
  have hl := hI.len
  have H1 := Lib.hid (And.intro (hI.on k1) (And.intro k1 hb1))
  clear hw1 hb1 k1 hI
  by_cases hr : (1 ≤ W ∧ W ≤ 128) ∧ (1 ≤ H ∧ H ≤ 128)
  · have hp := prod128 hr.1 hr.2
    obtain ⟨m, hm⟩ : ∃ m, m = W * H := ⟨_, rfl⟩
    have hmm := hm.symm
    rw [hmm] at hp
    have HR := Lib.hid (And.intro hr hm)
    obtain ⟨⟨a0, a1⟩, b0, b1⟩ := hr
    clear hm
    by_cases he : (n : Int) = m
    · have he' : ((n : Int) == m) = true := by simp [he]
      have hne : ((n : Int) != m) = false := by simp [he]
      have HE := Lib.hid he
      clear he
      have hlast : Sk xs n → RightI W H xs := fun h => ⟨HR.out.1.1, HR.out.1.2, by rw [hl, HE.out, HR.out.2], fun j hj => h j (by omega)⟩
      have HL := Lib.hid (And.intro hlast hl)
      clear hlast hl
      obtain ⟨m0, m1⟩ := hp
      go_enter Try.func14, Try.ntmps14
      go_wp2_with fail
      rw [HW.out]
      have c2 : w1.cell? ⟨w.heap.size, 2, none⟩ = some (.slice A n c) := H1.out.2.2.cell 2
      have C2 := Lib.hid c2
      clear c2
      go_loopw [3] (fun i wr => ∃ k : Nat, k ≤ n ∧ i = .int .i64 k ∧ Sk xs k ∧ w1 = wr) (fun i _ => n - (intOf i).toNat)
      case atStart => exact ⟨0, by omega, rfl, fun j hj => absurd hj (by omega), rfl⟩
      case round =>
        obtain ⟨k, hk, rfl, hS, rfl⟩ := hrel
        have HS := Lib.hid hS
        clear hS
        have c2 := C2.out
        by_cases hkn : k < n
        · obtain ⟨b, off, hA, _, hc⟩ := H1.out.1.at_ (by omega)
          have c3 := hc k hkn
          have hz : ¬ In8 (xs.getD k 0) → ¬ RightI W H xs := fun h r => h (r.2.2.2 k (by rw [HL.out.2]; exact hkn))
          obtain ⟨z, hz'⟩ : ∃ z, z = xs.getD k 0 := ⟨_, rfl⟩
          rw [← hz'] at c3 hz
          subst hA
          have HZ := Lib.hid (And.intro hz hz')
          clear hz hz' hc
          by_cases h0 : z < 0
          · go_wp2_with fail
            go_ret
            exact ⟨by rw [decide_eq_false (HZ.out.1 (by unfold In8; omega))]; rfl, H1.out.2.1⟩
          · by_cases h1 : 255 < z
            · go_wp2_with fail
              go_ret
              exact ⟨by rw [decide_eq_false (HZ.out.1 (by unfold In8; omega))]; rfl, H1.out.2.1⟩
            · go_wp2_with fail
              go_roundw
              case rel => exact ⟨k + 1, by omega, by go_num, HS.out.more (by rw [← HZ.out.2]; unfold In8; omega), trivial⟩
              case measure => simp [intOf]; omega
        · obtain rfl : k = n := by omega
          go_wp2_with fail
          go_ret
          exact ⟨by rw [decide_eq_true (HL.out.1 HS.out)]; rfl, H1.out.2.1⟩
    · have hne : ((n : Int) != m) = true := by simpa using he
      have hne' : ((n : Int) == m) = false := by simpa using he
      have E := Lib.hid (decide_eq_false (show ¬ RightI W H xs from fun r => he (by rw [← hl, r.2.2.1, HR.out.2])))
      clear he
      obtain ⟨m0, m1⟩ := hp
      go_enter Try.func14, Try.ntmps14
      go_wp2_with fail
      rw [HW.out]
      go_ret
      exact ⟨by rw [E.out]; rfl, H1.out.2.1⟩
  · have E := Lib.hid (decide_eq_false (show ¬ RightI W H xs from fun r => hr ⟨r.1, r.2.1⟩))
    have hc : W < 1 ∨ (1 ≤ W ∧ 128 < W) ∨ (1 ≤ W ∧ W ≤ 128 ∧ H < 1) ∨ (1 ≤ W ∧ W ≤ 128 ∧ 1 ≤ H ∧ 128 < H) := by omega
    clear hr
    rcases hc with a | ⟨a, b⟩ | ⟨a, b, c⟩ | ⟨a, b, c, d⟩
    all_goals
      go_enter Try.func14, Try.ntmps14
      go_wp2_with fail
      rw [HW.out]
      go_ret
      exact ⟨by rw [E.out]; rfl, H1.out.2.1⟩
end Go.Proofs.Ytadlaljohlpabaa
