/-
  The contract of the closure of plane's Halve: the mean of some samples.
-/
import Derived.Test.YtadlaljohlpabaaQGrow2
namespace Go.Proofs.Ytadlaljohlpabaa
open Go.RowKit

theorem calls33 (args : Array Value) (w : World) : (callFunc 33 args).run Try.prog w = .ok (.enter 33 args) w := by kernel_rfl
/-- the sum of the first numbers -/
def rowS (f : Nat → Int) : Nat → Int
  | 0 => 0
  | k + 1 => rowS f k + f k
/-- the sum of the first rows -/
def sumS (C : Nat) (g : Nat → Nat → Int) : Nat → Int
  | 0 => 0
  | j + 1 => sumS C g j + rowS (fun i => g i j) C
theorem rowS_bound {f : Nat → Int} (h : ∀ i, In8 (f i)) : ∀ k : Nat, 0 ≤ rowS f k ∧ rowS f k ≤ 255 * (k : Int)
  | 0 => by unfold rowS; omega
  | k + 1 => by
    have := rowS_bound h k
    have h0 := h k
    unfold In8 at h0
    unfold rowS
    omega
theorem sumS_bound {C : Nat} (hC : C ≤ 2) {g : Nat → Nat → Int} (h : ∀ i j, In8 (g i j)) : ∀ k : Nat, 0 ≤ sumS C g k ∧ sumS C g k ≤ 510 * (k : Int)
  | 0 => by unfold sumS; omega
  | k + 1 => by
    have := sumS_bound hC h k
    have h0 := rowS_bound (fun i => h i k) C
    unfold sumS
    omega
/-- a sample halved is the mean of the sum -/
theorem halfT_sum (xs : List Int) (W H : Nat) (a d : Bool) (x y : Nat) : halfT xs W H a d x y = rnd (sumS (facN a) (fun i j => atL xs W H ((facN a * x + i : Nat) : Int) ((facN d * y + j : Nat) : Int)) (facN d)) ((facN a * facN d : Nat) : Int) := by
  cases a <;> cases d <;> simp [halfT, facN, sumS, rowS, Int.add_assoc]

set_option maxRecDepth 10000 in
set_option maxHeartbeats 3200000 in
theorem meanT_any (w : World) (gP gC gD : Nat) (W H C D x y : Nat) (A : Option Addr) (n c : Nat) (xs : List Int) (bP : Box w gP 24 #[.int .i64 (W : Int), .int .i64 (H : Int), .slice A n c]) (bC : Box w gC 3 #[.int .i64 (C : Int)]) (bD : Box w gD 3 #[.int .i64 (D : Int)])
    (hI : Ia w A n c xs) (hr : RightP xs W H) (hC : 1 ≤ C ∧ C ≤ 2) (hD : 1 ≤ D ∧ D ≤ 2) (hx : x < 128) (hy : y < 128) :
    Calls Try.prog 33 #[.int .i64 (x : Int), .int .i64 (y : Int), .pointer (some ⟨gD, 0, none⟩), .pointer (some ⟨gC, 0, none⟩), .pointer (some ⟨gP, 0, none⟩)] w (Atd w (rnd (sumS C (fun i j => atL xs W H ((C * x + i : Nat) : Int) ((D * y + j : Nat) : Int)) D) ((C * D : Nat) : Int))) := by
  obtain ⟨g, hg⟩ : ∃ g : Nat → Nat → Int, g = fun i j => atL xs W H ((C * x + i : Nat) : Int) ((D * y + j : Nat) : Int) := ⟨_, rfl⟩
  rw [← hg]
  obtain ⟨m, hm⟩ : ∃ m, m = C * x := ⟨_, rfl⟩
  obtain ⟨q, hq⟩ : ∃ q, q = D * y := ⟨_, rfl⟩
  obtain ⟨N, hN⟩ : ∃ N, N = C * D := ⟨_, rfl⟩
  have hm' : (C : Int) * (x : Int) = (m : Int) := by rw [hm, Int.natCast_mul]
  have hq' : (D : Int) * (y : Int) = (q : Int) := by rw [hq, Int.natCast_mul]
  have hN' : (C : Int) * (D : Int) = (N : Int) := by rw [hN, Int.natCast_mul]
  have m1 : m ≤ 256 := by rw [hm]; have : C * x ≤ 2 * 128 := Nat.mul_le_mul hC.2 (by omega); omega
  have q1 : q ≤ 256 := by rw [hq]; have : D * y ≤ 2 * 128 := Nat.mul_le_mul hD.2 (by omega); omega
  have N1 : N ≤ 4 := by rw [hN]; have : C * D ≤ 2 * 2 := Nat.mul_le_mul hC.2 hD.2; omega
  have hgI : ∀ i j, In8 (g i j) := fun i j => by rw [hg]; exact hr.at _ _
  have HA := Lib.hid (fun (w' : World) (k : Below w.heap.size w w') (i j : Nat) => show Calls Try.prog 30 #[.agg #[.int .i64 (W : Int), .int .i64 (H : Int), .slice A n c], .int .i64 ((m : Int) + (i : Int)), .int .i64 ((q : Int) + (j : Int))] w' (Atd w' (g i j)) by
    have := sample_any w' W H A n c xs ((m : Int) + (i : Int)) ((q : Int) + (j : Int)) (hI.on k) hr
    have e : g i j = atL xs W H ((m : Int) + (i : Int)) ((q : Int) + (j : Int)) := by rw [hg, hm, hq]; simp only [Int.natCast_add]
    rw [e]
    exact this)
  unfold Atd at HA
  rw [← hN]
  have HB := Lib.hid (And.intro bP (And.intro bC bD))
  have HG := Lib.hid (And.intro hgI hC.2)
  obtain ⟨C0, C1⟩ := hC
  obtain ⟨D0, D1⟩ := hD
  have HRO := Lib.hid (fun (w' : World) (s : Int) (h0 : 0 ≤ s) (h1 : s ≤ 2000) => round_any w' s (N : Int) (by unfold isInt; omega) (by unfold isInt; omega))
  unfold Rounded at HRO
  clear hI hr bP bC bD hg hm hq hN hgI
  go_enter Try.func33, Try.ntmps33
  have cD : w.cell? ⟨gD, 0, none⟩ = some (.int .i64 (D : Int)) := HB.out.2.2.cell 0
  go_wp2_with fail
  clear cD
  go_loopw [8, 12] (fun s i wr => ∃ j : Nat, j ≤ D ∧ s = .int .i64 (sumS C g j) ∧ i = .int .i64 ((j : Nat) : Int) ∧ Hid (Below w.heap.size w wr)) (fun _ i _ => D - (intOf i).toNat)
  case atStart => exact ⟨0, by omega, rfl, rfl, Lib.hid (Below.refl _ _)⟩
  case round =>
    obtain ⟨j, hj, rfl, rfl, HR⟩ := hrel
    obtain ⟨s, hs⟩ : ∃ s, s = sumS C g j := ⟨_, rfl⟩
    have sb := sumS_bound HG.out.2 HG.out.1 j
    rw [← hs] at sb ⊢
    obtain ⟨sb0, sb1⟩ := sb
    have HSs := Lib.hid hs
    clear hs
    have cC : wr.cell? ⟨gC, 0, none⟩ = some (.int .i64 (C : Int)) := (HB.out.2.1.on HR.out).cell 0
    have cD : wr.cell? ⟨gD, 0, none⟩ = some (.int .i64 (D : Int)) := (HB.out.2.2.on HR.out).cell 0
    by_cases hjD : j < D
    · go_wp2_with fail
      clear cC cD
      go_loopw [8, 16] (fun r i wr => ∃ k : Nat, k ≤ C ∧ r = .int .i64 (s + rowS (fun i => g i j) k) ∧ i = .int .i64 ((k : Nat) : Int) ∧ Hid (Below w.heap.size w wr)) (fun _ i _ => C - (intOf i).toNat)
      case atStart => exact ⟨0, by omega, by rw [rowS, Int.add_zero], rfl, HR⟩
      case round =>
        obtain ⟨k, hk, rfl, rfl, HR⟩ := hrel
        obtain ⟨r, hrr⟩ : ∃ r, r = rowS (fun i => g i j) k := ⟨_, rfl⟩
        have rb := rowS_bound (fun i => HG.out.1 i j) k
        rw [← hrr] at rb ⊢
        obtain ⟨rb0, rb1⟩ := rb
        have HRr := Lib.hid hrr
        clear hrr
        by_cases hkC : k < C
        · have cC : wr.cell? ⟨gC, 0, none⟩ = some (.int .i64 (C : Int)) := (HB.out.2.1.on HR.out).cell 0
          have cD : wr.cell? ⟨gD, 0, none⟩ = some (.int .i64 (D : Int)) := (HB.out.2.2.on HR.out).cell 0
          have HT := Lib.hid (HA.out wr HR.out k j)
          have zb := HG.out.1 k j
          unfold In8 at zb
          obtain ⟨z, hz⟩ : ∃ z, z = g k j := ⟨_, rfl⟩
          rw [← hz] at zb HT
          obtain ⟨zb0, zb1⟩ := zb
          have HZ := Lib.hid hz
          clear hz
          go_wp2_with (first
            | (with_reducible refine wpList_load_to (op := ⟨some 20, _, _, _, _, _⟩) rfl 24 (.tmp 4) rfl (.pointer (some ⟨gP, 0, none⟩)) rfl (.agg #[.int .i64 (W : Int), .int .i64 (H : Int), .slice A n c]) (load_plane (HB.out.1.on HR.out) rfl) ?_)
            | fail)
          refine Calls.mono HT.out ?_
          rintro e w6 ⟨rfl, b6⟩
          have H6 := Lib.hid (on_trans HR.out b6)
          clear b6 cC cD
          go_wp2_with fail
          go_roundw
          case rel => exact ⟨k + 1, by omega, by rw [rowS, ← HRr.out, ← HZ.out, Int.add_assoc], by go_num, H6⟩
          case measure => simp [intOf]; omega
        · obtain rfl : k = C := by omega
          go_wp2_with fail
          go_roundw
          case rel => exact ⟨j + 1, by omega, by rw [sumS, ← HSs.out, ← HRr.out], by go_num, HR⟩
          case measure => simp [intOf]; omega
    · obtain rfl : j = D := by omega
      go_wp2_with fail
      refine Calls.mono (HRO.out wr s sb0 (by omega)) ?_
      rintro e w6 ⟨rfl, rfl⟩
      go_wp2_with fail
      go_ret
      exact ⟨by rw [HSs.out]; rfl, HR.out⟩
end Go.Proofs.Ytadlaljohlpabaa
