/-
  The contract of plane's block.
-/
import Derived.Test.YtadlaljohlpabaaQJoin2
namespace Go.Proofs.Ytadlaljohlpabaa
open Go.RowKit

/-- what lies in memory: the argument's box, the block that is written -/
structure Bw (w wr : World) (P : Array Value) (b : List Int) : Prop where
  arg : Box wr w.heap.size 24 P
  blk : Blk wr (w.heap.size + 1) b
  bel : Below w.heap.size w wr
section
variable {w wr w' : World} {P : Array Value} {b : List Int}
theorem Bw.on (h : Bw w wr P b) (k : Below wr.heap.size wr w') : Bw w w' P b := ⟨h.arg.on k, h.blk.on k, on_trans h.bel k⟩
theorem Bw.put (h : Bw w wr P b) (k : Nat) (z : Int) : Bw w (wr.setCell ⟨w.heap.size + 1, k, none⟩ (.int .i64 z)) P (b.set k z) :=
  ⟨h.arg.beside (p := ⟨w.heap.size + 1, k, none⟩) (by show w.heap.size ≠ w.heap.size + 1; omega) _, h.blk.put k z, ((Kept.of_below h.bel (fun i => i = w.heap.size + 1)).setCell (p := ⟨w.heap.size + 1, k, none⟩) (fun _ => rfl) _).below (Nat.le_refl _) (fun i hi e => by omega)⟩
end
/-- what answers a block -/
def GivesB (w : World) (b : List Int) (e : Ending) (w' : World) : Prop := e = .returned (blkV b) ∧ Below w.heap.size w w'

set_option maxRecDepth 10000 in
set_option maxHeartbeats 3200000 in
theorem block_any (w : World) (W H bx by' : Nat) (A : Option Addr) (n c : Nat) (xs : List Int) (hI : Ia w A n c xs) (hr : RightP xs W H) (hx : bx ≤ 16) (hy : by' ≤ 16) :
    Calls Try.prog 38 #[.agg #[.int .i64 (W : Int), .int .i64 (H : Int), .slice A n c], .int .i64 ((8 * bx : Nat) : Int), .int .i64 ((8 * by' : Nat) : Int)] w (GivesB w (cutB xs W H bx by')) := by
  obtain ⟨X, hX⟩ : ∃ X, X = 8 * bx := ⟨_, rfl⟩
  obtain ⟨Y, hY⟩ : ∃ Y, Y = 8 * by' := ⟨_, rfl⟩
  obtain ⟨F, hF⟩ : ∃ F, F = cutB xs W H bx by' := ⟨_, rfl⟩
  have hFl : F.length = 64 := by rw [hF]; exact cutB_len _ _ _ _ _
  have hFa : ∀ i, i < 64 → F.getD i 0 = atL xs W H ((X : Int) + ((i % 8 : Nat) : Int)) ((Y : Int) + ((i / 8 : Nat) : Int)) - 128 := fun i hi => by
    rw [hF]
    unfold cutB
    rw [tab_at _ hi, ← hX, ← hY, Int.natCast_add, Int.natCast_add]
  rw [← hX, ← hY, ← hF]
  have X1 : X ≤ 128 := by omega
  have Y1 : Y ≤ 128 := by omega
  have hat := fun (x y : Int) => hr.at x y
  have HA := Lib.hid (fun w1 (k : Below w.heap.size w w1) (x y : Int) => sample_any w1 W H A n c xs x y (hI.on k) hr)
  unfold Atd at HA
  obtain ⟨Z, hZ⟩ : ∃ Z, Z = (cellsI zeros64).toArray := ⟨_, rfl⟩
  have hz' : ∀ w, (zeroValue 51).run Try.prog w = .ok (.agg Z) w := fun w => by rw [hZ]; exact zero51 w
  obtain ⟨w2, hw2⟩ : ∃ w2, (w.alloc (.cells #[.int .i64 (W : Int), .int .i64 (H : Int), .slice A n c] 24)).alloc (.cells Z 51) = w2 := ⟨_, rfl⟩
  have hB : Bw w w2 #[.int .i64 (W : Int), .int .i64 (H : Int), .slice A n c] zeros64 := by
    rw [← hw2]
    refine ⟨(Box.made _ _ _).alloc _, ?_, on_trans (on_alloc _ _) (on_alloc _ _)⟩
    have := Blk.made (w.alloc (.cells #[.int .i64 (W : Int), .int .i64 (H : Int), .slice A n c] 24)) zeros64 zeros_len
    rw [← hZ, show (w.alloc (.cells #[.int .i64 (W : Int), .int .i64 (H : Int), .slice A n c] 24)).heap.size = w.heap.size + 1 by simp] at this
    exact this
  have HB := Lib.hid (And.intro hw2 hB)
  have HF := Lib.hid (And.intro hFl (And.intro hFa hat))
  clear hX hY hF hFl hFa hat hI hr hZ hw2 hB hx hy
  go_enter Try.func38, Try.ntmps38
  go_wp2_with fail
  rw [HB.out.1]
  go_loopw [8] (fun i wr => ∃ k : Nat, k ≤ 64 ∧ i = .int .i64 k ∧ Bw w wr #[.int .i64 (W : Int), .int .i64 (H : Int), .slice A n c] (mix k F zeros64)) (fun i _ => 64 - (intOf i).toNat)
  case atStart => exact ⟨0, by omega, rfl, by rw [mix_zero]; exact HB.out.2⟩
  case round =>
    obtain ⟨k, hk, rfl, hR⟩ := hrel
    have HR := Lib.hid hR
    clear hR
    by_cases hlt : k < 64
    · have hfa := HF.out.2.1 k hlt
      have hz8 := HF.out.2.2 ((X : Int) + ((k % 8 : Nat) : Int)) ((Y : Int) + ((k / 8 : Nat) : Int))
      unfold In8 at hz8
      have HT := Lib.hid (HA.out wr HR.out.bel ((X : Int) + ((k % 8 : Nat) : Int)) ((Y : Int) + ((k / 8 : Nat) : Int)))
      obtain ⟨z, hz⟩ : ∃ z, z = atL xs W H ((X : Int) + ((k % 8 : Nat) : Int)) ((Y : Int) + ((k / 8 : Nat) : Int)) := ⟨_, rfl⟩
      rw [← hz] at HT hfa hz8
      have hm := mix_more HF.out.1 zeros_len hlt
      rw [hfa] at hm
      have HX := Lib.hid hm
      have e1 : (k : Int) / 8 = ((k / 8 : Nat) : Int) := by omega
      have e3 : (k : Int) % 8 = ((k % 8 : Nat) : Int) := by omega
      have l1 : k / 8 < 8 := by omega
      have l3 : k % 8 < 8 := Nat.mod_lt _ (by omega)
      obtain ⟨kq, hkq⟩ : ∃ q, q = k / 8 := ⟨_, rfl⟩
      obtain ⟨kr, hkr⟩ : ∃ q, q = k % 8 := ⟨_, rfl⟩
      rw [← hkq] at e1 l1 HT
      rw [← hkr] at e3 l3 HT
      clear hm hfa hz hkq hkr
      go_wp2_with (first
        | (with_reducible refine wpList_load_to (op := ⟨some 12, _, _, _, _, _⟩) rfl 24 (.tmp 3) rfl (.pointer (some ⟨w.heap.size, 0, none⟩)) rfl (.agg #[.int .i64 (W : Int), .int .i64 (H : Int), .slice A n c]) (load_plane HR.out.arg rfl) ?_)
        | fail)
      refine Calls.mono HT.out ?_
      rintro e w6 ⟨rfl, b6⟩
      have H6 := Lib.hid (HR.out.on b6)
      have cb := H6.out.blk.cell (k := k) hlt
      have fb := H6.out.blk.free k
      obtain ⟨old, hold⟩ : ∃ q, q = (mix k F zeros64).getD k 0 := ⟨_, rfl⟩
      rw [← hold] at cb
      clear b6 hold
      go_wp2_with fail
      go_roundw
      case rel =>
        refine ⟨k + 1, by omega, by go_num, ?_⟩
        rw [← HX.out]
        exact H6.out.put _ _
      case measure => simp [intOf]; omega
    · obtain rfl : k = 64 := by omega
      have hR := HR.out
      rw [mix_all HF.out.1 zeros_len] at hR
      have HR := Lib.hid hR
      clear hR
      go_wp2_with (first
        | (with_reducible refine wpList_load_to (op := ⟨some 25, _, _, _, _, _⟩) rfl 51 (.tmp 6) rfl (.pointer (some ⟨w.heap.size + 1, 0, none⟩)) rfl (blkV F) HR.out.blk.load ?_)
        | ((with_reducible refine wpList_store_blk (o := ⟨none, _, _, _, _, _⟩) rfl (.tmp 6) (.tmp 25) rfl rfl (w.heap.size + 1) F rfl rfl _ HR.out.blk.box ?hold HF.out.1 ?_)
           case hold => simp [cellsI_len, HF.out.1]
           intro w9 b9 k9
           have H9 := Lib.hid (And.intro b9 (HR.out.bel.trans (k9.below HR.out.bel.size (fun i hi e => by omega))))
           clear b9 k9)
        | fail)
      refine bodyPost_ret (v := blkV F) (results_c (fn := Try.f38) Try.results38 _ _ (w.heap.size + 1) _ rfl (loadVar_blk H9.out.1)) rfl ?_
      exact ⟨rfl, H9.out.2⟩
end Go.Proofs.Ytadlaljohlpabaa
