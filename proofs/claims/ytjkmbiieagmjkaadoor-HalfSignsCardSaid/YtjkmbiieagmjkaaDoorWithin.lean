/-
  Whether a block's numbers lie between two: the contracts of within, Right and check, and of the reference's In.
-/
import Derived.Test.YtjkmbiieagmjkaaDoorRound
namespace Go.Proofs.YtjkmbiieagmjkaaDoor
open Go.RowKit

/-- each number lies between two -/
def Wi (b : List Int) (lo hi : Int) : Prop := ∀ j, j < 64 → lo ≤ b.getD j 0 ∧ b.getD j 0 ≤ hi
instance (b : List Int) (lo hi : Int) : Decidable (Wi b lo hi) := by unfold Wi; infer_instance
/-- the first k do -/
def Wk (b : List Int) (lo hi : Int) (k : Nat) : Prop := ∀ j, j < k → lo ≤ b.getD j 0 ∧ b.getD j 0 ≤ hi
theorem Wk.more {b : List Int} {lo hi : Int} {k : Nat} (h : Wk b lo hi k) (h0 : lo ≤ b.getD k 0) (h1 : b.getD k 0 ≤ hi) : Wk b lo hi (k + 1) := fun j hj => by
  by_cases e : j = k
  · rw [e]; exact ⟨h0, h1⟩
  · exact h j (by omega)
theorem not_wi {b : List Int} {lo hi : Int} {k : Nat} (hk : k < 64) (h : b.getD k 0 < lo ∨ hi < b.getD k 0) : decide (Wi b lo hi) = false := decide_eq_false_iff_not.2 fun hr => by have := hr k hk; omega
/-- what a call answers that asks whether they do -/
def Withd (w : World) (b : List Int) (lo hi : Int) (e : Ending) (w' : World) : Prop := e = .returned (.bool (decide (Wi b lo hi))) ∧ Below w.heap.size w w'

set_option maxRecDepth 10000 in
set_option maxHeartbeats 800000 in
theorem within_any (w : World) (b : List Int) (lo hi : Int) (hb : b.length = 64) : Calls Tryd.prog 30 #[blkV b, .int .i64 lo, .int .i64 hi] w (Withd w b lo hi) := by
  obtain ⟨w1, hw1⟩ : ∃ w1, w1 = w.alloc (.cells (cellsI b).toArray 23) := ⟨_, rfl⟩
  have hB : Blk w1 w.heap.size b := by rw [hw1]; exact Blk.made _ _ hb
  have bel : Below w.heap.size w w1 := by rw [hw1]; exact on_alloc _ _
  have H := Lib.hid (And.intro hB (And.intro bel hw1))
  have HL := Lib.hid hB.load
  have HB := Lib.hid hb
  clear hB bel hw1 hb
  obtain ⟨v, hv⟩ : ∃ v, v = blkV b := ⟨_, rfl⟩
  rw [← hv] at HL ⊢
  obtain ⟨cs, hcs⟩ : ∃ cs, cs = (cellsI b).toArray := ⟨_, rfl⟩
  have hvc : v = .agg cs := by rw [hv, hcs]; rfl
  rw [hvc]
  have HV := Lib.hid (And.intro hv (And.intro hcs hvc))
  clear hv hcs hvc
  have HL2 := Lib.hid (show (Instr.loadAt 23 (.pointer (some ⟨w.heap.size, 0, none⟩))).run Tryd.prog (w.alloc (.cells cs 23)) = .ok v (w.alloc (.cells cs 23)) by rw [HV.out.2.1, ← H.out.2.2]; exact HL.out)
  go_enter Tryd.func30, Tryd.ntmps30
  go_wp2_with (first
    | (with_reducible refine wpList_load_to (op := ⟨some 9, _, _, _, _, _⟩) rfl 23 (.tmp 3) rfl (.pointer (some ⟨w.heap.size, 0, none⟩)) rfl v HL2.out ?_)
    | fail)

  rw [HV.out.2.1, ← H.out.2.2]

  go_loopw [10] (fun i wr => ∃ k : Nat, k ≤ 64 ∧ i = .int .i64 k ∧ Wk b lo hi k ∧ w1 = wr) (fun i _ => 64 - (intOf i).toNat)
  case atStart => exact ⟨0, by omega, rfl, fun j hj => absurd hj (by omega), rfl⟩
  case round =>
    obtain ⟨k, hk, rfl, hR, rfl⟩ := hrel
    have HR := Lib.hid hR
    clear hR
    by_cases hlt : k < 64
    · have hidx := fun w => index23 w HB.out hlt
      rw [← HV.out.1] at hidx
      have hlt' := not_wi (b := b) (lo := lo) (hi := hi) hlt
      obtain ⟨z, hz⟩ : ∃ z, z = b.getD k 0 := ⟨_, rfl⟩
      rw [← hz] at hidx hlt'
      have HZ := Lib.hid (And.intro hz hlt')
      clear hz hlt'
      by_cases h0 : z < lo
      · go_wp2_with fail
        go_ret
        exact ⟨by rw [HZ.out.2 (.inl h0)]; rfl, H.out.2.1⟩
      · by_cases h1 : hi < z
        · go_wp2_with fail
          go_ret
          exact ⟨by rw [HZ.out.2 (.inr h1)]; rfl, H.out.2.1⟩
        · go_wp2_with fail
          go_roundw
          case rel => exact ⟨k + 1, by omega, by go_num, HR.out.more (by rw [← HZ.out.1]; omega) (by rw [← HZ.out.1]; omega), trivial⟩
          case measure => simp [intOf]; omega
    · obtain rfl : k = 64 := by omega
      go_wp2
      go_ret
      exact ⟨by rw [decide_eq_true (show Wi b lo hi from HR.out)]; rfl, H.out.2.1⟩

set_option maxRecDepth 10000 in
set_option maxHeartbeats 800000 in
theorem refIn_any (w : World) (b : List Int) (lo hi : Int) (hb : b.length = 64) : Calls Tryd.prog 16 #[blkV b, .int .i64 lo, .int .i64 hi] w (Withd w b lo hi) := by
  obtain ⟨w1, hw1⟩ : ∃ w1, w1 = w.alloc (.cells (cellsI b).toArray 23) := ⟨_, rfl⟩
  have hB : Blk w1 w.heap.size b := by rw [hw1]; exact Blk.made _ _ hb
  have bel : Below w.heap.size w w1 := by rw [hw1]; exact on_alloc _ _
  have H := Lib.hid (And.intro hB (And.intro bel hw1))
  clear hB bel hw1 hb
  obtain ⟨cs, hcs⟩ : ∃ cs, cs = (cellsI b).toArray := ⟨_, rfl⟩
  have hvc : blkV b = .agg cs := by rw [hcs]; rfl
  rw [hvc]
  have HV := Lib.hid hcs
  clear hcs hvc
  go_enter Tryd.func16, Tryd.ntmps16
  go_wp2_with fail
  rw [HV.out, ← H.out.2.2]
  go_loopw [7] (fun i wr => ∃ k : Nat, k ≤ 64 ∧ i = .int .i64 k ∧ Wk b lo hi k ∧ w1 = wr) (fun i _ => 64 - (intOf i).toNat)
  case atStart => exact ⟨0, by omega, rfl, fun j hj => absurd hj (by omega), rfl⟩
  case round =>
    obtain ⟨k, hk, rfl, hR, rfl⟩ := hrel
    have HR := Lib.hid hR
    clear hR
    by_cases hlt : k < 64
    · have hc := H.out.1.cell hlt
      have hlt' := not_wi (b := b) (lo := lo) (hi := hi) hlt
      obtain ⟨z, hz⟩ : ∃ z, z = b.getD k 0 := ⟨_, rfl⟩
      rw [← hz] at hc hlt'
      have HZ := Lib.hid (And.intro hz hlt')
      clear hz hlt'
      by_cases h0 : z < lo
      · go_wp2_with fail
        go_ret
        exact ⟨by rw [HZ.out.2 (.inl h0)]; rfl, H.out.2.1⟩
      · by_cases h1 : hi < z
        · go_wp2_with fail
          go_ret
          exact ⟨by rw [HZ.out.2 (.inr h1)]; rfl, H.out.2.1⟩
        · go_wp2_with fail
          go_roundw
          case rel => exact ⟨k + 1, by omega, by go_num, HR.out.more (by rw [← HZ.out.1]; omega) (by rw [← HZ.out.1]; omega), trivial⟩
          case measure => simp [intOf]; omega
    · obtain rfl : k = 64 := by omega
      go_wp2
      go_ret
      exact ⟨by rw [decide_eq_true (show Wi b lo hi from HR.out)]; rfl, H.out.2.1⟩

set_option maxRecDepth 10000 in
set_option maxHeartbeats 800000 in
theorem right_any (w : World) (b : List Int) (hb : b.length = 64) : Calls Tryd.prog 29 #[blkV b] w (Withd w b 1 255) := by
  obtain ⟨w1, hw1⟩ : ∃ w1, w1 = w.alloc (.cells (cellsI b).toArray 23) := ⟨_, rfl⟩
  have hB : Blk w1 w.heap.size b := by rw [hw1]; exact Blk.made _ _ hb
  have bel : Below w.heap.size w w1 := by rw [hw1]; exact on_alloc _ _
  have HL := Lib.hid hB.load
  have HC := Lib.hid (within_any w1 b 1 255 hb)
  obtain ⟨v, hv⟩ : ∃ v, v = blkV b := ⟨_, rfl⟩
  rw [← hv] at HL HC ⊢
  obtain ⟨cs, hcs⟩ : ∃ cs, cs = (cellsI b).toArray := ⟨_, rfl⟩
  rw [← hcs] at hw1
  have hvc : v = .agg cs := by rw [hv, hcs]; rfl
  rw [hvc]
  rw [hvc, hw1] at HC
  rw [hw1] at HL bel
  have HB := Lib.hid (And.intro bel hvc)
  clear hv hcs hB hw1 bel hvc hb
  go_enter Tryd.func29, Tryd.ntmps29
  go_wp2_with (first
    | (with_reducible refine wpList_load_to (op := ⟨some 3, _, _, _, _, _⟩) rfl 23 (.tmp 1) rfl (.pointer (some ⟨w.heap.size, 0, none⟩)) rfl v HL.out ?_)
    | fail)
  rw [HB.out.2]
  refine HC.out.mono ?_
  rintro e w2 ⟨rfl, b2⟩
  have H2 := Lib.hid (on_trans HB.out.1 b2)
  clear b2
  go_wp2
  go_ret
  exact ⟨rfl, H2.out⟩

/-- two blocks that are boxed, one behind the other -/
structure Two (w w2 : World) (cs cu : Array Value) (b s : List Int) : Prop where
  b1 : Blk w2 w.heap.size b
  b2 : Blk w2 (w.heap.size + 1) s
  bel : Below w.heap.size w w2
  l1 : (Instr.loadAt 23 (.pointer (some ⟨w.heap.size, 0, none⟩))).run Tryd.prog ((w.alloc (.cells cs 23)).alloc (.cells cu 23)) = .ok (blkV b) ((w.alloc (.cells cs 23)).alloc (.cells cu 23))
  l2 : (Instr.loadAt 23 (.pointer (some ⟨w.heap.size + 1, 0, none⟩))).run Tryd.prog ((w.alloc (.cells cs 23)).alloc (.cells cu 23)) = .ok (blkV s) ((w.alloc (.cells cs 23)).alloc (.cells cu 23))
  e : (w.alloc (.cells cs 23)).alloc (.cells cu 23) = w2
  size : w2.heap.size = w.heap.size + 2
theorem two_boxed (w : World) (b s : List Int) (hb : b.length = 64) (hs : s.length = 64) : ∃ cs cu w2, blkV b = .agg cs ∧ blkV s = .agg cu ∧ Two w w2 cs cu b s := by
  have hB : Blk (w.alloc (.cells (cellsI b).toArray 23)) w.heap.size b := Blk.made _ _ hb
  have hz : (w.alloc (.cells (cellsI b).toArray 23)).heap.size = w.heap.size + 1 := by simp
  have hS : Blk ((w.alloc (.cells (cellsI b).toArray 23)).alloc (.cells (cellsI s).toArray 23)) (w.heap.size + 1) s := by rw [← hz]; exact Blk.made _ _ hs
  have hB2 := hB.on (on_alloc (w.alloc (.cells (cellsI b).toArray 23)) (.cells (cellsI s).toArray 23))
  refine ⟨_, _, _, rfl, rfl, ⟨hB2, hS, on_trans (on_alloc _ _) (on_alloc _ _), hB2.load, hS.load, rfl, by simp⟩⟩

/-- what check answers: why a block can't be taken by steps -/
def checkF (b s : List Int) (most : Int) : Int := if Wi s 1 255 then (if Wi b (-most) most then 0 else 2) else 1
def Checkd (w : World) (b s : List Int) (most : Int) (e : Ending) (w' : World) : Prop := e = .returned (.int .i64 (checkF b s most)) ∧ Below w.heap.size w w'
set_option maxRecDepth 10000 in
set_option maxHeartbeats 800000 in
theorem check_any (w : World) (b s : List Int) (most : Int) (hb : b.length = 64) (hs : s.length = 64) (h0 : 0 ≤ most) (h1 : most ≤ 16777216) : Calls Tryd.prog 27 #[blkV b, blkV s, .int .i64 most] w (Checkd w b s most) := by
  obtain ⟨cs, cu, w2, hbv, hsv, hT⟩ := two_boxed w b s hb hs
  have H := Lib.hid hT
  have HC := Lib.hid (right_any w2 s hs)
  have HN := Lib.hid (And.intro hb hs)
  rw [hbv, hsv]
  clear hbv hsv hT hb hs
  by_cases hr : Wi s 1 255
  · have hd : decide (Wi s 1 255) = true := decide_eq_true hr
    have HD := Lib.hid (And.intro hd hr)
    clear hd hr
    go_enter Tryd.func27, Tryd.ntmps27
    go_wp2_with (first
      | (with_reducible refine wpList_load_to (op := ⟨some 7, _, _, _, _, _⟩) rfl 23 (.tmp 4) rfl (.pointer (some ⟨w.heap.size + 1, 0, none⟩)) rfl (blkV s) H.out.l2 ?_)
      | fail)
    rw [H.out.e]
    refine HC.out.mono ?_
    rintro e w3 ⟨rfl, b3⟩
    rw [HD.out.1]
    have H3 := Lib.hid (And.intro (H.out.b1.on b3) (on_trans H.out.bel b3))
    clear b3
    go_wp2_with (first
      | (with_reducible refine wpList_load_to (op := ⟨some 10, _, _, _, _, _⟩) rfl 23 (.tmp 3) rfl (.pointer (some ⟨w.heap.size, 0, none⟩)) rfl (blkV b) H3.out.1.load ?_)
      | fail)
    refine (within_any w3 b (-most) most HN.out.1).mono ?_
    rintro e w4 ⟨rfl, b4⟩
    have H4 := Lib.hid (on_trans H3.out.2 b4)
    clear b4
    by_cases hw : Wi b (-most) most
    · have E : checkF b s most = 0 := by unfold checkF; rw [if_pos HD.out.2, if_pos hw]
      rw [decide_eq_true hw]
      have E := Lib.hid E
      clear hw
      go_wp2
      go_ret
      exact ⟨by rw [E.out]; rfl, H4.out⟩
    · have E : checkF b s most = 2 := by unfold checkF; rw [if_pos HD.out.2, if_neg hw]
      rw [decide_eq_false hw]
      have E := Lib.hid E
      clear hw
      go_wp2
      go_ret
      exact ⟨by rw [E.out]; rfl, H4.out⟩
  · have E : checkF b s most = 1 := by unfold checkF; rw [if_neg hr]
    have hd : decide (Wi s 1 255) = false := decide_eq_false hr
    have HD := Lib.hid (And.intro hd E)
    clear hd hr E
    go_enter Tryd.func27, Tryd.ntmps27
    go_wp2_with (first
      | (with_reducible refine wpList_load_to (op := ⟨some 7, _, _, _, _, _⟩) rfl 23 (.tmp 4) rfl (.pointer (some ⟨w.heap.size + 1, 0, none⟩)) rfl (blkV s) H.out.l2 ?_)
      | fail)
    rw [H.out.e]
    refine HC.out.mono ?_
    rintro e w3 ⟨rfl, b3⟩
    rw [HD.out.1]
    have H3 := Lib.hid (on_trans H.out.bel b3)
    clear b3
    go_wp2
    go_ret
    exact ⟨by rw [HD.out.2]; rfl, H3.out⟩
end Go.Proofs.YtjkmbiieagmjkaaDoor
