/-
  The contracts of plane's sized, hold, factor and pieces. The contracts of plane's sample, Right and At. The contracts of plane's Right and At. The contract of plane's made, over the contract of the closure that tells the samples. The contracts of plane's Grow and of its closure. The contract of plane's Grow. The contract of the closure of plane's Halve: the mean of some samples. The contract of plane's Halve. The contracts of plane's Join and of its closure. The contract of plane's Join.
-/
import Derived.Test.YtmadkpnkmkajoaaDoorP12A
import Derived.Test.YtmadkpnkmkajoaaDoorP12B
import Derived.BigRegion
import Derived.Deep.RegionWith
namespace Go.Proofs.YtmadkpnkmkajoaaDoor
open Go.RowKit

/-- a size that may be -/
def Sizd (w h : Int) : Prop := (1 ≤ w ∧ w ≤ 128) ∧ 1 ≤ h ∧ h ≤ 128
instance (w h : Int) : Decidable (Sizd w h) := by unfold Sizd; infer_instance
/-- what answers, and does nothing -/
def Tells0 (w : World) (v : Value) (e : Ending) (w' : World) : Prop := e = .returned v ∧ w = w'

set_option maxHeartbeats 800000 in
theorem sized_any (w : World) (u v : Int) : Calls Tryd.prog 94 #[.int .i64 u, .int .i64 v] w (Tells0 w (.bool (decide (Sizd u v)))) := by
  by_cases hr : Sizd u v
  · have E := Lib.hid (decide_eq_true hr)
    obtain ⟨⟨a, b⟩, c, d⟩ := hr
    go_enter Tryd.func94, Tryd.ntmps94
    go_wp2_with fail
    go_ret
    exact ⟨by rw [E.out]; rfl, rfl⟩
  · have E := Lib.hid (decide_eq_false hr)
    have hc : u < 1 ∨ (1 ≤ u ∧ 128 < u) ∨ (1 ≤ u ∧ u ≤ 128 ∧ v < 1) ∨ (1 ≤ u ∧ u ≤ 128 ∧ 1 ≤ v ∧ 128 < v) := by unfold Sizd at hr; omega
    clear hr
    rcases hc with a | ⟨a, b⟩ | ⟨a, b, c⟩ | ⟨a, b, c, d⟩
    case inr.inr.inr =>
      have D := Lib.hid (decide_eq_false (show ¬ v ≤ 128 by omega))
      go_enter Tryd.func94, Tryd.ntmps94
      go_wp2_with fail
      go_ret
      exact ⟨by rw [E.out, ← D.out]; rfl, rfl⟩
    all_goals
      go_enter Tryd.func94, Tryd.ntmps94
      go_wp2_with fail
      go_ret
      exact ⟨by rw [E.out]; rfl, rfl⟩
theorem held_cases (n lo hi : Int) (_ : lo ≤ hi) : (n < lo ∧ held n lo hi = lo) ∨ (lo ≤ n ∧ hi < n ∧ held n lo hi = hi) ∨ (lo ≤ n ∧ n ≤ hi ∧ held n lo hi = n) := by
  unfold held
  by_cases a : n < lo
  · exact .inl ⟨a, if_pos a⟩
  · rw [if_neg a]
    by_cases b : hi < n
    · exact .inr (.inl ⟨by omega, b, if_pos b⟩)
    · exact .inr (.inr ⟨by omega, by omega, if_neg b⟩)
set_option maxHeartbeats 800000 in
theorem hold_any (w : World) (n lo hi : Int) (h : lo ≤ hi) : Calls Tryd.prog 97 #[.int .i64 n, .int .i64 lo, .int .i64 hi] w (Tells0 w (.int .i64 (held n lo hi))) := by
  have hc := held_cases n lo hi h
  rcases hc with ⟨a, b⟩ | ⟨a, b, c⟩ | ⟨a, b, c⟩
  · have E := Lib.hid b
    clear b
    go_enter Tryd.func97, Tryd.ntmps97
    go_wp2_with fail
    go_ret
    exact ⟨by rw [E.out]; rfl, rfl⟩
  · have E := Lib.hid c
    clear c
    go_enter Tryd.func97, Tryd.ntmps97
    go_wp2_with fail
    go_ret
    exact ⟨by rw [E.out]; rfl, rfl⟩
  · have E := Lib.hid c
    clear c
    go_enter Tryd.func97, Tryd.ntmps97
    go_wp2_with fail
    go_ret
    exact ⟨by rw [E.out]; rfl, rfl⟩
set_option maxHeartbeats 800000 in
theorem factor_any (w : World) (a : Bool) : Calls Tryd.prog 100 #[.bool a] w (Tells0 w (.int .i64 (if a then 2 else 1))) := by
  cases a
  all_goals
    go_enter Tryd.func100, Tryd.ntmps100
    go_wp2_with fail
    go_ret
    exact ⟨rfl, rfl⟩
set_option maxHeartbeats 800000 in
theorem pieces_any (w : World) (n d : Nat) (h : n ≤ 1000) (d0 : 1 ≤ d) (d1 : d ≤ 1000) : Calls Tryd.prog 95 #[.int .i64 (n : Int), .int .i64 (d : Int)] w (Tells0 w (.int .i64 (((n + d - 1) / d : Nat) : Int))) := by
  have e : (((n + d - 1) / d : Nat) : Int) = ((n : Int) + d - 1) / d := by rw [Int.natCast_ediv, Int.natCast_sub (by omega), Int.natCast_add]; rfl
  rw [e]
  clear e
  go_enter Tryd.func95, Tryd.ntmps95
  go_wp2_with fail
  go_ret
  exact ⟨rfl, rfl⟩
end Go.Proofs.YtmadkpnkmkajoaaDoor

namespace Go.Proofs.YtmadkpnkmkajoaaDoor
open Go.RowKit

theorem held_clamp (y : Int) {H : Nat} (h : 1 ≤ H) : held y 0 ((H : Int) - 1) = (clampN y H : Nat) := by
  unfold held clampN
  by_cases a : y < 0
  · rw [if_pos a, if_pos a]; rfl
  · rw [if_neg a, if_neg a]
    by_cases b : (H : Int) ≤ y
    · rw [if_pos b]
      by_cases c : (H : Int) - 1 < y
      · rw [if_pos c]; omega
      · omega
    · rw [if_neg b, if_neg (by omega)]; omega

set_option maxHeartbeats 1600000 in
theorem sample_any (w : World) (W H : Nat) (A : Option Addr) (n c : Nat) (xs : List Int) (x y : Int) (hI : Ia w A n c xs) (hr : RightP xs W H) : Calls Tryd.prog 102 #[.agg #[.int .i64 (W : Int), .int .i64 (H : Int), .slice A n c], .int .i64 x, .int .i64 y] w (Atd w (atL xs W H x y)) := by
  obtain ⟨w1, hw1⟩ : ∃ w1, w.alloc (.cells #[.int .i64 (W : Int), .int .i64 (H : Int), .slice A n c] 69) = w1 := ⟨_, rfl⟩
  have k1 : Below w.heap.size w w1 := by rw [← hw1]; exact on_alloc _ _
  have b1 : Box w1 w.heap.size 69 #[.int .i64 (W : Int), .int .i64 (H : Int), .slice A n c] := by rw [← hw1]; exact Box.made _ _ _
  have hn : n = W * H := by rw [← hI.len, hr.len]
  have hlt := row_lt (clamp_lt x hr.w0) (clamp_lt y hr.h0)
  have hwh := hr.small
  obtain ⟨b, off, hA, hbl, hc⟩ := hI.at_ (by omega)
  have c3 := (k1.cell (p := ⟨b, off + (clampN y H * W + clampN x W), none⟩) hbl).trans (hc (clampN y H * W + clampN x W) (by omega))
  have e : atL xs W H x y = xs.getD (clampN y H * W + clampN x W) 0 := rfl
  have HX := fun w => hold_any w x 0 ((W : Int) - 1) (by have := hr.w0; omega)
  have HY := fun w => hold_any w y 0 ((H : Int) - 1) (by have := hr.h0; omega)
  rw [held_clamp x hr.w0] at HX
  rw [held_clamp y hr.h0] at HY
  obtain ⟨X, hX⟩ : ∃ X, X = clampN x W := ⟨_, rfl⟩
  obtain ⟨Y, hY⟩ : ∃ Y, Y = clampN y H := ⟨_, rfl⟩
  have hXl := clamp_lt x hr.w0
  have hYl := clamp_lt y hr.h0
  rw [← hX] at c3 e hlt HX hXl
  rw [← hY] at c3 e hlt HY hYl
  obtain ⟨m, hm⟩ : ∃ m, m = Y * W := ⟨_, rfl⟩
  have hm' : (Y : Int) * (W : Int) = (m : Int) := by rw [hm, Int.natCast_mul]
  rw [← hm] at c3 e hlt
  obtain ⟨z, hz⟩ : ∃ z, z = xs.getD (m + X) 0 := ⟨_, rfl⟩
  rw [← hz] at c3 e
  subst hA
  have w0 := hr.w0
  have w1' := hr.w1
  have h0 := hr.h0
  have h1' := hr.h1
  rw [← hn] at hlt hwh
  have p0 : w1.cell? ⟨w.heap.size, 0, none⟩ = some (.int .i64 (W : Int)) := b1.cell 0
  have p1 : w1.cell? ⟨w.heap.size, 1, none⟩ = some (.int .i64 (H : Int)) := b1.cell 1
  have p2 : w1.cell? ⟨w.heap.size, 2, none⟩ = some (.slice (some ⟨b, off, none⟩) n c) := b1.cell 2
  have HK := Lib.hid (And.intro hw1 (And.intro k1 e))
  have HX' : ∀ w, Calls Tryd.prog 97 #[.int .i64 x, .int .i64 0, .int .i64 ((W : Int) - 1)] w fun e w' => e = .returned (.int .i64 (X : Int)) ∧ w' = w := fun w => (HX w).mono fun _ _ ⟨a, b⟩ => ⟨a, b.symm⟩
  have HY' : ∀ w, Calls Tryd.prog 97 #[.int .i64 y, .int .i64 0, .int .i64 ((H : Int) - 1)] w fun e w' => e = .returned (.int .i64 (Y : Int)) ∧ w' = w := fun w => (HY w).mono fun _ _ ⟨a, b⟩ => ⟨a, b.symm⟩
  have HXY := Lib.hid (And.intro HX' HY')
  have lt' : (m : Int) + (X : Int) < (n : Int) := by omega
  clear hI hr hbl hc hX hY hm hz k1 e hw1 hn b1 HX HY HX' HY'
  go_enter Tryd.func102, Tryd.ntmps102
  go_wp2_with fail
  rw [HK.out.1]
  go_quiet ((go_at_call 97; first | (with_reducible exact Calls.quiet_of_same (HXY.out.2 _)) | (with_reducible exact Calls.quiet_of_same (HXY.out.1 _))))
  go_wp2_with fail
  go_ret
  exact ⟨by rw [HK.out.2.2]; rfl, on_trans HK.out.2.1 (below_drewN _ _)⟩
end Go.Proofs.YtmadkpnkmkajoaaDoor

namespace Go.Proofs.YtmadkpnkmkajoaaDoor
open Go.RowKit

set_option maxHeartbeats 1600000 in
theorem right_any (w : World) (W H : Int) (A : Option Addr) (n c : Nat) (xs : List Int) (hI : Ia w A n c xs) (hn : n ≤ 1000000) : Calls Tryd.prog 99 #[.agg #[.int .i64 W, .int .i64 H, .slice A n c]] w (Righted w W H xs) := by
  obtain ⟨w1, hw1⟩ : ∃ w1, w.alloc (.cells #[.int .i64 W, .int .i64 H, .slice A n c] 69) = w1 := ⟨_, rfl⟩
  have hb1 : Box w1 w.heap.size 69 #[.int .i64 W, .int .i64 H, .slice A n c] := by rw [← hw1]; exact Box.made _ _ _
  have k1 : Below w.heap.size w w1 := by rw [← hw1]; exact on_alloc _ _
  have HW := Lib.hid hw1
  have hl := hI.len
  have p0 : w1.cell? ⟨w.heap.size, 0, none⟩ = some (.int .i64 W) := hb1.cell 0
  have p1 : w1.cell? ⟨w.heap.size, 1, none⟩ = some (.int .i64 H) := hb1.cell 1
  have p2 : w1.cell? ⟨w.heap.size, 2, none⟩ = some (.slice A n c) := hb1.cell 2
  have H1 := Lib.hid (And.intro (hI.on k1) (And.intro k1 hb1))
  have HS := Lib.hid (fun w => sized_any w W H)
  clear hw1 hb1 k1 hI
  by_cases hr : Sizd W H
  · rw [decide_eq_true hr] at HS
    have hp := prod128 hr.1 hr.2
    obtain ⟨m, hm⟩ : ∃ m, m = W * H := ⟨_, rfl⟩
    have hmm := hm.symm
    rw [hmm] at hp
    have HR := Lib.hid (And.intro hr hm)
    obtain ⟨⟨a0, a1⟩, b0, b1⟩ := hr
    clear hm
    by_cases he : (n : Int) = m
    · have he' : ((n : Int) == m) = true := by simp [he]
      have hne : ((n : Int) != m) = false := by simp [he]
      have HE := Lib.hid he
      clear he
      have hlast : Sk xs n → RightI W H xs := fun h => ⟨HR.out.1.1, HR.out.1.2, by rw [hl, HE.out, HR.out.2], fun j hj => h j (by omega)⟩
      have HL := Lib.hid (And.intro hlast hl)
      clear hlast hl
      obtain ⟨m0, m1⟩ := hp
      go_enter Tryd.func99, Tryd.ntmps99
      go_wp2_with fail
      rw [HW.out]
      refine Calls.mono (HS.out w1) ?_
      rintro e wx ⟨rfl, rfl⟩
      go_wp2_with fail
      clear p0 p1 p2
      go_loopw [25] (fun i wr => ∃ k : Nat, k ≤ n ∧ i = .int .i64 k ∧ Sk xs k ∧ w1 = wr) (fun i _ => n - (intOf i).toNat)
      case atStart => exact ⟨0, by omega, rfl, fun j hj => absurd hj (by omega), rfl⟩
      case round =>
        obtain ⟨k, hk, rfl, hS, rfl⟩ := hrel
        have HS := Lib.hid hS
        clear hS
        by_cases hkn : k < n
        · obtain ⟨b, off, hA, _, hc⟩ := H1.out.1.at_ (by omega)
          have c3 := hc k hkn
          have hz : ¬ In8 (xs.getD k 0) → ¬ RightI W H xs := fun h r => h (r.2.2.2 k (by rw [HL.out.2]; exact hkn))
          obtain ⟨z, hz'⟩ : ∃ z, z = xs.getD k 0 := ⟨_, rfl⟩
          rw [← hz'] at c3 hz
          subst hA
          have HZ := Lib.hid (And.intro hz hz')
          clear hz hz' hc
          by_cases h0 : z < 0
          · go_wp2_with fail
            go_ret
            exact ⟨by rw [decide_eq_false (HZ.out.1 (by unfold In8; omega))]; rfl, H1.out.2.1⟩
          · by_cases h1 : 255 < z
            · go_wp2_with fail
              go_ret
              exact ⟨by rw [decide_eq_false (HZ.out.1 (by unfold In8; omega))]; rfl, H1.out.2.1⟩
            · go_wp2_with fail
              go_roundw
              case rel => exact ⟨k + 1, by omega, by go_num, HS.out.more (by rw [← HZ.out.2]; unfold In8; omega), trivial⟩
              case measure => simp [intOf]; omega
        · obtain rfl : k = n := by omega
          go_wp2_with fail
          go_ret
          exact ⟨by rw [decide_eq_true (HL.out.1 HS.out)]; rfl, H1.out.2.1⟩
    · have hne : ((n : Int) != m) = true := by simpa using he
      have hne' : ((n : Int) == m) = false := by simpa using he
      have E := Lib.hid (decide_eq_false (show ¬ RightI W H xs from fun r => he (by rw [← hl, r.2.2.1, HR.out.2])))
      clear he
      obtain ⟨m0, m1⟩ := hp
      go_enter Tryd.func99, Tryd.ntmps99
      go_wp2_with fail
      rw [HW.out]
      refine Calls.mono (HS.out w1) ?_
      rintro e wx ⟨rfl, rfl⟩
      go_wp2_with fail
      go_ret
      exact ⟨by rw [E.out]; rfl, H1.out.2.1⟩
  · have E := Lib.hid (decide_eq_false (show ¬ RightI W H xs from fun r => hr ⟨r.1, r.2.1⟩))
    rw [decide_eq_false hr] at HS
    clear hr
    go_enter Tryd.func99, Tryd.ntmps99
    go_wp2_with fail
    rw [HW.out]
    refine Calls.mono (HS.out w1) ?_
    rintro e wx ⟨rfl, rfl⟩
    go_wp2_with fail
    go_ret
    exact ⟨by rw [E.out]; rfl, H1.out.2.1⟩

end Go.Proofs.YtmadkpnkmkajoaaDoor

namespace Go.Proofs.YtmadkpnkmkajoaaDoor
open Go.RowKit

/-- what lies in memory: what is told, the samples so far -/
structure Md (w wr : World) (v : Value) (n : Nat) (xs : List Int) : Prop where
  res : Box wr w.heap.size 69 #[.int .i64 0, .int .i64 0, .slice none 0 0]
  own : wr.ownsRow (w.heap.size + 1) 3 1 v n (cellsI xs)
  bel : Below w.heap.size w wr
  lo : w.heap.size + 1 ≤ wr.heap.size
section
variable {w wr w' : World} {v : Value} {n : Nat} {xs : List Int}
theorem Md.on (h : Md w wr v n xs) (k : Below wr.heap.size wr w') : Md w w' v n xs :=
  ⟨h.res.on k, ownsRow_block h.own (fun g _ _ hh => k.block g (Array.getElem?_eq_some_iff.1 hh).1), on_trans h.bel k, Nat.le_trans h.lo k.size⟩
theorem Md.len (h : Md w wr v n xs) : n = xs.length := by have := h.own.1; simpa [cellsI] using this.symm
theorem Md.more (h : Md w wr v n xs) {v' : Value} {n' : Nat} {ys : List Int} (hown : w'.ownsRow (w.heap.size + 1) 3 1 v' n' (cellsI ys)) (k : Below (w.heap.size + 1) wr w') : Md w w' v' n' ys :=
  ⟨h.res.bel k (Nat.lt_succ_self _), hown, h.bel.trans (k.mono (Nat.le_succ _)), Nat.le_trans h.lo k.size⟩
/-- the plane is told, its room cut off -/
theorem Md.done {A : Option Addr} {c : Nat} (h : Md w wr (.slice A n c) n xs) (hA : A = none → n = 0) (k : Kept (fun i => i = w.heap.size) wr w') : Below w.heap.size w w' ∧ Os w' w.heap.size A n n xs := by
  obtain ⟨A1, c1, e, ho⟩ := os_of_own h.own
  cases e
  have ho2 : Os wr (w.heap.size + 1) A n n xs := ⟨⟨ho.il.len, Nat.le_refl _, Nat.le_trans ho.il.cap ho.il.max, hA, ho.il.typ, ho.il.at_⟩, ho.new⟩
  exact ⟨h.bel.trans (k.below h.bel.size (fun i hi e => by omega)), (ho2.down (Nat.le_succ _)).kept k (fun b off e hb => by have := (ho.new b off e).1; omega)⟩
end
/-- what made answers -/
def Made (w0 : World) (w h : Nat) (f : Nat → Nat → Int) (e : Ending) (w' : World) : Prop :=
  ∃ A n c, e = .returned (.agg #[.int .i64 (w : Int), .int .i64 (h : Int), .slice A n c]) ∧ Os w' w0.heap.size A n c (gridL w h f) ∧ Below w0.heap.size w0 w'

set_option maxRecDepth 10000 in
set_option maxHeartbeats 3200000 in
theorem made_any (G : FuncId) (caps : Array Value) (hcf : ∀ (args : Array Value) (w : World), (callFunc G args).run Tryd.prog w = .ok (.enter G args) w) (w0 : World) (w h : Nat) (f : Nat → Nat → Int) (hw : 1 ≤ w ∧ w ≤ 128) (hh : 1 ≤ h ∧ h ≤ 128)
    (hstep : ∀ (x y : Nat) (w1 : World), x < w → y < h → Below w0.heap.size w0 w1 → Calls Tryd.prog G (#[.int .i64 (x : Int), .int .i64 (y : Int)] ++ caps) w1 (Atd w1 (f x y))) :
    Calls Tryd.prog 98 #[.int .i64 (w : Int), .int .i64 (h : Int), .func (.func G) #[] caps] w0 (Made w0 w h f) := by
  have hmore := fun (i j : Nat) (hi : i < w) => gridK_more (f := f) hi j
  have hcr : gridL w h f = gridK w f (w * h) := rfl
  have hsm : w * h ≤ 16384 := by have : w * h ≤ 128 * 128 := Nat.mul_le_mul hw.2 hh.2; omega
  have hpos : 0 < w * h := Nat.mul_pos hw.1 hh.1
  have hpl : ∀ i j : Nat, i < w → j < h → j * w + i < w * h := fun i j hi hj => row_lt hi hj
  obtain ⟨w1, hw1⟩ : ∃ w1, w0.alloc (.cells #[.int .i64 0, .int .i64 0, .slice none 0 0] 69) = w1 := ⟨_, rfl⟩
  have k1 : Below w0.heap.size w0 w1 := by rw [← hw1]; exact on_alloc _ _
  have b1 : Box w1 w0.heap.size 69 #[.int .i64 0, .int .i64 0, .slice none 0 0] := by rw [← hw1]; exact Box.made _ _ _
  have l1 : w0.heap.size + 1 ≤ w1.heap.size := by rw [← hw1]; simp
  have HM := Lib.hid (And.intro hw1 (show Md w0 w1 (.slice none 0 0) 0 [] from ⟨b1, World.ownsRow_nil _ _ _ _, k1, l1⟩))
  have HF := Lib.hid (And.intro hcr (And.intro hmore (And.intro hsm (And.intro hpl hpos))))
  have HC := Lib.hid hstep
  obtain ⟨w10, w11⟩ := hw
  obtain ⟨h10, h11⟩ := hh
  clear hmore hcr hsm hpl hpos hw1 k1 b1 l1 hstep
  go_enter Tryd.func98, Tryd.ntmps98
  go_wp2_with fail
  rw [HM.out.1]
  go_loopw [7, 11] (fun s i wr => ∃ j A' n' c', j ≤ h ∧ s = .slice A' n' c' ∧ i = .int .i64 ((j : Nat) : Int) ∧ Md w0 wr (.slice A' n' c') n' (gridK w f (j * w + 0))) (fun _ i _ => h - (intOf i).toNat)
  case atStart => exact ⟨0, none, 0, 0, by omega, rfl, rfl, by rw [Nat.zero_mul]; exact HM.out.2⟩
  case round =>
    obtain ⟨j, A1, n1, c1, hj, rfl, rfl, hR⟩ := hrel
    have HR := Lib.hid hR
    clear hR
    by_cases hjh : j < h
    · go_wp2_with fail
      go_loopw [7, 15] (fun s i wr => ∃ k A' n' c', k ≤ w ∧ s = .slice A' n' c' ∧ i = .int .i64 ((k : Nat) : Int) ∧ Md w0 wr (.slice A' n' c') n' (gridK w f (j * w + k))) (fun _ i _ => w - (intOf i).toNat)
      case atStart => exact ⟨0, A1, n1, c1, by omega, rfl, rfl, HR.out⟩
      case round =>
        obtain ⟨k, A2, n2, c2, hk, rfl, rfl, hR⟩ := hrel
        have HR := Lib.hid hR
        clear hR
        by_cases hkw : k < w
        · have HT := Lib.hid (HC.out k j wr hkw hjh HR.out.bel)
          have hm := HF.out.2.1 k j hkw
          have hsz : n2 = j * w + k := by rw [HR.out.len, gridK_len]
          have hlt := HF.out.2.2.2.1 k j hkw hjh
          obtain ⟨z, hz⟩ : ∃ z, z = f k j := ⟨_, rfl⟩
          rw [← hz] at HT hm
          have HX := Lib.hid (And.intro hm (And.intro hsz (And.intro hlt HF.out.2.2.1)))
          clear hm hsz hlt hz
          go_wp2_with fail
          refine Calls.mono HT.out ?_
          rintro e w6 ⟨rfl, b6⟩
          have M6 := Lib.hid (HR.out.on (on_trans b6 (on_alloc w6 (.cells #[.int .i64 z] 3))))
          clear b6
          go_wp2_with (first
            | ((with_reducible refine wpList_append_il (o := ⟨some 24, _, _, _, _, _⟩) rfl (.tmp 18) (.tmp 23) rfl (w0.heap.size + 1) (.slice A2 n2 c2) n2 (gridK w f (j * w + k)) rfl M6.out.own (some ⟨w6.heap.size, 0, none⟩) 1 1 [z] rfl ?hr ?hs M6.out.lo ?_)
               case hr => exact il_of_box (Box.made w6 3 (cellsI [z]).toArray) rfl (show 1 ≤ maxLen by decide)
               case hs => have := HX.out.2.1; have := HX.out.2.2.1; have := HX.out.2.2.2; omega
               intro v7 w7 hown7 bq
               obtain ⟨A7, c7, hv7⟩ := own_slice hown7
               subst hv7
               have H7 := Lib.hid (M6.out.more hown7 bq)
               clear hown7 bq)
            | fail)
          have hE := H7.out
          rw [HX.out.1] at hE
          have HE := Lib.hid hE
          clear hE
          go_roundw
          case rel => exact ⟨k + 1, _, _, _, by omega, rfl, by go_num, HE.out⟩
          case measure => simp [intOf]; omega
        · obtain rfl : k = w := by omega
          go_wp2_with fail
          go_roundw
          case rel => exact ⟨j + 1, _, _, _, by omega, rfl, by go_num, by rw [show (j + 1) * k + 0 = j * k + k by rw [Nat.add_mul, Nat.one_mul]; rfl]; exact HR.out⟩
          case measure => simp [intOf]; omega
    · obtain rfl : j = h := by omega
      have hR := HR.out
      rw [show j * w + 0 = w * j by rw [Nat.mul_comm]; rfl, ← HF.out.1] at hR
      have hn1 : n1 = w * j := by rw [hR.len, gridL_len]
      have hpos := HF.out.2.2.2.2
      obtain ⟨Ad, hAd, hcap⟩ : ∃ Ad, A1 = some Ad ∧ n1 ≤ c1 ∧ c1 ≤ maxLen := by
        obtain ⟨A', c', e', ho⟩ := os_of_own hR.own
        cases e'
        obtain ⟨b, off, e2, _⟩ := ho.il.at_ (by omega)
        exact ⟨_, e2, ho.il.cap, ho.il.max⟩
      subst hAd
      have HR := Lib.hid hR
      have HN := Lib.hid (And.intro hn1 (And.intro hpos hcap))
      obtain ⟨cap1, cap2⟩ := hcap
      unfold maxLen at cap2
      clear hR hn1 hpos
      go_wp2_with (first
        | ((with_reducible refine wpList_store_plane (o := ⟨none, _, _, _, _, _⟩) rfl (.tmp 6) (.tmp 35) rfl rfl w0.heap.size #[.int .i64 (w : Int), .int .i64 (j : Int), .slice (some Ad) n1 n1] rfl ?ho rfl rfl _ HR.out.res rfl ?_)
           case ho => simp [Value.oneCell']
           intro w9 b9 k9
           have H9 := Lib.hid (And.intro b9 (HR.out.done (fun e => by cases e) k9))
           clear b9 k9)
        | fail)
      refine bodyPost_ret (v := .agg #[.int .i64 (w : Int), .int .i64 (j : Int), .slice (some Ad) n1 n1]) (results_c (fn := Tryd.f98) Tryd.results98 _ _ w0.heap.size _ rfl (loadVar_plane H9.out.1 rfl)) rfl ?_
      exact ⟨some Ad, n1, n1, rfl, H9.out.2.2, H9.out.2.1⟩
end Go.Proofs.YtmadkpnkmkajoaaDoor

namespace Go.Proofs.YtmadkpnkmkajoaaDoor
open Go.RowKit
set_option maxRecDepth 20000

theorem calls37 (args : Array Value) (w : World) : (callFunc 101 args).run Tryd.prog w = .ok (.enter 101 args) w := by kernel_rfl
/-- by how much a side is divided -/
def facN (a : Bool) : Nat := if a then 2 else 1
theorem facN_bounds (a : Bool) : 1 ≤ facN a ∧ facN a ≤ 2 := by cases a <;> decide
theorem facN_div (a : Bool) (x : Nat) : x / facN a = if a then x / 2 else x := by cases a <;> simp [facN]
theorem factorN_any (w : World) (a : Bool) : Calls Tryd.prog 100 #[.bool a] w (Tells0 w (.int .i64 ((facN a : Nat) : Int))) := by
  have h := factor_any w a
  have e : (if a then 2 else 1 : Int) = ((facN a : Nat) : Int) := by cases a <;> rfl
  rw [e] at h
  exact h

set_option maxHeartbeats 1600000 in
theorem growT_any (w : World) (gP gC gD : Nat) (W H C D a b : Nat) (A : Option Addr) (n c : Nat) (xs : List Int) (bP : Box w gP 69 #[.int .i64 (W : Int), .int .i64 (H : Int), .slice A n c]) (bC : Box w gC 3 #[.int .i64 (C : Int)]) (bD : Box w gD 3 #[.int .i64 (D : Int)])
    (hI : Ia w A n c xs) (hr : RightP xs W H) (hC : 1 ≤ C ∧ C ≤ 2) (hD : 1 ≤ D ∧ D ≤ 2) (ha : a < 128) (hb : b < 128) :
    Calls Tryd.prog 101 #[.int .i64 (a : Int), .int .i64 (b : Int), .pointer (some ⟨gP, 0, none⟩), .pointer (some ⟨gC, 0, none⟩), .pointer (some ⟨gD, 0, none⟩)] w (Atd w (atL xs W H ((a / C : Nat) : Int) ((b / D : Nat) : Int))) := by
  have HA := Lib.hid (fun w' (k : Below w.heap.size w w') => sample_any w' W H A n c xs ((a : Int) / (C : Int)) ((b : Int) / (D : Int)) (hI.on k) hr)
  rw [Int.natCast_ediv, Int.natCast_ediv]
  unfold Atd at HA
  have HB := Lib.hid (And.intro bP (And.intro bC bD))
  have q0 : 0 ≤ (a : Int) / (C : Int) ∧ (a : Int) / (C : Int) ≤ 128 := by
    have h0 : 0 ≤ (a : Int) / (C : Int) := Int.ediv_nonneg (by omega) (by omega)
    have h1 : (a : Int) / (C : Int) ≤ (a : Int) := Int.ediv_le_self _ (by omega)
    omega
  have r0 : 0 ≤ (b : Int) / (D : Int) ∧ (b : Int) / (D : Int) ≤ 128 := by
    have h0 : 0 ≤ (b : Int) / (D : Int) := Int.ediv_nonneg (by omega) (by omega)
    have h1 : (b : Int) / (D : Int) ≤ (b : Int) := Int.ediv_le_self _ (by omega)
    omega
  obtain ⟨q0, q1⟩ := q0
  obtain ⟨r0, r1⟩ := r0
  obtain ⟨C0, C1⟩ := hC
  obtain ⟨D0, D1⟩ := hD
  clear hI hr bP bC bD
  go_enter Tryd.func101, Tryd.ntmps101
  go_wp2_with fail
  refine wp_region_held_drew (S := fun w' => Hid (Below w.heap.size w w')) (by kernel_rfl) (Lib.hid (on_drew w)) fun s0 => ?_
  refine take_to (i := 0) rfl (by kernel_rfl) (by kernel_rfl) (by kernel_rfl) (fun _ _ _ h => h) (yieldsIf_load (by rfl) 69 _ rfl (.pointer (some ⟨gP, 0, none⟩)) rfl (.agg #[.int .i64 (W : Int), .int .i64 (H : Int), .slice A n c]) (fun w' h => load_plane (HB.out.1.on h.out) rfl)) s0 (some 8) rfl ?_
  refine take_to (i := 1) (v := .int .i64 (a : Int)) rfl (by kernel_rfl) (by kernel_rfl) (by kernel_rfl) (fun _ _ _ h => h) (Or.inl ⟨by rfl, fun w' hS => by go_simp⟩) s0 (some 9) rfl ?_
  refine take_to (i := 2) (v := .int .i64 (C : Int)) rfl (by kernel_rfl) (by kernel_rfl) (by kernel_rfl) (fun _ _ _ h => h) (Or.inl ⟨by rfl, fun w' hS => by have c : w'.cell? ⟨gC, 0, none⟩ = some (.int .i64 (C : Int)) := (HB.out.2.1.on hS.out).cell 0; go_simp⟩) s0 (some 10) rfl ?_
  refine take_to (i := 3) (v := .int .i64 ((a : Int) / (C : Int))) rfl (by kernel_rfl) (by kernel_rfl) (by kernel_rfl) (fun _ _ _ h => h) (Or.inl ⟨by rfl, fun w' hS => by go_simp; rw [if_neg (by omega), wrap64 (by omega) (by omega)]⟩) s0 (some 11) rfl ?_
  refine take_to (i := 4) (v := .int .i64 (b : Int)) rfl (by kernel_rfl) (by kernel_rfl) (by kernel_rfl) (fun _ _ _ h => h) (Or.inl ⟨by rfl, fun w' hS => by go_simp⟩) s0 (some 12) rfl ?_
  refine take_to (i := 5) (v := .int .i64 (D : Int)) rfl (by kernel_rfl) (by kernel_rfl) (by kernel_rfl) (fun _ _ _ h => h) (Or.inl ⟨by rfl, fun w' hS => by have c : w'.cell? ⟨gD, 0, none⟩ = some (.int .i64 (D : Int)) := (HB.out.2.2.on hS.out).cell 0; go_simp⟩) s0 (some 13) rfl ?_
  refine take_to (i := 6) (v := .int .i64 ((b : Int) / (D : Int))) rfl (by kernel_rfl) (by kernel_rfl) (by kernel_rfl) (fun _ _ _ h => h) (Or.inl ⟨by rfl, fun w' hS => by go_simp; rw [if_neg (by omega), wrap64 (by omega) (by omega)]⟩) s0 (some 14) rfl ?_
  generalize w.drew = v0 at s0 ⊢
  refine wpAnyH_ready (rs := [7]) (by kernel_rfl) (by simp) ?_
  refine AllReadyH.cons rfl (fun K hK => ?_) AllReadyH.nil
  go_simp
  refine Calls.mono (HA.out v0 s0.out) ?_
  rintro r v1 ⟨rfl, k1⟩
  have s1 := Lib.hid (on_trans s0.out k1)
  clear k1
  refine hK.out _ _ s1 fun _ => ?_
  clear hK K
  refine take_to (i := 8) (v := .int .i64 (atL xs W H ((a : Int) / (C : Int)) ((b : Int) / (D : Int)))) rfl (by kernel_rfl) (by kernel_rfl) (by kernel_rfl) (fun _ _ _ h => h) (Or.inl ⟨by rfl, fun w' hS => by go_simp⟩) s1 (some 7) rfl ?_
  refine wpAnyH_done (by kernel_rfl) ?_ _
  go_wp2_with fail
  go_ret
  exact ⟨rfl, s1.out⟩
end Go.Proofs.YtmadkpnkmkajoaaDoor

namespace Go.Proofs.YtmadkpnkmkajoaaDoor
open Go.RowKit
set_option maxRecDepth 20000

theorem grow_fun (xs : List Int) (W H : Nat) (a d : Bool) (w h : Nat) : growL xs W H a d w h = gridL w h fun i k => atL xs W H ((i / facN a : Nat) : Int) ((k / facN d : Nat) : Int) := by
  unfold growL
  refine grid_congr fun y _ x _ => ?_
  rw [facN_div, facN_div]
/-- two numbers, boxed -/
theorem nums_made (w4 : World) (x y : Int) : ∃ w5, (w4.alloc (.cells #[.int .i64 x] 3)).alloc (.cells #[.int .i64 y] 3) = w5 ∧ Box w5 w4.heap.size 3 #[.int .i64 x] ∧ Box w5 (w4.heap.size + 1) 3 #[.int .i64 y] ∧ Below w4.heap.size w4 w5 := by
  have a1 := Box.made w4 3 #[.int .i64 x]
  have a2 := Box.made (w4.alloc (.cells #[.int .i64 x] 3)) 3 #[.int .i64 y]
  refine ⟨_, rfl, a1.alloc _, ?_, on_trans (on_alloc _ _) (on_alloc _ _)⟩
  rwa [show (w4.alloc (.cells #[.int .i64 x] 3)).heap.size = w4.heap.size + 1 by simp] at a2

set_option maxHeartbeats 3200000 in
theorem grow_good (w0 : World) (W H w h : Nat) (a d : Bool) (A : Option Addr) (n c : Nat) (xs : List Int) (hI : Ia w0 A n c xs) (hr : RightP xs W H) (hw : 1 ≤ w ∧ w ≤ 128) (hh : 1 ≤ h ∧ h ≤ 128) :
    Calls Tryd.prog 68 #[.agg #[.int .i64 (W : Int), .int .i64 (H : Int), .slice A n c], .bool a, .bool d, .int .i64 (w : Int), .int .i64 (h : Int)] w0 (PTells w0 ((w : Int), (h : Int), growL xs W H a d w h, 0)) := by
  have hn : n = W * H := by rw [← hI.len, hr.len]
  have hwh := hr.small
  have HR := Lib.hid (fun w1 (k : Below w0.heap.size w0 w1) => right_any w1 (W : Int) (H : Int) A n c xs (hI.on k) (by omega))
  unfold Righted at HR
  rw [decide_eq_true hr.int] at HR
  have HS := Lib.hid (fun w1 => sized_any w1 (w : Int) (h : Int))
  rw [decide_eq_true (show Sizd (w : Int) (h : Int) from ⟨⟨by omega, by omega⟩, by omega, by omega⟩)] at HS
  obtain ⟨w2, hw2, b0, b1, k2⟩ := two_made w0 #[.int .i64 (W : Int), .int .i64 (H : Int), .slice A n c]
  rw [grow_fun]
  have hfa := facN_bounds a
  have hfd := facN_bounds d
  have HF1 := Lib.hid (fun w1 => factorN_any w1 a)
  have HF2 := Lib.hid (fun w1 => factorN_any w1 d)
  obtain ⟨C, hC⟩ : ∃ C, C = facN a := ⟨_, rfl⟩
  obtain ⟨D, hD⟩ : ∃ D, D = facN d := ⟨_, rfl⟩
  rw [← hC] at hfa HF1 ⊢
  rw [← hD] at hfd HF2 ⊢
  have HM := Lib.hid (fun (w5 : World) (gC gD : Nat) (k : Below w2.heap.size w2 w5) (bC : Box w5 gC 3 #[.int .i64 (C : Int)]) (bD : Box w5 gD 3 #[.int .i64 (D : Int)]) => made_any 101 #[.pointer (some ⟨w0.heap.size, 0, none⟩), .pointer (some ⟨gC, 0, none⟩), .pointer (some ⟨gD, 0, none⟩)] calls37 w5 w h (fun i k => atL xs W H ((i / C : Nat) : Int) ((k / D : Nat) : Int)) hw hh
    fun a b w6 ha hb k6 => growT_any w6 w0.heap.size gC gD W H C D a b A n c xs ((b0.on k).on k6) (bC.on k6) (bD.on k6) (hI.on (on_trans k2 (on_trans k k6))) hr hfa hfd (by omega) (by omega))
  have HW := Lib.hid (And.intro hw2 (And.intro k2 (And.intro b0 b1)))
  have hmf : ∀ (fn : Fn) (first cap : Array Value) (w : World), (Instr.makeFunc fn first cap).run Tryd.prog w = .ok (.func fn first cap) w := fun _ _ _ _ => rfl
  clear hI hr hw2 k2 b0 b1 hwh hn hw hh hfa hfd hC hD
  go_enter Tryd.func68, Tryd.ntmps68
  go_wp2_with fail
  rw [HW.out.1]
  refine Calls.mono (HR.out w2 HW.out.2.1) ?_
  rintro e w4 ⟨rfl, b4⟩
  have H4 := Lib.hid b4
  clear b4
  go_wp2_with fail
  refine Calls.mono (HS.out w4) ?_
  rintro e wx ⟨rfl, rfl⟩
  go_wp2_with fail
  refine Calls.mono (HF1.out w4) ?_
  rintro e wx ⟨rfl, rfl⟩
  go_wp2_with fail
  refine Calls.mono (HF2.out w4) ?_
  rintro e wx ⟨rfl, rfl⟩
  go_wp2_with fail
  obtain ⟨w5, hw5, bC, bD, k5⟩ := nums_made w4 (C : Int) (D : Int)
  rw [hw5]
  have H5 := Lib.hid (on_trans H4.out k5)
  refine Calls.mono (HM.out w5 _ _ H5.out bC bD) ?_
  rintro e w6 ⟨A6, n6, c6, rfl, hO, b6⟩
  have H6 := Lib.hid (And.intro hO (And.intro (on_trans HW.out.2.1 (on_trans H5.out b6)) ((HW.out.2.2.2.on H5.out).on b6)))
  clear hO b6 bC bD k5 hw5
  go_wp2_with (first
    | ((with_reducible refine wpList_store_plane (o := ⟨none, _, _, _, _, _⟩) rfl (.tmp 10) (.tmp 32) rfl rfl (w0.heap.size + 1) #[.int .i64 (w : Int), .int .i64 (h : Int), .slice A6 n6 c6] rfl ?ho rfl rfl _ H6.out.2.2 rfl ?_)
       case ho => simp [Value.oneCell']
       intro w9 b9 k9
       have H9 := Lib.hid (And.intro b9 k9)
       clear b9 k9)
    | fail)
  refine bodyPost_ret (v := .tuple #[.agg #[.int .i64 (w : Int), .int .i64 (h : Int), .slice A6 n6 c6], .int .i64 0]) (results_ct (fn := Tryd.f68) Tryd.results68 _ _ (w0.heap.size + 1) _ _ rfl rfl (loadVar_plane H9.out.1 rfl)) rfl ?_
  have s5 : w0.heap.size + 1 < w5.heap.size := (HW.out.2.2.2.on H5.out).lt
  exact ⟨A6, n6, c6, rfl, (H6.out.1.down (by omega)).kept H9.out.2 (fun b off e hb => by have := (H6.out.1.new b off e).1; omega), H6.out.2.1.trans (H9.out.2.below H6.out.2.1.size (fun i hi e => by omega))⟩

set_option maxHeartbeats 3200000 in
theorem grow_any (w0 : World) (W H w h : Int) (a d : Bool) (A : Option Addr) (n c : Nat) (xs : List Int) (hI : Ia w0 A n c xs) (hn : n ≤ 1000000) :
    Calls Tryd.prog 68 #[.agg #[.int .i64 W, .int .i64 H, .slice A n c], .bool a, .bool d, .int .i64 w, .int .i64 h] w0 (PTells w0 (growF W H xs a d w h)) := by
  by_cases hr : RightI W H xs
  · by_cases hc : (1 ≤ w ∧ w ≤ 128) ∧ 1 ≤ h ∧ h ≤ 128
    · have e : growF W H xs a d w h = (w, h, growL xs W.toNat H.toNat a d w.toNat h.toNat, 0) := by unfold growF; rw [if_pos hr, if_pos hc]
      rw [e]
      obtain ⟨W', H', rfl, rfl, hp⟩ := hr.plane
      obtain ⟨⟨a0, a1⟩, b0, b1⟩ := hc
      obtain ⟨w', rfl⟩ := Int.eq_ofNat_of_zero_le (show 0 ≤ w by omega)
      obtain ⟨h', rfl⟩ := Int.eq_ofNat_of_zero_le (show 0 ≤ h by omega)
      exact grow_good w0 W' H' w' h' a d A n c xs hI hp (by omega) (by omega)
    · have e : growF W H xs a d w h = (0, 0, [], 2) := by unfold growF; rw [if_pos hr, if_neg hc]
      rw [e]
      have HR := Lib.hid (fun w1 (k : Below w0.heap.size w0 w1) => right_any w1 W H A n c xs (hI.on k) hn)
      unfold Righted at HR
      rw [decide_eq_true hr] at HR
      have HS := Lib.hid (fun w1 => sized_any w1 w h)
      rw [decide_eq_false (show ¬ Sizd w h from hc)] at HS
      obtain ⟨w2, hw2, b0, b1, k2⟩ := two_made w0 #[.int .i64 W, .int .i64 H, .slice A n c]
      have HW := Lib.hid (And.intro hw2 (And.intro k2 (And.intro b0 b1)))
      clear hr hc e hI hw2 k2 b0 b1
      go_enter Tryd.func68, Tryd.ntmps68
      go_wp2_with fail
      rw [HW.out.1]
      refine Calls.mono (HR.out w2 HW.out.2.1) ?_
      rintro e w4 ⟨rfl, b4⟩
      have H4 := Lib.hid (And.intro (HW.out.2.2.2.on b4) (on_trans HW.out.2.1 b4))
      clear b4
      go_wp2_with fail
      refine Calls.mono (HS.out w4) ?_
      rintro e wx ⟨rfl, rfl⟩
      go_wp2_with (first
        | ((with_reducible refine wpList_store_plane (o := ⟨none, _, _, _, _, _⟩) rfl (.tmp 10) (.tmp 23) rfl rfl (w0.heap.size + 1) #[.int .i64 0, .int .i64 0, .slice none 0 0] rfl ?ho rfl rfl _ H4.out.1 rfl ?_)
           case ho => simp [Value.oneCell']
           intro w9 b9 k9
           have H9 := Lib.hid (And.intro b9 (H4.out.2.trans (k9.below H4.out.2.size (fun i hi e => by omega))))
           clear b9 k9)
        | fail)
      refine bodyPost_ret (v := .tuple #[.agg #[.int .i64 0, .int .i64 0, .slice none 0 0], .int .i64 2]) (results_ct (fn := Tryd.f68) Tryd.results68 _ _ (w0.heap.size + 1) _ _ rfl rfl (loadVar_plane H9.out.1 rfl)) rfl ?_
      exact ⟨none, 0, 0, rfl, Os.none _ _, H9.out.2⟩
  · have e : growF W H xs a d w h = (0, 0, [], 1) := by unfold growF; rw [if_neg hr]
    rw [e]
    have HR := Lib.hid (fun w1 (k : Below w0.heap.size w0 w1) => right_any w1 W H A n c xs (hI.on k) hn)
    unfold Righted at HR
    rw [decide_eq_false hr] at HR
    obtain ⟨w2, hw2, b0, b1, k2⟩ := two_made w0 #[.int .i64 W, .int .i64 H, .slice A n c]
    have HW := Lib.hid (And.intro hw2 (And.intro k2 (And.intro b0 b1)))
    clear hr e hI hw2 k2 b0 b1
    go_enter Tryd.func68, Tryd.ntmps68
    go_wp2_with fail
    rw [HW.out.1]
    refine Calls.mono (HR.out w2 HW.out.2.1) ?_
    rintro e w4 ⟨rfl, b4⟩
    have H4 := Lib.hid (And.intro (HW.out.2.2.2.on b4) (on_trans HW.out.2.1 b4))
    clear b4
    go_wp2_with (first
      | ((with_reducible refine wpList_store_plane (o := ⟨none, _, _, _, _, _⟩) rfl (.tmp 10) (.tmp 18) rfl rfl (w0.heap.size + 1) #[.int .i64 0, .int .i64 0, .slice none 0 0] rfl ?ho rfl rfl _ H4.out.1 rfl ?_)
         case ho => simp [Value.oneCell']
         intro w9 b9 k9
         have H9 := Lib.hid (And.intro b9 (H4.out.2.trans (k9.below H4.out.2.size (fun i hi e => by omega))))
         clear b9 k9)
      | fail)
    refine bodyPost_ret (v := .tuple #[.agg #[.int .i64 0, .int .i64 0, .slice none 0 0], .int .i64 1]) (results_ct (fn := Tryd.f68) Tryd.results68 _ _ (w0.heap.size + 1) _ _ rfl rfl (loadVar_plane H9.out.1 rfl)) rfl ?_
    exact ⟨none, 0, 0, rfl, Os.none _ _, H9.out.2⟩
end Go.Proofs.YtmadkpnkmkajoaaDoor

namespace Go.Proofs.YtmadkpnkmkajoaaDoor
open Go.RowKit
set_option maxRecDepth 20000

theorem calls33 (args : Array Value) (w : World) : (callFunc 111 args).run Tryd.prog w = .ok (.enter 111 args) w := by kernel_rfl
/-- the sum of the first numbers -/
def rowS (f : Nat → Int) : Nat → Int
  | 0 => 0
  | k + 1 => rowS f k + f k
/-- the sum of the first rows -/
def sumS (C : Nat) (g : Nat → Nat → Int) : Nat → Int
  | 0 => 0
  | j + 1 => sumS C g j + rowS (fun i => g i j) C
theorem rowS_bound {f : Nat → Int} (h : ∀ i, In8 (f i)) : ∀ k : Nat, 0 ≤ rowS f k ∧ rowS f k ≤ 255 * (k : Int)
  | 0 => by unfold rowS; omega
  | k + 1 => by
    have := rowS_bound h k
    have h0 := h k
    unfold In8 at h0
    unfold rowS
    omega
theorem sumS_bound {C : Nat} (hC : C ≤ 2) {g : Nat → Nat → Int} (h : ∀ i j, In8 (g i j)) : ∀ k : Nat, 0 ≤ sumS C g k ∧ sumS C g k ≤ 510 * (k : Int)
  | 0 => by unfold sumS; omega
  | k + 1 => by
    have := sumS_bound hC h k
    have h0 := rowS_bound (fun i => h i k) C
    unfold sumS
    omega
/-- a sample halved is the mean of the sum -/
theorem halfT_sum (xs : List Int) (W H : Nat) (a d : Bool) (x y : Nat) : halfT xs W H a d x y = rnd (sumS (facN a) (fun i j => atL xs W H ((facN a * x + i : Nat) : Int) ((facN d * y + j : Nat) : Int)) (facN d)) ((facN a * facN d : Nat) : Int) := by
  cases a <;> cases d <;> simp [halfT, facN, sumS, rowS, Int.add_assoc]

set_option maxRecDepth 10000 in
set_option maxHeartbeats 3200000 in
theorem meanT_any (w : World) (gP gC gD : Nat) (W H C D x y : Nat) (A : Option Addr) (n c : Nat) (xs : List Int) (bP : Box w gP 69 #[.int .i64 (W : Int), .int .i64 (H : Int), .slice A n c]) (bC : Box w gC 3 #[.int .i64 (C : Int)]) (bD : Box w gD 3 #[.int .i64 (D : Int)])
    (hI : Ia w A n c xs) (hr : RightP xs W H) (hC : 1 ≤ C ∧ C ≤ 2) (hD : 1 ≤ D ∧ D ≤ 2) (hx : x < 128) (hy : y < 128) :
    Calls Tryd.prog 111 #[.int .i64 (x : Int), .int .i64 (y : Int), .pointer (some ⟨gD, 0, none⟩), .pointer (some ⟨gC, 0, none⟩), .pointer (some ⟨gP, 0, none⟩)] w (Atd w (rnd (sumS C (fun i j => atL xs W H ((C * x + i : Nat) : Int) ((D * y + j : Nat) : Int)) D) ((C * D : Nat) : Int))) := by
  obtain ⟨g, hg⟩ : ∃ g : Nat → Nat → Int, g = fun i j => atL xs W H ((C * x + i : Nat) : Int) ((D * y + j : Nat) : Int) := ⟨_, rfl⟩
  rw [← hg]
  obtain ⟨m, hm⟩ : ∃ m, m = C * x := ⟨_, rfl⟩
  obtain ⟨q, hq⟩ : ∃ q, q = D * y := ⟨_, rfl⟩
  obtain ⟨N, hN⟩ : ∃ N, N = C * D := ⟨_, rfl⟩
  have hm' : (C : Int) * (x : Int) = (m : Int) := by rw [hm, Int.natCast_mul]
  have hq' : (D : Int) * (y : Int) = (q : Int) := by rw [hq, Int.natCast_mul]
  have hN' : (C : Int) * (D : Int) = (N : Int) := by rw [hN, Int.natCast_mul]
  have m1 : m ≤ 256 := by rw [hm]; have : C * x ≤ 2 * 128 := Nat.mul_le_mul hC.2 (by omega); omega
  have q1 : q ≤ 256 := by rw [hq]; have : D * y ≤ 2 * 128 := Nat.mul_le_mul hD.2 (by omega); omega
  have N1 : N ≤ 4 := by rw [hN]; have : C * D ≤ 2 * 2 := Nat.mul_le_mul hC.2 hD.2; omega
  have hgI : ∀ i j, In8 (g i j) := fun i j => by rw [hg]; exact hr.at _ _
  have HA := Lib.hid (fun (w' : World) (k : Below w.heap.size w w') (i j : Nat) => show Calls Tryd.prog 102 #[.agg #[.int .i64 (W : Int), .int .i64 (H : Int), .slice A n c], .int .i64 ((m : Int) + (i : Int)), .int .i64 ((q : Int) + (j : Int))] w' (Atd w' (g i j)) by
    have := sample_any w' W H A n c xs ((m : Int) + (i : Int)) ((q : Int) + (j : Int)) (hI.on k) hr
    have e : g i j = atL xs W H ((m : Int) + (i : Int)) ((q : Int) + (j : Int)) := by rw [hg, hm, hq]; simp only [Int.natCast_add]
    rw [e]
    exact this)
  unfold Atd at HA
  rw [← hN]
  have HB := Lib.hid (And.intro bP (And.intro bC bD))
  have HG := Lib.hid (And.intro hgI hC.2)
  obtain ⟨C0, C1⟩ := hC
  obtain ⟨D0, D1⟩ := hD
  have HRO := Lib.hid (fun (w' : World) (s : Int) (h0 : 0 ≤ s) (h1 : s ≤ 2000) => round_any w' s (N : Int) (by unfold isInt; omega) (by unfold isInt; omega))
  unfold Rounded at HRO
  clear hI hr bP bC bD hg hm hq hN hgI
  go_enter Tryd.func111, Tryd.ntmps111
  have cD : w.cell? ⟨gD, 0, none⟩ = some (.int .i64 (D : Int)) := HB.out.2.2.cell 0
  go_wp2_with fail
  clear cD
  go_loopw [8, 12] (fun s i wr => ∃ j : Nat, j ≤ D ∧ s = .int .i64 (sumS C g j) ∧ i = .int .i64 ((j : Nat) : Int) ∧ Hid (Below w.heap.size w wr)) (fun _ i _ => D - (intOf i).toNat)
  case atStart => exact ⟨0, by omega, rfl, rfl, Lib.hid (Below.refl _ _)⟩
  case round =>
    obtain ⟨j, hj, rfl, rfl, HR⟩ := hrel
    obtain ⟨s, hs⟩ : ∃ s, s = sumS C g j := ⟨_, rfl⟩
    have sb := sumS_bound HG.out.2 HG.out.1 j
    rw [← hs] at sb ⊢
    obtain ⟨sb0, sb1⟩ := sb
    have HSs := Lib.hid hs
    clear hs
    have cC : wr.cell? ⟨gC, 0, none⟩ = some (.int .i64 (C : Int)) := (HB.out.2.1.on HR.out).cell 0
    have cD : wr.cell? ⟨gD, 0, none⟩ = some (.int .i64 (D : Int)) := (HB.out.2.2.on HR.out).cell 0
    by_cases hjD : j < D
    · go_wp2_with fail
      clear cC cD
      go_loopw [8, 16] (fun r i wr => ∃ k : Nat, k ≤ C ∧ r = .int .i64 (s + rowS (fun i => g i j) k) ∧ i = .int .i64 ((k : Nat) : Int) ∧ Hid (Below w.heap.size w wr)) (fun _ i _ => C - (intOf i).toNat)
      case atStart => exact ⟨0, by omega, by rw [rowS, Int.add_zero], rfl, HR⟩
      case round =>
        obtain ⟨k, hk, rfl, rfl, HR⟩ := hrel
        obtain ⟨r, hrr⟩ : ∃ r, r = rowS (fun i => g i j) k := ⟨_, rfl⟩
        have rb := rowS_bound (fun i => HG.out.1 i j) k
        rw [← hrr] at rb ⊢
        obtain ⟨rb0, rb1⟩ := rb
        have HRr := Lib.hid hrr
        clear hrr
        by_cases hkC : k < C
        · have cC : wr.cell? ⟨gC, 0, none⟩ = some (.int .i64 (C : Int)) := (HB.out.2.1.on HR.out).cell 0
          have cD : wr.cell? ⟨gD, 0, none⟩ = some (.int .i64 (D : Int)) := (HB.out.2.2.on HR.out).cell 0
          have HT := Lib.hid (HA.out wr HR.out k j)
          have zb := HG.out.1 k j
          unfold In8 at zb
          obtain ⟨z, hz⟩ : ∃ z, z = g k j := ⟨_, rfl⟩
          rw [← hz] at zb HT
          obtain ⟨zb0, zb1⟩ := zb
          have HZ := Lib.hid hz
          clear hz
          go_wp2_with (first
            | (with_reducible refine wpList_load_to (op := ⟨some 20, _, _, _, _, _⟩) rfl 69 (.tmp 4) rfl (.pointer (some ⟨gP, 0, none⟩)) rfl (.agg #[.int .i64 (W : Int), .int .i64 (H : Int), .slice A n c]) (load_plane (HB.out.1.on HR.out) rfl) ?_)
            | fail)
          refine Calls.mono HT.out ?_
          rintro e w6 ⟨rfl, b6⟩
          have H6 := Lib.hid (on_trans HR.out b6)
          clear b6 cC cD
          go_wp2_with fail
          go_roundw
          case rel => exact ⟨k + 1, by omega, by rw [rowS, ← HRr.out, ← HZ.out, Int.add_assoc], by go_num, H6⟩
          case measure => simp [intOf]; omega
        · obtain rfl : k = C := by omega
          go_wp2_with fail
          go_roundw
          case rel => exact ⟨j + 1, by omega, by rw [sumS, ← HSs.out, ← HRr.out], by go_num, HR⟩
          case measure => simp [intOf]; omega
    · obtain rfl : j = D := by omega
      go_wp2_with fail
      refine Calls.mono (HRO.out wr s sb0 (by omega)) ?_
      rintro e w6 ⟨rfl, rfl⟩
      go_wp2_with fail
      go_ret
      exact ⟨by rw [HSs.out]; rfl, HR.out⟩
end Go.Proofs.YtmadkpnkmkajoaaDoor

namespace Go.Proofs.YtmadkpnkmkajoaaDoor
open Go.RowKit
set_option maxRecDepth 20000

theorem halve_fun (xs : List Int) (W H : Nat) (a d : Bool) : halveL xs W H a d = gridL (halfN a W) (halfN d H) fun x y => rnd (sumS (facN a) (fun i j => atL xs W H ((facN a * x + i : Nat) : Int) ((facN d * y + j : Nat) : Int)) (facN d)) ((facN a * facN d : Nat) : Int) := by
  unfold halveL
  exact grid_congr fun y _ x _ => halfT_sum xs W H a d x y
theorem pieces_half (a : Bool) (n : Nat) : (n + facN a - 1) / facN a = halfN a n := by
  cases a
  · simp [facN, halfN]
  · simp [facN, halfN]; omega

set_option maxHeartbeats 3200000 in
theorem halve_good (w0 : World) (W H : Nat) (a d : Bool) (A : Option Addr) (n c : Nat) (xs : List Int) (hI : Ia w0 A n c xs) (hr : RightP xs W H) :
    Calls Tryd.prog 85 #[.agg #[.int .i64 (W : Int), .int .i64 (H : Int), .slice A n c], .bool a, .bool d] w0 (PTells w0 (((halfN a W : Nat) : Int), ((halfN d H : Nat) : Int), halveL xs W H a d, 0)) := by
  have hn : n = W * H := by rw [← hI.len, hr.len]
  have hwh := hr.small
  have HR := Lib.hid (fun w1 (k : Below w0.heap.size w0 w1) => right_any w1 (W : Int) (H : Int) A n c xs (hI.on k) (by omega))
  unfold Righted at HR
  rw [decide_eq_true hr.int] at HR
  obtain ⟨w2, hw2, b0, b1, k2⟩ := two_made w0 #[.int .i64 (W : Int), .int .i64 (H : Int), .slice A n c]
  rw [halve_fun]
  have hfa := facN_bounds a
  have hfd := facN_bounds d
  have HF1 := Lib.hid (fun w1 => factorN_any w1 a)
  have HF2 := Lib.hid (fun w1 => factorN_any w1 d)
  have hw : 1 ≤ halfN a W ∧ halfN a W ≤ 128 := ⟨halfN_pos hr.w0, Nat.le_trans (halfN_le a W) hr.w1⟩
  have hh : 1 ≤ halfN d H ∧ halfN d H ≤ 128 := ⟨halfN_pos hr.h0, Nat.le_trans (halfN_le d H) hr.h1⟩
  have HP1 := Lib.hid (fun w1 => pieces_any w1 W (facN a) (by have := hr.w1; omega) hfa.1 (by omega))
  have HP2 := Lib.hid (fun w1 => pieces_any w1 H (facN d) (by have := hr.h1; omega) hfd.1 (by omega))
  rw [pieces_half] at HP1 HP2
  obtain ⟨C, hC⟩ : ∃ C, C = facN a := ⟨_, rfl⟩
  obtain ⟨D, hD⟩ : ∃ D, D = facN d := ⟨_, rfl⟩
  obtain ⟨u, hu⟩ : ∃ u, u = halfN a W := ⟨_, rfl⟩
  obtain ⟨v, hv⟩ : ∃ v, v = halfN d H := ⟨_, rfl⟩
  rw [← hC] at hfa HF1 HP1 ⊢
  rw [← hD] at hfd HF2 HP2 ⊢
  rw [← hu] at hw HP1 ⊢
  rw [← hv] at hh HP2 ⊢
  have HM := Lib.hid (fun (w5 : World) (gC gD : Nat) (k : Below w2.heap.size w2 w5) (bC : Box w5 gC 3 #[.int .i64 (C : Int)]) (bD : Box w5 gD 3 #[.int .i64 (D : Int)]) => made_any 111 #[.pointer (some ⟨gD, 0, none⟩), .pointer (some ⟨gC, 0, none⟩), .pointer (some ⟨w0.heap.size, 0, none⟩)] calls33 w5 u v (fun x y => rnd (sumS C (fun i j => atL xs W H ((C * x + i : Nat) : Int) ((D * y + j : Nat) : Int)) D) ((C * D : Nat) : Int)) hw hh
    fun a b w6 ha hb k6 => meanT_any w6 w0.heap.size gC gD W H C D a b A n c xs ((b0.on k).on k6) (bC.on k6) (bD.on k6) (hI.on (on_trans k2 (on_trans k k6))) hr hfa hfd (by omega) (by omega))
  have HW := Lib.hid (And.intro hw2 (And.intro k2 (And.intro b0 b1)))
  have hmf : ∀ (fn : Fn) (first cap : Array Value) (w : World), (Instr.makeFunc fn first cap).run Tryd.prog w = .ok (.func fn first cap) w := fun _ _ _ _ => rfl
  clear hI hr hw2 k2 b0 b1 hwh hn hfa hfd hC hD hu hv
  go_enter Tryd.func85, Tryd.ntmps85
  go_wp2_with fail
  rw [HW.out.1]
  refine Calls.mono (HR.out w2 HW.out.2.1) ?_
  rintro e w4 ⟨rfl, b4⟩
  have H4 := Lib.hid b4
  clear b4
  go_wp2_with fail
  refine Calls.mono (HF1.out w4) ?_
  rintro e wx ⟨rfl, rfl⟩
  go_wp2_with fail
  refine Calls.mono (HF2.out w4) ?_
  rintro e wx ⟨rfl, rfl⟩
  go_upto_region 5 with fail
  obtain ⟨w5, hw5, bC, bD, k5⟩ := nums_made w4 (C : Int) (D : Int)
  rw [hw5]
  have H5 := Lib.hid (And.intro (on_trans H4.out k5) (And.intro bC bD))
  have B5 := Lib.hid (And.intro (HW.out.2.2.1.on H5.out.1) (HW.out.2.2.2.on H5.out.1))
  clear bC bD k5 hw5
  obtain ⟨gC, hgC⟩ : ∃ gC, gC = w4.heap.size := ⟨_, rfl⟩
  rw [← hgC] at H5 ⊢
  have s5 : w0.heap.size + 1 < w5.heap.size := B5.out.2.lt
  have hg4 : w0.heap.size + 1 < gC := by rw [hgC]; exact (HW.out.2.2.2.on H4.out).lt
  clear hgC
  refine wp_region_held_drew (S := fun w' => Hid (Kept (fun i => i = w0.heap.size + 1) w5 w')) (by kernel_rfl) (Lib.hid ((Kept.refl _ w5).drew)) fun s0 => ?_
  refine take_to (i := 0) (v := .pointer (some ⟨w0.heap.size, 0, none⟩)) rfl (by kernel_rfl) (by kernel_rfl) (by kernel_rfl) (fun _ _ _ h => h) (Or.inl ⟨by rfl, fun w' hS => by go_simp⟩) s0 (some 20) rfl ?_
  refine take_to (i := 1) (v := .int .i64 (W : Int)) rfl (by kernel_rfl) (by kernel_rfl) (by kernel_rfl) (fun _ _ _ h => h) (Or.inl ⟨by rfl, fun w' hS => by have c : w'.cell? ⟨w0.heap.size, 0, none⟩ = some (.int .i64 (W : Int)) := (hS.out.box B5.out.1 (by omega)).cell 0; go_simp⟩) s0 (some 21) rfl ?_
  refine take_to (i := 2) (v := .int .i64 (C : Int)) rfl (by kernel_rfl) (by kernel_rfl) (by kernel_rfl) (fun _ _ _ h => h) (Or.inl ⟨by rfl, fun w' hS => by have c : w'.cell? ⟨gC, 0, none⟩ = some (.int .i64 (C : Int)) := (hS.out.box H5.out.2.1 (by omega)).cell 0; go_simp⟩) s0 (some 22) rfl ?_
  refine take_to (i := 4) (v := .pointer (some ⟨w0.heap.size, 1, none⟩)) rfl (by kernel_rfl) (by kernel_rfl) (by kernel_rfl) (fun _ _ _ h => h) (Or.inl ⟨by rfl, fun w' hS => by go_simp⟩) s0 (some 24) rfl ?_
  refine take_to (i := 5) (v := .int .i64 (H : Int)) rfl (by kernel_rfl) (by kernel_rfl) (by kernel_rfl) (fun _ _ _ h => h) (Or.inl ⟨by rfl, fun w' hS => by have c : w'.cell? ⟨w0.heap.size, 1, none⟩ = some (.int .i64 (H : Int)) := (hS.out.box B5.out.1 (by omega)).cell 1; go_simp⟩) s0 (some 25) rfl ?_
  refine take_to (i := 6) (v := .int .i64 (D : Int)) rfl (by kernel_rfl) (by kernel_rfl) (by kernel_rfl) (fun _ _ _ h => h) (Or.inl ⟨by rfl, fun w' hS => by have c : w'.cell? ⟨gC + 1, 0, none⟩ = some (.int .i64 (D : Int)) := (hS.out.box H5.out.2.2 (by omega)).cell 0; go_simp⟩) s0 (some 26) rfl ?_
  refine take_to (i := 8) (v := .func (.func 111) #[] #[.pointer (some ⟨gC + 1, 0, none⟩), .pointer (some ⟨gC, 0, none⟩), .pointer (some ⟨w0.heap.size, 0, none⟩)]) rfl (by kernel_rfl) (by kernel_rfl) (by kernel_rfl) (fun _ _ _ h => h) (Or.inl ⟨by rfl, fun w' hS => by go_simp⟩) s0 (some 28) rfl ?_
  refine wpAnyH_ready (rs := [3]) (by kernel_rfl) (by simp) ?_
  refine AllReadyH.cons rfl (fun K hK => ?_) AllReadyH.nil
  go_simp
  refine Calls.mono (HP1.out _) ?_
  rintro r v1 ⟨rfl, rfl⟩
  refine hK.out _ _ s0 fun _ => ?_
  clear hK K
  refine wpAnyH_ready (rs := [7]) (by kernel_rfl) (by simp) ?_
  refine AllReadyH.cons rfl (fun K hK => ?_) AllReadyH.nil
  go_simp
  refine Calls.mono (HP2.out _) ?_
  rintro r v1 ⟨rfl, rfl⟩
  refine hK.out _ _ s0 fun _ => ?_
  clear hK K
  refine wpAnyH_ready (rs := [9]) (by kernel_rfl) (by simp) ?_
  refine AllReadyH.cons rfl (fun K hK => ?_) AllReadyH.nil
  go_simp
  have k0 := on_drew w5
  refine Calls.mono (HM.out w5.drew gC (gC + 1) (on_trans H5.out.1 k0) (H5.out.2.1.on k0) (H5.out.2.2.on k0)) ?_
  rintro r w6 ⟨A6, n6, c6, rfl, hO, b6⟩
  have H6 := Lib.hid (And.intro hO (And.intro (on_trans HW.out.2.1 (on_trans H5.out.1 (on_trans k0 b6))) ((B5.out.2.on k0).on b6)))
  have s1 := Lib.hid (Kept.of_below (on_trans k0 b6) (fun i => i = w0.heap.size + 1))
  clear hO b6
  refine hK.out _ _ s1 fun _ => ?_
  clear hK K
  refine wpAnyH_ready (rs := [10]) (by kernel_rfl) (by simp) ?_
  refine AllReadyH.cons rfl (fun K hK => ?_) AllReadyH.nil
  rw [if_pos (by rfl)]
  refine wp_store_plane _ _ rfl rfl (w0.heap.size + 1) #[.int .i64 (u : Int), .int .i64 (v : Int), .slice A6 n6 c6] rfl (by simp [Value.oneCell']) rfl rfl _ H6.out.2.2 rfl fun w9 b9 k9 => ?_
  have s2 := Lib.hid (s1.out.trans k9 (fun _ _ h => h))
  have H9 := Lib.hid (And.intro b9 k9)
  clear b9 k9
  refine hK.out _ _ s2 fun _ => ?_
  clear hK K
  refine take_to (i := 11) (v := .int .i64 0) rfl (by kernel_rfl) (by kernel_rfl) (by kernel_rfl) (fun _ _ _ h => h) (Or.inl ⟨by rfl, fun w' hS => by go_simp⟩) s2 (some 7) rfl ?_
  refine wpAnyH_done (by kernel_rfl) ?_ _
  go_wp2_with fail
  refine bodyPost_ret (v := .tuple #[.agg #[.int .i64 (u : Int), .int .i64 (v : Int), .slice A6 n6 c6], .int .i64 0]) (results_ct (fn := Tryd.f85) Tryd.results85 _ _ (w0.heap.size + 1) _ _ rfl rfl (loadVar_plane H9.out.1 rfl)) rfl ?_
  exact ⟨A6, n6, c6, rfl, (H6.out.1.down (by show w0.heap.size ≤ w5.heap.size; omega)).kept H9.out.2 (fun b off e hb => by have : w5.heap.size ≤ b := (H6.out.1.new b off e).1; omega), H6.out.2.1.trans (H9.out.2.below H6.out.2.1.size (fun i hi e => by omega))⟩

set_option maxHeartbeats 1600000 in
theorem halve_any (w0 : World) (W H : Int) (a d : Bool) (A : Option Addr) (n c : Nat) (xs : List Int) (hI : Ia w0 A n c xs) (hn : n ≤ 1000000) :
    Calls Tryd.prog 85 #[.agg #[.int .i64 W, .int .i64 H, .slice A n c], .bool a, .bool d] w0 (PTells w0 (halveF W H xs a d)) := by
  by_cases hr : RightI W H xs
  · have e : halveF W H xs a d = (((halfN a W.toNat : Nat) : Int), ((halfN d H.toNat : Nat) : Int), halveL xs W.toNat H.toNat a d, 0) := by unfold halveF; rw [if_pos hr]
    rw [e]
    obtain ⟨W', H', rfl, rfl, hp⟩ := hr.plane
    exact halve_good w0 W' H' a d A n c xs hI hp
  · have e : halveF W H xs a d = (0, 0, [], 1) := by unfold halveF; rw [if_neg hr]
    rw [e]
    have HR := Lib.hid (fun w1 (k : Below w0.heap.size w0 w1) => right_any w1 W H A n c xs (hI.on k) hn)
    unfold Righted at HR
    rw [decide_eq_false hr] at HR
    obtain ⟨w2, hw2, b0, b1, k2⟩ := two_made w0 #[.int .i64 W, .int .i64 H, .slice A n c]
    have HW := Lib.hid (And.intro hw2 (And.intro k2 (And.intro b0 b1)))
    clear hr e hI hw2 k2 b0 b1
    go_enter Tryd.func85, Tryd.ntmps85
    go_wp2_with fail
    rw [HW.out.1]
    refine Calls.mono (HR.out w2 HW.out.2.1) ?_
    rintro e w4 ⟨rfl, b4⟩
    have H4 := Lib.hid (And.intro (HW.out.2.2.2.on b4) (on_trans HW.out.2.1 b4))
    clear b4
    go_wp2_with (first
      | ((with_reducible refine wpList_store_plane (o := ⟨none, _, _, _, _, _⟩) rfl (.tmp 6) (.tmp 14) rfl rfl (w0.heap.size + 1) #[.int .i64 0, .int .i64 0, .slice none 0 0] rfl ?ho rfl rfl _ H4.out.1 rfl ?_)
         case ho => simp [Value.oneCell']
         intro w9 b9 k9
         have H9 := Lib.hid (And.intro b9 (H4.out.2.trans (k9.below H4.out.2.size (fun i hi e => by omega))))
         clear b9 k9)
      | fail)
    refine bodyPost_ret (v := .tuple #[.agg #[.int .i64 0, .int .i64 0, .slice none 0 0], .int .i64 1]) (results_ct (fn := Tryd.f85) Tryd.results85 _ _ (w0.heap.size + 1) _ _ rfl rfl (loadVar_plane H9.out.1 rfl)) rfl ?_
    exact ⟨none, 0, 0, rfl, Os.none _ _, H9.out.2⟩
end Go.Proofs.YtmadkpnkmkajoaaDoor

namespace Go.Proofs.YtmadkpnkmkajoaaDoor
open Go.RowKit
set_option maxRecDepth 20000

theorem calls40 (args : Array Value) (w : World) : (callFunc 96 args).run Tryd.prog w = .ok (.enter 96 args) w := by kernel_rfl
theorem nb_pieces (n : Nat) : (n + 8 - 1) / 8 = nb n := rfl
theorem pieces8_any (w : World) (n : Nat) (h : n ≤ 1000) : Calls Tryd.prog 95 #[.int .i64 (n : Int), .int .i64 8] w (Tells0 w (.int .i64 ((nb n : Nat) : Int))) := pieces_any w n 8 h (by omega) (by omega)

set_option maxRecDepth 10000 in
set_option maxHeartbeats 1600000 in
theorem levelT_any (w : World) (gL gC : Nat) (W H x y : Nat) (A : Option Addr) (n c : Nat) (bl : List (List Int)) (bL : Box w gL 54 #[.slice A n c]) (bC : Box w gC 3 #[.int .i64 ((nb W : Nat) : Int)]) (hB : Bs w A n bl)
    (hW : 1 ≤ W ∧ W ≤ 128) (hH : 1 ≤ H ∧ H ≤ 128) (hn : n = nb W * nb H) (hx : x < W) (hy : y < H) :
    Calls Tryd.prog 96 #[.int .i64 (x : Int), .int .i64 (y : Int), .pointer (some ⟨gL, 0, none⟩), .pointer (some ⟨gC, 0, none⟩)] w (Atd w (joinT bl W x y)) := by
  have hnb : nb W ≤ 16 ∧ nb H ≤ 16 := by unfold nb; omega
  have hnn : n ≤ 256 := by have : nb W * nb H ≤ 16 * 16 := Nat.mul_le_mul hnb.1 hnb.2; omega
  have hix : nb W * (y / 8) + x / 8 < n := by rw [hn, Nat.mul_comm (nb W)]; exact row_lt (nb_lt hx) (nb_lt hy)
  obtain ⟨b, off, hA, hbl, hc⟩ := hB.at_ (by omega)
  subst hA
  have cL : w.cell? ⟨gL, 0, none⟩ = some (.slice (some ⟨b, off, none⟩) n c) := bL.cell 0
  have cC : w.cell? ⟨gC, 0, none⟩ = some (.int .i64 ((nb W : Nat) : Int)) := bC.cell 0
  have hj : joinT bl W x y = held ((bl.getD (nb W * (y / 8) + x / 8) []).getD (8 * (y % 8) + x % 8) 0) (-128) 127 + 128 := rfl
  obtain ⟨u, hu⟩ : ∃ u, u = nb W := ⟨_, rfl⟩
  rw [← hu] at hix cC hj hnb
  obtain ⟨m, hm⟩ : ∃ m, m = u * (y / 8) := ⟨_, rfl⟩
  rw [← hm] at hix hj
  have hlen := hB.len
  obtain ⟨z, hz⟩ : ∃ z, bl[m + x / 8]? = some z := ⟨_, List.getElem?_eq_getElem (by omega)⟩
  have c3 := hc (m + x / 8) z hz (8 * (y % 8) + x % 8) (by omega)
  rw [show bl.getD (m + x / 8) [] = z by rw [List.getD_eq_getElem?_getD, hz]; rfl] at hj
  obtain ⟨q, hq⟩ : ∃ q, q = z.getD (8 * (y % 8) + x % 8) 0 := ⟨_, rfl⟩
  rw [← hq] at c3 hj
  have hmm : (u : Int) * ((y / 8 : Nat) : Int) = (m : Int) := by rw [hm, Int.natCast_mul]
  have e1 : (y : Int) / 8 = ((y / 8 : Nat) : Int) := by omega
  have e2 : (x : Int) / 8 = ((x / 8 : Nat) : Int) := by omega
  have e3 : (y : Int) % 8 = ((y % 8 : Nat) : Int) := by omega
  have e4 : (x : Int) % 8 = ((x % 8 : Nat) : Int) := by omega
  have l3 : y % 8 < 8 := Nat.mod_lt _ (by omega)
  have l4 : x % 8 < 8 := Nat.mod_lt _ (by omega)
  have x128 : x < 128 := by omega
  have y128 : y < 128 := by omega
  obtain ⟨j8, hj8⟩ : ∃ q, q = y / 8 := ⟨_, rfl⟩
  obtain ⟨k8, hk8⟩ : ∃ q, q = x / 8 := ⟨_, rfl⟩
  obtain ⟨jr, hjr⟩ : ∃ q, q = y % 8 := ⟨_, rfl⟩
  obtain ⟨kr, hkr⟩ : ∃ q, q = x % 8 := ⟨_, rfl⟩
  rw [← hj8] at hmm e1
  rw [← hk8] at e2 c3 hix
  rw [← hjr] at e3 c3 l3
  rw [← hkr] at e4 c3 l4
  have j8b : j8 ≤ 16 := by omega
  have HO := Lib.hid (fun w' => hold_any w' q (-128) 127 (by omega))
  have hb := held_127 q
  have HJ := Lib.hid hj
  obtain ⟨p, hp⟩ : ∃ p, p = held q (-128) 127 := ⟨_, rfl⟩
  rw [← hp] at HO hb HJ
  obtain ⟨p0, p1⟩ := hb
  clear hB hbl hc bL bC hm hu hz hq hlen hn hj8 hk8 hjr hkr hp hj hx hy hW hH
  go_enter Tryd.func96, Tryd.ntmps96
  go_wp2_with fail
  refine Calls.mono (HO.out w) ?_
  rintro e w6 ⟨rfl, rfl⟩
  go_wp2_with fail
  go_ret
  exact ⟨by rw [HJ.out]; rfl, Below.refl _ _⟩
end Go.Proofs.YtmadkpnkmkajoaaDoor

namespace Go.Proofs.YtmadkpnkmkajoaaDoor
open Go.RowKit
set_option maxRecDepth 20000

/-- two boxes: the slice of blocks, what is told -/
theorem join_made (w : World) (S : Value) : ∃ w2, (w.alloc (.cells #[S] 54)).alloc (.cells #[.int .i64 0, .int .i64 0, .slice none 0 0] 69) = w2 ∧ Box w2 w.heap.size 54 #[S] ∧ Box w2 (w.heap.size + 1) 69 #[.int .i64 0, .int .i64 0, .slice none 0 0] ∧ w2.heap.size = w.heap.size + 1 + 1 ∧ Below w.heap.size w w2 := by
  have a1 := Box.made w 54 #[S]
  have a2 := Box.made (w.alloc (.cells #[S] 54)) 69 #[.int .i64 0, .int .i64 0, .slice none 0 0]
  refine ⟨_, rfl, a1.alloc _, ?_, by simp, on_trans (on_alloc _ _) (on_alloc _ _)⟩
  rwa [show (w.alloc (.cells #[S] 54)).heap.size = w.heap.size + 1 by simp] at a2

set_option maxHeartbeats 3200000 in
theorem join_good (w0 : World) (w h : Nat) (A : Option Addr) (n c : Nat) (bl : List (List Int)) (hB : Bs w0 A n bl) (hw : 1 ≤ w ∧ w ≤ 128) (hh : 1 ≤ h ∧ h ≤ 128) (hn : n = nb w * nb h) :
    Calls Tryd.prog 66 #[.slice A n c, .int .i64 (w : Int), .int .i64 (h : Int)] w0 (PTells w0 ((w : Int), (h : Int), joinL bl w h, 0)) := by
  have HS := Lib.hid (fun w1 => sized_any w1 (w : Int) (h : Int))
  rw [decide_eq_true (show Sizd (w : Int) (h : Int) from ⟨⟨by omega, by omega⟩, by omega, by omega⟩)] at HS
  obtain ⟨w2, hw2, b0, b1, hs2, k2⟩ := join_made w0 (.slice A n c)
  have hnb : nb w ≤ 16 ∧ nb h ≤ 16 := by unfold nb; omega
  have hnn : n ≤ 256 := by have : nb w * nb h ≤ 16 * 16 := Nat.mul_le_mul hnb.1 hnb.2; omega
  have hprod : ((nb w : Nat) : Int) * ((nb h : Nat) : Int) = (n : Int) := by rw [hn, Int.natCast_mul]
  have HP1 := Lib.hid (fun w1 => pieces8_any w1 w (by omega))
  have HP2 : ∀ w1, Calls Tryd.prog 95 #[.int .i64 (h : Int), .int .i64 8] w1 fun e w' => e = .returned (.int .i64 ((nb h : Nat) : Int)) ∧ w' = w1 := fun w1 => (pieces8_any w1 h (by omega)).mono fun _ _ ⟨a, b⟩ => ⟨a, b.symm⟩
  have HP2 := Lib.hid HP2
  have HM := Lib.hid (fun (w5 : World) (gC : Nat) (k : Below w2.heap.size w2 w5) (bC : Box w5 gC 3 #[.int .i64 ((nb w : Nat) : Int)]) => made_any 96 #[.pointer (some ⟨w0.heap.size, 0, none⟩), .pointer (some ⟨gC, 0, none⟩)] calls40 w5 w h (joinT bl w) hw hh
    fun a b w6 ha hb k6 => levelT_any w6 w0.heap.size gC w h a b A n c bl ((b0.on k).on k6) (bC.on k6) (hB.on (on_trans k2 (on_trans k k6))) hw hh hn ha hb)
  have HW := Lib.hid (And.intro hw2 (And.intro k2 (And.intro b0 (And.intro b1 hs2))))
  have hmf : ∀ (fn : Fn) (first cap : Array Value) (w : World), (Instr.makeFunc fn first cap).run Tryd.prog w = .ok (.func fn first cap) w := fun _ _ _ _ => rfl
  obtain ⟨u, hu⟩ : ∃ u, u = nb w := ⟨_, rfl⟩
  obtain ⟨v, hv⟩ : ∃ v, v = nb h := ⟨_, rfl⟩
  rw [← hu] at HP1 HM hprod hnb
  rw [← hv] at HP2 hprod hnb
  obtain ⟨u16, v16⟩ := hnb
  clear hB hw2 k2 b0 b1 hs2 hn hw hh hu hv
  go_enter Tryd.func66, Tryd.ntmps66
  go_wp2_with fail
  rw [HW.out.1]
  refine Calls.mono (HS.out w2) ?_
  rintro e wx ⟨rfl, rfl⟩
  go_wp2_with fail
  refine Calls.mono (HP1.out w2) ?_
  rintro e wx ⟨rfl, rfl⟩
  go_wp2_with fail
  obtain ⟨w5, hw5⟩ : ∃ w5, w2.alloc (.cells #[.int .i64 (u : Int)] 3) = w5 := ⟨_, rfl⟩
  rw [hw5]
  have k5 : Below w2.heap.size w2 w5 := by rw [← hw5]; exact on_alloc _ _
  have bC : Box w5 w2.heap.size 3 #[.int .i64 (u : Int)] := by rw [← hw5]; exact Box.made _ _ _
  have cL : w5.cell? ⟨w0.heap.size, 0, none⟩ = some (.slice A n c) := (HW.out.2.2.1.on k5).cell 0
  have cC : w5.cell? ⟨w2.heap.size, 0, none⟩ = some (.int .i64 (u : Int)) := bC.cell 0
  have H5 := Lib.hid (And.intro k5 bC)
  clear hw5 k5 bC
  go_quiet ((go_at_call 95; with_reducible exact Calls.quiet_of_same (HP2.out _)))
  have kq := below_drewN w5 nq
  have H6 := Lib.hid (And.intro (on_trans H5.out.1 kq) (H5.out.2.on kq))
  clear kq cL cC
  obtain ⟨w7, hw7⟩ : ∃ w7, w7 = w5.drewN nq := ⟨_, rfl⟩
  rw [← hw7] at H6 ⊢
  clear hw7
  go_wp2_with fail
  refine Calls.mono (HM.out w7 w2.heap.size H6.out.1 H6.out.2) ?_
  rintro e w8 ⟨A6, n6, c6, rfl, hO, b6⟩
  have s7 : w0.heap.size + 1 < w7.heap.size := (HW.out.2.2.2.1.on H6.out.1).lt
  have H8 := Lib.hid (And.intro hO (And.intro (on_trans HW.out.2.1 (on_trans H6.out.1 b6)) ((HW.out.2.2.2.1.on H6.out.1).on b6)))
  clear hO b6
  go_wp2_with (first
    | ((with_reducible refine wpList_store_plane (o := ⟨none, _, _, _, _, _⟩) rfl (.tmp 6) (.tmp 29) rfl rfl (w0.heap.size + 1) #[.int .i64 (w : Int), .int .i64 (h : Int), .slice A6 n6 c6] rfl ?ho rfl rfl _ H8.out.2.2 rfl ?_)
       case ho => simp [Value.oneCell']
       intro w9 b9 k9
       have H9 := Lib.hid (And.intro b9 k9)
       clear b9 k9)
    | fail)
  refine bodyPost_ret (v := .tuple #[.agg #[.int .i64 (w : Int), .int .i64 (h : Int), .slice A6 n6 c6], .int .i64 0]) (results_ct (fn := Tryd.f66) Tryd.results66 _ _ (w0.heap.size + 1) _ _ rfl rfl (loadVar_plane H9.out.1 rfl)) rfl ?_
  exact ⟨A6, n6, c6, rfl, (H8.out.1.down (by omega)).kept H9.out.2 (fun b off e hb => by have := (H8.out.1.new b off e).1; omega), H8.out.2.1.trans (H9.out.2.below H8.out.2.1.size (fun i hi e => by omega))⟩

set_option maxHeartbeats 3200000 in
theorem join_any (w0 : World) (w h : Int) (A : Option Addr) (n c : Nat) (bl : List (List Int)) (hB : Bs w0 A n bl) (_ : n ≤ 1000) :
    Calls Tryd.prog 66 #[.slice A n c, .int .i64 w, .int .i64 h] w0 (PTells w0 (joinF bl w h)) := by
  have HS := Lib.hid (fun w1 => sized_any w1 w h)
  obtain ⟨w2, hw2, b0, b1, hs2, k2⟩ := join_made w0 (.slice A n c)
  have HW := Lib.hid (And.intro hw2 (And.intro k2 (And.intro b0 (And.intro b1 hs2))))
  clear hw2 k2 b0 b1 hs2
  by_cases hc : (1 ≤ w ∧ w ≤ 128) ∧ 1 ≤ h ∧ h ≤ 128
  · by_cases hl : bl.length = nb w.toNat * nb h.toNat
    · have e : joinF bl w h = (w, h, joinL bl w.toNat h.toNat, 0) := by unfold joinF; rw [if_pos hc, if_pos hl]
      rw [e]
      obtain ⟨⟨a0, a1⟩, b0, b1⟩ := hc
      obtain ⟨w', rfl⟩ := Int.eq_ofNat_of_zero_le (show 0 ≤ w by omega)
      obtain ⟨h', rfl⟩ := Int.eq_ofNat_of_zero_le (show 0 ≤ h by omega)
      exact join_good w0 w' h' A n c bl hB (by omega) (by omega) (by rw [← hB.len, hl]; rfl)
    · have e : joinF bl w h = (0, 0, [], 1) := by unfold joinF; rw [if_pos hc, if_neg hl]
      rw [e]
      rw [decide_eq_true (show Sizd w h from hc)] at HS
      obtain ⟨⟨a0, a1⟩, b0, b1⟩ := hc
      obtain ⟨w, rfl⟩ := Int.eq_ofNat_of_zero_le (show 0 ≤ w by omega)
      obtain ⟨h, rfl⟩ := Int.eq_ofNat_of_zero_le (show 0 ≤ h by omega)
      have hl' : bl.length ≠ nb w * nb h := hl
      rw [hB.len] at hl'
      have hnb : nb w ≤ 16 ∧ nb h ≤ 16 := by unfold nb; omega
      have hnn : nb w * nb h ≤ 256 := by have : nb w * nb h ≤ 16 * 16 := Nat.mul_le_mul hnb.1 hnb.2; omega
      have HP1 := Lib.hid (fun w1 => pieces8_any w1 w (by omega))
      have HP2 : ∀ w1, Calls Tryd.prog 95 #[.int .i64 (h : Int), .int .i64 8] w1 fun e w' => e = .returned (.int .i64 ((nb h : Nat) : Int)) ∧ w' = w1 := fun w1 => (pieces8_any w1 h (by omega)).mono fun _ _ ⟨a, b⟩ => ⟨a, b.symm⟩
      have HP2 := Lib.hid HP2
      obtain ⟨m, hm⟩ : ∃ m, m = nb w * nb h := ⟨_, rfl⟩
      have hprod : ((nb w : Nat) : Int) * ((nb h : Nat) : Int) = (m : Int) := by rw [hm, Int.natCast_mul]
      rw [← hm] at hl' hnn
      have hne : ((n : Int) != (m : Int)) = true := by simp; omega
      have hne' : ((n : Int) == (m : Int)) = false := by simp; omega
      obtain ⟨u, hu⟩ : ∃ u, u = nb w := ⟨_, rfl⟩
      obtain ⟨v, hv⟩ : ∃ v, v = nb h := ⟨_, rfl⟩
      rw [← hu] at HP1 hprod hnb
      rw [← hv] at HP2 hprod hnb
      obtain ⟨u16, v16⟩ := hnb
      clear hB hu hv hm hl hl' e a0 b0
      go_enter Tryd.func66, Tryd.ntmps66
      go_wp2_with fail
      rw [HW.out.1]
      refine Calls.mono (HS.out w2) ?_
      rintro e wx ⟨rfl, rfl⟩
      go_wp2_with fail
      refine Calls.mono (HP1.out w2) ?_
      rintro e wx ⟨rfl, rfl⟩
      go_wp2_with fail
      obtain ⟨w5, hw5⟩ : ∃ w5, w2.alloc (.cells #[.int .i64 (u : Int)] 3) = w5 := ⟨_, rfl⟩
      rw [hw5]
      have k5 : Below w2.heap.size w2 w5 := by rw [← hw5]; exact on_alloc _ _
      have bC : Box w5 w2.heap.size 3 #[.int .i64 (u : Int)] := by rw [← hw5]; exact Box.made _ _ _
      have cL : w5.cell? ⟨w0.heap.size, 0, none⟩ = some (.slice A n c) := (HW.out.2.2.1.on k5).cell 0
      have cC : w5.cell? ⟨w2.heap.size, 0, none⟩ = some (.int .i64 (u : Int)) := bC.cell 0
      have H5 := Lib.hid k5
      clear hw5 k5 bC
      go_quiet ((go_at_call 95; with_reducible exact Calls.quiet_of_same (HP2.out _)))
      have kq := below_drewN w5 nq
      have H6 := Lib.hid (And.intro (on_trans HW.out.2.1 (on_trans H5.out kq)) ((HW.out.2.2.2.1.on H5.out).on kq))
      clear kq cL cC
      obtain ⟨w7, hw7⟩ : ∃ w7, w7 = w5.drewN nq := ⟨_, rfl⟩
      rw [← hw7] at H6 ⊢
      clear hw7
      go_wp2_with (first
        | ((with_reducible refine wpList_store_plane (o := ⟨none, _, _, _, _, _⟩) rfl (.tmp 6) (.tmp 24) rfl rfl (w0.heap.size + 1) #[.int .i64 0, .int .i64 0, .slice none 0 0] rfl ?ho rfl rfl _ H6.out.2 rfl ?_)
           case ho => simp [Value.oneCell']
           intro w9 b9 k9
           have H9 := Lib.hid (And.intro b9 (H6.out.1.trans (k9.below H6.out.1.size (fun i hi e => by omega))))
           clear b9 k9)
        | fail)
      refine bodyPost_ret (v := .tuple #[.agg #[.int .i64 0, .int .i64 0, .slice none 0 0], .int .i64 1]) (results_ct (fn := Tryd.f66) Tryd.results66 _ _ (w0.heap.size + 1) _ _ rfl rfl (loadVar_plane H9.out.1 rfl)) rfl ?_
      exact ⟨none, 0, 0, rfl, Os.none _ _, H9.out.2⟩
  · have e : joinF bl w h = (0, 0, [], 2) := by unfold joinF; rw [if_neg hc]
    rw [e]
    rw [decide_eq_false (show ¬ Sizd w h from hc)] at HS
    clear hc e hB
    go_enter Tryd.func66, Tryd.ntmps66
    go_wp2_with fail
    rw [HW.out.1]
    refine Calls.mono (HS.out w2) ?_
    rintro e wx ⟨rfl, rfl⟩
    go_wp2_with (first
      | ((with_reducible refine wpList_store_plane (o := ⟨none, _, _, _, _, _⟩) rfl (.tmp 6) (.tmp 14) rfl rfl (w0.heap.size + 1) #[.int .i64 0, .int .i64 0, .slice none 0 0] rfl ?ho rfl rfl _ HW.out.2.2.2.1 rfl ?_)
         case ho => simp [Value.oneCell']
         intro w9 b9 k9
         have H9 := Lib.hid (And.intro b9 (HW.out.2.1.trans (k9.below HW.out.2.1.size (fun i hi e => by omega))))
         clear b9 k9)
      | fail)
    refine bodyPost_ret (v := .tuple #[.agg #[.int .i64 0, .int .i64 0, .slice none 0 0], .int .i64 2]) (results_ct (fn := Tryd.f66) Tryd.results66 _ _ (w0.heap.size + 1) _ _ rfl rfl (loadVar_plane H9.out.1 rfl)) rfl ?_
    exact ⟨none, 0, 0, rfl, Os.none _ _, H9.out.2⟩
end Go.Proofs.YtmadkpnkmkajoaaDoor
