/-
  Planes as values; the contracts of few, and of the reference's Right, At and Blocks. The contracts of the reference's At and Same. The contract of the reference's Same, of two planes that are. Slices of one's own; the contract of own. A plane that is made: its struct in memory, its samples in a row of one's own that grows. The contract of the reference's Grow. The contract of the reference's Halve. The contract of the reference's Halve. The contract of the reference's Halve. Slices of blocks: those that are handed in, and rows of one's own. The contract of the reference's Join. The contract of the reference's Join, whatever it is asked. The contract of the reference's Cut.
-/
import Derived.Test.YtmadkpnkmkajoaaDoorP12A
import Derived.BigRegion
import Derived.Deep.RegionLaw
import Derived.Deep.AppendLies
import Derived.Deep.DeepCutAuto
import Derived.Great.BuildSlice
namespace Go.Proofs.YtmadkpnkmkajoaaDoor
open Go.RowKit

/-- a plane may be: by any numbers -/
def RightI (W H : Int) (xs : List Int) : Prop := (1 ≤ W ∧ W ≤ 128) ∧ (1 ≤ H ∧ H ≤ 128) ∧ (xs.length : Int) = W * H ∧ ∀ j, j < xs.length → In8 (xs.getD j 0)
instance (W H : Int) (xs : List Int) : Decidable (RightI W H xs) := by unfold RightI; infer_instance
theorem RightI.plane {W H : Int} {xs : List Int} (r : RightI W H xs) : ∃ w h : Nat, W = w ∧ H = h ∧ RightP xs w h := by
  obtain ⟨⟨a, b⟩, ⟨c, d⟩, e, f⟩ := r
  obtain ⟨w, rfl⟩ := Int.eq_ofNat_of_zero_le (show 0 ≤ W by omega)
  obtain ⟨h, rfl⟩ := Int.eq_ofNat_of_zero_le (show 0 ≤ H by omega)
  have e' : xs.length = w * h := by
    have : (xs.length : Int) = ((w * h : Nat) : Int) := by rw [e, Int.natCast_mul]
    omega
  exact ⟨w, h, rfl, rfl, by omega, by omega, by omega, by omega, e', fun j hj => f j (by rw [e']; exact hj)⟩
theorem RightP.int {w h : Nat} {xs : List Int} (r : RightP xs w h) : RightI (w : Int) (h : Int) xs := by
  refine ⟨⟨by have := r.w0; omega, by have := r.w1; omega⟩, ⟨by have := r.h0; omega, by have := r.h1; omega⟩, by rw [r.len, Int.natCast_mul], fun j hj => r.all j (by rw [← r.len]; exact hj)⟩
theorem RightP.small {w h : Nat} {xs : List Int} (r : RightP xs w h) : w * h ≤ 16384 := by
  have : w * h ≤ 128 * 128 := Nat.mul_le_mul r.w1 r.h1
  omega
/-- what Right answers -/
def Righted (w : World) (W H : Int) (xs : List Int) (e : Ending) (w' : World) : Prop := e = .returned (.bool (decide (RightI W H xs))) ∧ Below w.heap.size w w'
theorem prod128 {W H : Int} (a : 1 ≤ W ∧ W ≤ 128) (b : 1 ≤ H ∧ H ≤ 128) : 1 ≤ W * H ∧ W * H ≤ 16384 := by
  have h1 : W * H ≤ 128 * 128 := Int.mul_le_mul a.2 b.2 (by omega) (by omega)
  have h2 : 1 * 1 ≤ W * H := Int.mul_le_mul a.1 b.1 (by omega) (by omega)
  omega
/-- what few answers -/
def Fewd (w : World) (n : Nat) (e : Ending) (w' : World) : Prop := e = .returned (.bool (decide (n ≤ 20000))) ∧ Below w.heap.size w w'
/-- what Blocks answers -/
def Nbd (w : World) (n : Nat) (e : Ending) (w' : World) : Prop := e = .returned (.int .i64 (nb n : Nat)) ∧ w = w'
set_option maxHeartbeats 800000 in
theorem blocks_any (w : World) (n : Nat) (hn : n ≤ 1000) : Calls Tryd.prog 74 #[.int .i64 (n : Int)] w (Nbd w n) := by
  have e0 : n % 8 = 0 → ((n : Int) / 8 : Int) = (nb n : Nat) := fun h => by unfold nb; omega
  have e1 : ¬ n % 8 = 0 → ((n : Int) / 8 + 1 : Int) = (nb n : Nat) := fun h => by unfold nb; omega
  have E := Lib.hid (And.intro e0 e1)
  clear e0 e1
  by_cases h : n % 8 = 0
  · have h' : (n : Int) % 8 = 0 := by omega
    have E := Lib.hid (E.out.1 h)
    go_enter Tryd.func74, Tryd.ntmps74
    go_wp2_with fail
    go_ret
    exact ⟨by rw [← E.out]; rfl, rfl⟩
  · have h' : ((n : Int) % 8 == 0) = false := by simp; omega
    have E := Lib.hid (E.out.2 h)
    go_enter Tryd.func74, Tryd.ntmps74
    go_wp2_with fail
    go_ret
    exact ⟨by rw [← E.out]; rfl, rfl⟩

/-- the first k are samples -/
def Sk (xs : List Int) (k : Nat) : Prop := ∀ j, j < k → In8 (xs.getD j 0)
theorem Sk.more {l : List Int} {k : Nat} (h : Sk l k) (h0 : In8 (l.getD k 0)) : Sk l (k + 1) := fun j hj => by
  by_cases e : j = k
  · rw [e]; exact h0
  · exact h j (by omega)

set_option maxHeartbeats 1600000 in
theorem refRight_any12_ (w : World) (W H : Int) (A : Option Addr) (n c : Nat) (xs : List Int) (hI : Ia w A n c xs) (hn : n ≤ 1000000) : Calls Tryd.prog 75 #[.agg #[.int .i64 W, .int .i64 H, .slice A n c]] w (Righted w W H xs) := by
  obtain ⟨w1, hw1⟩ : ∃ w1, w.alloc (.cells #[.int .i64 W, .int .i64 H, .slice A n c] 69) = w1 := ⟨_, rfl⟩
  have hb1 : Box w1 w.heap.size 69 #[.int .i64 W, .int .i64 H, .slice A n c] := by rw [← hw1]; exact Box.made _ _ _
  have k1 : Below w.heap.size w w1 := by rw [← hw1]; exact on_alloc _ _
  have HW := Lib.hid hw1
  have hl := hI.len
  have H1 := Lib.hid (And.intro (hI.on k1) (And.intro k1 hb1))
  clear hw1 hb1 k1 hI
  by_cases hr : (1 ≤ W ∧ W ≤ 128) ∧ (1 ≤ H ∧ H ≤ 128)
  · have hp := prod128 hr.1 hr.2
    obtain ⟨m, hm⟩ : ∃ m, m = W * H := ⟨_, rfl⟩
    have hmm := hm.symm
    rw [hmm] at hp
    have HR := Lib.hid (And.intro hr hm)
    obtain ⟨⟨a0, a1⟩, b0, b1⟩ := hr
    clear hm
    by_cases he : (n : Int) = m
    · have he' : ((n : Int) == m) = true := by simp [he]
      have hne : ((n : Int) != m) = false := by simp [he]
      have HE := Lib.hid he
      clear he
      have hlast : Sk xs n → RightI W H xs := fun h => ⟨HR.out.1.1, HR.out.1.2, by rw [hl, HE.out, HR.out.2], fun j hj => h j (by omega)⟩
      have HL := Lib.hid (And.intro hlast hl)
      clear hlast hl
      obtain ⟨m0, m1⟩ := hp
      go_enter Tryd.func75, Tryd.ntmps75
      go_wp2_with fail
      rw [HW.out]
      have c2 : w1.cell? ⟨w.heap.size, 2, none⟩ = some (.slice A n c) := H1.out.2.2.cell 2
      have C2 := Lib.hid c2
      clear c2
      go_loopw [3] (fun i wr => ∃ k : Nat, k ≤ n ∧ i = .int .i64 k ∧ Sk xs k ∧ w1 = wr) (fun i _ => n - (intOf i).toNat)
      case atStart => exact ⟨0, by omega, rfl, fun j hj => absurd hj (by omega), rfl⟩
      case round =>
        obtain ⟨k, hk, rfl, hS, rfl⟩ := hrel
        have HS := Lib.hid hS
        clear hS
        have c2 := C2.out
        by_cases hkn : k < n
        · obtain ⟨b, off, hA, _, hc⟩ := H1.out.1.at_ (by omega)
          have c3 := hc k hkn
          have hz : ¬ In8 (xs.getD k 0) → ¬ RightI W H xs := fun h r => h (r.2.2.2 k (by rw [HL.out.2]; exact hkn))
          obtain ⟨z, hz'⟩ : ∃ z, z = xs.getD k 0 := ⟨_, rfl⟩
          rw [← hz'] at c3 hz
          subst hA
          have HZ := Lib.hid (And.intro hz hz')
          clear hz hz' hc
          by_cases h0 : z < 0
          · go_wp2_with fail
            go_ret
            exact ⟨by rw [decide_eq_false (HZ.out.1 (by unfold In8; omega))]; rfl, H1.out.2.1⟩
          · by_cases h1 : 255 < z
            · go_wp2_with fail
              go_ret
              exact ⟨by rw [decide_eq_false (HZ.out.1 (by unfold In8; omega))]; rfl, H1.out.2.1⟩
            · go_wp2_with fail
              go_roundw
              case rel => exact ⟨k + 1, by omega, by go_num, HS.out.more (by rw [← HZ.out.2]; unfold In8; omega), trivial⟩
              case measure => simp [intOf]; omega
        · obtain rfl : k = n := by omega
          go_wp2_with fail
          go_ret
          exact ⟨by rw [decide_eq_true (HL.out.1 HS.out)]; rfl, H1.out.2.1⟩
    · have hne : ((n : Int) != m) = true := by simpa using he
      have hne' : ((n : Int) == m) = false := by simpa using he
      have E := Lib.hid (decide_eq_false (show ¬ RightI W H xs from fun r => he (by rw [← hl, r.2.2.1, HR.out.2])))
      clear he
      obtain ⟨m0, m1⟩ := hp
      go_enter Tryd.func75, Tryd.ntmps75
      go_wp2_with fail
      rw [HW.out]
      go_ret
      exact ⟨by rw [E.out]; rfl, H1.out.2.1⟩
  · have E := Lib.hid (decide_eq_false (show ¬ RightI W H xs from fun r => hr ⟨r.1, r.2.1⟩))
    have hc : W < 1 ∨ (1 ≤ W ∧ 128 < W) ∨ (1 ≤ W ∧ W ≤ 128 ∧ H < 1) ∨ (1 ≤ W ∧ W ≤ 128 ∧ 1 ≤ H ∧ 128 < H) := by omega
    clear hr
    rcases hc with a | ⟨a, b⟩ | ⟨a, b, c⟩ | ⟨a, b, c, d⟩
    all_goals
      go_enter Tryd.func75, Tryd.ntmps75
      go_wp2_with fail
      rw [HW.out]
      go_ret
      exact ⟨by rw [E.out]; rfl, H1.out.2.1⟩
end Go.Proofs.YtmadkpnkmkajoaaDoor

namespace Go.Proofs.YtmadkpnkmkajoaaDoor
open Go.RowKit

/-- where a place beyond the edge lies -/
theorem clamp_case (x : Int) {n : Nat} (h : 1 ≤ n) : (x < 0 ∧ clampN x n = 0) ∨ (0 ≤ x ∧ (n : Int) ≤ x ∧ ((n : Int) - 1 = (clampN x n : Nat))) ∨ (0 ≤ x ∧ x < n ∧ x = (clampN x n : Nat)) := by
  unfold clampN
  by_cases a : x < 0
  · exact .inl ⟨a, if_pos a⟩
  · rw [if_neg a]
    by_cases b : (n : Int) ≤ x
    · exact .inr (.inl ⟨by omega, b, by rw [if_pos b]; omega⟩)
    · exact .inr (.inr ⟨by omega, by omega, by rw [if_neg b]; omega⟩)
/-- what At answers -/
def Atd (w : World) (z : Int) (e : Ending) (w' : World) : Prop := e = .returned (.int .i64 z) ∧ Below w.heap.size w w'

set_option maxHeartbeats 1600000 in
theorem refAt_any (w : World) (W H : Nat) (A : Option Addr) (n c : Nat) (xs : List Int) (x y : Int) (hI : Ia w A n c xs) (hr : RightP xs W H) : Calls Tryd.prog 76 #[.agg #[.int .i64 (W : Int), .int .i64 (H : Int), .slice A n c], .int .i64 x, .int .i64 y] w (Atd w (atL xs W H x y)) := by
  obtain ⟨w1, hw1⟩ : ∃ w1, w.alloc (.cells #[.int .i64 (W : Int), .int .i64 (H : Int), .slice A n c] 69) = w1 := ⟨_, rfl⟩
  have k1 : Below w.heap.size w w1 := by rw [← hw1]; exact on_alloc _ _
  have hn : n = W * H := by rw [← hI.len, hr.len]
  have hlt := row_lt (clamp_lt x hr.w0) (clamp_lt y hr.h0)
  have hwh := hr.small
  obtain ⟨b, off, hA, hbl, hc⟩ := hI.at_ (by omega)
  have c3 := (k1.cell (p := ⟨b, off + (clampN y H * W + clampN x W), none⟩) hbl).trans (hc (clampN y H * W + clampN x W) (by omega))
  rw [← hw1] at c3
  have cx := clamp_case x hr.w0
  have cy := clamp_case y hr.h0
  have e : atL xs W H x y = xs.getD (clampN y H * W + clampN x W) 0 := rfl
  obtain ⟨X, hX⟩ : ∃ X, X = clampN x W := ⟨_, rfl⟩
  obtain ⟨Y, hY⟩ : ∃ Y, Y = clampN y H := ⟨_, rfl⟩
  rw [← hX] at c3 cx e hlt
  rw [← hY] at c3 cy e hlt
  obtain ⟨m, hm⟩ : ∃ m, m = Y * W := ⟨_, rfl⟩
  have hm' : (Y : Int) * (W : Int) = (m : Int) := by rw [hm, Int.natCast_mul]
  rw [← hm] at c3 e hlt
  obtain ⟨z, hz⟩ : ∃ z, z = xs.getD (m + X) 0 := ⟨_, rfl⟩
  rw [← hz] at c3 e
  subst hA
  have w0 := hr.w0
  have w1' := hr.w1
  have h0 := hr.h0
  have h1' := hr.h1
  rw [← hn] at hlt hwh
  have HK := Lib.hid (And.intro hw1 (And.intro k1 e))
  clear hI hr hbl hc hX hY hm hz k1 e hw1 hn
  rcases cx with ⟨p0, p1⟩ | ⟨p0, p1, p2⟩ | ⟨p0, p1, p2⟩ <;> rcases cy with ⟨q0, q1⟩ | ⟨q0, q1, q2⟩ | ⟨q0, q1, q2⟩
  · subst p1
    subst q1
    obtain rfl : m = 0 := by rw [Int.natCast_zero, Int.zero_mul] at hm'; omega
    clear hm'
    simp only [Nat.add_zero] at c3 hlt
    go_enter Tryd.func76, Tryd.ntmps76
    go_wp2_with fail
    rw [HK.out.1]
    go_ret
    exact ⟨by rw [HK.out.2.2]; rfl, HK.out.2.1⟩
  · subst p1
    simp only [Nat.add_zero] at c3 hlt
    go_enter Tryd.func76, Tryd.ntmps76
    go_wp2_with fail
    rw [HK.out.1]
    go_ret
    exact ⟨by rw [HK.out.2.2]; rfl, HK.out.2.1⟩
  · subst p1
    subst q2
    simp only [Nat.add_zero] at c3 hlt
    go_enter Tryd.func76, Tryd.ntmps76
    go_wp2_with fail
    rw [HK.out.1]
    go_ret
    exact ⟨by rw [HK.out.2.2]; rfl, HK.out.2.1⟩
  · subst q1
    obtain rfl : m = 0 := by rw [Int.natCast_zero, Int.zero_mul] at hm'; omega
    clear hm'
    simp only [Nat.zero_add] at c3 hlt
    go_enter Tryd.func76, Tryd.ntmps76
    go_wp2_with fail
    rw [HK.out.1]
    go_ret
    exact ⟨by rw [HK.out.2.2]; rfl, HK.out.2.1⟩
  · go_enter Tryd.func76, Tryd.ntmps76
    go_wp2_with fail
    rw [HK.out.1]
    go_ret
    exact ⟨by rw [HK.out.2.2]; rfl, HK.out.2.1⟩
  · subst q2
    go_enter Tryd.func76, Tryd.ntmps76
    go_wp2_with fail
    rw [HK.out.1]
    go_ret
    exact ⟨by rw [HK.out.2.2]; rfl, HK.out.2.1⟩
  · subst p2
    subst q1
    obtain rfl : m = 0 := by rw [Int.natCast_zero, Int.zero_mul] at hm'; omega
    clear hm'
    simp only [Nat.zero_add] at c3 hlt
    go_enter Tryd.func76, Tryd.ntmps76
    go_wp2_with fail
    rw [HK.out.1]
    go_ret
    exact ⟨by rw [HK.out.2.2]; rfl, HK.out.2.1⟩
  · subst p2
    go_enter Tryd.func76, Tryd.ntmps76
    go_wp2_with fail
    rw [HK.out.1]
    go_ret
    exact ⟨by rw [HK.out.2.2]; rfl, HK.out.2.1⟩
  · subst p2
    subst q2
    go_enter Tryd.func76, Tryd.ntmps76
    go_wp2_with fail
    rw [HK.out.1]
    go_ret
    exact ⟨by rw [HK.out.2.2]; rfl, HK.out.2.1⟩
end Go.Proofs.YtmadkpnkmkajoaaDoor

namespace Go.Proofs.YtmadkpnkmkajoaaDoor
open Go.RowKit

/-- draws alone change no block -/
theorem below_drewN (w : World) (d : Nat) : Below w.heap.size w (w.drewN d) := ⟨rfl, rfl, rfl, Nat.le_refl _, fun _ _ => rfl⟩
/-- what answers yes -/
def Yes (w : World) (e : Ending) (w' : World) : Prop := e = .returned (.bool true) ∧ Below w.heap.size w w'

end Go.Proofs.YtmadkpnkmkajoaaDoor

namespace Go.Proofs.YtmadkpnkmkajoaaDoor
open Go.RowKit

/-- a slice of one's own that reads as xs: in new memory, to be written -/
structure Os (w : World) (base : Nat) (A : Option Addr) (n c : Nat) (xs : List Int) : Prop where
  il : Il w A n c xs
  new : ∀ b off, A = some ⟨b, off, none⟩ → base ≤ b ∧ b < w.heap.size ∧ ∀ i, w.frozen? ⟨b, off + i, none⟩ = false
section
variable {w w' : World} {base : Nat} {A : Option Addr} {n c : Nat} {xs : List Int}
theorem Os.ia (h : Os w base A n c xs) : Ia w A n c xs := h.il.ia
theorem Os.kept {S : Nat → Prop} (h : Os w base A n c xs) (k : Kept S w w') (hS : ∀ b off, A = some ⟨b, off, none⟩ → ¬ S b) : Os w' base A n c xs :=
  ⟨h.il.kept k hS, fun b off e => ⟨(h.new b off e).1, Nat.lt_of_lt_of_le (h.new b off e).2.1 k.size, fun i => (k.frozen (h.new b off e).2.1 (hS b off e)).trans ((h.new b off e).2.2 i)⟩⟩
theorem Os.on (h : Os w base A n c xs) (k : Below w.heap.size w w') : Os w' base A n c xs := h.kept (Kept.of_below k (fun _ => False)) (fun _ _ _ h => h)
theorem Os.down {b' : Nat} (h : Os w base A n c xs) (hb : b' ≤ base) : Os w b' A n c xs := ⟨h.il, fun b off e => ⟨Nat.le_trans hb (h.new b off e).1, (h.new b off e).2⟩⟩
theorem Os.none (w : World) (base : Nat) : Os w base none 0 0 [] := ⟨Il.none w, fun b off e => by cases e⟩
end
theorem os_of_own {w : World} {base : Nat} {v : Value} {n : Nat} {l : List Int} (h : w.ownsRow base 3 1 v n (cellsI l)) : ∃ A c, v = .slice A n c ∧ Os w base A n c l := by
  obtain ⟨A, c, e, hi, hn⟩ := il_of_own2 h
  exact ⟨A, c, e, hi, hn⟩
theorem plane_size : (Tryd.prog.info? 69).map (·.size) = some 3 := by kernel_rfl
/-- a plane is stored whole, as an operation of a region -/
theorem wp_store_plane {o : Oper} {a : Act} {w : World} {K : Act → World → Prop} {Q : Exit → Act → World → Prop} (x y : Operand) (ho : o.op = .store 69 x y) (hd : o.dst = none)
    (g : Nat) (cs : Array Value) (hcs : cs.size = 3) (hone : cs.all (·.oneCell') = true) (hx : a.eval x = .pointer (some ⟨g, 0, none⟩)) (hy : a.eval y = .agg cs) (old : Array Value) (hg : Box w g 69 old) (hold : old.size = 3)
    (h : ∀ w', Box w' g 69 cs → Kept (fun i => i = g) w w' → K a w') : Oper.wp Tryd.prog o a w K Q := by
  refine wp_store_row 69 x y ho g cs hx hy 69 old hg (by rw [plane_size, hcs]) (by rw [hold, hcs]) hone ?_
  rw [hd]
  exact h _ (setRow_heap w g old _ 69 _ hg) ⟨rfl, rfl, rfl, by simp, fun k _ hk => setRow_other w g k _ hk⟩
theorem loadVar_plane {w : World} {g : Nat} {cs : Array Value} (h : Box w g 69 cs) (hcs : cs.size = 3) : (loadVar 69 ⟨g, 0, none⟩).run Tryd.prog w = .ok (.agg cs) w :=
  run_loadVar_row w g 69 69 _ (0, 0) _ h Tryd.underlying69 rfl (by rw [plane_size, hcs])
theorem results_c {fn : Func} {p : Tmp} {ty : TypeId} (h : fn.results = #[.cell p ty]) (tmps : Array Value) (w : World) (g : Nat) (x : Value)
    (hp : tmps.getD p undef = .pointer (some ⟨g, 0, none⟩)) (hl : (loadVar ty ⟨g, 0, none⟩).run Tryd.prog w = .ok x w) : (results fn tmps).run Tryd.prog w = .ok x w := by
  have hp' : tmps[p]?.getD undef = .pointer (some ⟨g, 0, none⟩) := by simpa using hp
  simp [results, h, hp', asAddr, hl]
/-- what own answers -/
def OwnP (w : World) (W H : Int) (n : Nat) (xs : List Int) (e : Ending) (w' : World) : Prop :=
  ∃ A c, e = .returned (.agg #[.int .i64 W, .int .i64 H, .slice A n c]) ∧ Os w' w.heap.size A n c xs ∧ Below w.heap.size w w'

end Go.Proofs.YtmadkpnkmkajoaaDoor

namespace Go.Proofs.YtmadkpnkmkajoaaDoor
open Go.RowKit

/-- what lies in memory: the argument's box, what is told, a plane whose samples are appended one by one -/
structure Mk (w wr : World) (base gA gR gO : Nat) (P : Array Value) (W H : Int) (xs : List Int) (A : Option Addr) (n c : Nat) : Prop where
  arg : Box wr gA 69 P
  res : Box wr gR 69 #[.int .i64 0, .int .i64 0, .slice none 0 0]
  out : Box wr gO 69 #[.int .i64 W, .int .i64 H, .slice A n c]
  own : wr.ownsRow base 3 1 (.slice A n c) n (cellsI xs)
  bel : Below w.heap.size w wr
  lo : base ≤ wr.heap.size
  lA : gA < base
  lR : gR < base
  lO : gO < base
  nA : gA ≠ gO
  nR : gR ≠ gO
  new : w.heap.size ≤ gR ∧ w.heap.size ≤ gO
  old : w.heap.size ≤ base
section
variable {w wr w' : World} {base gA gR gO : Nat} {P : Array Value} {W H : Int} {xs : List Int} {A : Option Addr} {n c : Nat}
theorem Mk.on (h : Mk w wr base gA gR gO P W H xs A n c) (k : Below wr.heap.size wr w') : Mk w w' base gA gR gO P W H xs A n c :=
  ⟨h.arg.on k, h.res.on k, h.out.on k, ownsRow_block h.own (fun g _ _ hh => k.block g (Array.getElem?_eq_some_iff.1 hh).1), on_trans h.bel k, Nat.le_trans h.lo k.size, h.lA, h.lR, h.lO, h.nA, h.nR, h.new, h.old⟩
theorem Mk.len (h : Mk w wr base gA gR gO P W H xs A n c) : n = xs.length := by have := h.own.1; simpa [cellsI] using this.symm
/-- one sample more -/
theorem Mk.more (h : Mk w wr base gA gR gO P W H xs A n c) {A' : Option Addr} {n' c' : Nat} {ys : List Int} (hown : w'.ownsRow base 3 1 (.slice A' n' c') n' (cellsI ys)) (k : Below base wr w') :
    Mk w (w'.setCell ⟨gO, 2, none⟩ (.slice A' n' c')) base gA gR gO P W H ys A' n' c' := by
  have b2 : Box w' gO 69 #[.int .i64 W, .int .i64 H, .slice A n c] := h.out.bel k h.lO
  refine ⟨(h.arg.bel k h.lA).beside (p := ⟨gO, 2, none⟩) h.nA _, (h.res.bel k h.lR).beside (p := ⟨gO, 2, none⟩) h.nR _, ?_, ?_, ?_, ?_, h.lA, h.lR, h.lO, h.nA, h.nR, h.new, h.old⟩
  · exact b2.put 2 (.slice A' n' c')
  · refine ownsRow_block hown fun g _ e hh => ?_
    have hg : base ≤ g := by
      rcases hown.2 with ⟨e0, _⟩ | ⟨g', cap, cur, e0, hg', _⟩
      · rw [e0] at e; cases e
      · rw [e0] at e; cases e; exact hg'
    exact Below.heap_setCell w' ⟨gO, 2, none⟩ _ g (fun e => by have := h.lO; have e' : g = gO := e; omega)
  · have k1 : Below w.heap.size w w' := h.bel.trans (k.mono h.old)
    exact ((Kept.of_below k1 (fun i => i = gO)).setCell (p := ⟨gO, 2, none⟩) (fun _ => rfl) _).below (Nat.le_refl _) (fun i hi e => by have := h.new.2; omega)
  · have := k.size
    have := h.lo
    simp [World.setCell]
    omega
/-- the plane is told -/
theorem Mk.done (h : Mk w wr base gA gR gO P W H xs A n c) (k : Kept (fun i => i = gR) wr w') : Below w.heap.size w w' ∧ Os w' w.heap.size A n c xs := by
  obtain ⟨A1, c1, e, ho⟩ := os_of_own h.own
  cases e
  exact ⟨h.bel.trans (k.below h.bel.size (fun i hi e => by have := h.new.1; omega)), (ho.down h.old).kept k (fun b off e hb => by have := (ho.new b off e).1; have := h.lR; omega)⟩
end
theorem load_plane {w : World} {g : Nat} {cs : Array Value} (h : Box w g 69 cs) (hcs : cs.size = 3) : (Instr.loadAt 69 (.pointer (some ⟨g, 0, none⟩))).run Tryd.prog w = .ok (.agg cs) w := by
  have := run_loadAt_mid w g 0 69 cs.toList (.struct _) (fun j u hu => by rw [Nat.zero_add, h.cell j]; simpa using hu) Tryd.underlying69 rfl (by rw [plane_size]; simp [hcs])
  simpa using this
/-- a plane is stored whole -/
theorem wpList_store_plane {ops : Array Oper} {rest : List Oper} {o : Oper} {a : Act} {w : World} {Q : Exit → Act → World → Prop} (hgd : o.guard = none) (x y : Operand) (ho : o.op = .store 69 x y) (hd : o.dst = none)
    (g : Nat) (cs : Array Value) (hcs : cs.size = 3) (hone : cs.all (·.oneCell') = true) (hx : a.eval x = .pointer (some ⟨g, 0, none⟩)) (hy : a.eval y = .agg cs) (old : Array Value) (hg : Box w g 69 old) (hold : old.size = 3)
    (h : ∀ w', Box w' g 69 cs → Kept (fun i => i = g) w w' → wpList Tryd.prog ops Q rest a w') : wpList Tryd.prog ops Q (o :: rest) a w :=
  wpList_plain hgd fun _ hK => wp_store_plane x y ho hd g cs hcs hone hx hy old hg hold fun w' h1 h2 => hK _ _ (h w' h1 h2)
/-- what a call answers that tells a plane and an error -/
def PTells (w : World) (R : Int × Int × List Int × Int) (e : Ending) (w' : World) : Prop :=
  ∃ A n c, e = .returned (.tuple #[.agg #[.int .i64 R.1, .int .i64 R.2.1, .slice A n c], .int .i64 R.2.2.2]) ∧ Os w' w.heap.size A n c R.2.2.1 ∧ Below w.heap.size w w'
/-- two boxes: the argument, what is told -/
theorem two_made (w : World) (P : Array Value) : ∃ w2, (w.alloc (.cells P 69)).alloc (.cells #[.int .i64 0, .int .i64 0, .slice none 0 0] 69) = w2 ∧ Box w2 w.heap.size 69 P ∧ Box w2 (w.heap.size + 1) 69 #[.int .i64 0, .int .i64 0, .slice none 0 0] ∧ Below w.heap.size w w2 := by
  refine ⟨_, rfl, (Box.made w 69 P).alloc _, ?_, on_trans (on_alloc _ _) (on_alloc _ _)⟩
  have a2 : Box ((w.alloc (.cells P 69)).alloc (.cells #[.int .i64 0, .int .i64 0, .slice none 0 0] 69)) (w.alloc (.cells P 69)).heap.size 69 #[.int .i64 0, .int .i64 0, .slice none 0 0] := Box.made _ _ _
  rwa [show (w.alloc (.cells P 69)).heap.size = w.heap.size + 1 by simp] at a2
/-- the plane that is made, laid behind them -/
theorem mk_made {w w4 : World} {gA gR : Nat} {P : Array Value} (hA : Box w4 gA 69 P) (hR : Box w4 gR 69 #[.int .i64 0, .int .i64 0, .slice none 0 0]) (k : Below w.heap.size w w4) (hn : w.heap.size ≤ gR) (W H : Int) :
    Mk w (w4.alloc (.cells #[.int .i64 W, .int .i64 H, .slice none 0 0] 69)) (w4.heap.size + 1) gA gR w4.heap.size P W H [] none 0 0 := by
  have k4 := on_alloc w4 (.cells #[.int .i64 W, .int .i64 H, .slice none 0 0] 69)
  have a := hA.lt
  have b := hR.lt
  have s := k.size
  exact ⟨hA.on k4, hR.on k4, Box.made _ _ _, World.ownsRow_nil _ _ _ _, on_trans k k4, by simp, by omega, by omega, by omega, by omega, by omega, ⟨by omega, by omega⟩, by omega⟩
end Go.Proofs.YtmadkpnkmkajoaaDoor

namespace Go.Proofs.YtmadkpnkmkajoaaDoor
open Go.RowKit

/-- what Grow tells -/
def growF (W H : Int) (xs : List Int) (a d : Bool) (w h : Int) : Int × Int × List Int × Int :=
  if RightI W H xs then (if (1 ≤ w ∧ w ≤ 128) ∧ 1 ≤ h ∧ h ≤ 128 then (w, h, growL xs W.toNat H.toNat a d w.toNat h.toNat, 0) else (0, 0, [], 2)) else (0, 0, [], 1)
theorem half_cast (i : Nat) : ((i / 2 : Nat) : Int) = (i : Int) / 2 := by omega

set_option maxHeartbeats 3200000 in
theorem refGrow_tt (w0 : World) (W H w h : Nat) (A : Option Addr) (n c : Nat) (xs : List Int) (hI : Ia w0 A n c xs) (hr : RightP xs W H) (hw : 1 ≤ w ∧ w ≤ 128) (hh : 1 ≤ h ∧ h ≤ 128) :
    Calls Tryd.prog 40 #[.agg #[.int .i64 (W : Int), .int .i64 (H : Int), .slice A n c], .bool true, .bool true, .int .i64 (w : Int), .int .i64 (h : Int)] w0 (PTells w0 ((w : Int), (h : Int), growL xs W H true true w h, 0)) := by
  have hn : n = W * H := by rw [← hI.len, hr.len]
  have hwh := hr.small
  have HR := Lib.hid (fun w1 (k : Below w0.heap.size w0 w1) => refRight_any12_ w1 (W : Int) (H : Int) A n c xs (hI.on k) (by omega))
  unfold Righted at HR
  rw [decide_eq_true hr.int] at HR
  have HA := Lib.hid (fun w1 (k : Below w0.heap.size w0 w1) (i j : Nat) => refAt_any w1 W H A n c xs ((i : Int) / 2) ((j : Int) / 2) (hI.on k) hr)
  obtain ⟨f, hf⟩ : ∃ f : Nat → Nat → Int, f = fun i k => atL xs W H ((i / 2 : Nat) : Int) ((k / 2 : Nat) : Int) := ⟨_, rfl⟩
  have hfa : ∀ i j : Nat, atL xs W H ((i : Int) / 2) ((j : Int) / 2) = f i j := fun i j => by rw [hf]; dsimp only; rw [half_cast, half_cast]
  have hcr : growL xs W H true true w h = gridK w f (w * h) := by rw [hf]; rfl
  have hmore := fun (i j : Nat) (hi : i < w) => gridK_more (f := f) hi j
  have HF := Lib.hid (And.intro hfa (And.intro hcr hmore))
  have hsm : w * h ≤ 16384 := by have : w * h ≤ 128 * 128 := Nat.mul_le_mul hw.2 hh.2; omega
  have hpl : ∀ i j : Nat, i < w → j < h → j * w + i < w * h := fun i j hi hj => row_lt hi hj
  obtain ⟨w2, hw2, hb1, hb2, k2⟩ := two_made w0 #[.int .i64 (W : Int), .int .i64 (H : Int), .slice A n c]
  have HW := Lib.hid (And.intro hw2 (And.intro k2 (And.intro hb1 hb2)))
  have HP := Lib.hid (And.intro hsm hpl)
  obtain ⟨w10, w11⟩ := hw
  obtain ⟨h10, h11⟩ := hh
  clear hf hfa hcr hmore hsm hpl hI hr hw2 k2 hb1 hb2 hwh hn
  go_enter Tryd.func40, Tryd.ntmps40
  go_wp2_with fail
  rw [HW.out.1]
  refine Calls.mono (HR.out w2 HW.out.2.1) ?_
  rintro e w4 ⟨rfl, b4⟩
  have hM := mk_made (HW.out.2.2.1.on b4) (HW.out.2.2.2.on b4) (on_trans HW.out.2.1 b4) (Nat.le_succ _) (w : Int) (h : Int)
  obtain ⟨w5, hw5⟩ : ∃ w5, w4.alloc (.cells #[.int .i64 (w : Int), .int .i64 (h : Int), .slice none 0 0] 69) = w5 := ⟨_, rfl⟩
  rw [hw5] at hM
  have HM := Lib.hid (And.intro hM hw5)
  clear hM hw5 b4
  go_wp2_with fail
  rw [HM.out.2]
  obtain ⟨gO, hgO⟩ : ∃ g, g = w4.heap.size := ⟨_, rfl⟩
  rw [← hgO] at HM ⊢
  clear hgO
  go_loopw [13] (fun i wr => ∃ j A' n' c', j ≤ h ∧ i = .int .i64 ((j : Nat) : Int) ∧ Mk w0 wr (gO + 1) w0.heap.size (w0.heap.size + 1) gO #[.int .i64 (W : Int), .int .i64 (H : Int), .slice A n c] (w : Int) (h : Int) (gridK w f (j * w + 0)) A' n' c') (fun i _ => h - (intOf i).toNat)
  case atStart => exact ⟨0, none, 0, 0, by omega, rfl, by rw [Nat.zero_mul]; exact HM.out.1⟩
  case round =>
    obtain ⟨j, A1, n1, c1, hj, rfl, hR⟩ := hrel
    have HR := Lib.hid hR
    clear hR
    by_cases hjh : j < h
    · go_wp2_with fail
      go_loopw [14] (fun i wr => ∃ k A' n' c', k ≤ w ∧ i = .int .i64 ((k : Nat) : Int) ∧ Mk w0 wr (gO + 1) w0.heap.size (w0.heap.size + 1) gO #[.int .i64 (W : Int), .int .i64 (H : Int), .slice A n c] (w : Int) (h : Int) (gridK w f (j * w + k)) A' n' c') (fun i _ => w - (intOf i).toNat)
      case atStart => exact ⟨0, A1, n1, c1, by omega, rfl, HR.out⟩
      case round =>
        obtain ⟨k, A2, n2, c2, hk, rfl, hR⟩ := hrel
        have HR := Lib.hid hR
        clear hR
        by_cases hkw : k < w
        · have HT := Lib.hid (HA.out wr.drew (HR.out.bel.trans ((on_drew wr).mono HR.out.bel.size)) k j)
          rw [HF.out.1 k j] at HT
          have c0 : wr.cell? ⟨gO, 2, none⟩ = some (.slice A2 n2 c2) := HR.out.out.cell 2
          have p0 : wr.cell? ⟨w0.heap.size, 0, none⟩ = some (.int .i64 (W : Int)) := HR.out.arg.cell 0
          have p1 : wr.cell? ⟨w0.heap.size, 1, none⟩ = some (.int .i64 (H : Int)) := HR.out.arg.cell 1
          have p2 : wr.cell? ⟨w0.heap.size, 2, none⟩ = some (.slice A n c) := HR.out.arg.cell 2
          have hm := HF.out.2.2 k j hkw
          have hsz : n2 = j * w + k := by rw [HR.out.len, gridK_len]
          have hlt := HP.out.2 k j hkw hjh
          obtain ⟨z, hz⟩ : ∃ z, z = f k j := ⟨_, rfl⟩
          rw [← hz] at HT hm
          have HX := Lib.hid (And.intro hm (And.intro hsz hlt))
          clear hm hsz hlt hz
          go_wp2_with fail
          go_region_law
            (first
              | (go_simp
                 go_at_call 76
                 with_reducible refine Calls.mono HT.out ?_
                 rintro e w6 ⟨rfl, b6⟩
                 have hMk6 := HR.out.on ((on_drew wr).trans b6)
                 have H6 := Lib.hid (And.intro (ownsRow_block hMk6.own (fun g _ _ hh => (on_alloc w6 (.cells #[.int .i64 z] 3)).block g (Array.getElem?_eq_some_iff.1 hh).1)) (Nat.le_trans hMk6.lo (on_alloc w6 (.cells #[.int .i64 z] 3)).size))
                 have M6 := Lib.hid hMk6
                 have c6 : w6.cell? ⟨gO, 2, none⟩ = some (.slice A2 n2 c2) := hMk6.out.cell 2
                 have c6a : ∀ o, (w6.alloc o).cell? ⟨gO, 2, none⟩ = some (.slice A2 n2 c2) := fun o => (hMk6.on (on_alloc w6 o)).out.cell 2
                 clear b6 hMk6)
              | ((refine step_append_il rfl (.tmp 58) (.tmp 63) rfl (gO + 1) (.slice A2 n2 c2) n2 _ rfl H6.out.1 (some ⟨w6.heap.size, 0, none⟩) 1 1 [z] rfl (il_of_box (Box.made w6 3 (cellsI [z]).toArray) rfl (show 1 ≤ maxLen by decide)).ia ?hs H6.out.2 (some 64) rfl ?_)
                 case hs => have := HX.out.2.1; have := HX.out.2.2; have := HP.out.1; omega
                 intro v7 w7 hown7 bq
                 obtain ⟨A7, c7, hv7⟩ := own_slice hown7
                 subst hv7
                 have B7 := (M6.out.on (on_alloc w6 (.cells #[.int .i64 z] 3))).out.bel bq (Nat.lt_succ_self gO)
                 have c7 : w7.cell? ⟨gO, 2, none⟩ = some (.slice A2 n2 c2) := B7.cell 2
                 have f7 : w7.frozen? ⟨gO, 2, none⟩ = false := B7.free 2
                 have H7 := Lib.hid (And.intro hown7 bq)
                 clear hown7 bq B7))
          all_goals
            have HE := Lib.hid ((M6.out.on (on_alloc w6 (.cells #[.int .i64 z] 3))).more H7.out.1 H7.out.2)
            rw [HX.out.1] at HE
            go_wp2_with fail
            go_roundw
            case rel => exact ⟨k + 1, _, _, _, by omega, by go_num, HE.out⟩
            case measure => simp [intOf]; omega
        · obtain rfl : k = w := by omega
          go_wp2_with fail
          go_roundw
          case rel => exact ⟨j + 1, _, _, _, by omega, by go_num, by rw [show (j + 1) * k + 0 = j * k + k by rw [Nat.add_mul, Nat.one_mul]; rfl]; exact HR.out⟩
          case measure => simp [intOf]; omega
    · obtain rfl : j = h := by omega
      have hR := HR.out
      rw [show j * w + 0 = w * j by rw [Nat.mul_comm]; rfl, ← HF.out.2.1] at hR
      have HR := Lib.hid hR
      clear hR
      go_wp2_with (first
        | (with_reducible refine wpList_load_to (op := ⟨some 66, _, _, _, _, _⟩) rfl 69 (.tmp 12) rfl (.pointer (some ⟨gO, 0, none⟩)) rfl (.agg #[.int .i64 (w : Int), .int .i64 (j : Int), .slice A1 n1 c1]) (load_plane HR.out.out rfl) ?_)
        | ((with_reducible refine wpList_store_plane (o := ⟨none, _, _, _, _, _⟩) rfl (.tmp 10) (.tmp 66) rfl rfl (w0.heap.size + 1) #[.int .i64 (w : Int), .int .i64 (j : Int), .slice A1 n1 c1] rfl ?ho rfl rfl _ HR.out.res rfl ?_)
           case ho => simp [Value.oneCell']
           intro w9 b9 k9
           have H9 := Lib.hid (And.intro b9 (HR.out.done k9))
           clear b9 k9)
        | fail)
      refine bodyPost_ret (v := .tuple #[.agg #[.int .i64 (w : Int), .int .i64 (j : Int), .slice A1 n1 c1], .int .i64 0]) (results_ct (fn := Tryd.f40) Tryd.results40 _ _ (w0.heap.size + 1) _ _ rfl rfl (loadVar_plane H9.out.1 rfl)) rfl ?_
      exact ⟨A1, n1, c1, rfl, H9.out.2.2, H9.out.2.1⟩

set_option maxHeartbeats 3200000 in
theorem refGrow_tf (w0 : World) (W H w h : Nat) (A : Option Addr) (n c : Nat) (xs : List Int) (hI : Ia w0 A n c xs) (hr : RightP xs W H) (hw : 1 ≤ w ∧ w ≤ 128) (hh : 1 ≤ h ∧ h ≤ 128) :
    Calls Tryd.prog 40 #[.agg #[.int .i64 (W : Int), .int .i64 (H : Int), .slice A n c], .bool true, .bool false, .int .i64 (w : Int), .int .i64 (h : Int)] w0 (PTells w0 ((w : Int), (h : Int), growL xs W H true false w h, 0)) := by
  have hn : n = W * H := by rw [← hI.len, hr.len]
  have hwh := hr.small
  have HR := Lib.hid (fun w1 (k : Below w0.heap.size w0 w1) => refRight_any12_ w1 (W : Int) (H : Int) A n c xs (hI.on k) (by omega))
  unfold Righted at HR
  rw [decide_eq_true hr.int] at HR
  have HA := Lib.hid (fun w1 (k : Below w0.heap.size w0 w1) (i j : Nat) => refAt_any w1 W H A n c xs ((i : Int) / 2) ((j : Int)) (hI.on k) hr)
  obtain ⟨f, hf⟩ : ∃ f : Nat → Nat → Int, f = fun i k => atL xs W H ((i / 2 : Nat) : Int) ((k : Nat) : Int) := ⟨_, rfl⟩
  have hfa : ∀ i j : Nat, atL xs W H ((i : Int) / 2) ((j : Int)) = f i j := fun i j => by rw [hf]; dsimp only; rw [half_cast]
  have hcr : growL xs W H true false w h = gridK w f (w * h) := by rw [hf]; rfl
  have hmore := fun (i j : Nat) (hi : i < w) => gridK_more (f := f) hi j
  have HF := Lib.hid (And.intro hfa (And.intro hcr hmore))
  have hsm : w * h ≤ 16384 := by have : w * h ≤ 128 * 128 := Nat.mul_le_mul hw.2 hh.2; omega
  have hpl : ∀ i j : Nat, i < w → j < h → j * w + i < w * h := fun i j hi hj => row_lt hi hj
  obtain ⟨w2, hw2, hb1, hb2, k2⟩ := two_made w0 #[.int .i64 (W : Int), .int .i64 (H : Int), .slice A n c]
  have HW := Lib.hid (And.intro hw2 (And.intro k2 (And.intro hb1 hb2)))
  have HP := Lib.hid (And.intro hsm hpl)
  obtain ⟨w10, w11⟩ := hw
  obtain ⟨h10, h11⟩ := hh
  clear hf hfa hcr hmore hsm hpl hI hr hw2 k2 hb1 hb2 hwh hn
  go_enter Tryd.func40, Tryd.ntmps40
  go_wp2_with fail
  rw [HW.out.1]
  refine Calls.mono (HR.out w2 HW.out.2.1) ?_
  rintro e w4 ⟨rfl, b4⟩
  have hM := mk_made (HW.out.2.2.1.on b4) (HW.out.2.2.2.on b4) (on_trans HW.out.2.1 b4) (Nat.le_succ _) (w : Int) (h : Int)
  obtain ⟨w5, hw5⟩ : ∃ w5, w4.alloc (.cells #[.int .i64 (w : Int), .int .i64 (h : Int), .slice none 0 0] 69) = w5 := ⟨_, rfl⟩
  rw [hw5] at hM
  have HM := Lib.hid (And.intro hM hw5)
  clear hM hw5 b4
  go_wp2_with fail
  rw [HM.out.2]
  obtain ⟨gO, hgO⟩ : ∃ g, g = w4.heap.size := ⟨_, rfl⟩
  rw [← hgO] at HM ⊢
  clear hgO
  go_loopw [13] (fun i wr => ∃ j A' n' c', j ≤ h ∧ i = .int .i64 ((j : Nat) : Int) ∧ Mk w0 wr (gO + 1) w0.heap.size (w0.heap.size + 1) gO #[.int .i64 (W : Int), .int .i64 (H : Int), .slice A n c] (w : Int) (h : Int) (gridK w f (j * w + 0)) A' n' c') (fun i _ => h - (intOf i).toNat)
  case atStart => exact ⟨0, none, 0, 0, by omega, rfl, by rw [Nat.zero_mul]; exact HM.out.1⟩
  case round =>
    obtain ⟨j, A1, n1, c1, hj, rfl, hR⟩ := hrel
    have HR := Lib.hid hR
    clear hR
    by_cases hjh : j < h
    · go_wp2_with fail
      go_loopw [14] (fun i wr => ∃ k A' n' c', k ≤ w ∧ i = .int .i64 ((k : Nat) : Int) ∧ Mk w0 wr (gO + 1) w0.heap.size (w0.heap.size + 1) gO #[.int .i64 (W : Int), .int .i64 (H : Int), .slice A n c] (w : Int) (h : Int) (gridK w f (j * w + k)) A' n' c') (fun i _ => w - (intOf i).toNat)
      case atStart => exact ⟨0, A1, n1, c1, by omega, rfl, HR.out⟩
      case round =>
        obtain ⟨k, A2, n2, c2, hk, rfl, hR⟩ := hrel
        have HR := Lib.hid hR
        clear hR
        by_cases hkw : k < w
        · have HT := Lib.hid (HA.out wr.drew (HR.out.bel.trans ((on_drew wr).mono HR.out.bel.size)) k j)
          rw [HF.out.1 k j] at HT
          have c0 : wr.cell? ⟨gO, 2, none⟩ = some (.slice A2 n2 c2) := HR.out.out.cell 2
          have p0 : wr.cell? ⟨w0.heap.size, 0, none⟩ = some (.int .i64 (W : Int)) := HR.out.arg.cell 0
          have p1 : wr.cell? ⟨w0.heap.size, 1, none⟩ = some (.int .i64 (H : Int)) := HR.out.arg.cell 1
          have p2 : wr.cell? ⟨w0.heap.size, 2, none⟩ = some (.slice A n c) := HR.out.arg.cell 2
          have hm := HF.out.2.2 k j hkw
          have hsz : n2 = j * w + k := by rw [HR.out.len, gridK_len]
          have hlt := HP.out.2 k j hkw hjh
          obtain ⟨z, hz⟩ : ∃ z, z = f k j := ⟨_, rfl⟩
          rw [← hz] at HT hm
          have HX := Lib.hid (And.intro hm (And.intro hsz hlt))
          clear hm hsz hlt hz
          go_wp2_with fail
          go_region_law
            (first
              | (go_simp
                 go_at_call 76
                 with_reducible refine Calls.mono HT.out ?_
                 rintro e w6 ⟨rfl, b6⟩
                 have hMk6 := HR.out.on ((on_drew wr).trans b6)
                 have H6 := Lib.hid (And.intro (ownsRow_block hMk6.own (fun g _ _ hh => (on_alloc w6 (.cells #[.int .i64 z] 3)).block g (Array.getElem?_eq_some_iff.1 hh).1)) (Nat.le_trans hMk6.lo (on_alloc w6 (.cells #[.int .i64 z] 3)).size))
                 have M6 := Lib.hid hMk6
                 have c6 : w6.cell? ⟨gO, 2, none⟩ = some (.slice A2 n2 c2) := hMk6.out.cell 2
                 have c6a : ∀ o, (w6.alloc o).cell? ⟨gO, 2, none⟩ = some (.slice A2 n2 c2) := fun o => (hMk6.on (on_alloc w6 o)).out.cell 2
                 clear b6 hMk6)
              | ((refine step_append_il rfl (.tmp 58) (.tmp 63) rfl (gO + 1) (.slice A2 n2 c2) n2 _ rfl H6.out.1 (some ⟨w6.heap.size, 0, none⟩) 1 1 [z] rfl (il_of_box (Box.made w6 3 (cellsI [z]).toArray) rfl (show 1 ≤ maxLen by decide)).ia ?hs H6.out.2 (some 64) rfl ?_)
                 case hs => have := HX.out.2.1; have := HX.out.2.2; have := HP.out.1; omega
                 intro v7 w7 hown7 bq
                 obtain ⟨A7, c7, hv7⟩ := own_slice hown7
                 subst hv7
                 have B7 := (M6.out.on (on_alloc w6 (.cells #[.int .i64 z] 3))).out.bel bq (Nat.lt_succ_self gO)
                 have c7 : w7.cell? ⟨gO, 2, none⟩ = some (.slice A2 n2 c2) := B7.cell 2
                 have f7 : w7.frozen? ⟨gO, 2, none⟩ = false := B7.free 2
                 have H7 := Lib.hid (And.intro hown7 bq)
                 clear hown7 bq B7))
          all_goals
            have HE := Lib.hid ((M6.out.on (on_alloc w6 (.cells #[.int .i64 z] 3))).more H7.out.1 H7.out.2)
            rw [HX.out.1] at HE
            go_wp2_with fail
            go_roundw
            case rel => exact ⟨k + 1, _, _, _, by omega, by go_num, HE.out⟩
            case measure => simp [intOf]; omega
        · obtain rfl : k = w := by omega
          go_wp2_with fail
          go_roundw
          case rel => exact ⟨j + 1, _, _, _, by omega, by go_num, by rw [show (j + 1) * k + 0 = j * k + k by rw [Nat.add_mul, Nat.one_mul]; rfl]; exact HR.out⟩
          case measure => simp [intOf]; omega
    · obtain rfl : j = h := by omega
      have hR := HR.out
      rw [show j * w + 0 = w * j by rw [Nat.mul_comm]; rfl, ← HF.out.2.1] at hR
      have HR := Lib.hid hR
      clear hR
      go_wp2_with (first
        | (with_reducible refine wpList_load_to (op := ⟨some 66, _, _, _, _, _⟩) rfl 69 (.tmp 12) rfl (.pointer (some ⟨gO, 0, none⟩)) rfl (.agg #[.int .i64 (w : Int), .int .i64 (j : Int), .slice A1 n1 c1]) (load_plane HR.out.out rfl) ?_)
        | ((with_reducible refine wpList_store_plane (o := ⟨none, _, _, _, _, _⟩) rfl (.tmp 10) (.tmp 66) rfl rfl (w0.heap.size + 1) #[.int .i64 (w : Int), .int .i64 (j : Int), .slice A1 n1 c1] rfl ?ho rfl rfl _ HR.out.res rfl ?_)
           case ho => simp [Value.oneCell']
           intro w9 b9 k9
           have H9 := Lib.hid (And.intro b9 (HR.out.done k9))
           clear b9 k9)
        | fail)
      refine bodyPost_ret (v := .tuple #[.agg #[.int .i64 (w : Int), .int .i64 (j : Int), .slice A1 n1 c1], .int .i64 0]) (results_ct (fn := Tryd.f40) Tryd.results40 _ _ (w0.heap.size + 1) _ _ rfl rfl (loadVar_plane H9.out.1 rfl)) rfl ?_
      exact ⟨A1, n1, c1, rfl, H9.out.2.2, H9.out.2.1⟩

set_option maxHeartbeats 3200000 in
theorem refGrow_ft (w0 : World) (W H w h : Nat) (A : Option Addr) (n c : Nat) (xs : List Int) (hI : Ia w0 A n c xs) (hr : RightP xs W H) (hw : 1 ≤ w ∧ w ≤ 128) (hh : 1 ≤ h ∧ h ≤ 128) :
    Calls Tryd.prog 40 #[.agg #[.int .i64 (W : Int), .int .i64 (H : Int), .slice A n c], .bool false, .bool true, .int .i64 (w : Int), .int .i64 (h : Int)] w0 (PTells w0 ((w : Int), (h : Int), growL xs W H false true w h, 0)) := by
  have hn : n = W * H := by rw [← hI.len, hr.len]
  have hwh := hr.small
  have HR := Lib.hid (fun w1 (k : Below w0.heap.size w0 w1) => refRight_any12_ w1 (W : Int) (H : Int) A n c xs (hI.on k) (by omega))
  unfold Righted at HR
  rw [decide_eq_true hr.int] at HR
  have HA := Lib.hid (fun w1 (k : Below w0.heap.size w0 w1) (i j : Nat) => refAt_any w1 W H A n c xs ((i : Int)) ((j : Int) / 2) (hI.on k) hr)
  obtain ⟨f, hf⟩ : ∃ f : Nat → Nat → Int, f = fun i k => atL xs W H ((i : Nat) : Int) ((k / 2 : Nat) : Int) := ⟨_, rfl⟩
  have hfa : ∀ i j : Nat, atL xs W H ((i : Int)) ((j : Int) / 2) = f i j := fun i j => by rw [hf]; dsimp only; rw [half_cast]
  have hcr : growL xs W H false true w h = gridK w f (w * h) := by rw [hf]; rfl
  have hmore := fun (i j : Nat) (hi : i < w) => gridK_more (f := f) hi j
  have HF := Lib.hid (And.intro hfa (And.intro hcr hmore))
  have hsm : w * h ≤ 16384 := by have : w * h ≤ 128 * 128 := Nat.mul_le_mul hw.2 hh.2; omega
  have hpl : ∀ i j : Nat, i < w → j < h → j * w + i < w * h := fun i j hi hj => row_lt hi hj
  obtain ⟨w2, hw2, hb1, hb2, k2⟩ := two_made w0 #[.int .i64 (W : Int), .int .i64 (H : Int), .slice A n c]
  have HW := Lib.hid (And.intro hw2 (And.intro k2 (And.intro hb1 hb2)))
  have HP := Lib.hid (And.intro hsm hpl)
  obtain ⟨w10, w11⟩ := hw
  obtain ⟨h10, h11⟩ := hh
  clear hf hfa hcr hmore hsm hpl hI hr hw2 k2 hb1 hb2 hwh hn
  go_enter Tryd.func40, Tryd.ntmps40
  go_wp2_with fail
  rw [HW.out.1]
  refine Calls.mono (HR.out w2 HW.out.2.1) ?_
  rintro e w4 ⟨rfl, b4⟩
  have hM := mk_made (HW.out.2.2.1.on b4) (HW.out.2.2.2.on b4) (on_trans HW.out.2.1 b4) (Nat.le_succ _) (w : Int) (h : Int)
  obtain ⟨w5, hw5⟩ : ∃ w5, w4.alloc (.cells #[.int .i64 (w : Int), .int .i64 (h : Int), .slice none 0 0] 69) = w5 := ⟨_, rfl⟩
  rw [hw5] at hM
  have HM := Lib.hid (And.intro hM hw5)
  clear hM hw5 b4
  go_wp2_with fail
  rw [HM.out.2]
  obtain ⟨gO, hgO⟩ : ∃ g, g = w4.heap.size := ⟨_, rfl⟩
  rw [← hgO] at HM ⊢
  clear hgO
  go_loopw [13] (fun i wr => ∃ j A' n' c', j ≤ h ∧ i = .int .i64 ((j : Nat) : Int) ∧ Mk w0 wr (gO + 1) w0.heap.size (w0.heap.size + 1) gO #[.int .i64 (W : Int), .int .i64 (H : Int), .slice A n c] (w : Int) (h : Int) (gridK w f (j * w + 0)) A' n' c') (fun i _ => h - (intOf i).toNat)
  case atStart => exact ⟨0, none, 0, 0, by omega, rfl, by rw [Nat.zero_mul]; exact HM.out.1⟩
  case round =>
    obtain ⟨j, A1, n1, c1, hj, rfl, hR⟩ := hrel
    have HR := Lib.hid hR
    clear hR
    by_cases hjh : j < h
    · go_wp2_with fail
      go_loopw [14] (fun i wr => ∃ k A' n' c', k ≤ w ∧ i = .int .i64 ((k : Nat) : Int) ∧ Mk w0 wr (gO + 1) w0.heap.size (w0.heap.size + 1) gO #[.int .i64 (W : Int), .int .i64 (H : Int), .slice A n c] (w : Int) (h : Int) (gridK w f (j * w + k)) A' n' c') (fun i _ => w - (intOf i).toNat)
      case atStart => exact ⟨0, A1, n1, c1, by omega, rfl, HR.out⟩
      case round =>
        obtain ⟨k, A2, n2, c2, hk, rfl, hR⟩ := hrel
        have HR := Lib.hid hR
        clear hR
        by_cases hkw : k < w
        · have HT := Lib.hid (HA.out wr.drew (HR.out.bel.trans ((on_drew wr).mono HR.out.bel.size)) k j)
          rw [HF.out.1 k j] at HT
          have c0 : wr.cell? ⟨gO, 2, none⟩ = some (.slice A2 n2 c2) := HR.out.out.cell 2
          have p0 : wr.cell? ⟨w0.heap.size, 0, none⟩ = some (.int .i64 (W : Int)) := HR.out.arg.cell 0
          have p1 : wr.cell? ⟨w0.heap.size, 1, none⟩ = some (.int .i64 (H : Int)) := HR.out.arg.cell 1
          have p2 : wr.cell? ⟨w0.heap.size, 2, none⟩ = some (.slice A n c) := HR.out.arg.cell 2
          have hm := HF.out.2.2 k j hkw
          have hsz : n2 = j * w + k := by rw [HR.out.len, gridK_len]
          have hlt := HP.out.2 k j hkw hjh
          obtain ⟨z, hz⟩ : ∃ z, z = f k j := ⟨_, rfl⟩
          rw [← hz] at HT hm
          have HX := Lib.hid (And.intro hm (And.intro hsz hlt))
          clear hm hsz hlt hz
          go_wp2_with fail
          go_region_law
            (first
              | (go_simp
                 go_at_call 76
                 with_reducible refine Calls.mono HT.out ?_
                 rintro e w6 ⟨rfl, b6⟩
                 have hMk6 := HR.out.on ((on_drew wr).trans b6)
                 have H6 := Lib.hid (And.intro (ownsRow_block hMk6.own (fun g _ _ hh => (on_alloc w6 (.cells #[.int .i64 z] 3)).block g (Array.getElem?_eq_some_iff.1 hh).1)) (Nat.le_trans hMk6.lo (on_alloc w6 (.cells #[.int .i64 z] 3)).size))
                 have M6 := Lib.hid hMk6
                 have c6 : w6.cell? ⟨gO, 2, none⟩ = some (.slice A2 n2 c2) := hMk6.out.cell 2
                 have c6a : ∀ o, (w6.alloc o).cell? ⟨gO, 2, none⟩ = some (.slice A2 n2 c2) := fun o => (hMk6.on (on_alloc w6 o)).out.cell 2
                 clear b6 hMk6)
              | ((refine step_append_il rfl (.tmp 58) (.tmp 63) rfl (gO + 1) (.slice A2 n2 c2) n2 _ rfl H6.out.1 (some ⟨w6.heap.size, 0, none⟩) 1 1 [z] rfl (il_of_box (Box.made w6 3 (cellsI [z]).toArray) rfl (show 1 ≤ maxLen by decide)).ia ?hs H6.out.2 (some 64) rfl ?_)
                 case hs => have := HX.out.2.1; have := HX.out.2.2; have := HP.out.1; omega
                 intro v7 w7 hown7 bq
                 obtain ⟨A7, c7, hv7⟩ := own_slice hown7
                 subst hv7
                 have B7 := (M6.out.on (on_alloc w6 (.cells #[.int .i64 z] 3))).out.bel bq (Nat.lt_succ_self gO)
                 have c7 : w7.cell? ⟨gO, 2, none⟩ = some (.slice A2 n2 c2) := B7.cell 2
                 have f7 : w7.frozen? ⟨gO, 2, none⟩ = false := B7.free 2
                 have H7 := Lib.hid (And.intro hown7 bq)
                 clear hown7 bq B7))
          all_goals
            have HE := Lib.hid ((M6.out.on (on_alloc w6 (.cells #[.int .i64 z] 3))).more H7.out.1 H7.out.2)
            rw [HX.out.1] at HE
            go_wp2_with fail
            go_roundw
            case rel => exact ⟨k + 1, _, _, _, by omega, by go_num, HE.out⟩
            case measure => simp [intOf]; omega
        · obtain rfl : k = w := by omega
          go_wp2_with fail
          go_roundw
          case rel => exact ⟨j + 1, _, _, _, by omega, by go_num, by rw [show (j + 1) * k + 0 = j * k + k by rw [Nat.add_mul, Nat.one_mul]; rfl]; exact HR.out⟩
          case measure => simp [intOf]; omega
    · obtain rfl : j = h := by omega
      have hR := HR.out
      rw [show j * w + 0 = w * j by rw [Nat.mul_comm]; rfl, ← HF.out.2.1] at hR
      have HR := Lib.hid hR
      clear hR
      go_wp2_with (first
        | (with_reducible refine wpList_load_to (op := ⟨some 66, _, _, _, _, _⟩) rfl 69 (.tmp 12) rfl (.pointer (some ⟨gO, 0, none⟩)) rfl (.agg #[.int .i64 (w : Int), .int .i64 (j : Int), .slice A1 n1 c1]) (load_plane HR.out.out rfl) ?_)
        | ((with_reducible refine wpList_store_plane (o := ⟨none, _, _, _, _, _⟩) rfl (.tmp 10) (.tmp 66) rfl rfl (w0.heap.size + 1) #[.int .i64 (w : Int), .int .i64 (j : Int), .slice A1 n1 c1] rfl ?ho rfl rfl _ HR.out.res rfl ?_)
           case ho => simp [Value.oneCell']
           intro w9 b9 k9
           have H9 := Lib.hid (And.intro b9 (HR.out.done k9))
           clear b9 k9)
        | fail)
      refine bodyPost_ret (v := .tuple #[.agg #[.int .i64 (w : Int), .int .i64 (j : Int), .slice A1 n1 c1], .int .i64 0]) (results_ct (fn := Tryd.f40) Tryd.results40 _ _ (w0.heap.size + 1) _ _ rfl rfl (loadVar_plane H9.out.1 rfl)) rfl ?_
      exact ⟨A1, n1, c1, rfl, H9.out.2.2, H9.out.2.1⟩

set_option maxHeartbeats 3200000 in
theorem refGrow_ff (w0 : World) (W H w h : Nat) (A : Option Addr) (n c : Nat) (xs : List Int) (hI : Ia w0 A n c xs) (hr : RightP xs W H) (hw : 1 ≤ w ∧ w ≤ 128) (hh : 1 ≤ h ∧ h ≤ 128) :
    Calls Tryd.prog 40 #[.agg #[.int .i64 (W : Int), .int .i64 (H : Int), .slice A n c], .bool false, .bool false, .int .i64 (w : Int), .int .i64 (h : Int)] w0 (PTells w0 ((w : Int), (h : Int), growL xs W H false false w h, 0)) := by
  have hn : n = W * H := by rw [← hI.len, hr.len]
  have hwh := hr.small
  have HR := Lib.hid (fun w1 (k : Below w0.heap.size w0 w1) => refRight_any12_ w1 (W : Int) (H : Int) A n c xs (hI.on k) (by omega))
  unfold Righted at HR
  rw [decide_eq_true hr.int] at HR
  have HA := Lib.hid (fun w1 (k : Below w0.heap.size w0 w1) (i j : Nat) => refAt_any w1 W H A n c xs ((i : Int)) ((j : Int)) (hI.on k) hr)
  obtain ⟨f, hf⟩ : ∃ f : Nat → Nat → Int, f = fun i k => atL xs W H ((i : Nat) : Int) ((k : Nat) : Int) := ⟨_, rfl⟩
  have hfa : ∀ i j : Nat, atL xs W H ((i : Int)) ((j : Int)) = f i j := fun i j => by rw [hf]
  have hcr : growL xs W H false false w h = gridK w f (w * h) := by rw [hf]; rfl
  have hmore := fun (i j : Nat) (hi : i < w) => gridK_more (f := f) hi j
  have HF := Lib.hid (And.intro hfa (And.intro hcr hmore))
  have hsm : w * h ≤ 16384 := by have : w * h ≤ 128 * 128 := Nat.mul_le_mul hw.2 hh.2; omega
  have hpl : ∀ i j : Nat, i < w → j < h → j * w + i < w * h := fun i j hi hj => row_lt hi hj
  obtain ⟨w2, hw2, hb1, hb2, k2⟩ := two_made w0 #[.int .i64 (W : Int), .int .i64 (H : Int), .slice A n c]
  have HW := Lib.hid (And.intro hw2 (And.intro k2 (And.intro hb1 hb2)))
  have HP := Lib.hid (And.intro hsm hpl)
  obtain ⟨w10, w11⟩ := hw
  obtain ⟨h10, h11⟩ := hh
  clear hf hfa hcr hmore hsm hpl hI hr hw2 k2 hb1 hb2 hwh hn
  go_enter Tryd.func40, Tryd.ntmps40
  go_wp2_with fail
  rw [HW.out.1]
  refine Calls.mono (HR.out w2 HW.out.2.1) ?_
  rintro e w4 ⟨rfl, b4⟩
  have hM := mk_made (HW.out.2.2.1.on b4) (HW.out.2.2.2.on b4) (on_trans HW.out.2.1 b4) (Nat.le_succ _) (w : Int) (h : Int)
  obtain ⟨w5, hw5⟩ : ∃ w5, w4.alloc (.cells #[.int .i64 (w : Int), .int .i64 (h : Int), .slice none 0 0] 69) = w5 := ⟨_, rfl⟩
  rw [hw5] at hM
  have HM := Lib.hid (And.intro hM hw5)
  clear hM hw5 b4
  go_wp2_with fail
  rw [HM.out.2]
  obtain ⟨gO, hgO⟩ : ∃ g, g = w4.heap.size := ⟨_, rfl⟩
  rw [← hgO] at HM ⊢
  clear hgO
  go_loopw [13] (fun i wr => ∃ j A' n' c', j ≤ h ∧ i = .int .i64 ((j : Nat) : Int) ∧ Mk w0 wr (gO + 1) w0.heap.size (w0.heap.size + 1) gO #[.int .i64 (W : Int), .int .i64 (H : Int), .slice A n c] (w : Int) (h : Int) (gridK w f (j * w + 0)) A' n' c') (fun i _ => h - (intOf i).toNat)
  case atStart => exact ⟨0, none, 0, 0, by omega, rfl, by rw [Nat.zero_mul]; exact HM.out.1⟩
  case round =>
    obtain ⟨j, A1, n1, c1, hj, rfl, hR⟩ := hrel
    have HR := Lib.hid hR
    clear hR
    by_cases hjh : j < h
    · go_wp2_with fail
      go_loopw [14] (fun i wr => ∃ k A' n' c', k ≤ w ∧ i = .int .i64 ((k : Nat) : Int) ∧ Mk w0 wr (gO + 1) w0.heap.size (w0.heap.size + 1) gO #[.int .i64 (W : Int), .int .i64 (H : Int), .slice A n c] (w : Int) (h : Int) (gridK w f (j * w + k)) A' n' c') (fun i _ => w - (intOf i).toNat)
      case atStart => exact ⟨0, A1, n1, c1, by omega, rfl, HR.out⟩
      case round =>
        obtain ⟨k, A2, n2, c2, hk, rfl, hR⟩ := hrel
        have HR := Lib.hid hR
        clear hR
        by_cases hkw : k < w
        · have HT := Lib.hid (HA.out wr.drew (HR.out.bel.trans ((on_drew wr).mono HR.out.bel.size)) k j)
          rw [HF.out.1 k j] at HT
          have c0 : wr.cell? ⟨gO, 2, none⟩ = some (.slice A2 n2 c2) := HR.out.out.cell 2
          have p0 : wr.cell? ⟨w0.heap.size, 0, none⟩ = some (.int .i64 (W : Int)) := HR.out.arg.cell 0
          have p1 : wr.cell? ⟨w0.heap.size, 1, none⟩ = some (.int .i64 (H : Int)) := HR.out.arg.cell 1
          have p2 : wr.cell? ⟨w0.heap.size, 2, none⟩ = some (.slice A n c) := HR.out.arg.cell 2
          have hm := HF.out.2.2 k j hkw
          have hsz : n2 = j * w + k := by rw [HR.out.len, gridK_len]
          have hlt := HP.out.2 k j hkw hjh
          obtain ⟨z, hz⟩ : ∃ z, z = f k j := ⟨_, rfl⟩
          rw [← hz] at HT hm
          have HX := Lib.hid (And.intro hm (And.intro hsz hlt))
          clear hm hsz hlt hz
          go_wp2_with fail
          go_region_law
            (first
              | (go_simp
                 go_at_call 76
                 with_reducible refine Calls.mono HT.out ?_
                 rintro e w6 ⟨rfl, b6⟩
                 have hMk6 := HR.out.on ((on_drew wr).trans b6)
                 have H6 := Lib.hid (And.intro (ownsRow_block hMk6.own (fun g _ _ hh => (on_alloc w6 (.cells #[.int .i64 z] 3)).block g (Array.getElem?_eq_some_iff.1 hh).1)) (Nat.le_trans hMk6.lo (on_alloc w6 (.cells #[.int .i64 z] 3)).size))
                 have M6 := Lib.hid hMk6
                 have c6 : w6.cell? ⟨gO, 2, none⟩ = some (.slice A2 n2 c2) := hMk6.out.cell 2
                 have c6a : ∀ o, (w6.alloc o).cell? ⟨gO, 2, none⟩ = some (.slice A2 n2 c2) := fun o => (hMk6.on (on_alloc w6 o)).out.cell 2
                 clear b6 hMk6)
              | ((refine step_append_il rfl (.tmp 58) (.tmp 63) rfl (gO + 1) (.slice A2 n2 c2) n2 _ rfl H6.out.1 (some ⟨w6.heap.size, 0, none⟩) 1 1 [z] rfl (il_of_box (Box.made w6 3 (cellsI [z]).toArray) rfl (show 1 ≤ maxLen by decide)).ia ?hs H6.out.2 (some 64) rfl ?_)
                 case hs => have := HX.out.2.1; have := HX.out.2.2; have := HP.out.1; omega
                 intro v7 w7 hown7 bq
                 obtain ⟨A7, c7, hv7⟩ := own_slice hown7
                 subst hv7
                 have B7 := (M6.out.on (on_alloc w6 (.cells #[.int .i64 z] 3))).out.bel bq (Nat.lt_succ_self gO)
                 have c7 : w7.cell? ⟨gO, 2, none⟩ = some (.slice A2 n2 c2) := B7.cell 2
                 have f7 : w7.frozen? ⟨gO, 2, none⟩ = false := B7.free 2
                 have H7 := Lib.hid (And.intro hown7 bq)
                 clear hown7 bq B7))
          all_goals
            have HE := Lib.hid ((M6.out.on (on_alloc w6 (.cells #[.int .i64 z] 3))).more H7.out.1 H7.out.2)
            rw [HX.out.1] at HE
            go_wp2_with fail
            go_roundw
            case rel => exact ⟨k + 1, _, _, _, by omega, by go_num, HE.out⟩
            case measure => simp [intOf]; omega
        · obtain rfl : k = w := by omega
          go_wp2_with fail
          go_roundw
          case rel => exact ⟨j + 1, _, _, _, by omega, by go_num, by rw [show (j + 1) * k + 0 = j * k + k by rw [Nat.add_mul, Nat.one_mul]; rfl]; exact HR.out⟩
          case measure => simp [intOf]; omega
    · obtain rfl : j = h := by omega
      have hR := HR.out
      rw [show j * w + 0 = w * j by rw [Nat.mul_comm]; rfl, ← HF.out.2.1] at hR
      have HR := Lib.hid hR
      clear hR
      go_wp2_with (first
        | (with_reducible refine wpList_load_to (op := ⟨some 66, _, _, _, _, _⟩) rfl 69 (.tmp 12) rfl (.pointer (some ⟨gO, 0, none⟩)) rfl (.agg #[.int .i64 (w : Int), .int .i64 (j : Int), .slice A1 n1 c1]) (load_plane HR.out.out rfl) ?_)
        | ((with_reducible refine wpList_store_plane (o := ⟨none, _, _, _, _, _⟩) rfl (.tmp 10) (.tmp 66) rfl rfl (w0.heap.size + 1) #[.int .i64 (w : Int), .int .i64 (j : Int), .slice A1 n1 c1] rfl ?ho rfl rfl _ HR.out.res rfl ?_)
           case ho => simp [Value.oneCell']
           intro w9 b9 k9
           have H9 := Lib.hid (And.intro b9 (HR.out.done k9))
           clear b9 k9)
        | fail)
      refine bodyPost_ret (v := .tuple #[.agg #[.int .i64 (w : Int), .int .i64 (j : Int), .slice A1 n1 c1], .int .i64 0]) (results_ct (fn := Tryd.f40) Tryd.results40 _ _ (w0.heap.size + 1) _ _ rfl rfl (loadVar_plane H9.out.1 rfl)) rfl ?_
      exact ⟨A1, n1, c1, rfl, H9.out.2.2, H9.out.2.1⟩

set_option maxHeartbeats 3200000 in
theorem refGrow_any (w0 : World) (W H w h : Int) (a d : Bool) (A : Option Addr) (n c : Nat) (xs : List Int) (hI : Ia w0 A n c xs) (hn : n ≤ 1000000) :
    Calls Tryd.prog 40 #[.agg #[.int .i64 W, .int .i64 H, .slice A n c], .bool a, .bool d, .int .i64 w, .int .i64 h] w0 (PTells w0 (growF W H xs a d w h)) := by
  by_cases hr : RightI W H xs
  · by_cases hc : (1 ≤ w ∧ w ≤ 128) ∧ 1 ≤ h ∧ h ≤ 128
    · have e : growF W H xs a d w h = (w, h, growL xs W.toNat H.toNat a d w.toNat h.toNat, 0) := by unfold growF; rw [if_pos hr, if_pos hc]
      rw [e]
      obtain ⟨W', H', rfl, rfl, hp⟩ := hr.plane
      obtain ⟨⟨a0, a1⟩, b0, b1⟩ := hc
      obtain ⟨w', rfl⟩ := Int.eq_ofNat_of_zero_le (show 0 ≤ w by omega)
      obtain ⟨h', rfl⟩ := Int.eq_ofNat_of_zero_le (show 0 ≤ h by omega)
      cases a <;> cases d
      · exact refGrow_ff w0 W' H' w' h' A n c xs hI hp (by omega) (by omega)
      · exact refGrow_ft w0 W' H' w' h' A n c xs hI hp (by omega) (by omega)
      · exact refGrow_tf w0 W' H' w' h' A n c xs hI hp (by omega) (by omega)
      · exact refGrow_tt w0 W' H' w' h' A n c xs hI hp (by omega) (by omega)
    · have e : growF W H xs a d w h = (0, 0, [], 2) := by unfold growF; rw [if_pos hr, if_neg hc]
      rw [e]
      have HR := Lib.hid (fun w1 (k : Below w0.heap.size w0 w1) => refRight_any12_ w1 W H A n c xs (hI.on k) hn)
      unfold Righted at HR
      rw [decide_eq_true hr] at HR
      obtain ⟨w2, hw2, _, hb2, k2⟩ := two_made w0 #[.int .i64 W, .int .i64 H, .slice A n c]
      have HW := Lib.hid (And.intro hw2 (And.intro k2 hb2))
      have hq : w < 1 ∨ (1 ≤ w ∧ 128 < w) ∨ (1 ≤ w ∧ w ≤ 128 ∧ h < 1) ∨ (1 ≤ w ∧ w ≤ 128 ∧ 1 ≤ h ∧ 128 < h) := by omega
      clear hr hc e hI hw2 k2 hb2
      rcases hq with a0 | ⟨a0, a1⟩ | ⟨a0, a1, a2⟩ | ⟨a0, a1, a2, a3⟩
      all_goals
        go_enter Tryd.func40, Tryd.ntmps40
        go_wp2_with fail
        rw [HW.out.1]
        refine Calls.mono (HR.out w2 HW.out.2.1) ?_
        rintro e w4 ⟨rfl, b4⟩
        have H4 := Lib.hid (And.intro (HW.out.2.2.on b4) (on_trans HW.out.2.1 b4))
        clear b4
        go_wp2_with (first
          | ((with_reducible refine wpList_store_plane (o := ⟨none, _, _, _, _, _⟩) rfl (.tmp 10) (.tmp 35) rfl rfl (w0.heap.size + 1) #[.int .i64 0, .int .i64 0, .slice none 0 0] rfl ?ho rfl rfl _ H4.out.1 rfl ?_)
             case ho => simp [Value.oneCell']
             intro w9 b9 k9
             have H9 := Lib.hid (And.intro b9 (H4.out.2.trans (k9.below H4.out.2.size (fun i hi e => by omega))))
             clear b9 k9)
          | fail)
        refine bodyPost_ret (v := .tuple #[.agg #[.int .i64 0, .int .i64 0, .slice none 0 0], .int .i64 2]) (results_ct (fn := Tryd.f40) Tryd.results40 _ _ (w0.heap.size + 1) _ _ rfl rfl (loadVar_plane H9.out.1 rfl)) rfl ?_
        exact ⟨none, 0, 0, rfl, Os.none _ _, H9.out.2⟩
  · have e : growF W H xs a d w h = (0, 0, [], 1) := by unfold growF; rw [if_neg hr]
    rw [e]
    have HR := Lib.hid (fun w1 (k : Below w0.heap.size w0 w1) => refRight_any12_ w1 W H A n c xs (hI.on k) hn)
    unfold Righted at HR
    rw [decide_eq_false hr] at HR
    obtain ⟨w2, hw2, _, hb2, k2⟩ := two_made w0 #[.int .i64 W, .int .i64 H, .slice A n c]
    have HW := Lib.hid (And.intro hw2 (And.intro k2 hb2))
    clear hr e hI hw2 k2 hb2
    go_enter Tryd.func40, Tryd.ntmps40
    go_wp2_with fail
    rw [HW.out.1]
    refine Calls.mono (HR.out w2 HW.out.2.1) ?_
    rintro e w4 ⟨rfl, b4⟩
    have H4 := Lib.hid (And.intro (HW.out.2.2.on b4) (on_trans HW.out.2.1 b4))
    clear b4
    go_wp2_with (first
      | ((with_reducible refine wpList_store_plane (o := ⟨none, _, _, _, _, _⟩) rfl (.tmp 10) (.tmp 20) rfl rfl (w0.heap.size + 1) #[.int .i64 0, .int .i64 0, .slice none 0 0] rfl ?ho rfl rfl _ H4.out.1 rfl ?_)
         case ho => simp [Value.oneCell']
         intro w9 b9 k9
         have H9 := Lib.hid (And.intro b9 (H4.out.2.trans (k9.below H4.out.2.size (fun i hi e => by omega))))
         clear b9 k9)
      | fail)
    refine bodyPost_ret (v := .tuple #[.agg #[.int .i64 0, .int .i64 0, .slice none 0 0], .int .i64 1]) (results_ct (fn := Tryd.f40) Tryd.results40 _ _ (w0.heap.size + 1) _ _ rfl rfl (loadVar_plane H9.out.1 rfl)) rfl ?_
    exact ⟨none, 0, 0, rfl, Os.none _ _, H9.out.2⟩
end Go.Proofs.YtmadkpnkmkajoaaDoor

namespace Go.Proofs.YtmadkpnkmkajoaaDoor
open Go.RowKit

/-- what Halve tells -/
def halveF (W H : Int) (xs : List Int) (a d : Bool) : Int × Int × List Int × Int :=
  if RightI W H xs then ((halfN a W.toNat : Nat), (halfN d H.toNat : Nat), halveL xs W.toNat H.toNat a d, 0) else (0, 0, [], 1)
theorem if_then {c : Prop} [Decidable c] {A B : Prop} (hc : c) (h : A) : if c then A else B := by rw [if_pos hc]; exact h
theorem wrap64 {z : Int} (h0 : -9223372036854775808 ≤ z) (h1 : z ≤ 9223372036854775807) : IntKind.i64.wrap z = z := by simp [IntKind.wrap, IntKind.bits, IntKind.signed]; omega
theorem half_of (n : Nat) : (n : Int) / 2 + (n : Int) % 2 = ((halfN true n : Nat) : Int) := by unfold halfN; rw [if_pos rfl]; omega
theorem half_not (n : Nat) : halfN false n = n := rfl

end Go.Proofs.YtmadkpnkmkajoaaDoor

namespace Go.Proofs.YtmadkpnkmkajoaaDoor
open Go.RowKit


end Go.Proofs.YtmadkpnkmkajoaaDoor

namespace Go.Proofs.YtmadkpnkmkajoaaDoor
open Go.RowKit


end Go.Proofs.YtmadkpnkmkajoaaDoor

namespace Go.Proofs.YtmadkpnkmkajoaaDoor
open Go.RowKit

/-- what is laid into a row of cells, one behind the other -/
theorem fold_set (off : Nat) : ∀ (l : List Value) (s : Nat) (cs : Array Value), off + s + l.length ≤ cs.size → ∀ k, ((l.zipIdx s).foldl (fun (cs : Array Value) (p : Value × Nat) => cs.setIfInBounds (off + p.2) p.1) cs)[k]? = if off + s ≤ k ∧ k < off + s + l.length then l[k - off - s]? else cs[k]?
  | [], s, cs, _, k => by
    rw [if_neg (by simp)]
    rfl
  | a :: l, s, cs, h, k => by
    rw [List.zipIdx_cons, List.foldl_cons, fold_set off l (s + 1) _ (by simp at h ⊢; omega)]
    simp only [List.length_cons] at h ⊢
    by_cases hk : k = off + s
    · subst hk
      rw [if_neg (by omega), if_pos (by omega), Array.getElem?_setIfInBounds_self_of_lt (by omega), show off + s - off - s = 0 by omega]
      rfl
    · by_cases h1 : off + (s + 1) ≤ k ∧ k < off + (s + 1) + l.length
      · rw [if_pos h1, if_pos (by omega), show k - off - s = (k - off - (s + 1)) + 1 by omega, List.getElem?_cons_succ]
      · rw [if_neg h1, if_neg (by omega), Array.getElem?_setIfInBounds_ne (by omega)]
theorem blocksC_len : ∀ {bl : List (List Int)}, (∀ x ∈ bl, x.length = 64) → (blocksC bl).length = 64 * bl.length
  | [], _ => rfl
  | x :: r, h => by
    have h1 : blocksC (x :: r) = cellsI x ++ blocksC r := by simp [blocksC]
    rw [h1, List.length_append, cellsI_len, h x (by simp), blocksC_len (fun y hy => h y (by simp [hy])), List.length_cons]
    omega
theorem bs_of_own {w : World} {base : Nat} {v : Value} {n : Nat} {bl : List (List Int)} (h : w.ownsRow base 29 64 v n (blocksC bl)) (hw : ∀ x ∈ bl, x.length = 64) : ∃ A c, v = .slice A n c ∧ Bs w A n bl ∧ ∀ b off, A = some ⟨b, off, none⟩ → base ≤ b := by
  have hl : bl.length = n := by have := h.1; rw [blocksC_len hw] at this; omega
  have hown := h
  rcases h.2 with ⟨rfl, rfl⟩ | ⟨g, cap, cur, rfl, hg, hh, hn, hm, _, _⟩
  · exact ⟨_, 0, rfl, ⟨hl, hw, fun h0 => by omega⟩, fun b off e => by cases e⟩
  · refine ⟨some ⟨g, 0, none⟩, cap, rfl, ⟨hl, hw, fun _ => ⟨g, 0, rfl, (Array.getElem?_eq_some_iff.1 hh).1, fun i x hx j hj => ?_⟩⟩, fun b off e => by cases e; exact hg⟩
    have hi := (List.getElem?_eq_some_iff.1 hx).1
    rw [Nat.zero_add, hown.cellAt (i * 64 + j) (by omega), blocksC_at hw hx hj]
/-- an append of one block to a row of one's own: only the row's own block turns -/
theorem wpList_append_bk {w : World} {ops : Array Oper} {rest : List Oper} {o : Oper} {a : Act} {Q : Exit → Act → World → Prop} (hgd : o.guard = none) (s x : Operand)
    (ho : o.op = .call { callee := .builtin .append, args := #[s, x], argTypes := #[54, 54] })
    (base : Nat) (v : Value) (n : Nat) (bl : List (List Int)) (y : List Int) (hs : a.eval s = v) (hown : w.ownsRow base 29 64 v n (blocksC bl)) (g : Nat)
    (hx : a.eval x = .slice (some ⟨g, 0, none⟩) 1 1) (hb : Blk w g y) (hn : n ≤ 1000) (hbase : base ≤ w.heap.size)
    (h : ∀ v' w', w'.ownsRow base 29 64 v' (n + 1) (blocksC (bl ++ [y])) → Kept (fun i => v.ownBlock = some i) w w' → wpList Tryd.prog ops Q rest (a.put o.dst v') w') : wpList Tryd.prog ops Q (o :: rest) a w := by
  obtain ⟨i0, hi0, h2⟩ := Option.map_eq_some_iff.1 blk_info
  simp only [Prod.mk.injEq] at h2
  obtain ⟨hz0, hz1, hz2⟩ := h2
  refine wpList_append_own _ hgd s x 54 ho base 29 i0 _ 64 512 Tryd.underlying54 hi0 hz0 hz1 hz2 rfl (by omega) v n (blocksC bl) hs hown ⟨g, 0, none⟩ 1 1 (cellsI y) hx (by rw [cellsI_len, hb.len]) ?_ (cellsI_one y) (by unfold maxLen; omega) (by omega) hbase ?_
  · intro j u hu
    rw [plain_add, Nat.zero_add, hb.box.cell j]
    simpa using hu
  · intro v' w' h1 h2 _
    have e1 : blocksC (bl ++ [y]) = blocksC bl ++ cellsI y := by rw [blocksC_app]; simp [blocksC]
    rw [← e1] at h1
    exact h v' w' h1 ⟨h2.os, h2.tape, h2.output, h2.size, fun k hk hn => h2.block k hk (fun e => hn e.symm)⟩

theorem fill67 {cells : Array Value} {xs : List Value} (hc : cells.size = 64) (hx : xs.length = 64) : Instr.fill (fun i => some (i * 64, 64)) cells [(0, .agg xs.toArray)] = some xs.toArray := by
  have hs : ∀ (l : List Value) (s : Nat) (cs : Array Value), ((l.zipIdx s).foldl (fun (cs : Array Value) (p : Value × Nat) => cs.setIfInBounds (0 + p.2) p.1) cs).size = cs.size := by
    intro l
    induction l with
    | nil => intro s cs; rfl
    | cons a l ih => intro s cs; rw [List.zipIdx_cons, List.foldl_cons, ih]; simp
  simp only [Instr.fill]
  have hx2 : (Value.agg xs.toArray).cells = xs.toArray := rfl
  rw [hx2]
  simp [hx, hc]
  apply Array.ext_getElem?
  intro k
  have hf := fold_set 0 xs 0 cells (by simp [hc, hx]) k
  simp only [Nat.zero_add] at hf
  rw [hf]
  by_cases h1 : 0 ≤ k ∧ k < xs.length
  · rw [if_pos h1]
    simp
  · rw [if_neg h1, Array.getElem?_eq_none (by omega), Array.getElem?_eq_none (by simp; omega)]
theorem wpList_one_blk {ops : Array Oper} {rest : List Oper} {o : Oper} {a : Act} {w : World} {Q : Exit → Act → World → Prop} (hg : o.guard = none) (x : Operand) (ho : o.op = .buildSlice 54 1 #[(0, x)])
    (b : List Int) (hb : b.length = 64) (hx : a.eval x = blkV b)
    (h : wpList Tryd.prog ops Q rest (a.put o.dst (.slice (some ⟨w.heap.size, 0, none⟩) 1 1)) (w.alloc (.cells (cellsI b).toArray 29))) : wpList Tryd.prog ops Q (o :: rest) a w := by
  obtain ⟨i0, hi0, h2⟩ := Option.map_eq_some_iff.1 blk_info
  simp only [Prod.mk.injEq] at h2
  obtain ⟨hz0, hz1, hz2⟩ := h2
  refine wpList_buildSlice hg 54 29 1 _ ho (cellsI b).toArray i0 _ Tryd.underlying54 hi0 hz0 (by rw [hz1]; omega) (by rw [hz1]; omega) ?_ h
  have e : ((#[(0, x)] : Array (Nat × Operand)).map fun (i, y) => (i, a.eval y)).toList = [(0, .agg (cellsI b).toArray)] := by
    simp [hx, blkV]
  rw [e, hz1]
  exact fill67 (by simp) (by rw [cellsI_len, hb])

end Go.Proofs.YtmadkpnkmkajoaaDoor

namespace Go.Proofs.YtmadkpnkmkajoaaDoor
open Go.RowKit

/-- what Join tells -/
def joinF (bl : List (List Int)) (w h : Int) : Int × Int × List Int × Int :=
  if (1 ≤ w ∧ w ≤ 128) ∧ 1 ≤ h ∧ h ≤ 128 then (if bl.length = nb w.toNat * nb h.toNat then (w, h, joinL bl w.toNat h.toNat, 0) else (0, 0, [], 1)) else (0, 0, [], 2)

set_option maxRecDepth 10000 in
set_option maxHeartbeats 3200000 in
theorem refJoin_good (w0 : World) (w h : Nat) (A : Option Addr) (n c : Nat) (bl : List (List Int)) (hB : Bs w0 A n bl) (hw : 1 ≤ w ∧ w ≤ 128) (hh : 1 ≤ h ∧ h ≤ 128) (hn : n = nb w * nb h) :
    Calls Tryd.prog 39 #[.slice A n c, .int .i64 (w : Int), .int .i64 (h : Int)] w0 (PTells w0 ((w : Int), (h : Int), joinL bl w h, 0)) := by
  obtain ⟨f, hf⟩ : ∃ f : Nat → Nat → Int, f = joinT bl w := ⟨_, rfl⟩
  have hcr : joinL bl w h = gridK w f (w * h) := by rw [hf]; rfl
  have hmore := fun (i j : Nat) (hi : i < w) => gridK_more (f := f) hi j
  have hsm : w * h ≤ 16384 := by have : w * h ≤ 128 * 128 := Nat.mul_le_mul hw.2 hh.2; omega
  have hpl : ∀ i j : Nat, i < w → j < h → j * w + i < w * h := fun i j hi hj => row_lt hi hj
  have hnb : nb w ≤ 16 ∧ nb h ≤ 16 := by unfold nb; omega
  have hnn : n ≤ 256 := by have : nb w * nb h ≤ 16 * 16 := Nat.mul_le_mul hnb.1 hnb.2; omega
  have hprod : ((nb w : Nat) : Int) * ((nb h : Nat) : Int) = (n : Int) := by rw [hn, Int.natCast_mul]
  have hidx : ∀ x y : Nat, x < w → y < h → nb w * (y / 8) + x / 8 < n := fun x y hx hy => by rw [hn, Nat.mul_comm (nb w)]; exact row_lt (nb_lt hx) (nb_lt hy)
  have HN := Lib.hid (fun w1 => blocks_any w1 w (by omega))
  have HN' := Lib.hid (fun w1 => blocks_any w1 h (by omega))
  unfold Nbd at HN HN'
  obtain ⟨u, hu⟩ : ∃ u, u = nb w := ⟨_, rfl⟩
  obtain ⟨v, hv⟩ : ∃ v, v = nb h := ⟨_, rfl⟩
  rw [← hu] at hn hnb hprod hidx HN
  rw [← hv] at hn hnb hprod HN'
  have HF := Lib.hid (And.intro hcr (And.intro hmore (And.intro hf (And.intro hu (And.intro hsm (And.intro hpl hidx))))))
  obtain ⟨w1, hw1⟩ : ∃ w1, w0.alloc (.cells #[.int .i64 0, .int .i64 0, .slice none 0 0] 69) = w1 := ⟨_, rfl⟩
  have k1 : Below w0.heap.size w0 w1 := by rw [← hw1]; exact on_alloc _ _
  have b1 : Box w1 w0.heap.size 69 #[.int .i64 0, .int .i64 0, .slice none 0 0] := by rw [← hw1]; exact Box.made _ _ _
  have hM := mk_made b1 b1 k1 (Nat.le_refl _) (w : Int) (h : Int)
  obtain ⟨w5, hw5⟩ : ∃ w5, w1.alloc (.cells #[.int .i64 (w : Int), .int .i64 (h : Int), .slice none 0 0] 69) = w5 := ⟨_, rfl⟩
  rw [hw5] at hM
  have hs1 : w1.heap.size = w0.heap.size + 1 := by rw [← hw1]; simp
  rw [← hw1] at hw5
  have HM := Lib.hid (And.intro hM (And.intro hw5 hB))
  obtain ⟨gO, hgO⟩ : ∃ g, g = w1.heap.size := ⟨_, rfl⟩
  rw [← hgO] at HM hs1
  obtain ⟨w10, w11⟩ := hw
  obtain ⟨h10, h11⟩ := hh
  obtain ⟨u1, v1⟩ := hnb
  have HS := Lib.hid hs1
  clear hcr hmore hf hu hv hsm hpl hidx hB hw1 k1 b1 hM hw5 hs1 hgO hn
  go_enter Tryd.func39, Tryd.ntmps39
  go_wp2_with fail
  refine Calls.mono (HN.out _) ?_
  rintro e wx ⟨rfl, rfl⟩
  go_wp2_with fail
  refine Calls.mono (HN'.out _) ?_
  rintro e wx ⟨rfl, rfl⟩
  go_wp2_with fail
  rw [HM.out.2.1, ← HS.out]
  go_loopw [9] (fun i wr => ∃ j A' n' c', j ≤ h ∧ i = .int .i64 ((j : Nat) : Int) ∧ Mk w0 wr (gO + 1) w0.heap.size w0.heap.size gO #[.int .i64 0, .int .i64 0, .slice none 0 0] (w : Int) (h : Int) (gridK w f (j * w + 0)) A' n' c') (fun i _ => h - (intOf i).toNat)
  case atStart => exact ⟨0, none, 0, 0, by omega, rfl, by rw [Nat.zero_mul]; exact HM.out.1⟩
  case round =>
    obtain ⟨j, A1, n1, c1, hj, rfl, hR⟩ := hrel
    have HR := Lib.hid hR
    clear hR
    by_cases hjh : j < h
    · go_wp2_with fail
      go_loopw [10] (fun i wr => ∃ k A' n' c', k ≤ w ∧ i = .int .i64 ((k : Nat) : Int) ∧ Mk w0 wr (gO + 1) w0.heap.size w0.heap.size gO #[.int .i64 0, .int .i64 0, .slice none 0 0] (w : Int) (h : Int) (gridK w f (j * w + k)) A' n' c') (fun i _ => w - (intOf i).toNat)
      case atStart => exact ⟨0, A1, n1, c1, by omega, rfl, HR.out⟩
      case round =>
        obtain ⟨k, A2, n2, c2, hk, rfl, hR⟩ := hrel
        have HR := Lib.hid hR
        clear hR
        by_cases hkw : k < w
        · have hix := HF.out.2.2.2.2.2.2 k j hkw hjh
          have hBw := HM.out.2.2.on HR.out.bel
          obtain ⟨b, off, hA, _, hc⟩ := HM.out.2.2.at_ (by omega)
          subst hA
          obtain ⟨b', off', hA', hbl, hc'⟩ := hBw.at_ (by omega)
          cases hA'
          obtain ⟨m, hm⟩ : ∃ m, m = u * (j / 8) := ⟨_, rfl⟩
          rw [← hm] at hix
          have hlen := HM.out.2.2.len
          obtain ⟨y, hy⟩ : ∃ y, bl[m + k / 8]? = some y := ⟨_, List.getElem?_eq_getElem (by omega)⟩
          have c3 := hc' (m + k / 8) y hy (8 * (j % 8) + k % 8) (by omega)
          have hfz : f k j = held (y.getD (8 * (j % 8) + k % 8) 0) (-128) 127 + 128 := by
            rw [HF.out.2.2.1]
            unfold joinT
            rw [← HF.out.2.2.2.1, ← hm, show bl.getD (m + k / 8) [] = y by rw [List.getD_eq_getElem?_getD, hy]; rfl]
          obtain ⟨z, hz⟩ : ∃ z, z = y.getD (8 * (j % 8) + k % 8) 0 := ⟨_, rfl⟩
          rw [← hz] at c3 hfz
          have hmm : (u : Int) * ((j / 8 : Nat) : Int) = (m : Int) := by rw [hm, Int.natCast_mul]
          have e1 : (j : Int) / 8 = ((j / 8 : Nat) : Int) := by omega
          have e2 : (k : Int) / 8 = ((k / 8 : Nat) : Int) := by omega
          have e3 : (j : Int) % 8 = ((j % 8 : Nat) : Int) := by omega
          have e4 : (k : Int) % 8 = ((k % 8 : Nat) : Int) := by omega
          have l3 : j % 8 < 8 := Nat.mod_lt _ (by omega)
          have l4 : k % 8 < 8 := Nat.mod_lt _ (by omega)
          obtain ⟨j8, hj8⟩ : ∃ q, q = j / 8 := ⟨_, rfl⟩
          obtain ⟨k8, hk8⟩ : ∃ q, q = k / 8 := ⟨_, rfl⟩
          obtain ⟨jr, hjr⟩ : ∃ q, q = j % 8 := ⟨_, rfl⟩
          obtain ⟨kr, hkr⟩ : ∃ q, q = k % 8 := ⟨_, rfl⟩
          rw [← hj8] at hmm e1
          rw [← hk8] at e2 c3 hix
          rw [← hjr] at e3 c3 l3
          rw [← hkr] at e4 c3 l4
          have HZ := Lib.hid hfz
          clear hBw hc hc' hy hz hm hlen hfz hj8 hk8 hjr hkr
          have c0 : wr.cell? ⟨gO, 2, none⟩ = some (.slice A2 n2 c2) := HR.out.out.cell 2
          have c0a : ∀ o, (wr.alloc o).cell? ⟨gO, 2, none⟩ = some (.slice A2 n2 c2) := fun o => (HR.out.on (on_alloc wr o)).out.cell 2
          by_cases z0 : z < -128
          · have ef : held z (-128) 127 + 128 = 0 := by unfold held; rw [if_pos z0]; rfl
            have EF := Lib.hid ef
            clear ef
            have hm := HF.out.2.1 k j hkw
            rw [HZ.out, EF.out] at hm
            have hsz : n2 = j * w + k := by rw [HR.out.len, gridK_len]
            have hlt := HF.out.2.2.2.2.2.1 k j hkw hjh
            have HX := Lib.hid (And.intro hm (And.intro hsz (And.intro hlt HF.out.2.2.2.2.1)))
            have hMa := HR.out.on (on_alloc wr (.cells #[.int .i64 (0)] 3))
            have HA := Lib.hid hMa
            clear hm hsz hlt hMa
            go_wp2_with fail
            refine Calls.mono (HN.out _) ?_
            rintro e wx ⟨rfl, rfl⟩
            go_wp2_with (first
              | ((with_reducible refine wpList_append_il (o := ⟨some 76, _, _, _, _, _⟩) rfl (.tmp 72) (.tmp 75) rfl (gO + 1) (.slice A2 n2 c2) n2 (gridK w f (j * w + k)) rfl HA.out.own (some ⟨wr.heap.size, 0, none⟩) 1 1 [0] rfl ?hr ?hs HA.out.lo ?_)
                 case hr => exact il_of_box (Box.made wr 3 (cellsI [0]).toArray) rfl (show 1 ≤ maxLen by decide)
                 case hs => have := HX.out.2.1; have := HX.out.2.2.1; have := HX.out.2.2.2; omega
                 intro v7 w7 hown7 bq
                 obtain ⟨A7, c7, hv7⟩ := own_slice hown7
                 subst hv7
                 have B7 := HA.out.out.bel bq (Nat.lt_succ_self gO)
                 have c7 : w7.cell? ⟨gO, 2, none⟩ = some (.slice A2 n2 c2) := B7.cell 2
                 have f7 : w7.frozen? ⟨gO, 2, none⟩ = false := B7.free 2
                 have H7 := Lib.hid (And.intro hown7 bq)
                 clear hown7 bq B7)
              | fail)
            have HE := Lib.hid (HA.out.more H7.out.1 H7.out.2)
            rw [HX.out.1] at HE
            go_roundw
            case rel => exact ⟨k + 1, _, _, _, by omega, by go_num, HE.out⟩
            case measure => simp [intOf]; omega
          · by_cases z1 : 127 < z
            · have ef : held z (-128) 127 + 128 = 255 := by unfold held; rw [if_neg z0, if_pos z1]; rfl
              have EF := Lib.hid ef
              clear ef
              have hm := HF.out.2.1 k j hkw
              rw [HZ.out, EF.out] at hm
              have hsz : n2 = j * w + k := by rw [HR.out.len, gridK_len]
              have hlt := HF.out.2.2.2.2.2.1 k j hkw hjh
              have HX := Lib.hid (And.intro hm (And.intro hsz (And.intro hlt HF.out.2.2.2.2.1)))
              have hMa := HR.out.on (on_alloc wr (.cells #[.int .i64 (255)] 3))
              have HA := Lib.hid hMa
              clear hm hsz hlt hMa
              go_wp2_with fail
              refine Calls.mono (HN.out _) ?_
              rintro e wx ⟨rfl, rfl⟩
              go_wp2_with (first
                | ((with_reducible refine wpList_append_il (o := ⟨some 76, _, _, _, _, _⟩) rfl (.tmp 72) (.tmp 75) rfl (gO + 1) (.slice A2 n2 c2) n2 (gridK w f (j * w + k)) rfl HA.out.own (some ⟨wr.heap.size, 0, none⟩) 1 1 [255] rfl ?hr ?hs HA.out.lo ?_)
                   case hr => exact il_of_box (Box.made wr 3 (cellsI [255]).toArray) rfl (show 1 ≤ maxLen by decide)
                   case hs => have := HX.out.2.1; have := HX.out.2.2.1; have := HX.out.2.2.2; omega
                   intro v7 w7 hown7 bq
                   obtain ⟨A7, c7, hv7⟩ := own_slice hown7
                   subst hv7
                   have B7 := HA.out.out.bel bq (Nat.lt_succ_self gO)
                   have c7 : w7.cell? ⟨gO, 2, none⟩ = some (.slice A2 n2 c2) := B7.cell 2
                   have f7 : w7.frozen? ⟨gO, 2, none⟩ = false := B7.free 2
                   have H7 := Lib.hid (And.intro hown7 bq)
                   clear hown7 bq B7)
                | fail)
              have HE := Lib.hid (HA.out.more H7.out.1 H7.out.2)
              rw [HX.out.1] at HE
              go_roundw
              case rel => exact ⟨k + 1, _, _, _, by omega, by go_num, HE.out⟩
              case measure => simp [intOf]; omega
            · have ef : held z (-128) 127 + 128 = z + 128 := by unfold held; rw [if_neg z0, if_neg z1]
              have EF := Lib.hid ef
              clear ef
              have hm := HF.out.2.1 k j hkw
              rw [HZ.out, EF.out] at hm
              have hsz : n2 = j * w + k := by rw [HR.out.len, gridK_len]
              have hlt := HF.out.2.2.2.2.2.1 k j hkw hjh
              have HX := Lib.hid (And.intro hm (And.intro hsz (And.intro hlt HF.out.2.2.2.2.1)))
              have hMa := HR.out.on (on_alloc wr (.cells #[.int .i64 (z + 128)] 3))
              have HA := Lib.hid hMa
              clear hm hsz hlt hMa
              go_wp2_with fail
              refine Calls.mono (HN.out _) ?_
              rintro e wx ⟨rfl, rfl⟩
              go_wp2_with (first
                | ((with_reducible refine wpList_append_il (o := ⟨some 76, _, _, _, _, _⟩) rfl (.tmp 72) (.tmp 75) rfl (gO + 1) (.slice A2 n2 c2) n2 (gridK w f (j * w + k)) rfl HA.out.own (some ⟨wr.heap.size, 0, none⟩) 1 1 [z + 128] rfl ?hr ?hs HA.out.lo ?_)
                   case hr => exact il_of_box (Box.made wr 3 (cellsI [z + 128]).toArray) rfl (show 1 ≤ maxLen by decide)
                   case hs => have := HX.out.2.1; have := HX.out.2.2.1; have := HX.out.2.2.2; omega
                   intro v7 w7 hown7 bq
                   obtain ⟨A7, c7, hv7⟩ := own_slice hown7
                   subst hv7
                   have B7 := HA.out.out.bel bq (Nat.lt_succ_self gO)
                   have c7 : w7.cell? ⟨gO, 2, none⟩ = some (.slice A2 n2 c2) := B7.cell 2
                   have f7 : w7.frozen? ⟨gO, 2, none⟩ = false := B7.free 2
                   have H7 := Lib.hid (And.intro hown7 bq)
                   clear hown7 bq B7)
                | fail)
              have HE := Lib.hid (HA.out.more H7.out.1 H7.out.2)
              rw [HX.out.1] at HE
              go_roundw
              case rel => exact ⟨k + 1, _, _, _, by omega, by go_num, HE.out⟩
              case measure => simp [intOf]; omega
        · obtain rfl : k = w := by omega
          go_wp2_with fail
          go_roundw
          case rel => exact ⟨j + 1, _, _, _, by omega, by go_num, by rw [show (j + 1) * k + 0 = j * k + k by rw [Nat.add_mul, Nat.one_mul]; rfl]; exact HR.out⟩
          case measure => simp [intOf]; omega
    · obtain rfl : j = h := by omega
      have hR := HR.out
      rw [show j * w + 0 = w * j by rw [Nat.mul_comm]; rfl, ← HF.out.1] at hR
      have HR := Lib.hid hR
      clear hR
      go_wp2_with (first
        | (with_reducible refine wpList_load_to (op := ⟨some 78, _, _, _, _, _⟩) rfl 69 (.tmp 8) rfl (.pointer (some ⟨gO, 0, none⟩)) rfl (.agg #[.int .i64 (w : Int), .int .i64 (j : Int), .slice A1 n1 c1]) (load_plane HR.out.out rfl) ?_)
        | ((with_reducible refine wpList_store_plane (o := ⟨none, _, _, _, _, _⟩) rfl (.tmp 6) (.tmp 78) rfl rfl w0.heap.size #[.int .i64 (w : Int), .int .i64 (j : Int), .slice A1 n1 c1] rfl ?ho rfl rfl _ HR.out.res rfl ?_)
           case ho => simp [Value.oneCell']
           intro w9 b9 k9
           have H9 := Lib.hid (And.intro b9 (HR.out.done k9))
           clear b9 k9)
        | fail)
      refine bodyPost_ret (v := .tuple #[.agg #[.int .i64 (w : Int), .int .i64 (j : Int), .slice A1 n1 c1], .int .i64 0]) (results_ct (fn := Tryd.f39) Tryd.results39 _ _ w0.heap.size _ _ rfl rfl (loadVar_plane H9.out.1 rfl)) rfl ?_
      exact ⟨A1, n1, c1, rfl, H9.out.2.2, H9.out.2.1⟩
end Go.Proofs.YtmadkpnkmkajoaaDoor

namespace Go.Proofs.YtmadkpnkmkajoaaDoor
open Go.RowKit

set_option maxHeartbeats 3200000 in
theorem refJoin_any (w0 : World) (w h : Int) (A : Option Addr) (n c : Nat) (bl : List (List Int)) (hB : Bs w0 A n bl) :
    Calls Tryd.prog 39 #[.slice A n c, .int .i64 w, .int .i64 h] w0 (PTells w0 (joinF bl w h)) := by
  obtain ⟨w1, hw1⟩ : ∃ w1, w0.alloc (.cells #[.int .i64 0, .int .i64 0, .slice none 0 0] 69) = w1 := ⟨_, rfl⟩
  have k1 : Below w0.heap.size w0 w1 := by rw [← hw1]; exact on_alloc _ _
  have b1 : Box w1 w0.heap.size 69 #[.int .i64 0, .int .i64 0, .slice none 0 0] := by rw [← hw1]; exact Box.made _ _ _
  have HW := Lib.hid (And.intro hw1 (And.intro b1 k1))
  clear hw1 k1 b1
  by_cases hc : (1 ≤ w ∧ w ≤ 128) ∧ 1 ≤ h ∧ h ≤ 128
  · obtain ⟨⟨a0, a1⟩, b0, b1⟩ := hc
    obtain ⟨w', rfl⟩ := Int.eq_ofNat_of_zero_le (show 0 ≤ w by omega)
    obtain ⟨h', rfl⟩ := Int.eq_ofNat_of_zero_le (show 0 ≤ h by omega)
    by_cases hn : bl.length = nb w' * nb h'
    · have e : joinF bl (w' : Int) (h' : Int) = ((w' : Int), (h' : Int), joinL bl w' h', 0) := by unfold joinF; rw [if_pos ⟨⟨a0, a1⟩, b0, b1⟩, Int.toNat_natCast, Int.toNat_natCast, if_pos hn]
      rw [e]
      exact refJoin_good w0 w' h' A n c bl hB (by omega) (by omega) (by rw [← hB.len, hn])
    · have e : joinF bl (w' : Int) (h' : Int) = (0, 0, [], 1) := by unfold joinF; rw [if_pos ⟨⟨a0, a1⟩, b0, b1⟩, Int.toNat_natCast, Int.toNat_natCast, if_neg hn]
      rw [e]
      have HN := Lib.hid (fun w1 => blocks_any w1 w' (by omega))
      have HN' := Lib.hid (fun w1 => blocks_any w1 h' (by omega))
      unfold Nbd at HN HN'
      rw [hB.len] at hn
      have hnb : nb w' ≤ 16 ∧ nb h' ≤ 16 := by unfold nb; omega
      obtain ⟨u, hu⟩ : ∃ u, u = nb w' := ⟨_, rfl⟩
      obtain ⟨v, hv⟩ : ∃ v, v = nb h' := ⟨_, rfl⟩
      rw [← hu] at hn HN hnb
      rw [← hv] at hn HN' hnb
      have hm : u * v ≤ 16 * 16 := Nat.mul_le_mul hnb.1 hnb.2
      obtain ⟨m, hmm⟩ : ∃ m, m = u * v := ⟨_, rfl⟩
      rw [← hmm] at hn hm
      have hp : (u : Int) * (v : Int) = (m : Int) := by rw [hmm, Int.natCast_mul]
      have hne : ((n : Int) != (m : Int)) = true := by simp; omega
      have hne' : ((n : Int) == (m : Int)) = false := by simp; omega
      have hnn : ¬ n = m := hn
      clear e hu hv hmm hnb hn hB
      go_enter Tryd.func39, Tryd.ntmps39
      go_wp2_with fail
      refine Calls.mono (HN.out _) ?_
      rintro e wx ⟨rfl, rfl⟩
      go_wp2_with fail
      refine Calls.mono (HN'.out _) ?_
      rintro e wx ⟨rfl, rfl⟩
      go_wp2_with fail
      rw [HW.out.1]
      refine bodyPost_ret (v := .tuple #[.agg #[.int .i64 0, .int .i64 0, .slice none 0 0], .int .i64 1]) (results_ct (fn := Tryd.f39) Tryd.results39 _ _ w0.heap.size _ _ rfl rfl (loadVar_plane HW.out.2.1 rfl)) rfl ?_
      exact ⟨none, 0, 0, rfl, Os.none _ _, HW.out.2.2⟩
  · have e : joinF bl w h = (0, 0, [], 2) := by unfold joinF; rw [if_neg hc]
    rw [e]
    have hq : w < 1 ∨ (1 ≤ w ∧ 128 < w) ∨ (1 ≤ w ∧ w ≤ 128 ∧ h < 1) ∨ (1 ≤ w ∧ w ≤ 128 ∧ 1 ≤ h ∧ 128 < h) := by omega
    clear hc e hB
    rcases hq with a0 | ⟨a0, a1⟩ | ⟨a0, a1, a2⟩ | ⟨a0, a1, a2, a3⟩
    all_goals
      go_enter Tryd.func39, Tryd.ntmps39
      go_wp2_with fail
      rw [HW.out.1]
      refine bodyPost_ret (v := .tuple #[.agg #[.int .i64 0, .int .i64 0, .slice none 0 0], .int .i64 2]) (results_ct (fn := Tryd.f39) Tryd.results39 _ _ w0.heap.size _ _ rfl rfl (loadVar_plane HW.out.2.1 rfl)) rfl ?_
      exact ⟨none, 0, 0, rfl, Os.none _ _, HW.out.2.2⟩
end Go.Proofs.YtmadkpnkmkajoaaDoor

namespace Go.Proofs.YtmadkpnkmkajoaaDoor
open Go.RowKit

/-- what Cut tells: blocks and an error -/
def BTells (w : World) (bl : List (List Int)) (f : Int) (e : Ending) (w' : World) : Prop :=
  ∃ A n c, e = .returned (.tuple #[.slice A n c, .int .i64 f]) ∧ Bs w' A n bl ∧ (∀ b off, A = some ⟨b, off, none⟩ → w.heap.size ≤ b) ∧ Below w.heap.size w w'
/-- what lies in memory: the argument's box, a row of blocks -/
structure Ct (w wr : World) (gA : Nat) (P : Array Value) (v : Value) (n : Nat) (bl : List (List Int)) : Prop where
  arg : Box wr gA 69 P
  own : wr.ownsRow (gA + 1) 29 64 v n (blocksC bl)
  bel : Below w.heap.size w wr
  lo : gA + 1 ≤ wr.heap.size
  new : w.heap.size ≤ gA
section
variable {w wr w' : World} {gA n : Nat} {P : Array Value} {v : Value} {bl : List (List Int)}
theorem Ct.on (h : Ct w wr gA P v n bl) (k : Below wr.heap.size wr w') : Ct w w' gA P v n bl :=
  ⟨h.arg.on k, ownsRow_block h.own (fun g _ _ hh => k.block g (Array.getElem?_eq_some_iff.1 hh).1), on_trans h.bel k, Nat.le_trans h.lo k.size, h.new⟩
theorem Ct.kept {S : Nat → Prop} (h : Ct w wr gA P v n bl) (k : Kept S wr w') (h1 : ∀ i, S i → w.heap.size ≤ i ∧ i ≠ gA) (h2 : ∀ i, v.ownBlock = some i → ¬ S i) : Ct w w' gA P v n bl :=
  ⟨k.box h.arg (fun e => (h1 _ e).2 rfl), ownsRow_block h.own (fun g _ e hh => k.block g (Array.getElem?_eq_some_iff.1 hh).1 (h2 g e)), h.bel.trans (k.below h.bel.size (fun i hi e => by have := (h1 i e).1; omega)), Nat.le_trans h.lo k.size, h.new⟩
end
/-- and a block that is written -/
structure Cb (w wr : World) (gA gB : Nat) (P : Array Value) (v : Value) (n : Nat) (bl : List (List Int)) (b : List Int) : Prop where
  ct : Ct w wr gA P v n bl
  blk : Blk wr gB b
  apart : v.ownBlock ≠ some gB
  nA : gB ≠ gA
  new : w.heap.size ≤ gB
section
variable {w wr w' : World} {gA gB n : Nat} {P : Array Value} {v : Value} {bl : List (List Int)} {b : List Int}
theorem Cb.on (h : Cb w wr gA gB P v n bl b) (k : Below wr.heap.size wr w') : Cb w w' gA gB P v n bl b := ⟨h.ct.on k, h.blk.on k, h.apart, h.nA, h.new⟩
theorem Cb.put (h : Cb w wr gA gB P v n bl b) (k : Nat) (z : Int) : Cb w (wr.setCell ⟨gB, k, none⟩ (.int .i64 z)) gA gB P v n (bl) (b.set k z) :=
  ⟨h.ct.kept ((Kept.refl (fun i => i = gB) wr).setCell (p := ⟨gB, k, none⟩) (fun _ => rfl) _) (fun i e => by rw [e]; exact ⟨h.new, h.nA⟩) (fun i e e' => h.apart (by rw [e, e'])), h.blk.put k z, h.apart, h.nA, h.new⟩
/-- a block laid anew -/
theorem Ct.laid {Z : Array Value} (h : Ct w wr gA P v n bl) (hb : Blk w' wr.heap.size b) (k : Kept (fun i => i = wr.heap.size) (wr.alloc (.cells Z 29)) w') : Cb w w' gA wr.heap.size P v n bl b := by
  have ka := on_alloc wr (.cells Z 29)
  have lo := h.lo
  have hs := h.bel.size
  have hv : ∀ i, v.ownBlock = some i → i < wr.heap.size := fun i e => by
    obtain ⟨_, cs, hh⟩ := own_block3 h.own e
    exact (Array.getElem?_eq_some_iff.1 hh).1
  exact ⟨(h.on ka).kept k (fun i e => by subst e; exact ⟨hs, by omega⟩) (fun i e e' => by have := hv i e; omega), hb, fun e => by have := hv _ e; omega, by omega, hs⟩
end
/-- what Cut tells -/
def cutF (W H : Int) (xs : List Int) : List (List Int) × Int := if RightI W H xs then (cutL xs W.toNat H.toNat, 0) else ([], 1)

end Go.Proofs.YtmadkpnkmkajoaaDoor
