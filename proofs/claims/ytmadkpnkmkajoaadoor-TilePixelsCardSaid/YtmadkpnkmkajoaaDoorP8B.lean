/-
  The contract of base, the reference's. The contract of Steps, the reference's.
-/
import Derived.Test.YtmadkpnkmkajoaaDoorP8A
import Derived.Test.YtmadkpnkmkajoaaDoorP12A
namespace Go.Proofs.YtmadkpnkmkajoaaDoor
open Go.RowKit
set_option maxRecDepth 20000

/-- what base tells -/
def Based (w : World) (c : Bool) (e : Ending) (w' : World) : Prop := ∃ A n, e = .returned (.slice A 64 n) ∧ Il w' A 64 n (baseL c) ∧ (∀ b off, A = some ⟨b, off, none⟩ → w.heap.size ≤ b) ∧ Below w.heap.size w w'
set_option maxRecDepth 10000 in
set_option maxHeartbeats 3200000 in
theorem base_bright (w : World) : Calls Tryd.prog 50 #[.bool false] w (Based w false) := by
  have hb := il_of_box (w := w.alloc (.cells (cellsI brightL).toArray 3)) (n := 64) (Box.made w 3 (cellsI brightL).toArray) rfl (by decide)
  have H := Lib.hid hb
  clear hb
  go_enter Tryd.func50, Tryd.ntmps50
  go_wp2_with fail
  go_ret
  exact ⟨_, _, rfl, H.out, fun b off e => by cases e; exact Nat.le_refl _, on_alloc _ _⟩

theorem own_of_box {w : World} {base g n : Nat} {l : List Int} (h : Box w g 3 (cellsI l).toArray) (hl : l.length = n) (hb : base ≤ g) (hm : n ≤ maxLen) : w.ownsRow base 3 1 (.slice (some ⟨g, 0, none⟩) n n) n (cellsI l) := by
  refine ⟨by rw [cellsI_len, hl, Nat.mul_one], .inr ⟨g, n, (cellsI l).toArray, rfl, hb, h, Nat.le_refl _, hm, by simp [cellsI_len, hl], ?_⟩⟩
  rw [List.take_of_length_le]
  simp [cellsI_len, hl]
theorem il_one (w : World) (z : Int) : Il (w.alloc (.cells #[.int .i64 z] 3)) (some ⟨w.heap.size, 0, none⟩) 1 1 [z] := il_of_box (l := [z]) (Box.made w 3 _) rfl (by decide)
theorem colour_tail : ∀ n, n < 64 → 26 ≤ n → colourL.getD n 0 = 99 := by decide
theorem colour_more {n : Nat} (h0 : 26 ≤ n) (h1 : n < 64) : colourL.take n ++ [99] = colourL.take (n + 1) := by
  have hl : colourL.length = 64 := rfl
  rw [List.take_succ_eq_append_getElem (by omega)]
  have := colour_tail n h1 h0
  rw [List.getD_eq_getElem?_getD, List.getElem?_eq_getElem (by omega)] at this
  rw [show colourL[n] = 99 from this]
/-- how long a slice is -/
def lenOf (v : Value) : Nat := match v with
  | .slice _ n _ => n
  | _ => 0

set_option maxRecDepth 10000 in
set_option maxHeartbeats 3200000 in
theorem base_colour (w : World) : Calls Tryd.prog 50 #[.bool true] w (Based w true) := by
  have hb := own_of_box (w := w.alloc (.cells (cellsI (colourL.take 26)).toArray 3)) (base := w.heap.size) (n := 26) (Box.made w 3 _) rfl (Nat.le_refl _) (by decide)
  have H := Lib.hid hb
  clear hb
  go_enter Tryd.func50, Tryd.ntmps50
  go_wp2_with fail
  go_loopw [3] (fun v wr => ∃ n : Nat, 26 ≤ n ∧ n ≤ 64 ∧ wr.ownsRow w.heap.size 3 1 v n (cellsI (colourL.take n)) ∧ Below w.heap.size w wr) (fun v _ => 64 - lenOf v)
  case atStart => exact ⟨26, by omega, by omega, H.out, on_alloc _ _⟩
  case round =>
    obtain ⟨n, h0, h1, hown, hbel⟩ := hrel
    obtain ⟨A, c, rfl⟩ := own_slice hown
    have HR := Lib.hid (And.intro hown hbel)
    clear hown hbel
    by_cases hlt : n < 64
    · obtain ⟨N, hN⟩ : ∃ N, N = n := ⟨_, rfl⟩
      go_wp2_with (first
        | (at_builtin; refine wpList_append_il rfl (.tmp 9) (.tmp 10) rfl w.heap.size _ n (colourL.take n) rfl (HR.out.1.alloc _) (some ⟨wr.heap.size, 0, none⟩) 1 1 [99] rfl (il_one wr _) (by omega) (by have := HR.out.2.size; simp; omega) ?_; intro v6 w6 hown6 b6; have H6 := Lib.hid (And.intro hown6 ((HR.out.2.trans ((on_alloc _ _).mono HR.out.2.size)).trans b6)); clear hown6 b6)
        | fail)
      have hl : lenOf v6 = n + 1 := by
        obtain ⟨A', c', e⟩ := own_slice H6.out.1
        rw [e]; rfl
      refine ⟨⟨n + 1, by omega, by omega, by rw [← colour_more h0 hlt]; exact H6.out.1, H6.out.2⟩, ?_⟩
      rw [hl]
      show 64 - (n + 1) < 64 - n
      omega
    · obtain rfl : n = 64 := by omega
      go_wp2_with fail
      go_ret
      obtain ⟨A', c', e, hI, hlo⟩ := il_of_own HR.out.1
      cases e
      exact ⟨_, _, rfl, hI, hlo, HR.out.2⟩
theorem base_any (w : World) (c : Bool) : Calls Tryd.prog 50 #[.bool c] w (Based w c) := by
  cases c
  · exact base_bright w
  · exact base_colour w

end Go.Proofs.YtmadkpnkmkajoaaDoor

namespace Go.Proofs.YtmadkpnkmkajoaaDoor
open Go.RowKit
set_option maxRecDepth 20000

/-- the blocks of the walk, and the base steps -/
structure MineB (w wr : World) (b : List Int) (A : Option Addr) (n : Nat) (c : Bool) : Prop where
  mine : Mine w wr b
  base : Il wr A 64 n (baseL c)
  far : ∀ b off, A = some ⟨b, off, none⟩ → w.heap.size + 1 < b
section
variable {w wr w' : World} {b : List Int} {A : Option Addr} {n : Nat} {c : Bool}
theorem MineB.on (h : MineB w wr b A n c) (k : Below wr.heap.size wr w') : MineB w w' b A n c := ⟨h.mine.on k, h.base.on k, h.far⟩
theorem MineB.put (h : MineB w wr b A n c) (k : Nat) (z : Int) : MineB w (wr.setCell ⟨w.heap.size + 1, k, none⟩ (.int .i64 z)) (b.set k z) A n c :=
  ⟨h.mine.put k z, h.base.kept ((Kept.refl (fun i => i = w.heap.size + 1) _).setCell (p := ⟨w.heap.size + 1, k, none⟩) (fun _ => rfl) _) (fun b off e hb => by have := h.far b off e; omega), h.far⟩
end
theorem set_at {x : List Int} {k : Nat} (hx : x.length = 64) (hk : k < 64) (z : Int) : (x.set k z).getD k 0 = z := by
  rw [List.getD_eq_getElem?_getD, List.getElem?_set_self (by omega)]
  rfl
theorem set_twice {x : List Int} {k : Nat} (z z' : Int) : (x.set k z).set k z' = x.set k z' := by simp

set_option maxRecDepth 10000 in
set_option maxHeartbeats 3200000 in
theorem refSteps_any (w : World) (c : Bool) (q : Int) (hq : isInt q) : Calls Tryd.prog 27 #[.bool c, .int .i64 q] w (Tells8_ w (stepsF c q)) := by
  obtain ⟨Z, hZ⟩ : ∃ Z, Z = (cellsI zeros64).toArray := ⟨_, rfl⟩
  have hz : ∀ w, (zeroValue 29).run Tryd.prog w = .ok (.agg Z) w := fun w => by rw [hZ]; exact zero26 w
  have hbd : ∀ w, (Instr.build 29 #[]).run Tryd.prog w = .ok (.agg Z) w := fun w => by rw [hZ]; exact build0 w
  have hZV : Value.agg Z = blkV zeros64 := by rw [hZ]; rfl
  have hA : Blk (w.alloc (.cells Z 29)) w.heap.size zeros64 := by rw [hZ]; exact Blk.made _ _ zeros_len
  have hB : Box ((w.alloc (.cells Z 29)).alloc (.cells Z 29)) (w.heap.size + 1) 29 Z := by
    have := Box.made (w.alloc (.cells Z 29)) 29 Z
    rw [show (w.alloc (.cells Z 29)).heap.size = w.heap.size + 1 by simp] at this
    exact this
  have hZs : Z.size = 64 := by rw [hZ]; rfl
  have HA := Lib.hid (And.intro (hA.on (on_alloc _ (.cells Z 29))) (And.intro hB (And.intro hZs (And.intro hZV (on_trans (on_alloc w (.cells Z 29)) (on_alloc _ (.cells Z 29)))))))
  have HQ := Lib.hid hq
  clear hZ hZV hA hB hZs hq
  obtain ⟨R, hR⟩ : ∃ R, R = stepsF c q := ⟨_, rfl⟩
  rw [← hR]
  have HR0 := Lib.hid hR
  clear hR
  by_cases hin : 1 ≤ q ∧ q ≤ 100
  · have hF : R = (stepsL c q, 0) := by rw [HR0.out]; unfold stepsF; rw [if_pos hin]
    have HF := Lib.hid hF
    have hsc := scl_bounds hin.1 hin.2
    obtain ⟨p, hp⟩ : ∃ p, p = scl q := ⟨_, rfl⟩
    have hp0 : q < 50 → 5000 / q = p := fun h => by rw [hp]; unfold scl; rw [if_pos h]
    have hp1 : ¬ q < 50 → 200 - 2 * q = p := fun h => by rw [hp]; unfold scl; rw [if_neg h]
    have HP := Lib.hid (And.intro hp (And.intro hsc (And.intro hp0 hp1)))
    obtain ⟨q0, q1⟩ := hin
    clear hF hp hsc hp0 hp1
    go_enter Tryd.func27, Tryd.ntmps27
    go_wp2_with (first
      | ((with_reducible refine wpList_store_blk8_ (o := ⟨none, _, _, _, _, _⟩) rfl (.tmp 6) (.tmp 10) rfl rfl (w.heap.size + 1) zeros64 rfl ?hy Z HA.out.2.1 HA.out.2.2.1 zeros_len ?_)
         case hy => exact HA.out.2.2.2.1
         intro w4 b4 k4
         have HM := Lib.hid (show Mine w w4 zeros64 from ⟨HA.out.1.kept k4 (by omega), b4, HA.out.2.2.2.2.trans (k4.below (by simp; omega) (fun i hi e => by omega))⟩)
         clear b4 k4)
      | fail)
    refine (base_any w4 c).mono ?_
    rintro e w5 ⟨A, n, rfl, hI, hlo, b5⟩
    have hsz := HM.out.blk.box.lt
    have HB := Lib.hid (show MineB w w5 zeros64 A n c from ⟨HM.out.on b5, hI, fun b off e => by have := hlo b off e; omega⟩)
    clear hI hlo b5 hsz
    go_wp2_with fail
    go_loopw [8] (fun i wr => ∃ k : Nat, k ≤ 64 ∧ i = .int .i64 k ∧ MineB w wr (mix k (stepsL c q) zeros64) A n c) (fun i _ => 64 - (intOf i).toNat)
    case atStart => exact ⟨0, by omega, rfl, by rw [mix_zero]; exact HB.out⟩
    case round =>
      obtain ⟨k, hk, rfl, hR⟩ := hrel
      have HR := Lib.hid hR
      clear hR
      by_cases hlt : k < 64
      · have hst := stepsL_at c q hlt
        have hbb := baseL_bounds c k hlt
        obtain ⟨bb, off, hAA, _, hcell⟩ := HR.out.base.at_ (by omega)
        have c0 := hcell k hlt
        clear hcell
        have hfr := HR.out.mine.blk.free k
        have c1 := HR.out.mine.blk.cell hlt
        obtain ⟨b, hb⟩ : ∃ b, b = (baseL c).getD k 0 := ⟨_, rfl⟩
        obtain ⟨y, hy⟩ : ∃ y, y = (mix k (stepsL c q) zeros64).getD k 0 := ⟨_, rfl⟩
        rw [← hb] at c0 hbb hst
        rw [← hy] at c1
        have hm := prod_bounds hbb.1 hbb.2 HP.out.2.1.1 HP.out.2.1.2
        rw [← HP.out.1] at hm
        unfold stepOf at hst
        rw [← HP.out.1] at hst
        obtain ⟨m, hm'⟩ : ∃ m, m = b * p := ⟨_, rfl⟩
        rw [← hm'] at hst hm
        have hbp := hm'.symm
        obtain ⟨z, hz'⟩ : ∃ z, z = (m + 50) / 100 := ⟨_, rfl⟩
        rw [← hz'] at hst
        have hzm := hz'.symm
        have hz0 : 0 ≤ z := by rw [hz']; exact Int.ediv_nonneg (by omega) (by omega)
        obtain ⟨hm0, hm1⟩ := hm
        have HS := Lib.hid hst
        have D1 := HR.out.put k z
        have e1 := D1.mine.blk.cell hlt
        have f1 := D1.mine.blk.free k
        rw [set_at (mix_len (stepsL_len c q) zeros_len hk) hlt] at e1
        have HD1 := Lib.hid D1
        have D2 := D1.put k 1
        have e2 := D2.mine.blk.cell hlt
        have f2 := D2.mine.blk.free k
        rw [set_twice, set_at (mix_len (stepsL_len c q) zeros_len hk) hlt] at e2
        clear D1 D2 hst hb hm' hbb hy hz'
        subst hAA
        have HQ2 := HP.out.2.2
        rcases Int.lt_or_le z 1 with g1 | g1
        · have e : held z 1 255 = 1 := by unfold held; rw [if_pos g1]
          have HE := Lib.hid (HS.out.trans e)
          have hM := mix_more (stepsL_len c q) zeros_len hlt
          rw [HE.out] at hM
          have HM2 := Lib.hid hM
          clear hM
          clear e
          by_cases h50 : q < 50
          · have hp := HP.out.2.2.1 h50
            clear HQ2
            go_wp2_with fail
            refine ⟨⟨k + 1, by omega, by go_num, ?_⟩, ?_⟩
            · have hX := (HD1.out.put k 1)
              rw [set_twice, HM2.out] at hX
              exact hX
            · simp [intOf]; omega
          · have hp := HP.out.2.2.2 (by omega)
            clear HQ2
            go_wp2_with fail
            refine ⟨⟨k + 1, by omega, by go_num, ?_⟩, ?_⟩
            · have hX := (HD1.out.put k 1)
              rw [set_twice, HM2.out] at hX
              exact hX
            · simp [intOf]; omega
        · rcases Int.lt_or_le 255 z with g2 | g2
          · have e : held z 1 255 = 255 := by unfold held; rw [if_neg (by omega), if_pos g2]
            have HE := Lib.hid (HS.out.trans e)
            have hM := mix_more (stepsL_len c q) zeros_len hlt
            rw [HE.out] at hM
            have HM2 := Lib.hid hM
            clear hM
            clear e
            by_cases h50 : q < 50
            · have hp := HP.out.2.2.1 h50
              clear HQ2
              go_wp2_with fail
              refine ⟨⟨k + 1, by omega, by go_num, ?_⟩, ?_⟩
              · have hX := (HD1.out.put k 255)
                rw [set_twice, HM2.out] at hX
                exact hX
              · simp [intOf]; omega
            · have hp := HP.out.2.2.2 (by omega)
              clear HQ2
              go_wp2_with fail
              refine ⟨⟨k + 1, by omega, by go_num, ?_⟩, ?_⟩
              · have hX := (HD1.out.put k 255)
                rw [set_twice, HM2.out] at hX
                exact hX
              · simp [intOf]; omega
          · have e : held z 1 255 = z := by unfold held; rw [if_neg (by omega), if_neg (by omega)]
            have HE := Lib.hid (HS.out.trans e)
            have hM := mix_more (stepsL_len c q) zeros_len hlt
            rw [HE.out] at hM
            have HM2 := Lib.hid hM
            clear hM
            clear e
            by_cases h50 : q < 50
            · have hp := HP.out.2.2.1 h50
              clear HQ2
              go_wp2_with fail
              refine ⟨⟨k + 1, by omega, by go_num, ?_⟩, ?_⟩
              · have hX := HD1.out
                rw [HM2.out] at hX
                exact hX
              · simp [intOf]; omega
            · have hp := HP.out.2.2.2 (by omega)
              clear HQ2
              go_wp2_with fail
              refine ⟨⟨k + 1, by omega, by go_num, ?_⟩, ?_⟩
              · have hX := HD1.out
                rw [HM2.out] at hX
                exact hX
              · simp [intOf]; omega
      · obtain rfl : k = 64 := by omega
        have hR := HR.out.mine
        rw [mix_all (stepsL_len _ _) zeros_len] at hR
        have HR := Lib.hid hR
        clear hR
        go_wp2_with (first
          | (with_reducible refine wpList_load_to (op := ⟨some 53, _, _, _, _, _⟩) rfl 29 (.tmp 6) rfl (.pointer (some ⟨w.heap.size + 1, 0, none⟩)) rfl (blkV (stepsL c q)) HR.out.blk.load ?_)
          | ((with_reducible refine wpList_store_blk8_ (o := ⟨none, _, _, _, _, _⟩) rfl (.tmp 4) (.tmp 53) rfl rfl w.heap.size (stepsL c q) rfl rfl _ HR.out.ans.box rfl (stepsL_len _ _) ?_)
             intro w9 b9 k9
             have H9 := Lib.hid (HR.out.done b9 k9)
             clear b9 k9)
          | fail)
        refine bodyPost_ret (v := .tuple #[blkV (stepsL c q), .int .i64 0]) (results_ct (fn := Tryd.f27) Tryd.results27 _ _ w.heap.size _ _ rfl rfl (loadVar_blk H9.out.2)) rfl ?_
        exact ⟨by first | (rw [HF.out]; done) | (rw [HF.out]; rfl), H9.out.1⟩
  · have hF : R = (zeros64, 2) := by rw [HR0.out]; unfold stepsF; rw [if_neg hin]
    have HF := Lib.hid hF
    have hq' : q < 1 ∨ 100 < q := by omega
    clear hF hin
    rcases hq' with hq' | hq'
    all_goals
      go_enter Tryd.func27, Tryd.ntmps27
      go_wp2_with (first
        | ((with_reducible refine wpList_store_blk8_ (o := ⟨none, _, _, _, _, _⟩) rfl (.tmp 6) (.tmp 10) rfl rfl (w.heap.size + 1) zeros64 rfl ?hy Z HA.out.2.1 HA.out.2.2.1 zeros_len ?_)
           case hy => exact HA.out.2.2.2.1
           intro w4 b4 k4
           have HM := Lib.hid (show Mine w w4 zeros64 from ⟨HA.out.1.kept k4 (by omega), b4, HA.out.2.2.2.2.trans (k4.below (by simp; omega) (fun i hi e => by omega))⟩)
           clear b4 k4)
        | (with_reducible refine wpList_load_to (op := ⟨some 17, _, _, _, _, _⟩) rfl 29 (.tmp 6) rfl (.pointer (some ⟨w.heap.size + 1, 0, none⟩)) rfl (blkV zeros64) HM.out.blk.load ?_)
        | ((with_reducible refine wpList_store_blk8_ (o := ⟨none, _, _, _, _, _⟩) rfl (.tmp 4) (.tmp 17) rfl rfl w.heap.size zeros64 rfl rfl _ HM.out.ans.box rfl zeros_len ?_)
           intro w9 b9 k9
           have H9 := Lib.hid (HM.out.done b9 k9)
           clear b9 k9)
        | fail)
      all_goals
        refine bodyPost_ret (v := .tuple #[blkV zeros64, .int .i64 2]) (results_ct (fn := Tryd.f27) Tryd.results27 _ _ w.heap.size _ _ rfl rfl (loadVar_blk H9.out.2)) rfl ?_
        exact ⟨by first | (rw [HF.out]; done) | (rw [HF.out]; rfl), H9.out.1⟩
end Go.Proofs.YtmadkpnkmkajoaaDoor
