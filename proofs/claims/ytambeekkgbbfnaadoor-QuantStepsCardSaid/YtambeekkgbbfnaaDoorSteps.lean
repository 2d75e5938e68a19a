/-
  The steps of a quality: mathematics, and the contract of Steps.
-/
import Derived.Test.YtambeekkgbbfnaaDoorWithin
namespace Go.Proofs.YtambeekkgbbfnaaDoor
open Go.RowKit

/-- the first k numbers of one list, the others of another one -/
def mix (k : Nat) (x y : List Int) : List Int := x.take k ++ y.drop k
section
variable {x y : List Int} {k : Nat}
theorem mix_zero : mix 0 x y = y := by simp [mix]
theorem mix_all (hx : x.length = 64) (hy : y.length = 64) : mix 64 x y = x := by
  unfold mix
  rw [List.take_of_length_le (by omega), List.drop_of_length_le (by omega), List.append_nil]
theorem mix_len (hx : x.length = 64) (hy : y.length = 64) (hk : k ≤ 64) : (mix k x y).length = 64 := by
  unfold mix
  rw [List.length_append, List.length_take, List.length_drop]
  omega
theorem mix_at (hx : x.length = 64) (hk : k ≤ 64) {j : Nat} (hj : k ≤ j) : (mix k x y).getD j 0 = y.getD j 0 := by
  unfold mix
  have h : (x.take k).length = k := by rw [List.length_take]; omega
  rw [List.getD_eq_getElem?_getD, List.getElem?_append_right (by omega), h, List.getElem?_drop, List.getD_eq_getElem?_getD]
  congr 3
  omega
theorem mix_more (hx : x.length = 64) (hy : y.length = 64) (hk : k < 64) : (mix k x y).set k (x.getD k 0) = mix (k + 1) x y := by
  unfold mix
  have h : (x.take k).length = k := by rw [List.length_take]; omega
  rw [List.set_append_right _ _ (by omega), h, Nat.sub_self, List.drop_eq_getElem_cons (by omega), List.set_cons_zero,
    List.take_succ_eq_append_getElem (by omega), List.append_assoc, List.getD_eq_getElem?_getD, List.getElem?_eq_getElem (by omega)]
  rfl
end

/-- a step of a quality -/
def stepOf (b q : Int) : Int := held ((b * scl q + 50) / 100) 1 255
/-- the steps of a quality -/
def stepsL (c : Bool) (q : Int) : List Int := (baseL c).map fun b => stepOf b q
/-- what Steps tells -/
def stepsF (c : Bool) (q : Int) : List Int × Int := if 1 ≤ q ∧ q ≤ 100 then (stepsL c q, 0) else (zeros64, 2)
theorem stepsL_len (c : Bool) (q : Int) : (stepsL c q).length = 64 := by unfold stepsL; rw [List.length_map, baseL_len]
theorem stepsL_at (c : Bool) (q : Int) {k : Nat} (hk : k < 64) : (stepsL c q).getD k 0 = stepOf ((baseL c).getD k 0) q := by
  have h := baseL_len c
  unfold stepsL
  rw [List.getD_eq_getElem?_getD, List.getElem?_map, List.getD_eq_getElem?_getD, List.getElem?_eq_getElem (by omega)]
  rfl
theorem stepsF_len (c : Bool) (q : Int) : (stepsF c q).1.length = 64 := by
  unfold stepsF
  split
  · exact stepsL_len c q
  · exact zeros_len
theorem scl_bounds {q : Int} (h0 : 1 ≤ q) (h1 : q ≤ 100) : 0 ≤ scl q ∧ scl q ≤ 5000 := by
  unfold scl
  split
  · exact ⟨Int.ediv_nonneg (by omega) (by omega), Int.ediv_le_self _ (by omega)⟩
  · omega
theorem prod_bounds {b p : Int} (h0 : 1 ≤ b) (h1 : b ≤ 121) (h2 : 0 ≤ p) (h3 : p ≤ 5000) : 0 ≤ b * p ∧ b * p ≤ 605000 :=
  ⟨Int.mul_nonneg (by omega) h2, Int.le_trans (Int.mul_le_mul h1 h3 h2 (by omega)) (by omega)⟩

/-- what a call tells that tells a block and an error -/
def Tells (w : World) (R : List Int × Int) (e : Ending) (w' : World) : Prop := e = .returned (.tuple #[blkV R.1, .int .i64 R.2]) ∧ Below w.heap.size w w'
/-- two blocks of one's own: the answer's, and the one that is worked on -/
structure Mine (w wr : World) (b : List Int) : Prop where
  ans : Blk wr w.heap.size zeros64
  blk : Blk wr (w.heap.size + 1) b
  bel : Below w.heap.size w wr
section
variable {w wr w' : World} {b : List Int}
theorem Mine.on (h : Mine w wr b) (k : Below wr.heap.size wr w') : Mine w w' b := ⟨h.ans.on k, h.blk.on k, h.bel.trans (k.mono h.bel.size)⟩
theorem Mine.put (h : Mine w wr b) (k : Nat) (z : Int) : Mine w (wr.setCell ⟨w.heap.size + 1, k, none⟩ (.int .i64 z)) (b.set k z) :=
  ⟨⟨h.ans.box.beside (by show w.heap.size ≠ w.heap.size + 1; omega) _, zeros_len⟩, h.blk.put k z, (((Kept.of_below h.bel (fun i => i = w.heap.size + 1)).setCell (p := ⟨w.heap.size + 1, k, none⟩) (fun _ => rfl) _)).below (Nat.le_refl _) (fun i hi e => by omega)⟩
theorem Mine.all (h : Mine w wr b) {c : List Int} (hc : Blk w' (w.heap.size + 1) c) (k : Kept (fun i => i = w.heap.size + 1) wr w') : Mine w w' c :=
  ⟨h.ans.kept k (by omega), hc, h.bel.trans (k.below h.bel.size (fun i hi e => by omega))⟩
theorem Mine.done (h : Mine w wr b) {c : List Int} (hc : Blk w' w.heap.size c) (k : Kept (fun i => i = w.heap.size) wr w') : Below w.heap.size w w' ∧ Blk w' w.heap.size c :=
  ⟨h.bel.trans (k.below h.bel.size (fun i hi e => by omega)), hc⟩
end

set_option maxRecDepth 10000 in
set_option maxHeartbeats 1600000 in
theorem steps_out (w : World) (c : Bool) (q : Int) (hq : q < 1 ∨ 100 < q) : Calls Tryd.prog 12 #[.bool c, .int .i64 q] w (Tells w (stepsF c q)) := by
  have hF : stepsF c q = (zeros64, 2) := by unfold stepsF; rw [if_neg (by omega)]
  rw [hF]
  clear hF
  obtain ⟨Z, hZ⟩ : ∃ Z, Z = (cellsI zeros64).toArray := ⟨_, rfl⟩
  have hz : ∀ w, (zeroValue 26).run Tryd.prog w = .ok (.agg Z) w := fun w => by rw [hZ]; exact zero26 w
  have hbd : ∀ w, (Instr.build 26 #[]).run Tryd.prog w = .ok (.agg Z) w := fun w => by rw [hZ]; exact build0 w
  have hZV : Value.agg Z = blkV zeros64 := by rw [hZ]; rfl
  have HB := Lib.hid (And.intro (Box.made w 26 Z) (And.intro (show Z.size = 64 by rw [hZ]; rfl) hZV))
  clear hZ hZV
  rcases hq with h | h
  all_goals
    go_enter Tryd.func12, Tryd.ntmps12
    go_wp2_with (first
      | ((with_reducible refine wpList_store_blk (o := ⟨none, _, _, _, _, _⟩) rfl (.tmp 4) (.tmp 16) rfl rfl w.heap.size zeros64 rfl ?hy Z HB.out.1 HB.out.2.1 zeros_len ?_)
         case hy => exact HB.out.2.2
         intro w4 b4 k4
         have H4 := Lib.hid (And.intro b4 k4)
         clear b4 k4)
      | fail)
    all_goals
      refine bodyPost_ret (v := .tuple #[blkV zeros64, .int .i64 2]) (results_ct (fn := Tryd.f12) Tryd.results12 _ _ w.heap.size _ _ rfl rfl (loadVar_blk H4.out.1)) rfl ?_
      exact ⟨rfl, (on_alloc w (.cells Z 26)).trans (H4.out.2.below (by simp) (fun i hi e => by omega))⟩

set_option maxRecDepth 10000 in
set_option maxHeartbeats 3200000 in
theorem steps_in (w : World) (c : Bool) (q : Int) (hT : Tab w) (h0 : 1 ≤ q) (h1 : q ≤ 100) : Calls Tryd.prog 12 #[.bool c, .int .i64 q] w (Tells w (stepsF c q)) := by
  have hF : stepsF c q = (stepsL c q, 0) := by unfold stepsF; rw [if_pos ⟨h0, h1⟩]
  rw [hF]
  clear hF
  obtain ⟨Z, hZ⟩ : ∃ Z, Z = (cellsI zeros64).toArray := ⟨_, rfl⟩
  have hz : ∀ w, (zeroValue 26).run Tryd.prog w = .ok (.agg Z) w := fun w => by rw [hZ]; exact zero26 w
  have hA : Blk (w.alloc (.cells Z 26)) w.heap.size zeros64 := by rw [hZ]; exact Blk.made _ _ zeros_len
  have hB : Box ((w.alloc (.cells Z 26)).alloc (.cells Z 26)) (w.heap.size + 1) 26 Z := by
    have := Box.made (w.alloc (.cells Z 26)) 26 Z
    rw [show (w.alloc (.cells Z 26)).heap.size = w.heap.size + 1 by simp] at this
    exact this
  have hZs : Z.size = 64 := by rw [hZ]; rfl
  have hT1 := hT.on (on_alloc w (.cells Z 26))
  have HA := Lib.hid (And.intro (hA.on (on_alloc _ (.cells Z 26))) (And.intro hB (And.intro hZs (And.intro hT1 (on_trans (on_alloc w (.cells Z 26)) (on_alloc _ (.cells Z 26)))))))
  have HT := Lib.hid hT
  have hsc := scl_bounds h0 h1
  obtain ⟨p, hp⟩ : ∃ p, p = scl q := ⟨_, rfl⟩
  have HP := Lib.hid (And.intro hp hsc)
  clear hZ hA hB hZs hT1 hT hp hsc
  cases c
  · go_enter Tryd.func12, Tryd.ntmps12
    go_wp2_with (first
      | (with_reducible refine wpList_load_to (op := ⟨some 17, _, _, _, _, _⟩) rfl 25 (.global 0) rfl (.pointer (some ⟨0, 0, none⟩)) rfl (blkV brightL) HA.out.2.2.2.1.load0 ?_)
      | ((with_reducible refine wpList_store_blk (o := ⟨none, _, _, _, _, _⟩) rfl (.tmp 6) (.tmp 17) rfl rfl (w.heap.size + 1) brightL rfl rfl Z HA.out.2.1 HA.out.2.2.1 rfl ?_)
         intro w4 b4 k4
         have HM := Lib.hid (show Mine w w4 brightL from ⟨HA.out.1.kept k4 (by omega), b4, HA.out.2.2.2.2.trans (k4.below (by simp; omega) (fun i hi e => by omega))⟩)
         clear b4 k4)
      | fail)
    refine (scale_any w4 q h0 h1).mono ?_
    rintro e w6 ⟨rfl, rfl⟩
    rw [← HP.out.1]
    go_wp2_with (first
      | (with_reducible refine wpList_load_to (op := ⟨some 22, _, _, _, _, _⟩) rfl 26 (.tmp 6) rfl (.pointer (some ⟨w.heap.size + 1, 0, none⟩)) rfl (blkV brightL) HM.out.blk.load ?_)
      | fail)
    go_loopw [23] (fun i wr => ∃ k : Nat, k ≤ 64 ∧ i = .int .i64 k ∧ Mine w wr (mix k (stepsL false q) brightL)) (fun i _ => 64 - (intOf i).toNat)
    case atStart => exact ⟨0, by omega, rfl, by rw [mix_zero]; exact HM.out⟩
    case round =>
      obtain ⟨k, hk, rfl, hR⟩ := hrel
      have HR := Lib.hid hR
      clear hR
      by_cases hlt : k < 64
      · have hidx := fun w => index26 w (show brightL.length = 64 from rfl) hlt
        have hbb := baseL_bounds false k hlt
        have hst := stepsL_at false q hlt
        have hfr := HR.out.blk.free k
        have hcell := HR.out.blk.cell hlt
        obtain ⟨y, hy⟩ : ∃ y, y = (mix k (stepsL false q) brightL).getD k 0 := ⟨_, rfl⟩
        rw [← hy] at hcell
        clear hy
        rw [show baseL false = brightL from rfl] at hbb hst
        obtain ⟨b, hb⟩ : ∃ b, b = brightL.getD k 0 := ⟨_, rfl⟩
        rw [← hb] at hidx hbb hst
        have hm := prod_bounds hbb.1 hbb.2 HP.out.2.1 HP.out.2.2
        rw [← HP.out.1] at hm
        unfold stepOf at hst
        rw [← HP.out.1] at hst
        obtain ⟨m, hm'⟩ : ∃ m, m = b * p := ⟨_, rfl⟩
        rw [← hm'] at hst hm
        have hbp := hm'.symm
        obtain ⟨z, hz'⟩ : ∃ z, z = held ((m + 50) / 100) 1 255 := ⟨_, rfl⟩
        rw [← hz'] at hst
        have HS := Lib.hid (And.intro hst hz')
        obtain ⟨hm0, hm1⟩ := hm
        clear hst hb hm' hz' hbb
        go_wp2_with fail
        refine (hold_any wr ((m + 50) / 100) 1 255 (by omega)).mono ?_
        rintro e w7 ⟨rfl, rfl⟩
        rw [← HS.out.2]
        go_wp2_with fail
        go_roundw
        case rel =>
          refine ⟨k + 1, by omega, by go_num, ?_⟩
          rw [← mix_more (stepsL_len _ _) rfl hlt, HS.out.1]
          exact HR.out.put k z
        case measure => simp [intOf]; omega
      · obtain rfl : k = 64 := by omega
        have hR := HR.out
        rw [mix_all (stepsL_len _ _) rfl] at hR
        have HR := Lib.hid hR
        clear hR
        go_wp2_with (first
          | (with_reducible refine wpList_load_to (op := ⟨some 36, _, _, _, _, _⟩) rfl 26 (.tmp 6) rfl (.pointer (some ⟨w.heap.size + 1, 0, none⟩)) rfl (blkV (stepsL false q)) HR.out.blk.load ?_)
          | ((with_reducible refine wpList_store_blk (o := ⟨none, _, _, _, _, _⟩) rfl (.tmp 4) (.tmp 36) rfl rfl w.heap.size (stepsL false q) rfl rfl _ HR.out.ans.box rfl (stepsL_len _ _) ?_)
             intro w9 b9 k9
             have H9 := Lib.hid (HR.out.done b9 k9)
             clear b9 k9)
          | fail)
        refine bodyPost_ret (v := .tuple #[blkV (stepsL false q), .int .i64 0]) (results_ct (fn := Tryd.f12) Tryd.results12 _ _ w.heap.size _ _ rfl rfl (loadVar_blk H9.out.2)) rfl ?_
        exact ⟨rfl, H9.out.1⟩
  · go_enter Tryd.func12, Tryd.ntmps12
    go_wp2_with (first
      | (with_reducible refine wpList_load_to (op := ⟨some 17, _, _, _, _, _⟩) rfl 25 (.global 0) rfl (.pointer (some ⟨0, 0, none⟩)) rfl (blkV brightL) HA.out.2.2.2.1.load0 ?_)
      | ((with_reducible refine wpList_store_blk (o := ⟨none, _, _, _, _, _⟩) rfl (.tmp 6) (.tmp 17) rfl rfl (w.heap.size + 1) brightL rfl rfl Z HA.out.2.1 HA.out.2.2.1 rfl ?_)
         intro w4 b4 k4
         have HM4 := Lib.hid (show Mine w w4 brightL from ⟨HA.out.1.kept k4 (by omega), b4, HA.out.2.2.2.2.trans (k4.below (by simp; omega) (fun i hi e => by omega))⟩)
         have HT4 := Lib.hid (HT.out.on HM4.out.bel)
         clear b4 k4)
      | (with_reducible refine wpList_load_to (op := ⟨some 19, _, _, _, _, _⟩) rfl 25 (.global 1) rfl (.pointer (some ⟨1, 0, none⟩)) rfl (blkV colourL) HT4.out.load1 ?_)
      | ((with_reducible refine wpList_store_blk (o := ⟨none, _, _, _, _, _⟩) rfl (.tmp 6) (.tmp 19) rfl rfl (w.heap.size + 1) colourL rfl rfl _ HM4.out.blk.box rfl rfl ?_)
         intro w5 b5 k5
         have HM := Lib.hid (HM4.out.all b5 k5)
         clear b5 k5)
      | fail)
    refine (scale_any w5 q h0 h1).mono ?_
    rintro e w6 ⟨rfl, rfl⟩
    rw [← HP.out.1]
    go_wp2_with (first
      | (with_reducible refine wpList_load_to (op := ⟨some 22, _, _, _, _, _⟩) rfl 26 (.tmp 6) rfl (.pointer (some ⟨w.heap.size + 1, 0, none⟩)) rfl (blkV colourL) HM.out.blk.load ?_)
      | fail)
    go_loopw [23] (fun i wr => ∃ k : Nat, k ≤ 64 ∧ i = .int .i64 k ∧ Mine w wr (mix k (stepsL true q) colourL)) (fun i _ => 64 - (intOf i).toNat)
    case atStart => exact ⟨0, by omega, rfl, by rw [mix_zero]; exact HM.out⟩
    case round =>
      obtain ⟨k, hk, rfl, hR⟩ := hrel
      have HR := Lib.hid hR
      clear hR
      by_cases hlt : k < 64
      · have hidx := fun w => index26 w (show colourL.length = 64 from rfl) hlt
        have hbb := baseL_bounds true k hlt
        have hst := stepsL_at true q hlt
        have hfr := HR.out.blk.free k
        have hcell := HR.out.blk.cell hlt
        obtain ⟨y, hy⟩ : ∃ y, y = (mix k (stepsL true q) colourL).getD k 0 := ⟨_, rfl⟩
        rw [← hy] at hcell
        clear hy
        rw [show baseL true = colourL from rfl] at hbb hst
        obtain ⟨b, hb⟩ : ∃ b, b = colourL.getD k 0 := ⟨_, rfl⟩
        rw [← hb] at hidx hbb hst
        have hm := prod_bounds hbb.1 hbb.2 HP.out.2.1 HP.out.2.2
        rw [← HP.out.1] at hm
        unfold stepOf at hst
        rw [← HP.out.1] at hst
        obtain ⟨m, hm'⟩ : ∃ m, m = b * p := ⟨_, rfl⟩
        rw [← hm'] at hst hm
        have hbp := hm'.symm
        obtain ⟨z, hz'⟩ : ∃ z, z = held ((m + 50) / 100) 1 255 := ⟨_, rfl⟩
        rw [← hz'] at hst
        have HS := Lib.hid (And.intro hst hz')
        obtain ⟨hm0, hm1⟩ := hm
        clear hst hb hm' hz' hbb
        go_wp2_with fail
        refine (hold_any wr ((m + 50) / 100) 1 255 (by omega)).mono ?_
        rintro e w7 ⟨rfl, rfl⟩
        rw [← HS.out.2]
        go_wp2_with fail
        go_roundw
        case rel =>
          refine ⟨k + 1, by omega, by go_num, ?_⟩
          rw [← mix_more (stepsL_len _ _) rfl hlt, HS.out.1]
          exact HR.out.put k z
        case measure => simp [intOf]; omega
      · obtain rfl : k = 64 := by omega
        have hR := HR.out
        rw [mix_all (stepsL_len _ _) rfl] at hR
        have HR := Lib.hid hR
        clear hR
        go_wp2_with (first
          | (with_reducible refine wpList_load_to (op := ⟨some 36, _, _, _, _, _⟩) rfl 26 (.tmp 6) rfl (.pointer (some ⟨w.heap.size + 1, 0, none⟩)) rfl (blkV (stepsL true q)) HR.out.blk.load ?_)
          | ((with_reducible refine wpList_store_blk (o := ⟨none, _, _, _, _, _⟩) rfl (.tmp 4) (.tmp 36) rfl rfl w.heap.size (stepsL true q) rfl rfl _ HR.out.ans.box rfl (stepsL_len _ _) ?_)
             intro w9 b9 k9
             have H9 := Lib.hid (HR.out.done b9 k9)
             clear b9 k9)
          | fail)
        refine bodyPost_ret (v := .tuple #[blkV (stepsL true q), .int .i64 0]) (results_ct (fn := Tryd.f12) Tryd.results12 _ _ w.heap.size _ _ rfl rfl (loadVar_blk H9.out.2)) rfl ?_
        exact ⟨rfl, H9.out.1⟩

theorem steps_any (w : World) (c : Bool) (q : Int) (hT : Tab w) : Calls Tryd.prog 12 #[.bool c, .int .i64 q] w (Tells w (stepsF c q)) := by
  by_cases h : q < 1 ∨ 100 < q
  · exact steps_out w c q h
  · exact steps_in w c q hT (by omega) (by omega)
end Go.Proofs.YtambeekkgbbfnaaDoor
