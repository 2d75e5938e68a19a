/-
  The contracts of Read, where nothing is pending and where the disk is dead, and of the laws' awake.
-/
import Derived.Test.YtghnhabpcikhgaaBytes
import Derived.Test.YtghnhabpcikhgaaWrite
namespace Go.Proofs.Ytghnhabpcikhgaa
open Go.RowKit Go.Maps
variable {X : Nat → Prop} {N : Nat}

set_option maxHeartbeats 400000 in
theorem read_dead {Jp : World → Value → List Ent → Prop} {w : World} {d cnt : Nat} {f : Nat → List Int} {p : List Wr} {i : Int} (h : DiskG X N Jp w d cnt f p true) :
    Calls Try.prog 20 #[.pointer (some ⟨d, 0, none⟩), .int .i64 i] w fun e w' => e = .returned (.tuple #[.slice none 0 0, .int .i64 10]) ∧ w = w' := by
  have HR := Lib.hid (show Calls Try.prog 27 #[.pointer (some ⟨d, 0, none⟩), .int .i64 i] w fun e w' => e = .returned (.int .i64 10) ∧ w = w' by
    obtain ⟨m, J, n, v, q, hd, _⟩ := h
    refine (reach_any w d cnt true i (cellD0 hd) (cellD7 hd)).mono ?_
    rintro e w' ⟨rfl, rfl⟩
    exact ⟨rfl, rfl⟩)
  clear h
  go_enter Try.func20, Try.ntmps20
  go_wp2_with fail
  refine HR.out.mono ?_
  rintro e w' ⟨rfl, rfl⟩
  go_wp2
  go_ret2
  exact ⟨rfl, rfl⟩

set_option maxRecDepth 10000 in
set_option maxHeartbeats 800000 in
theorem read_synced {w : World} {d cnt i : Nat} {f : Nat → List Int} (h : Disk X N w d cnt f [] false) (hi : i < cnt) :
    Calls Try.prog 20 #[.pointer (some ⟨d, 0, none⟩), .int .i64 (i : Int)] w fun e w' => ∃ g, e = .returned (.tuple #[.slice (some ⟨g, 0, none⟩) 128 128, .int .i64 0]) ∧ Box w' g 5 (cellsOf (f i)).toArray ∧ Below w.heap.size w w' := by
  have HR := Lib.hid (show Calls Try.prog 27 #[.pointer (some ⟨d, 0, none⟩), .int .i64 (i : Int)] w fun e w' => e = .returned (.int .i64 0) ∧ w = w' by
    obtain ⟨m, J, n, v, q, hd, _⟩ := h
    refine (reach_any w d cnt false i (cellD0 hd) (cellD7 hd)).mono ?_
    rintro e w' ⟨rfl, rfl⟩
    exact ⟨by simp [reachE]; omega, rfl⟩)
  obtain ⟨m, J, n, v, q, hd, hm, hn, hs, hg, hJ, hq, hp, hpl, hc⟩ := h
  have hq0 : q = [] := List.map_eq_nil_iff.1 hq
  subst hq0
  have HW := Lib.hid (writes_any w d J [] (cellD2 hd) (cellD3 hd) hJ)
  have HH := Lib.hid (And.intro hd (And.intro hm (And.intro hs hg)))
  clear hd hm hn hs hg hJ hq hp hpl
  go_enter Try.func20, Try.ntmps20
  go_wp2_with fail
  refine HR.out.mono ?_
  rintro e w' ⟨rfl, rfl⟩
  go_wp2_with fail
  refine HW.out.mono ?_
  rintro e w1 ⟨rv, rfl, ⟨A, c, rfl, _⟩, hw1⟩
  obtain ⟨hd, hm, hs, hg⟩ := HH.out
  obtain ⟨sp, sl, l0, hv, hsl, hS, hcase⟩ := ((hs i hi).keep fun _ _ hb _ => hb.on hw1).sl (hg i hi).1 (hg i hi).2
  have hmw : Mp w1 m n v := hm.block (hw1.block m hm.lt)
  have hlook := Mp.look hmw i (by omega)
  rw [hv] at hlook
  have c1 := cellD1 (hd.on hw1)
  have hsec : sec l0 = f i := by
    rcases hcase with ⟨rfl, _⟩ | ⟨rfl, e, _⟩
    · exact sec_same (hg i hi).1
    · rw [sec_nil, e]
  have H1 := Lib.hid (And.intro hw1 (And.intro hS hsec))
  clear hw1 hd hm hs hg hS hsec hcase hmw hv hi hsl
  go_wp2_with fail
  go_loop [8] (fun i => i = .int .i64 (-1)) (fun _ => 0)
  case atStart => rfl
  case round =>
    subst hrel
    go_wp2_with fail
    refine (sector_any w1 _ sp sl sl l0 H1.out.2.1).mono ?_
    rintro e w2 ⟨rfl, hb2, hw2⟩
    have H2 := Lib.hid (And.intro hb2 hw2)
    clear hb2 hw2
    go_wp2
    go_ret2
    refine ⟨_, rfl, ?_, on_trans H1.out.1 H2.out.2⟩
    have := H2.out.1
    rwa [H1.out.2.2] at this

theorem ful_str {w : World} {g : Nat} {l : List Int} {K : Nat → Prop} (hb : Box w g 5 (cellsOf l).toArray) (hl : l.length = 128) (hf : Fit l) (hK : K g) : Sl w K (some ⟨g, 0, none⟩) 128 128 l := sl_of_box hb hf hl (by unfold maxLen; omega) hK

/-- what awake keeps of the two writes -/
theorem awake_keeps : keeps 1 (fun _ => zeros) ([] ++ [(0, ful 1)] ++ [(0, ful 2)]) 0 = ful 1 := by
  have b0 : bitOf 1 0 = true := by decide
  have b1 : bitOf 1 1 = false := by decide
  unfold keeps
  show runTo (bitOf 1) (fun _ => zeros) [(0, ful 1), (0, ful 2)] 2 0 = ful 1
  rw [runTo_succ, runTo_succ, b0, b1]
  rfl

set_option maxRecDepth 10000 in
set_option maxHeartbeats 1600000 in
theorem awake_any (w : World) : Calls Try.prog 8 #[] w (Law w) := by
  have hs1 : (ful 1).length = 128 := ful_len 1
  have hf1 : Fit (ful 1) := ful_fit (by omega) (by omega)
  have hf2 : Fit (ful 2) := ful_fit (by omega) (by omega)
  have HF := Lib.hid (And.intro hs1 (And.intro hf1 hf2))
  clear hs1 hf1 hf2
  go_enter Try.func8, Try.ntmps8
  go_wp2_with fail
  refine (new_some (X := fun _ => False) (N := 0) w 2 (by omega) (by omega)).mono ?_
  rintro e w1 ⟨d, rfl, hd1, hc1, b1⟩
  have H1 := Lib.hid (And.intro hd1 (And.intro (hc1.own w.heap.size) b1))
  clear hd1 hc1 b1
  go_wp2_with fail
  refine (full_any w1 1).mono ?_
  rintro e w2 ⟨rfl, hb2, b2⟩
  have H2 := Lib.hid (And.intro hb2 b2)
  clear hb2 b2
  go_wp2_with fail
  refine (write_ok (lo := w.heap.size) (i := 0) (H1.out.2.1.on H2.out.2) (Nat.le_trans H1.out.2.2.size H2.out.2.size) (by simp) (ful_str (K := fun _ => True) H2.out.1 HF.out.1 HF.out.2.1 trivial) (by omega) (fun _ _ h => h)).mono ?_
  rintro e w3 ⟨rfl, o3, f3⟩
  have H3 := Lib.hid (And.intro o3 (Below.trans H1.out.2.2 (Below.trans (H2.out.2.mono H1.out.2.2.size) (f3.below (Nat.le_trans H1.out.2.2.size H2.out.2.size) (Nat.le_refl _) H1.out.1))))
  clear o3 f3 H2
  go_wp2_with fail
  refine (full_any w3 2).mono ?_
  rintro e w4 ⟨rfl, hb4, b4⟩
  have H4 := Lib.hid (And.intro hb4 b4)
  clear hb4 b4
  go_wp2_with fail
  refine (write_ok (lo := w.heap.size) (i := 0) (H3.out.1.on H4.out.2) (Nat.le_trans H3.out.2.size H4.out.2.size) (by simp) (ful_str (K := fun _ => True) H4.out.1 (ful_len 2) HF.out.2.2 trivial) (by omega) (fun _ _ h => h)).mono ?_
  rintro e w5 ⟨rfl, o5, f5⟩
  have H5 := Lib.hid (And.intro o5 (Below.trans H3.out.2 (Below.trans (H4.out.2.mono H3.out.2.size) (f5.below (Nat.le_trans H3.out.2.size H4.out.2.size) (Nat.le_refl _) H1.out.1))))
  clear o5 f5 H3 H4
  go_wp2_with fail
  refine (crash_any (keep := 1) H5.out.1.disk (by omega) (by omega)).mono ?_
  rintro e w6 ⟨rfl, d6, k6⟩
  have H6 := Lib.hid (And.intro d6 (Below.trans H5.out.2 (k6.below H5.out.2.size (fun i hi e => by have := H1.out.1; omega))))
  clear d6 k6 H5
  go_wp2_with fail
  refine (read_dead H6.out.1).mono ?_
  rintro e w6' ⟨rfl, rfl⟩
  go_wp2_with fail
  refine (revive_any H6.out.1).mono ?_
  rintro e w7 ⟨rfl, d7, k7⟩
  have H7 := Lib.hid (And.intro d7 (Below.trans H6.out.2 (k7.below H6.out.2.size (fun i hi e => by have := H1.out.1; omega))))
  clear d7 k7 H6
  go_wp2_with fail
  refine (read_synced (i := 0) H7.out.1 (by omega)).mono ?_
  rintro e w8 ⟨g, rfl, hb8, b8⟩
  rw [awake_keeps] at hb8
  obtain ⟨S, hS⟩ : ∃ S, S = strOfNums (ful 1) := ⟨_, rfl⟩
  have H8 := Lib.hid (And.intro (ful_str (K := fun _ => True) hb8 HF.out.1 HF.out.2.1 trivial) (And.intro (on_trans H7.out.2 b8) hS))
  clear hb8 b8 H7 hS H1
  have cv0 := sl_str H8.out.1.drew
  rw [← H8.out.2.2] at cv0
  go_wp2_with fail
  have K8 := Lib.hid cv0
  clear cv0
  go_region_held (fun w' => (convert 22 9 (.slice (some ⟨g, 0, none⟩) 128 128)).run Try.prog w' = .ok (.string S) w')
    (first
      | exact K8.out
      | exact K9.out)
    (first
      | (go_at_call 14
         refine (full_any w8.drew 1).mono ?_
         rintro e w9 ⟨rfl, hb9, b9⟩
         have cv1 : (convert 22 9 (.slice (some ⟨w8.heap.size, 0, none⟩) 128 128)).run Try.prog w9 = .ok (.string (strOfNums (ful 1))) w9 := sl_str (ful_str (K := fun _ => True) hb9 HF.out.1 HF.out.2.1 trivial)
         have cv2 := sl_str (H8.out.1.drew.on b9)
         rw [← H8.out.2.2] at cv1 cv2
         have K9 := Lib.hid cv2
         have H9 := Lib.hid (on_trans (on_trans H8.out.2.1 (on_drew w8)) b9)
         clear hb9 b9 cv2))
  all_goals
    go_wp2
    go_ret
    exact ⟨rfl, H9.out⟩

end Go.Proofs.Ytghnhabpcikhgaa
