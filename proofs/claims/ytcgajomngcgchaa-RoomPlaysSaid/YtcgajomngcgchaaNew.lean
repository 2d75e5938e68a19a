/-
  room.New, and a map's Left, End, Copy.
-/
import Derived.Test.YtcgajomngcgchaaFree
namespace Go.Proofs.Ytcgajomngcgchaa
open Go.RowKit

/-- what New answers -/
def NewBad (m : Int) (l : List X) (w : World) (r : Ending) (w' : World) : Prop := newE m l ≠ 0 ∧ r = .returned (.tuple #[.pointer none, .int .i64 (newE m l)]) ∧ Below w.heap.size w w'
def NewGood (m : Int) (l : List X) (w : World) (r : Ending) (w' : World) : Prop := newE m l = 0 ∧ ∃ g fs A k c, r = .returned (.tuple #[.pointer (some ⟨g, 0, none⟩), .int .i64 0]) ∧ Mm w' g m fs A k c ∧ Frees m l fs ∧ w.heap.size ≤ g ∧ Below w.heap.size w w'
def NewY (m : Int) (l : List X) (w : World) (r : Ending) (w' : World) : Prop := NewBad m l w r w' ∨ NewGood m l w r w'

theorem free_all (w : World) (m : Int) (K : Nat → Prop) (ad : Addr) (n c : Nat) (l : List X) (hx : Xl K w (some ad) n c l) (hw : W64 l) (hn : n ≤ 5000) : Calls Try.prog 12 #[.int .i64 m, .slice (some ad) n c] w (FreeY m l w) := by
  by_cases hm : 1 ≤ m ∧ m ≤ 4096
  · exact free_any w m K ad n c l hm hx hw hn
  · exact free_bad1 w m (some ad) n c l hm
theorem newE_pos {m : Int} {l : List X} (h : newE m l ≠ 0) : 0 < newE m l := by
  unfold newE at *
  split at h <;> rename_i h1
  · rw [if_pos h1]; omega
  · rw [if_neg h1]
    split at h <;> rename_i h2
    · rw [if_pos h2]; omega
    · rw [if_neg h2]
      split at h <;> rename_i h3
      · rw [if_pos h3]; omega
      · omega
set_option maxHeartbeats 800000 in
theorem new_any (w : World) (m : Int) (K : Nat → Prop) (ad : Addr) (n c : Nat) (l : List X) (hx : Xl K w (some ad) n c l) (hw : W64 l) (hn : n ≤ 5000) : Calls Try.prog 18 #[.int .i64 m, .slice (some ad) n c] w (NewY m l w) := by
  have hF := free_all w m K ad n c l hx hw hn
  by_cases h0 : newE m l = 0
  · have HF := Lib.hid (hF.mono (R' := FreeGood m l w) fun r w' h => h.resolve_left fun h => h.1 h0)
    clear hF hx hw
    go_enter Try.func18, Try.ntmps18
    go_wp2_with (go_at_call 12; refine Calls.mono HF.out ?_; rintro e w6 ⟨h1, fs, v, rfl, h2, h3, h4⟩; obtain ⟨A, c6, rfl, h5⟩ := rd_of_own h2; have H6 := Lib.hid (And.intro h1 (And.intro h3 (And.intro h4 h5))); clear h1 h2 h3 h4 h5)
    go_ret2
    obtain ⟨h1, h3, h4, h5⟩ := H6.out
    refine .inr ⟨h1, w6.heap.size, fs, A, _, c6, rfl, ⟨Box.made _ _ _, ?_⟩, h3, h4.size, on_trans h4 (on_alloc _ _)⟩
    exact (h5.mono (K' := fun b => b < w6.heap.size) (fun b hb _ => hb)).on (on_alloc _ _) |>.mono (fun b _ hb => by omega)
  · have HF := Lib.hid (hF.mono (R' := FreeBad m l w) fun r w' h => h.resolve_right fun h => h0 h.1)
    obtain ⟨z, hz⟩ : ∃ z, newE m l = z := ⟨_, rfl⟩
    have hp := newE_pos h0
    rw [hz] at hp
    have hzb : (z != 0) = true := by simp; omega
    clear hF hx hw
    go_enter Try.func18, Try.ntmps18
    go_wp2_with (go_at_call 12; refine Calls.mono HF.out ?_; rintro e w6 ⟨h1, rfl, h2⟩; have H6 := Lib.hid h2; clear h1 h2)
    go_ret2
    exact .inl ⟨h0, by rw [hz]; rfl, H6.out⟩
theorem rise_take {hi lo : Int} {l : List X} (h : Rise hi lo l) (k : Nat) : Rise hi lo (l.take k) := by
  have : l = l.take k ++ l.drop k := (List.take_append_drop _ _).symm
  rw [this] at h
  exact (rise_app.1 h).1
set_option maxHeartbeats 800000 in
theorem left_any (w : World) (g : Nat) (m : Int) (fs : List X) (A : Option Addr) (n c : Nat) (hM : Mm w g m fs A n c) (hr : Rise m 0 fs) (hm : 0 ≤ m ∧ m ≤ 4096) : Calls Try.prog 24 #[.pointer (some ⟨g, 0, none⟩)] w fun r w' => r = .returned (.int .i64 (sumS fs)) ∧ Below w.heap.size w w' := by
  have c1 : w.cell? ⟨g, 1, none⟩ = some (.slice A n c) := hM.box.cell 1
  have hcap := hM.row.cap
  have hmax := hM.row.max
  unfold maxLen at hmax
  have HM := Lib.hid (And.intro hM (And.intro hr hm))
  clear hM hr
  go_enter Try.func24, Try.ntmps24
  go_wp2_with fail
  go_loopw [3, 5, 13] (fun s _ i wr => ∃ k : Nat, k ≤ n ∧ s = .int .i64 (sumS (fs.take k)) ∧ i = .int .i64 (k : Int) ∧ Below w.heap.size w wr) (fun _ _ i _ => n - (intOf i).toNat)
  case atStart => exact ⟨0, by omega, rfl, rfl, Below.refl _ _⟩
  case round =>
    obtain ⟨k, hk, rfl, rfl, hb⟩ := hrel
    have HB := Lib.hid hb
    clear hb
    by_cases hkn : k < n
    · obtain ⟨b, off, rfl, hbs, hK, c2, c3⟩ := (HM.out.1.row.on HB.out).getX hkn
      have hl := HM.out.1.row.lenX
      have htk := take_moreX fs k (by omega)
      have s0 := sumS_pos (rise_take HM.out.2.1 k)
      have s1 := sumS_le (rise_take HM.out.2.1 k) HM.out.2.2.1
      have s2 := HM.out.2.1.at_ _ (getD_mem (l := fs) (k := k) (by omega))
      obtain ⟨x, y, hxy⟩ : ∃ x y : Int, fs.getD k (0, 0) = (x, y) := ⟨_, _, rfl⟩
      rw [hxy] at c2 c3 htk s2
      obtain ⟨s, hs⟩ : ∃ s, sumS (fs.take k) = s := ⟨_, rfl⟩
      have hsn : sumS (fs.take (k + 1)) = s + y := by rw [htk, sumS_app, hs]; simp [sumS]
      rw [hs] at s0 s1 ⊢
      have t1 : 0 ≤ y ∧ y ≤ 4096 := by have := HM.out.2.2.2; have := s2.2.1; have := s2.2.2; have := s2.1; simp only at *; omega
      have t2 : s ≤ 4096 := by have := HM.out.2.2.2; omega
      obtain ⟨t3, t4⟩ := t1
      have HT := Lib.hid hsn
      clear hsn hs htk hxy s1 s2 hl
      obtain ⟨w1, hw1⟩ : ∃ w1, wr.alloc (.cells #[.int .i64 x, .int .i64 y] 42) = w1 := ⟨_, rfl⟩
      have k1 : Below wr.heap.size wr w1 := by rw [← hw1]; exact on_alloc _ _
      have q1 : w1.cell? ⟨wr.heap.size, 1, none⟩ = some (.int .i64 y) := by rw [← hw1]; exact (Box.made _ _ _).cell 1
      have HW := Lib.hid k1
      clear k1
      go_wp2_with fail
      go_roundw
      case rel => exact ⟨k + 1, by omega, by rw [HT.out], by go_num, on_trans HB.out HW.out⟩
      case measure => simp [intOf]; omega
    · obtain rfl : k = n := by omega
      have hall : fs.take k = fs := List.take_of_length_le (by have := HM.out.1.row.lenX; omega)
      rw [hall]
      clear hall
      go_wp2_with fail
      go_ret
      exact ⟨rfl, HB.out⟩

/-- where the last used sector ends, by the free extents -/
def endF (m : Int) (fs : List X) : Int := if fs.findIdx (fun f => decide (f.1 + f.2 = m)) < fs.length then (fs.getD (fs.findIdx fun f => decide (f.1 + f.2 = m)) (0, 0)).1 else m
theorem eg41 (args : Array Value) (w : World) : (callFunc 41 args).run Try.prog w = .ok (.enter 41 args) w := enters_of Try.func41 (by kernel_rfl) rfl args w
theorem sm_of {m : Int} {fs : List X} (hr : Rise m 0 fs) (hm : m ≤ 4096) {x : X} (hx : x ∈ fs) : Sm x := by
  have := hr.at_ x hx
  unfold Sm; omega
set_option maxHeartbeats 800000 in
theorem end_map (w : World) (g : Nat) (m : Int) (fs : List X) (A : Option Addr) (n c : Nat) (hM : Mm w g m fs A n c) (hr : Rise m 0 fs) (hm : 0 ≤ m ∧ m ≤ 4096) : Calls Try.prog 26 #[.pointer (some ⟨g, 0, none⟩)] w fun r w' => r = .returned (.int .i64 (endF m fs)) ∧ Below w.heap.size w w' := by
  obtain ⟨w1, hw1⟩ : ∃ w1, w.alloc (.cells #[.pointer (some ⟨g, 0, none⟩)] 38) = w1 := ⟨_, rfl⟩
  have k1 : Below w.heap.size w w1 := by rw [← hw1]; exact on_alloc _ _
  have bx : Box w1 w.heap.size 38 #[.pointer (some ⟨g, 0, none⟩)] := by rw [← hw1]; exact Box.made _ _ _
  have q0 : w1.cell? ⟨w.heap.size, 0, none⟩ = some (.pointer (some ⟨g, 0, none⟩)) := bx.cell 0
  have m1 := hM.on k1
  have g0 : w1.cell? ⟨g, 0, none⟩ = some (.int .i64 m) := m1.box.cell 0
  have HI := Lib.hid (find_any 41 #[.pointer (some ⟨w.heap.size, 0, none⟩)] eg41 w1 g m A n c fs m1 (fun f => decide (f.1 + f.2 = m)) (fun x w2 hx hb => end1_any w.heap.size g m x.1 x.2 w2 (on_cell q0 hb) (on_cell g0 hb) (sm_of hr hm.2 hx)))
  have hl := hM.row.lenX
  have hcap := hM.row.cap
  have hmax := hM.row.max
  unfold maxLen at hmax
  have hle := List.findIdx_le_length (p := fun f : X => decide (f.1 + f.2 = m)) (xs := fs)
  have hE : endF m fs = if fs.findIdx (fun f => decide (f.1 + f.2 = m)) < fs.length then (fs.getD (fs.findIdx fun f => decide (f.1 + f.2 = m)) (0, 0)).1 else m := rfl
  obtain ⟨z, hz⟩ : ∃ z, fs.findIdx (fun f => decide (f.1 + f.2 = m)) = z := ⟨_, rfl⟩
  have HI2 := HI.out
  rw [hz] at HI2 hE hle
  rw [hl] at hle hE
  have HZ := Lib.hid (And.intro HI2 (And.intro m1 k1))
  have HQ := Lib.hid (And.intro q0 g0)
  clear HI HI2 hz m1 k1 bx hl hM hr
  by_cases hzn : z < n
  · obtain ⟨b, off, hA, hbs, hK, c2, c3⟩ := HZ.out.2.1.row.getX hzn
    rw [if_pos hzn] at hE
    obtain ⟨x, y, hxy⟩ : ∃ x y : Int, fs.getD z (0, 0) = (x, y) := ⟨_, _, rfl⟩
    rw [hxy] at c2 c3 hE
    subst hA
    have HE := Lib.hid (And.intro hE (And.intro c2 c3))
    clear hE hxy c2 c3
    rw [HE.out.1]
    go_enter Try.func26, Try.ntmps26
    go_wp2_with (go_at_call 34; refine Calls.mono HZ.out.1 ?_; rintro e w6 ⟨rfl, b6⟩; have r0 := on_cell HQ.out.1 b6; have r1 := on_cell HQ.out.2 b6; have r2 := (HZ.out.2.1.box.on b6).cell 1; have r3 := on_cell HE.out.2.1 b6; simp only [List.getElem?_toArray, List.getElem?_cons_succ, List.getElem?_cons_zero] at r2; have H6 := Lib.hid b6; clear b6)
    go_ret
    exact ⟨rfl, on_trans HZ.out.2.2 H6.out⟩
  · obtain rfl : z = n := by omega
    rw [if_neg hzn] at hE
    have HE := Lib.hid hE
    clear hE
    rw [HE.out]
    go_enter Try.func26, Try.ntmps26
    go_wp2_with (go_at_call 34; refine Calls.mono HZ.out.1 ?_; rintro e w6 ⟨rfl, b6⟩; have r0 := on_cell HQ.out.1 b6; have r1 := on_cell HQ.out.2 b6; have r2 := (HZ.out.2.1.box.on b6).cell 1; simp only [List.getElem?_toArray, List.getElem?_cons_succ, List.getElem?_cons_zero] at r2; have H6 := Lib.hid b6; clear b6)
    go_ret
    exact ⟨rfl, on_trans HZ.out.2.2 H6.out⟩
end Go.Proofs.Ytcgajomngcgchaa
