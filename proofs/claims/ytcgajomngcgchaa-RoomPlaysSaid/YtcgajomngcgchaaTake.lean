/-
  The map's Take.
-/
import Derived.Test.YtcgajomngcgchaaRepl
namespace Go.Proofs.Ytcgajomngcgchaa
open Go.RowKit

theorem eg39 (args : Array Value) (w : World) : (callFunc 39 args).run Try.prog w = .ok (.enter 39 args) w := enters_of Try.func39 (by kernel_rfl) rfl args w
/-- which one is taken from -/
def takeI (fs : List X) (size : Int) : Nat := fs.findIdx fun f => decide (size ≤ f.2)
/-- what is left -/
def takeL (fs : List X) (size : Int) : List X := fs.take (takeI fs size) ++ (if size < (fs.getD (takeI fs size) (0, 0)).2 then [((fs.getD (takeI fs size) (0, 0)).1 + size, (fs.getD (takeI fs size) (0, 0)).2 - size)] else []) ++ fs.drop (takeI fs size + 1)
def TakeNone (z : Int) (w : World) (e : Ending) (w' : World) : Prop := e = .returned (.tuple #[.agg #[.int .i64 0, .int .i64 0], .int .i64 z]) ∧ Below w.heap.size w w'
def TakeSome (g : Nat) (m : Int) (fs : List X) (size : Int) (w : World) (e : Ending) (w' : World) : Prop :=
  e = .returned (.tuple #[.agg #[.int .i64 (fs.getD (takeI fs size) (0, 0)).1, .int .i64 size], .int .i64 0]) ∧ (∃ A n c, Mm w' g m (takeL fs size) A n c) ∧ Kept (fun i => i = g) w w'

theorem take_small (w : World) (g : Nat) (size : Int) (h : size < 1) : Calls Try.prog 21 #[.pointer (some ⟨g, 0, none⟩), .int .i64 size] w (TakeNone 1 w) := by
  go_enter Try.func21, Try.ntmps21
  go_wp2
  exact bodyPost_ret (v := .tuple #[extV (0, 0), .int .i64 1]) (by simp [results, Try.results21, go_sem, extV]) rfl ⟨rfl, on_trans (on_alloc _ _) (on_alloc _ _)⟩

set_option maxHeartbeats 1600000 in
theorem take_none (w : World) (g : Nat) (m : Int) (fs : List X) (A : Option Addr) (n c : Nat) (hM : Mm w g m fs A n c) (size : Int) (h : ¬ size < 1) (hi : takeI fs size = fs.length) : Calls Try.prog 21 #[.pointer (some ⟨g, 0, none⟩), .int .i64 size] w (TakeNone 9 w) := by
  obtain ⟨w1, hw1⟩ : ∃ w1, w.alloc (.cells #[.int .i64 size] 3) = w1 := ⟨_, rfl⟩
  obtain ⟨w2, hw2⟩ : ∃ w2, w1.alloc (.cells #[.int .i64 0, .int .i64 0] 42) = w2 := ⟨_, rfl⟩
  have k1 : Below w.heap.size w w1 := by rw [← hw1]; exact on_alloc _ _
  have k2 : Below w1.heap.size w1 w2 := by rw [← hw2]; exact on_alloc _ _
  have bs : Box w2 w.heap.size 3 #[.int .i64 size] := by have h : Box w1 w.heap.size 3 #[.int .i64 size] := (by rw [← hw1]; exact Box.made _ _ _); exact h.on k2
  have br : Box w2 w1.heap.size 42 #[.int .i64 0, .int .i64 0] := by rw [← hw2]; exact Box.made _ _ _
  have q0 : w2.cell? ⟨w.heap.size, 0, none⟩ = some (.int .i64 size) := bs.cell 0
  have m2 := (hM.on k1).on k2
  have hl := hM.row.lenX
  have HI := Lib.hid (find_any 39 #[.pointer (some ⟨w.heap.size, 0, none⟩)] eg39 w2 g m A n c fs m2 (fun f => decide (size ≤ f.2)) (fun x w3 _ hb => take1_any w.heap.size size x.1 x.2 w3 (on_cell q0 hb)))
  have HI2 := HI.out
  rw [show fs.findIdx (fun f => decide (size ≤ f.2)) = n from hi.trans hl] at HI2
  have HZ := Lib.hid (And.intro HI2 (And.intro (on_trans k1 k2) (And.intro m2 br)))
  have HZ2 := Lib.hid k1.size
  clear HI HI2 hi hl k1 k2 bs br m2 hM
  go_enter Try.func21, Try.ntmps21
  go_wp2_with (go_at_call 34; refine Calls.mono HZ.out.1 ?_; rintro e w6 ⟨rfl, b6⟩; have r2 := (HZ.out.2.2.1.box.on b6).cell 1; have y0 := (HZ.out.2.2.2.on b6).cell 0; have y1 := (HZ.out.2.2.2.on b6).cell 1; have y2 := (HZ.out.2.2.2.on b6).free 0; have y3 := (HZ.out.2.2.2.on b6).free 1; simp only [List.getElem?_toArray, List.getElem?_cons_succ, List.getElem?_cons_zero] at r2 y0 y1; have H6 := Lib.hid b6; clear b6)
  have bz : Box ((w6.setCell ⟨w1.heap.size, 0, none⟩ (.int .i64 0)).setCell ⟨w1.heap.size, 1, none⟩ (.int .i64 0)) w1.heap.size 42 #[.int .i64 0, .int .i64 0] := by
    have := ((HZ.out.2.2.2.on H6.out).put 0 (.int .i64 0)).put 1 (.int .i64 0)
    simpa using this
  have z0 := bz.cell 0
  have z1 := bz.cell 1
  simp only [List.getElem?_toArray, List.getElem?_cons_succ, List.getElem?_cons_zero] at z0 z1
  exact bodyPost_ret (v := .tuple #[.agg #[.int .i64 0, .int .i64 0], .int .i64 9]) (by simp [results, Try.results21, go_sem, z0, z1]) rfl ⟨rfl, ((on_trans HZ.out.2.1 H6.out).setCell (p := ⟨w1.heap.size, 0, none⟩) HZ2.out _).setCell (p := ⟨w1.heap.size, 1, none⟩) HZ2.out _⟩

set_option maxHeartbeats 3200000 in
theorem take_some (w : World) (g : Nat) (m : Int) (fs : List X) (A : Option Addr) (n c : Nat) (hM : Mm w g m fs A n c) (hr : Rise m 0 fs) (hm : 0 ≤ m ∧ m ≤ 4096) (hn : n ≤ 9000) (size : Int) (h : ¬ size < 1) (hi : takeI fs size < fs.length) : Calls Try.prog 21 #[.pointer (some ⟨g, 0, none⟩), .int .i64 size] w (TakeSome g m fs size w) := by
  obtain ⟨w1, hw1⟩ : ∃ w1, w.alloc (.cells #[.int .i64 size] 3) = w1 := ⟨_, rfl⟩
  obtain ⟨w2, hw2⟩ : ∃ w2, w1.alloc (.cells #[.int .i64 0, .int .i64 0] 42) = w2 := ⟨_, rfl⟩
  have k1 : Below w.heap.size w w1 := by rw [← hw1]; exact on_alloc _ _
  have k2 : Below w1.heap.size w1 w2 := by rw [← hw2]; exact on_alloc _ _
  have bs : Box w2 w.heap.size 3 #[.int .i64 size] := by have h : Box w1 w.heap.size 3 #[.int .i64 size] := (by rw [← hw1]; exact Box.made _ _ _); exact h.on k2
  have br : Box w2 w1.heap.size 42 #[.int .i64 0, .int .i64 0] := by rw [← hw2]; exact Box.made _ _ _
  have q0 : w2.cell? ⟨w.heap.size, 0, none⟩ = some (.int .i64 size) := bs.cell 0
  have m2 := (hM.on k1).on k2
  have hl := hM.row.lenX
  have hcap := hM.row.cap
  have hmax := hM.row.max
  unfold maxLen at hmax
  have HI := Lib.hid (find_any 39 #[.pointer (some ⟨w.heap.size, 0, none⟩)] eg39 w2 g m A n c fs m2 (fun f => decide (size ≤ f.2)) (fun x w3 _ hb => take1_any w.heap.size size x.1 x.2 w3 (on_cell q0 hb)))
  have HI2 := HI.out
  have hsz := (findIdx_split (fun f => decide (size ≤ f.2)) fs).2
  have hT : takeL fs size = fs.take (takeI fs size) ++ (if size < (fs.getD (takeI fs size) (0, 0)).2 then [((fs.getD (takeI fs size) (0, 0)).1 + size, (fs.getD (takeI fs size) (0, 0)).2 - size)] else []) ++ fs.drop (takeI fs size + 1) := rfl
  have hle : size ≤ (fs.getD (takeI fs size) (0, 0)).2 := by
    rcases hsz with hs | ⟨y, t, hs, hy⟩
    · have := List.drop_eq_nil_iff.1 hs; unfold takeI at hi; omega
    · have e : fs.getD (takeI fs size) (0, 0) = y := by
        have : (fs.drop (takeI fs size))[0]? = some y := by unfold takeI; rw [hs]; rfl
        rw [List.getElem?_drop] at this
        rw [List.getD_eq_getElem?_getD]
        simp at this ⊢
        rw [this]
        rfl
      rw [e]
      exact of_decide_eq_true hy
  have hrz := hr.at_ _ (getD_mem (l := fs) hi)
  have hTS : TakeSome g m fs size w = fun e w' => e = .returned (.tuple #[.agg #[.int .i64 (fs.getD (takeI fs size) (0, 0)).1, .int .i64 size], .int .i64 0]) ∧ (∃ A n c, Mm w' g m (takeL fs size) A n c) ∧ Kept (fun i => i = g) w w' := rfl
  rw [hT] at hTS
  have hf : fs.findIdx (fun f => decide (size ≤ f.2)) = takeI fs size := rfl
  rw [hf] at HI2
  obtain ⟨z, hz⟩ : ∃ z, takeI fs size = z := ⟨_, rfl⟩
  obtain ⟨x, y, hxy⟩ : ∃ x y : Int, fs.getD z (0, 0) = (x, y) := ⟨_, _, rfl⟩
  rw [hz] at HI2 hle hTS hrz hi
  rw [hxy] at hle hTS hrz
  rw [hTS]
  have hzn : z < n := by omega
  obtain ⟨b, off, hA, hbs, hK, c2, c3⟩ := m2.row.getX hzn
  rw [hxy] at c2 c3
  subst hA
  have s0 : 0 ≤ x ∧ x + y ≤ 4096 ∧ 1 ≤ y := by have := hm.2; have := hrz.1; have := hrz.2.1; have := hrz.2.2; simp only at *; omega
  obtain ⟨s1, s2, s3⟩ := s0
  have HZ2 := Lib.hid k1.size
  have HG := Lib.hid hM.box.lt
  have HK0 := Lib.hid (hM.row.mono (K' := fun b => b < w.heap.size ∧ b ≠ g) (fun b hb h => ⟨hb, h⟩))
  have HZ := Lib.hid (And.intro HI2 (And.intro (on_trans k1 k2) (And.intro m2 (And.intro br (And.intro bs (And.intro c2 c3))))))
  have HL := Lib.hid hl
  simp only at hle
  clear HI HI2 hl k1 k2 bs br m2 hM hr hm hf hT hTS hz hxy hrz hsz c2 c3 hi
  by_cases hlt : size < y
  · rw [if_pos hlt]
    go_enter Try.func21, Try.ntmps21
    go_wp2_with (first
      | (go_at_call 34
         refine Calls.mono HZ.out.1 ?_
         rintro e w6 ⟨rfl, b6⟩
         have r2 := (HZ.out.2.2.1.box.on b6).cell 1
         have d2 := on_cell HZ.out.2.2.2.2.2.1 b6
         have d3 := on_cell HZ.out.2.2.2.2.2.2 b6
         simp only [List.getElem?_toArray, List.getElem?_cons_succ, List.getElem?_cons_zero] at r2
         obtain ⟨w7, hw7⟩ : ∃ w7, w6.alloc (.cells #[.int .i64 x, .int .i64 y] 42) = w7 := ⟨_, rfl⟩
         have b7 : Below w6.heap.size w6 w7 := by rw [← hw7]; exact on_alloc _ _
         have f7 : Box w7 w6.heap.size 42 #[.int .i64 x, .int .i64 y] := by rw [← hw7]; exact Box.made _ _ _
         obtain ⟨w8, hw8⟩ : ∃ w8, w7.alloc (.cells #[.int .i64 (x + size), .int .i64 (y - size)] 42) = w8 := ⟨_, rfl⟩
         have b8 : Below w7.heap.size w7 w8 := by rw [← hw8]; exact on_alloc _ _
         have q7 : w7.cell? ⟨w6.heap.size, 0, none⟩ = some (.int .i64 x) := f7.cell 0
         have q8 : w7.cell? ⟨w6.heap.size, 1, none⟩ = some (.int .i64 y) := f7.cell 1
         have q9 : w7.cell? ⟨w.heap.size, 0, none⟩ = some (.int .i64 size) := ((HZ.out.2.2.2.2.1.on b6).on b7).cell 0
         have hb8 := on_trans (on_trans b6 b7) b8
         have hR := replace_any w8 g m fs (some ⟨b, off, none⟩) n c (HZ.out.2.2.1.on hb8) (fun b => b < w.heap.size ∧ b ≠ g) (HK0.out.on (on_trans HZ.out.2.1 hb8)) (fun b h => h.2) (by omega) z (z + 1) (by omega) (by omega) (some ⟨w7.heap.size, 0, none⟩) 1 1 [(x + size, y - size)] (rd_of_box (by rw [← hw8]; exact Box.made _ _ _) rfl (by decide) trivial) (by omega)
         rw [show ((z + 1 : Nat) : Int) = (z : Int) + 1 by omega] at hR
         have H6 := Lib.hid (And.intro hb8 (And.intro hR (And.intro (HZ.out.2.2.2.2.1.on hb8) (And.intro (HZ.out.2.2.2.1.on hb8) (And.intro (f7.on b8) b6.size)))))
         clear hb8 hR f7 b6 b7 b8)
      | (go_at_call 37
         refine Calls.mono H6.out.2.1 ?_
         rintro e w9 ⟨rfl, m9, k9⟩
         have f1 := k9.box H6.out.2.2.1 (fun e => by have := HG.out; omega)
         have f2 := k9.box H6.out.2.2.2.1 (fun e => by have := HG.out; have := HZ2.out; omega)
         have f3 := k9.box H6.out.2.2.2.2.1 (fun e => by have := HG.out; have := H6.out.2.2.2.2.2; have := HZ.out.2.1.size; omega)
         have u1 := f1.cell 0
         have u2 := f2.cell 0
         have u3 := f2.cell 1
         have u4 := f2.free 0
         have u5 := f2.free 1
         have u6 := f3.cell 0
         simp only [List.getElem?_toArray, List.getElem?_cons_succ, List.getElem?_cons_zero] at u1 u2 u3 u6
         have H9 := Lib.hid (And.intro m9 (And.intro k9 f2))
         clear m9 k9 f1 f2 f3))
    have bz : Box ((w9.setCell ⟨w1.heap.size, 0, none⟩ (.int .i64 x)).setCell ⟨w1.heap.size, 1, none⟩ (.int .i64 size)) w1.heap.size 42 #[.int .i64 x, .int .i64 size] := by
      have := (H9.out.2.2.put 0 (.int .i64 x)).put 1 (.int .i64 size)
      simpa using this
    have z0 := bz.cell 0
    have z1 := bz.cell 1
    simp only [List.getElem?_toArray, List.getElem?_cons_succ, List.getElem?_cons_zero] at z0 z1
    refine bodyPost_ret (v := .tuple #[.agg #[.int .i64 x, .int .i64 size], .int .i64 0]) (by simp [results, Try.results21, go_sem, z0, z1]) rfl ⟨rfl, ?_, ?_⟩
    · obtain ⟨A9, n9, c9, m9, x9⟩ := H9.out.1
      have kk : Kept (fun i => i = w1.heap.size) w9 ((w9.setCell ⟨w1.heap.size, 0, none⟩ (.int .i64 x)).setCell ⟨w1.heap.size, 1, none⟩ (.int .i64 size)) :=
        Kept.setCell (p := ⟨w1.heap.size, 1, none⟩) (Kept.setCell (S := fun i => i = w1.heap.size) (p := ⟨w1.heap.size, 0, none⟩) (Kept.refl _ _) (fun _ => rfl) _) (fun _ => rfl) _
      have hlt := H6.out.2.2.2.1.lt
      refine ⟨A9, n9, c9, kk.box m9.box (by have := HG.out; have := HZ2.out; omega), (x9.kept kk (fun b hb e => by have := HZ2.out; omega)).mono (fun b _ hb e => hb.elim (fun h => h.2 e) (fun h => by have := HG.out; have := HZ.out.2.1.size; have := H6.out.1.size; omega))⟩
    · have kk := ((Kept.of_below (HZ.out.2.1.trans (H6.out.1.mono HZ.out.2.1.size)) (fun i => i = g)).trans H9.out.2.1 (fun _ _ h => h))
      exact Kept.setCell (p := ⟨w1.heap.size, 1, none⟩) (Kept.setCell (S := fun i => i = g) (p := ⟨w1.heap.size, 0, none⟩) kk (fun h => absurd h (by have := HZ2.out; simp only; omega)) _) (fun h => absurd h (by have := HZ2.out; simp only; omega)) _
  · rw [if_neg hlt]
    go_enter Try.func21, Try.ntmps21
    go_wp2_with (first
      | (go_at_call 34
         refine Calls.mono HZ.out.1 ?_
         rintro e w6 ⟨rfl, b6⟩
         have r2 := (HZ.out.2.2.1.box.on b6).cell 1
         have d2 := on_cell HZ.out.2.2.2.2.2.1 b6
         have d3 := on_cell HZ.out.2.2.2.2.2.2 b6
         simp only [List.getElem?_toArray, List.getElem?_cons_succ, List.getElem?_cons_zero] at r2
         obtain ⟨w7, hw7⟩ : ∃ w7, w6.alloc (.cells #[.int .i64 x, .int .i64 y] 42) = w7 := ⟨_, rfl⟩
         have b7 : Below w6.heap.size w6 w7 := by rw [← hw7]; exact on_alloc _ _
         have f7 : Box w7 w6.heap.size 42 #[.int .i64 x, .int .i64 y] := by rw [← hw7]; exact Box.made _ _ _
         have b8 : Below w7.heap.size w7 w7 := Below.refl _ _
         have q7 : w7.cell? ⟨w6.heap.size, 0, none⟩ = some (.int .i64 x) := f7.cell 0
         have q8 : w7.cell? ⟨w6.heap.size, 1, none⟩ = some (.int .i64 y) := f7.cell 1
         have q9 : w7.cell? ⟨w.heap.size, 0, none⟩ = some (.int .i64 size) := ((HZ.out.2.2.2.2.1.on b6).on b7).cell 0
         have hb8 := on_trans (on_trans b6 b7) b8
         have hR := replace_any w7 g m fs (some ⟨b, off, none⟩) n c (HZ.out.2.2.1.on hb8) (fun b => b < w.heap.size ∧ b ≠ g) (HK0.out.on (on_trans HZ.out.2.1 hb8)) (fun b h => h.2) (by omega) z (z + 1) (by omega) (by omega) none 0 0 [] (Rd.nil_ _) (by omega)
         rw [show ((z + 1 : Nat) : Int) = (z : Int) + 1 by omega] at hR
         have H6 := Lib.hid (And.intro hb8 (And.intro hR (And.intro (HZ.out.2.2.2.2.1.on hb8) (And.intro (HZ.out.2.2.2.1.on hb8) (And.intro (f7.on b8) b6.size)))))
         clear hb8 hR f7 b6 b7 b8)
      | (go_at_call 37
         refine Calls.mono H6.out.2.1 ?_
         rintro e w9 ⟨rfl, m9, k9⟩
         have f1 := k9.box H6.out.2.2.1 (fun e => by have := HG.out; omega)
         have f2 := k9.box H6.out.2.2.2.1 (fun e => by have := HG.out; have := HZ2.out; omega)
         have f3 := k9.box H6.out.2.2.2.2.1 (fun e => by have := HG.out; have := H6.out.2.2.2.2.2; have := HZ.out.2.1.size; omega)
         have u1 := f1.cell 0
         have u2 := f2.cell 0
         have u3 := f2.cell 1
         have u4 := f2.free 0
         have u5 := f2.free 1
         have u6 := f3.cell 0
         simp only [List.getElem?_toArray, List.getElem?_cons_succ, List.getElem?_cons_zero] at u1 u2 u3 u6
         have H9 := Lib.hid (And.intro m9 (And.intro k9 f2))
         clear m9 k9 f1 f2 f3))
    have bz : Box ((w9.setCell ⟨w1.heap.size, 0, none⟩ (.int .i64 x)).setCell ⟨w1.heap.size, 1, none⟩ (.int .i64 size)) w1.heap.size 42 #[.int .i64 x, .int .i64 size] := by
      have := (H9.out.2.2.put 0 (.int .i64 x)).put 1 (.int .i64 size)
      simpa using this
    have z0 := bz.cell 0
    have z1 := bz.cell 1
    simp only [List.getElem?_toArray, List.getElem?_cons_succ, List.getElem?_cons_zero] at z0 z1
    refine bodyPost_ret (v := .tuple #[.agg #[.int .i64 x, .int .i64 size], .int .i64 0]) (by simp [results, Try.results21, go_sem, z0, z1]) rfl ⟨rfl, ?_, ?_⟩
    · obtain ⟨A9, n9, c9, m9, x9⟩ := H9.out.1
      have kk : Kept (fun i => i = w1.heap.size) w9 ((w9.setCell ⟨w1.heap.size, 0, none⟩ (.int .i64 x)).setCell ⟨w1.heap.size, 1, none⟩ (.int .i64 size)) :=
        Kept.setCell (p := ⟨w1.heap.size, 1, none⟩) (Kept.setCell (S := fun i => i = w1.heap.size) (p := ⟨w1.heap.size, 0, none⟩) (Kept.refl _ _) (fun _ => rfl) _) (fun _ => rfl) _
      have hlt := H6.out.2.2.2.1.lt
      refine ⟨A9, n9, c9, kk.box m9.box (by have := HG.out; have := HZ2.out; omega), (x9.kept kk (fun b hb e => by have := HZ2.out; omega)).mono (fun b _ hb e => hb.elim (fun h => h.2 e) (fun h => by have := HG.out; have := HZ.out.2.1.size; have := H6.out.1.size; omega))⟩
    · have kk := ((Kept.of_below (HZ.out.2.1.trans (H6.out.1.mono HZ.out.2.1.size)) (fun i => i = g)).trans H9.out.2.1 (fun _ _ h => h))
      exact Kept.setCell (p := ⟨w1.heap.size, 1, none⟩) (Kept.setCell (S := fun i => i = g) (p := ⟨w1.heap.size, 0, none⟩) kk (fun h => absurd h (by have := HZ2.out; simp only; omega)) _) (fun h => absurd h (by have := HZ2.out; simp only; omega)) _
end Go.Proofs.Ytcgajomngcgchaa
