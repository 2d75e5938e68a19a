/-
  CursorBack: the functions that read, and their Try.
-/
import Derived.Test.YthjnknhdnogaeaaRefPut
namespace Go.Proofs.Ythjnknhdnogaeaa
open Go.RowKit

theorem calls27 (args : Array Value) (w : World) : (callFunc 27 args).run Try.prog w = .ok (.enter 27 args) w := by kernel_rfl
theorem calls28 (args : Array Value) (w : World) : (callFunc 28 args).run Try.prog w = .ok (.enter 28 args) w := by kernel_rfl

def okWidth (m : Nat) : Prop := decide ((m : Int) = 1 ∨ (m : Int) = 2 ∨ (m : Int) = 4 ∨ (m : Int) = 8) = true

section
variable (w : World) (g s : Nat) (A : Option Addr) (n c : Nat) (big : Bool) (vw vk m : Nat) (x : Value)

/-- what a function that reads one number has done -/
def ReadOne (w : World) (g vk : Nat) (v : Int) (e : Ending) (w' : World) : Prop :=
  e = .returned (.tuple #[]) ∧ Kept (fun i => i = vk ∨ i = g) w w' ∧ Box w' vk 3 #[.int .i64 v]

set_option maxHeartbeats 400000 in
theorem read28 (K : Nat → Prop) (l : List Int) (v : Int) (h : Cur w g s A n c big 0) (hl : Sl w K A n c l) (hm : okWidth m) (hmn : m ≤ n) (ev : val big (l.take m) = v) (hv : v ≤ 9223372036854775807)
    (hw : Box w vw 3 #[.int .i64 m]) (hk : Box w vk 3 #[x]) :
    Calls Try.prog 28 #[.pointer (some ⟨g, 0, none⟩), .pointer (some ⟨vw, 0, none⟩), .pointer (some ⟨vk, 0, none⟩)] w (ReadOne w g vk v) := by
  have cw : w.cell? ⟨vw, 0, none⟩ = some (.int .i64 m) := hw.cell 0
  have hcall := Lib.hid (number_ok w g s A n c big 0 m l K v h hm (by omega) hl.cap hl.max hl.len hl.bts (by rw [List.drop_zero]; exact ev) hv)
  have hkg : vk ≠ g := hk.apart h.own (by decide)
  have HK := Lib.hid hk
  clear hw hk h hl
  go_enter Try.func28, Try.ntmps28
  go_wp2_with fail
  refine hcall.out.mono ?_
  rintro e w1 ⟨rfl, k, rfl⟩
  have k1 : Kept (fun i => i = vk ∨ i = g) w ((w.drewN k).setCell ⟨g, 1, none⟩ (.int .i64 ((0 + m : Nat) : Int))) := ((Kept.refl (fun i => i = vk ∨ i = g) w).drewN k).setCell (p := ⟨g, 1, none⟩) (fun _ => .inr rfl) _
  have b1 : Box ((w.drewN k).setCell ⟨g, 1, none⟩ (.int .i64 ((0 + m : Nat) : Int))) vk 3 #[x] := (HK.out.drewN k).beside (p := ⟨g, 1, none⟩) hkg _
  obtain ⟨W, hW⟩ : ∃ W, W = (w.drewN k).setCell ⟨g, 1, none⟩ (.int .i64 ((0 + m : Nat) : Int)) := ⟨_, rfl⟩
  rw [← hW] at k1 b1 ⊢
  have cb : W.cell? ⟨vk, 0, none⟩ = some x := b1.cell 0
  have fb := b1.free 0
  have HB := Lib.hid (And.intro k1 b1)
  clear hW k1 b1 hcall cw HK
  go_wp2
  go_end0
  exact ⟨rfl, HB.out.1.setCell (p := ⟨vk, 0, none⟩) (fun _ => .inl rfl) _, by simpa using HB.out.2.put 0 (.int .i64 v)⟩

set_option maxHeartbeats 400000 in
theorem short28 (h : Cur w g s A n c big 0) (hm : okWidth m) (hmn : n < m) (hn : n ≤ 9223372036854775807) (hw : Box w vw 3 #[.int .i64 m]) :
    Calls Try.prog 28 #[.pointer (some ⟨g, 0, none⟩), .pointer (some ⟨vw, 0, none⟩), .pointer (some ⟨vk, 0, none⟩)] w fun e w' => e = .panicked (gaveUp s 3) ∧ ∃ k, w' = w.drewN k := by
  have cw : w.cell? ⟨vw, 0, none⟩ = some (.int .i64 m) := hw.cell 0
  have hcall := Lib.hid (number_short w g s A n c big 0 m h hm (by omega) hn (by omega))
  clear hw h
  go_enter Try.func28, Try.ntmps28
  go_wp2_with fail
  refine hcall.out.mono ?_
  rintro e w1 ⟨rfl, k, rfl⟩
  exact ⟨rfl, rfl, ⟨_, rfl⟩⟩

set_option maxHeartbeats 400000 in
theorem range28 (K : Nat → Prop) (l : List Int) (v : Int) (h : Cur w g s A n c big 0) (hl : Sl w K A n c l) (hm : okWidth m) (hmn : m ≤ n) (ev : val big (l.take m) = v) (hv : 9223372036854775807 < v)
    (hw : Box w vw 3 #[.int .i64 m]) :
    Calls Try.prog 28 #[.pointer (some ⟨g, 0, none⟩), .pointer (some ⟨vw, 0, none⟩), .pointer (some ⟨vk, 0, none⟩)] w fun e w' => e = .panicked (gaveUp s 2) ∧ ∃ k, w' = w.drewN k := by
  have cw : w.cell? ⟨vw, 0, none⟩ = some (.int .i64 m) := hw.cell 0
  have hcall := Lib.hid (number_range w g s A n c big 0 m l K v h hm (by omega) hl.cap hl.max hl.len hl.bts (by rw [List.drop_zero]; exact ev) hv)
  clear hw h hl
  go_enter Try.func28, Try.ntmps28
  go_wp2_with fail
  refine hcall.out.mono ?_
  rintro e w1 ⟨rfl, k, rfl⟩
  exact ⟨rfl, rfl, ⟨_, rfl⟩⟩

set_option maxHeartbeats 400000 in
theorem read27 (K : Nat → Prop) (l : List Int) (v : Int) (h : Cur w g s A m c big 0) (hl : Sl w K A m c l) (hm : okWidth m) (ev : val big l = v) (hv : v ≤ 9223372036854775807)
    (hw : Box w vw 3 #[.int .i64 m]) (hk : Box w vk 3 #[x]) :
    Calls Try.prog 27 #[.pointer (some ⟨g, 0, none⟩), .pointer (some ⟨vw, 0, none⟩), .pointer (some ⟨vk, 0, none⟩)] w (ReadOne w g vk v) := by
  have cw : w.cell? ⟨vw, 0, none⟩ = some (.int .i64 m) := hw.cell 0
  have hcall := Lib.hid (number_ok w g s A m c big 0 m l K v h hm (by omega) hl.cap hl.max hl.len hl.bts (by rw [List.drop_zero, List.take_of_length_le (by rw [hl.len]; exact Nat.le_refl _)]; exact ev) hv)
  have hkg : vk ≠ g := hk.apart h.own (by decide)
  have hks : s ≠ vk := h.src.apart hk (by decide)
  have hm8 : m ≤ 8 := by have := of_decide_eq_true hm; omega
  have HK := Lib.hid (And.intro hk h)
  clear hw hk h hl
  go_enter Try.func27, Try.ntmps27
  go_wp2_with fail
  refine hcall.out.mono ?_
  rintro e w1 ⟨rfl, k, rfl⟩
  have k1 : Kept (fun i => i = vk ∨ i = g) w ((w.drewN k).setCell ⟨g, 1, none⟩ (.int .i64 ((0 + m : Nat) : Int))) := ((Kept.refl (fun i => i = vk ∨ i = g) w).drewN k).setCell (p := ⟨g, 1, none⟩) (fun _ => .inr rfl) _
  have b1 : Box ((w.drewN k).setCell ⟨g, 1, none⟩ (.int .i64 ((0 + m : Nat) : Int))) vk 3 #[x] := (HK.out.1.drewN k).beside (p := ⟨g, 1, none⟩) hkg _
  have u1 : Cur ((w.drewN k).setCell ⟨g, 1, none⟩ (.int .i64 ((0 + m : Nat) : Int))) g s A m c big (0 + m) := (HK.out.2.drewN k).moved (0 + m)
  obtain ⟨W, hW⟩ : ∃ W, W = (w.drewN k).setCell ⟨g, 1, none⟩ (.int .i64 ((0 + m : Nat) : Int)) := ⟨_, rfl⟩
  rw [← hW] at k1 b1 u1 ⊢
  have cb : W.cell? ⟨vk, 0, none⟩ = some x := b1.cell 0
  have fb := b1.free 0
  have u2 : Cur (W.setCell ⟨vk, 0, none⟩ (.int .i64 v)) g s A m c big m := by
    rw [Nat.zero_add] at u1
    exact ⟨u1.own.beside (p := ⟨vk, 0, none⟩) (fun e => hkg e.symm) _, u1.src.beside (p := ⟨vk, 0, none⟩) hks _⟩
  have HB := Lib.hid (And.intro k1 (And.intro b1 u2))
  clear hW k1 b1 u1 u2 hcall cw HK
  go_wp2_with fail
  refine (end_ok _ g s A m c big HB.out.2.2 (by omega)).mono ?_
  rintro e w2 ⟨rfl, k2, rfl⟩
  go_wp2
  go_end0
  exact ⟨rfl, (HB.out.1.setCell (p := ⟨vk, 0, none⟩) (fun _ => .inl rfl) _).drewN k2, by simpa using (HB.out.2.1.put 0 (.int .i64 v)).drewN k2⟩
end

/-- what a Try of a function that reads one number answers -/
def OneRead (w : World) (vk : Nat) (x : Value) (err : Int) (v : Int) (e : Ending) (w' : World) : Prop :=
  e = .returned (.int .i64 err) ∧ Kept (fun i => i = vk) w w' ∧ Box w' vk 3 #[if err = 0 then .int .i64 v else x]

section
variable (w : World) (A : Option Addr) (n c : Nat) (big : Bool) (vw vk m : Nat) (x : Value)

theorem try27 (K : Nat → Prop) (l : List Int) (v : Int) (hl : Sl w K A m c l) (hm : okWidth m) (ev : val big l = v) (hv : v ≤ 9223372036854775807) (hw : Box w vw 3 #[.int .i64 m]) (hk : Box w vk 3 #[x]) :
    Calls Try.prog 14 #[.slice A m c, .bool big, .func (.func 27) #[] #[.pointer (some ⟨vw, 0, none⟩), .pointer (some ⟨vk, 0, none⟩)]] w (OneRead w vk x 0 v) := by
  have ko := opened_kept w A m c big (fun _ => False)
  have hlt := hk.lt
  have h := try_ret_kept w A m c big 27 #[.pointer (some ⟨vw, 0, none⟩), .pointer (some ⟨vk, 0, none⟩)] calls27 (fun i => i = vk) (fun i e => by omega) (fun w1 => Box w1 vk 3 #[.int .i64 v])
    (read27 _ _ _ A c big vw vk m x K l v (opened_cur w A m c big) (hl.kept ko (fun _ _ h => h)) hm ev hv (ko.box hw (fun h => h)) (ko.box hk (fun h => h)))
  refine h.mono ?_
  rintro e w' ⟨rfl, hk', w1, q1, hk1⟩
  exact ⟨rfl, hk', hk1.box q1 (by omega)⟩

theorem try28_ok (K : Nat → Prop) (l : List Int) (v : Int) (hl : Sl w K A n c l) (hm : okWidth m) (hmn : m ≤ n) (ev : val big (l.take m) = v) (hv : v ≤ 9223372036854775807) (hw : Box w vw 3 #[.int .i64 m]) (hk : Box w vk 3 #[x]) :
    Calls Try.prog 14 #[.slice A n c, .bool big, .func (.func 28) #[] #[.pointer (some ⟨vw, 0, none⟩), .pointer (some ⟨vk, 0, none⟩)]] w (OneRead w vk x 0 v) := by
  have ko := opened_kept w A n c big (fun _ => False)
  have hlt := hk.lt
  have h := try_ret_kept w A n c big 28 #[.pointer (some ⟨vw, 0, none⟩), .pointer (some ⟨vk, 0, none⟩)] calls28 (fun i => i = vk) (fun i e => by omega) (fun w1 => Box w1 vk 3 #[.int .i64 v])
    (read28 _ _ _ A n c big vw vk m x K l v (opened_cur w A n c big) (hl.kept ko (fun _ _ h => h)) hm hmn ev hv (ko.box hw (fun h => h)) (ko.box hk (fun h => h)))
  refine h.mono ?_
  rintro e w' ⟨rfl, hk', w1, q1, hk1⟩
  exact ⟨rfl, hk', hk1.box q1 (by omega)⟩

theorem try28_up (err : Int) (he : err ≠ 0) (hk : Box w vk 3 #[x])
    (h : Calls Try.prog 28 #[.pointer (some ⟨w.heap.size + 1 + 1 + 1, 0, none⟩), .pointer (some ⟨vw, 0, none⟩), .pointer (some ⟨vk, 0, none⟩)] (opened w A n c big) fun e w' => e = .panicked (gaveUp (w.heap.size + 1) err) ∧ ∃ k, w' = (opened w A n c big).drewN k) :
    Calls Try.prog 14 #[.slice A n c, .bool big, .func (.func 28) #[] #[.pointer (some ⟨vw, 0, none⟩), .pointer (some ⟨vk, 0, none⟩)]] w (OneRead w vk x err 0) := by
  have ko := opened_kept w A n c big (fun _ => False)
  have hlt := hk.lt
  have h := try_up_kept w A n c big 28 #[.pointer (some ⟨vw, 0, none⟩), .pointer (some ⟨vk, 0, none⟩)] calls28 (fun i => i = vk) (fun i e => by omega) (fun w1 => Box w1 vk 3 #[x]) err
    (h.mono (by
      rintro e w1 ⟨rfl, k, rfl⟩
      exact ⟨rfl, (Kept.refl _ _).drewN k, (ko.box hk (fun h => h)).drewN k⟩))
  refine h.mono ?_
  rintro e w' ⟨rfl, hk', w1, q1, hk1⟩
  refine ⟨rfl, hk', ?_⟩
  rw [if_neg he]
  exact hk1.box q1 (by omega)
end

theorem sl_nil (w : World) : Sl w (fun _ => True) none 0 0 [] := ⟨⟨(fun z hz => by cases hz), fun h0 => absurd h0 (by simp)⟩, rfl, Nat.le_refl _, Nat.zero_le _, fun _ => rfl⟩
theorem put_nil (w : World) (v : Int) (m : Nat) (big : Bool) (hm : okWidth m) (hv : v ≤ 9223372036854775807) : Calls Try.prog 12 #[.slice none 0 0, .int .i64 v, .int .i64 m, .bool big] w (Owned w m (told (max v 0) m big)) := by
  have h := put_any w _ none 0 0 [] v m big (sl_nil w) (by omega) hv
  have e : width (m : Int) = m := by unfold width; rw [if_pos (of_decide_eq_true hm)]; simp
  rw [e, Nat.zero_add, List.nil_append] at h
  exact h

/-- a number's bytes, told again, are the bytes -/
theorem told_le (l : List Int) (h : Fit l) : ∀ a : Nat, a = l.length → told (le l) a false = l := by
  induction l with
  | nil => intro a ha; subst ha; rfl
  | cons z r ih =>
    intro a ha
    subst ha
    have hz := h z (by simp)
    have hr := ih (fun y hy => h y (by simp [hy])) r.length rfl
    simp only [told, List.length_cons, List.range_succ_eq_map, List.map_cons, List.map_map, Bool.false_eq_true, if_false] at hr ⊢
    have e0 : byteAt (le (z :: r)) 0 = z := by
      simp only [byteAt, le, Int.pow_zero, Int.ediv_one]
      omega
    rw [e0]
    congr 1
    refine Eq.trans ?_ hr
    refine List.map_congr_left fun i _ => ?_
    simp only [Function.comp, byteAt, le]
    rw [Int.pow_succ, Int.mul_comm ((256 : Int) ^ i) 256, ← Int.ediv_ediv_of_nonneg (show (0 : Int) ≤ 256 by omega), show (z + 256 * le r) / 256 = le r from by omega]

theorem told_val (big : Bool) (l : List Int) (h : Fit l) : told (val big l) l.length big = l := by
  cases big
  · exact told_le l h _ rfl
  · simp only [val, if_true]
    rw [told_rev, be_is, told_le l.reverse h.rev l.length (by simp), List.reverse_reverse]

end Go.Proofs.Ythjnknhdnogaeaa
