/-
  Values and One, the program's and the reference's.
-/
import Derived.Test.YtnakfdaneejcfaaAwk
import Derived.Lib.SliceRun
namespace Go.Proofs.Ytnakfdaneejcfaa
open Go.RowKit

theorem empty_own (w : World) {e size : Nat} : (w.alloc (.cells #[] e)).ownsRow w.heap.size e size (.slice (some ⟨w.heap.size, 0, none⟩) 0 0) 0 [] :=
  World.ownsRow_lit w #[] 0 (Nat.le_refl _) (Nat.zero_le _) (by simp)
theorem rd_of_il {w : World} {A : Option Addr} {n c : Nat} {xs : List Int} (h : Il w A n c xs) : Rd 1 (fun _ => True) w A n c (cellsI xs) := by
  refine ⟨by rw [cellsI_len, h.len]; omega, h.cap, h.max, h.nil, fun h0 => ?_⟩
  obtain ⟨b, off, e, hb, hc⟩ := h.at_ h0
  refine ⟨b, off, e, hb, trivial, fun i hi => ?_⟩
  have hi2 : i < xs.length := by rw [h.len]; omega
  rw [hc i (by omega)]
  simp [cellsI, List.getD_eq_getElem?_getD, List.getElem?_eq_getElem hi2]
/-- a row of ints of one's own, in new memory -/
def OwnI (w : World) (xs : List Int) (r : Ending) (w' : World) : Prop := ∃ v, r = .returned v ∧ w'.ownsRow w.heap.size 3 1 v xs.length (cellsI xs) ∧ Below w.heap.size w w'
set_option maxHeartbeats 800000 in
theorem cloneI_any (w : World) (A : Option Addr) (n c : Nat) (xs : List Int) (hx : Il w A n c xs) (hn : n ≤ 10000) : Calls Try.prog 21 #[.slice A n c] w (OwnI w xs) := by
  have hl := hx.len
  have hq := fun (w : World) (a : Option Addr) (n c : Nat) => Lib.run_eql_slice_nil (P := Try.prog) w 25 3 a n c 0 0 Try.underlying25
  cases A with
  | none =>
    have hc := hx.nil rfl
    have hcap := hx.cap
    obtain rfl : n = 0 := by omega
    subst hc
    obtain rfl : xs = [] := List.eq_nil_of_length_eq_zero hl
    clear hx hl hn hcap
    go_enter Try.func21, Try.ntmps21
    go_wp2
    go_ret
    exact ⟨_, rfl, World.ownsRow_nil _ _ _ _, Below.refl _ _⟩
  | some ad =>
    have HX := Lib.hid (And.intro hl hx)
    clear hl hx
    go_enter Try.func21, Try.ntmps21
    go_wp2_with (first
      | ((with_reducible refine wpList_append_own3 (o := ⟨some 7, _, _, _, _, _⟩) el_int rfl (.tmp 5) (.tmp 6) rfl w.heap.size (.slice (some ⟨w.heap.size, 0, none⟩) 0 0) 0 [] rfl (empty_own w) _ (some ad) n c (cellsI xs) rfl (rd_of_il (HX.out.2.on (on_alloc _ _))) (cellsI_one _) (by omega) (by simp) ?_)
         intro v' w1 hown hk _
         have H1 := Lib.hid (And.intro hown hk)
         clear hown hk)
      | fail)
    go_ret
    obtain ⟨h1, h2⟩ := H1.out
    rw [Nat.zero_add, List.nil_append] at h1
    exact ⟨_, rfl, by rw [HX.out.1]; exact h1, below_kept (on_alloc _ _) (by simp) h2 (fun i e => by have h9 : w.heap.size = i := (by simpa [Value.ownBlock] using e); omega)⟩
/-- the first field of a tag -/
def Found (l : List Fd) (tag : Int) (i : Nat) : Prop := i < l.length ∧ (l.getD i fd0).t = tag ∧ ∀ j, j < i → (l.getD j fd0).t ≠ tag
def Lacks (l : List Fd) (tag : Int) : Prop := ∀ j, j < l.length → (l.getD j fd0).t ≠ tag
theorem found_or (l : List Fd) (tag : Int) : (∃ i, Found l tag i) ∨ Lacks l tag := by
  have : ∀ n, n ≤ l.length → (∃ i, Found l tag i) ∨ ∀ j, j < n → (l.getD j fd0).t ≠ tag := by
    intro n
    induction n with
    | zero => intro _; exact .inr (fun j hj => by omega)
    | succ n ih =>
      intro hn
      rcases ih (by omega) with h | h
      · exact .inl h
      · by_cases ht : (l.getD n fd0).t = tag
        · exact .inl ⟨n, by omega, ht, h⟩
        · refine .inr (fun j hj => ?_)
          rcases Nat.lt_or_ge j n with hj2 | hj2
          · exact h j hj2
          · obtain rfl : j = n := by omega
            exact ht
  exact this l.length (Nat.le_refl _)
def ValsNone (w : World) (r : Ending) (w' : World) : Prop := r = .returned (.tuple #[.slice none 0 0, .int .i64 15]) ∧ Below w.heap.size w w'
def ValsSome (xs : List Int) (w : World) (r : Ending) (w' : World) : Prop := ∃ A c, r = .returned (.tuple #[.slice A xs.length c, .int .i64 0]) ∧ w'.ownsRow w.heap.size 3 1 (.slice A xs.length c) xs.length (cellsI xs) ∧ Below w.heap.size w w'
section
variable (A : Option Addr) (n c : Nat) (l : List Fd) (tag : Int) (w : World) (hx : Fl w A n c l)
include hx
set_option maxHeartbeats 1600000 in
theorem vals_none (hN : Lacks l tag) : Calls Try.prog 9 #[.slice A n c, .int .i64 tag] w (ValsNone w) := by
  have hmax := hx.max
  have hcap := hx.cap
  unfold maxLen at hmax
  have H0 := Lib.hid (And.intro hx (And.intro hx.len hN))
  clear hx hN
  go_enter Try.func9, Try.ntmps9
  go_wp2_with fail
  go_loopw [7, 10] (fun _ i wr => ∃ j : Nat, j ≤ n ∧ i = .int .i64 (j : Int) ∧ Below w.heap.size w wr) (fun _ i _ => n - (intOf i).toNat)
  case atStart => exact ⟨0, by omega, rfl, Below.refl _ _⟩
  case round =>
    obtain ⟨j, hj, rfl, hb⟩ := hrel
    have HB := Lib.hid hb
    clear hb
    by_cases hjn : j < n
    · obtain ⟨b, off, rfl, hbs, d0, d1, d2, -⟩ := (H0.out.1.on HB.out).at_ j hjn
      obtain ⟨t, k, fA, fn, fc, fx, hf⟩ : ∃ t k fA fn fc fx, l.getD j fd0 = ⟨t, k, fA, fn, fc, fx⟩ := ⟨_, _, _, _, _, _, rfl⟩
      have hne := H0.out.2.2 j (by rw [H0.out.2.1]; exact hjn)
      rw [hf] at d0 d1 d2 hne
      simp only at d0 d1 d2 hne
      obtain ⟨w6, hw6⟩ : ∃ w6, wr.alloc (.cells #[.int .i64 t, .int .i64 k, .slice fA fn fc] 48) = w6 := ⟨_, rfl⟩
      have b6 : Below wr.heap.size wr w6 := by rw [← hw6]; exact on_alloc _ _
      have c0 : w6.cell? ⟨wr.heap.size, 0, none⟩ = some (.int .i64 t) := by rw [← hw6]; exact (Box.made _ _ _).cell 0
      have H6 := Lib.hid (on_trans HB.out b6)
      clear hf b6
      go_wp2_with fail
      go_roundw
      case rel => exact ⟨j + 1, by omega, by go_num, H6.out⟩
      case measure => simp [intOf]; omega
    · go_wp2_with fail
      exact bodyPost_ret (v := .tuple #[.slice none 0 0, .int .i64 15]) (by simp [results, Try.results9, go_sem]) rfl ⟨rfl, HB.out⟩
set_option maxHeartbeats 1600000 in
theorem vals_some (i0 : Nat) (hF : Found l tag i0) (hn6 : (l.getD i0 fd0).n ≤ 10000) : Calls Try.prog 9 #[.slice A n c, .int .i64 tag] w (ValsSome (l.getD i0 fd0).xs w) := by
  have hmax := hx.max
  have hcap := hx.cap
  unfold maxLen at hmax
  have hi0 : i0 < n := by rw [← hx.len]; exact hF.1
  have H0 := Lib.hid (And.intro hx (And.intro hF hn6))
  clear hx hF hn6
  go_enter Try.func9, Try.ntmps9
  go_wp2_with fail
  go_loopw [7, 10] (fun _ i wr => ∃ j : Nat, j ≤ i0 ∧ i = .int .i64 (j : Int) ∧ Below w.heap.size w wr) (fun _ i _ => n - (intOf i).toNat)
  case atStart => exact ⟨0, by omega, rfl, Below.refl _ _⟩
  case round =>
    obtain ⟨j, hj, rfl, hb⟩ := hrel
    have HB := Lib.hid hb
    clear hb
    have hjn : j < n := by omega
    obtain ⟨b, off, rfl, hbs, d0, d1, d2, hil⟩ := (H0.out.1.on HB.out).at_ j hjn
    obtain ⟨t, k, fA, fn, fc, fx, hf⟩ : ∃ t k fA fn fc fx, l.getD j fd0 = ⟨t, k, fA, fn, fc, fx⟩ := ⟨_, _, _, _, _, _, rfl⟩
    have hHF := H0.out.2
    rw [hf] at d0 d1 d2 hil
    simp only at d0 d1 d2 hil
    obtain ⟨w6, hw6⟩ : ∃ w6, wr.alloc (.cells #[.int .i64 t, .int .i64 k, .slice fA fn fc] 48) = w6 := ⟨_, rfl⟩
    have b6 : Below wr.heap.size wr w6 := by rw [← hw6]; exact on_alloc _ _
    have c0 : w6.cell? ⟨wr.heap.size, 0, none⟩ = some (.int .i64 t) := by rw [← hw6]; exact (Box.made _ _ _).cell 0
    have c2 : w6.cell? ⟨wr.heap.size, 2, none⟩ = some (.slice fA fn fc) := by rw [← hw6]; exact (Box.made _ _ _).cell 2
    have H6 := Lib.hid (on_trans HB.out b6)
    by_cases hji : j < i0
    · have hne := hHF.1.2.2 j hji
      rw [hf] at hne
      simp only at hne
      clear hf b6 hHF hil
      go_wp2_with fail
      go_roundw
      case rel => exact ⟨j + 1, by omega, by go_num, H6.out⟩
      case measure => simp [intOf]; omega
    · obtain rfl : j = i0 := by omega
      have heq := hHF.1.2.1
      have hfn := hHF.2
      rw [hf] at heq hfn
      simp only at heq hfn
      subst heq
      have HC := Lib.hid (cloneI_any w6 fA fn fc fx (hil.on b6) hfn)
      have HF := Lib.hid hf
      clear hf b6 hHF hil hfn
      go_wp2_with (go_at_call 21
                   refine HC.out.mono ?_
                   rintro e w7 ⟨v7, rfl, hown, b7⟩
                   have H7 := Lib.hid (And.intro hown b7)
                   clear hown b7)
      obtain ⟨A7, c7, hv7, _⟩ := rd_of_own H7.out.1
      subst hv7
      refine bodyPost_ret (v := .tuple #[.slice A7 fx.length c7, .int .i64 0]) (by simp [results, Try.results9, go_sem]) rfl ?_
      refine ⟨A7, c7, by rw [HF.out], ?_, on_trans H6.out H7.out.2⟩
      rw [HF.out]
      have h8 := H7.out.1
      refine ⟨h8.1, h8.2.imp id ?_⟩
      rintro ⟨g, cap, cur, e1, e2, e3⟩
      exact ⟨g, cap, cur, e1, Nat.le_trans H6.out.size e2, e3⟩
end
end Go.Proofs.Ytnakfdaneejcfaa
