/-
  The contract of a writer's Bytes. The contract of awake.
-/
import Derived.Test.YthfpdebpepbejaaDoorPut
namespace Go.Proofs.YthfpdebpepbejaaDoor
open Go.RowKit

/-- l is the scan bytes of bits L -/
def Scan (L l : List Int) : Prop := ∃ B v c, Fit B ∧ c < 8 ∧ v < 2 ^ c ∧ L = by8 B ++ dig v c ∧ l = stuff (filledUp B v c)
theorem Scan.same {L l l' : List Int} (h : Scan L l) (h' : Scan L l') : l = l' := by
  obtain ⟨B, v, c, h1, h2, h3, h4, rfl⟩ := h
  obtain ⟨B', v', c', g1, g2, g3, g4, rfl⟩ := h'
  obtain ⟨rfl, rfl, rfl⟩ := parts_inj h1 g1 h2 g2 h3 g3 (h4.symm.trans g4)
  rfl
theorem Scan.fit {L l : List Int} (h : Scan L l) : Fit l := by
  obtain ⟨B, v, c, h1, h2, h3, h4, rfl⟩ := h
  exact stuff_fit (fit_filledUp h1 h2 h3)

theorem own_of_box {w : World} {base g n : Nat} {l : List Int} (h : Box w g 5 (cellsOf l).toArray) (hl : l.length = n) (hb : base ≤ g) (hm : n ≤ maxLen) : w.ownsRow base 5 1 (.slice (some ⟨g, 0, none⟩) n n) n (cellsOf l) := by
  refine ⟨by rw [cellsOf_len, hl, Nat.mul_one], .inr ⟨g, n, (cellsOf l).toArray, rfl, hb, h, Nat.le_refl _, hm, by simp [cellsOf_len, hl], ?_⟩⟩
  rw [List.take_of_length_le]
  simp [cellsOf_len, hl]

/-- what Bytes tells -/
def Tells (w : World) (L : List Int) (e : Ending) (w' : World) : Prop := ∃ A m c l, e = .returned (.slice A m c) ∧ Scan L l ∧ Sl w' (fun _ => True) A m c l ∧ Below w.heap.size w w'

set_option maxHeartbeats 400000 in
theorem bytes_nil (w : World) : Calls Tryd.prog 26 #[.pointer none] w fun e w' => e = .returned (.slice none 0 0) ∧ w = w' := by
  go_enter Tryd.func26, Tryd.ntmps26
  go_wp2
  go_ret
  exact ⟨rfl, rfl⟩

set_option maxHeartbeats 800000 in
theorem bytes_any (w : World) (d : Nat) (L : List Int) (h : Wr w d L) : Calls Tryd.prog 26 #[.pointer (some ⟨d, 0, none⟩)] w (Tells w L) := by
  obtain ⟨n, v, c, ⟨op, hb, ho, hf, hv, hL⟩, hc, hn⟩ := h
  have htl : (op.take n).length = n := by rw [List.length_take]; omega
  have HH := Lib.hid (And.intro hb (And.intro ho (And.intro hf (And.intro hv (And.intro hL htl)))))
  clear hb ho hf hv hL htl
  by_cases h0 : c = 0
  · subst h0
    go_enter Tryd.func26, Tryd.ntmps26
    go_wp2_with fail
    refine (all_any w d op n v 0 HH.out.1 HH.out.2.1 (by omega)).mono ?_
    rintro e w1 ⟨rfl, hb1, b1⟩
    have hsl := sl_of_box (K := fun _ => True) hb1 (HH.out.2.2.1.take n) HH.out.2.2.2.2.2 (by unfold maxLen; omega) trivial
    have H1 := Lib.hid (And.intro hsl b1)
    have c1 : w1.cell? ⟨d, 259, none⟩ = some (.int .i64 (0 : Nat)) := ((HH.out.1.on b1).cell 259).trans (cellsW_c HH.out.2.1)
    clear hb1 b1 hsl
    go_wp2_with fail
    refine (stuffed_any w1 _ _ n n (op.take n) H1.out.1 (by omega)).mono ?_
    rintro e w2 ⟨A, c2, rfl, hs2, b2⟩
    have H2 := Lib.hid (And.intro hs2 b2)
    clear hs2 b2
    go_wp2
    go_ret
    exact ⟨A, _, c2, _, rfl, ⟨op.take n, v, 0, HH.out.2.2.1.take n, by omega, HH.out.2.2.2.1, HH.out.2.2.2.2.1, by simp [filledUp]⟩, H2.out.1, on_trans H1.out.2 H2.out.2⟩
  · go_enter Tryd.func26, Tryd.ntmps26
    go_wp2_with fail
    refine (all_any w d op n v c HH.out.1 HH.out.2.1 (by omega)).mono ?_
    rintro e w1 ⟨rfl, hb1, b1⟩
    have hown := own_of_box hb1 HH.out.2.2.2.2.2 (Nat.le_refl _) (by unfold maxLen; omega)
    have H1 := Lib.hid (And.intro hown b1)
    have c1 : w1.cell? ⟨d, 259, none⟩ = some (.int .i64 (c : Int)) := ((HH.out.1.on b1).cell 259).trans (cellsW_c HH.out.2.1)
    have hc0 : (0 : Int) < c := by omega
    clear hb1 b1 hown
    go_wp2_with fail
    refine (filled_any w1 d op n v c (HH.out.1.on H1.out.2) HH.out.2.1 (by omega) HH.out.2.2.2.1).mono ?_
    rintro e w1' ⟨rfl, rfl⟩
    have hfl := fill_lt (show c ≤ 8 by omega) HH.out.2.2.2.1
    obtain ⟨z, hz⟩ : ∃ z, z = fill v c := ⟨_, rfl⟩
    rw [← hz] at hfl ⊢
    have HZ := Lib.hid hz
    clear hz
    go_wp2_with (first
      | (at_builtin; refine wpList_append_sl rfl (.tmp 16) (.tmp 21) rfl w.heap.size (.slice (some ⟨w.heap.size, 0, none⟩) n n) n (op.take n) rfl (H1.out.1.alloc _) _ (some ⟨w1.heap.size, 0, none⟩) 1 1 [(z : Int)] rfl (sl_byte w1 z (by omega) (by omega)) (by omega) (by have := H1.out.2.size; simp; omega) ?_; intro v3 w3 hown3 b3; have hb3 := (H1.out.2.trans ((on_alloc w1 _).mono H1.out.2.size)).trans b3; obtain ⟨A3, c3, rfl, hs3⟩ := sl_of_own hown3 ((HH.out.2.2.1.take n).app (fun y hy => by simp at hy; omega)); have H3 := Lib.hid (And.intro hs3 hb3); clear hown3 b3 hb3 hs3)
      | fail)
    refine (stuffed_any w3 _ _ _ _ _ H3.out.1 (by omega)).mono ?_
    rintro e w4 ⟨A4, c4, rfl, hs4, b4⟩
    have H4 := Lib.hid (And.intro hs4 b4)
    clear hs4 b4
    go_wp2
    go_ret
    refine ⟨A4, _, c4, _, rfl, ⟨op.take n, v, c, HH.out.2.2.1.take n, hc, HH.out.2.2.2.1, HH.out.2.2.2.2.1, ?_⟩, H4.out.1, on_trans H3.out.2 H4.out.2⟩
    rw [filledUp, if_neg h0, HZ.out]
end Go.Proofs.YthfpdebpepbejaaDoor

namespace Go.Proofs.YthfpdebpepbejaaDoor
open Go.RowKit

/-- what awake answers -/
def Awake (w : World) (e : Ending) (w' : World) : Prop := e = .returned (.bool true) ∧ Below w.heap.size w w'

theorem awake_scan {l : List Int} (h : Scan (putL (putL [] 255 8) 0 1) l) : strOfNums l = ⟨#[255, 0, 127]⟩ := by
  have h2 : Scan (putL (putL [] 255 8) 0 1) [255, 0, 127] := ⟨[255], 0, 1, (fun z hz => by simp at hz; omega), by omega, by omega, by decide, by decide⟩
  rw [h.same h2]
  rfl

end Go.Proofs.YthfpdebpepbejaaDoor
