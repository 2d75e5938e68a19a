/-
  The contract of base, the reference's.
-/
import Derived.Test.YtambeekkgbbfnaaDoorMoves
namespace Go.Proofs.YtambeekkgbbfnaaDoor
open Go.RowKit

/-- what base tells -/
def Based (w : World) (c : Bool) (e : Ending) (w' : World) : Prop := ∃ A n, e = .returned (.slice A 64 n) ∧ Il w' A 64 n (baseL c) ∧ (∀ b off, A = some ⟨b, off, none⟩ → w.heap.size ≤ b) ∧ Below w.heap.size w w'
theorem il_of_box {w : World} {b n : Nat} {l : List Int} (h : Box w b 3 (cellsI l).toArray) (hl : l.length = n) (hm : n ≤ maxLen) : Il w (some ⟨b, 0, none⟩) n n l := by
  refine ⟨hl, Nat.le_refl _, hm, (fun e => by cases e), (fun b off e => by cases e; exact ⟨_, _, h⟩), fun _ => ⟨b, 0, rfl, h.lt, fun i hi => ?_⟩⟩
  rw [Nat.zero_add, h.cell i]
  simp [cellsI, List.getD_eq_getElem?_getD, List.getElem?_eq_getElem (show i < l.length by omega)]

set_option maxRecDepth 10000 in
set_option maxHeartbeats 3200000 in
theorem base_bright (w : World) : Calls Tryd.prog 22 #[.bool false] w (Based w false) := by
  have hb := il_of_box (w := w.alloc (.cells (cellsI brightL).toArray 3)) (n := 64) (Box.made w 3 (cellsI brightL).toArray) rfl (by decide)
  have H := Lib.hid hb
  clear hb
  go_enter Tryd.func22, Tryd.ntmps22
  go_wp2_with fail
  go_ret
  exact ⟨_, _, rfl, H.out, fun b off e => by cases e; exact Nat.le_refl _, on_alloc _ _⟩

theorem own_of_box {w : World} {base g n : Nat} {l : List Int} (h : Box w g 3 (cellsI l).toArray) (hl : l.length = n) (hb : base ≤ g) (hm : n ≤ maxLen) : w.ownsRow base 3 1 (.slice (some ⟨g, 0, none⟩) n n) n (cellsI l) := by
  refine ⟨by rw [cellsI_len, hl, Nat.mul_one], .inr ⟨g, n, (cellsI l).toArray, rfl, hb, h, Nat.le_refl _, hm, by simp [cellsI_len, hl], ?_⟩⟩
  rw [List.take_of_length_le]
  simp [cellsI_len, hl]
theorem il_one (w : World) (z : Int) : Il (w.alloc (.cells #[.int .i64 z] 3)) (some ⟨w.heap.size, 0, none⟩) 1 1 [z] := il_of_box (l := [z]) (Box.made w 3 _) rfl (by decide)
theorem colour_tail : ∀ n, n < 64 → 26 ≤ n → colourL.getD n 0 = 99 := by decide
theorem colour_more {n : Nat} (h0 : 26 ≤ n) (h1 : n < 64) : colourL.take n ++ [99] = colourL.take (n + 1) := by
  have hl : colourL.length = 64 := rfl
  rw [List.take_succ_eq_append_getElem (by omega)]
  have := colour_tail n h1 h0
  rw [List.getD_eq_getElem?_getD, List.getElem?_eq_getElem (by omega)] at this
  rw [show colourL[n] = 99 from this]
/-- how long a slice is -/
def lenOf (v : Value) : Nat := match v with
  | .slice _ n _ => n
  | _ => 0

set_option maxRecDepth 10000 in
set_option maxHeartbeats 3200000 in
theorem base_colour (w : World) : Calls Tryd.prog 22 #[.bool true] w (Based w true) := by
  have hb := own_of_box (w := w.alloc (.cells (cellsI (colourL.take 26)).toArray 3)) (base := w.heap.size) (n := 26) (Box.made w 3 _) rfl (Nat.le_refl _) (by decide)
  have H := Lib.hid hb
  clear hb
  go_enter Tryd.func22, Tryd.ntmps22
  go_wp2_with fail
  go_loopw [3] (fun v wr => ∃ n : Nat, 26 ≤ n ∧ n ≤ 64 ∧ wr.ownsRow w.heap.size 3 1 v n (cellsI (colourL.take n)) ∧ Below w.heap.size w wr) (fun v _ => 64 - lenOf v)
  case atStart => exact ⟨26, by omega, by omega, H.out, on_alloc _ _⟩
  case round =>
    obtain ⟨n, h0, h1, hown, hbel⟩ := hrel
    obtain ⟨A, c, rfl⟩ := own_slice hown
    have HR := Lib.hid (And.intro hown hbel)
    clear hown hbel
    by_cases hlt : n < 64
    · obtain ⟨N, hN⟩ : ∃ N, N = n := ⟨_, rfl⟩
      go_wp2_with (first
        | (at_builtin; refine wpList_append_il rfl (.tmp 9) (.tmp 10) rfl w.heap.size _ n (colourL.take n) rfl (HR.out.1.alloc _) (some ⟨wr.heap.size, 0, none⟩) 1 1 [99] rfl (il_one wr _) (by omega) (by have := HR.out.2.size; simp; omega) ?_; intro v6 w6 hown6 b6; have H6 := Lib.hid (And.intro hown6 ((HR.out.2.trans ((on_alloc _ _).mono HR.out.2.size)).trans b6)); clear hown6 b6)
        | fail)
      have hl : lenOf v6 = n + 1 := by
        obtain ⟨A', c', e⟩ := own_slice H6.out.1
        rw [e]; rfl
      refine ⟨⟨n + 1, by omega, by omega, by rw [← colour_more h0 hlt]; exact H6.out.1, H6.out.2⟩, ?_⟩
      rw [hl]
      show 64 - (n + 1) < 64 - n
      omega
    · obtain rfl : n = 64 := by omega
      go_wp2_with fail
      go_ret
      obtain ⟨A', c', e, hI, hlo⟩ := il_of_own HR.out.1
      cases e
      exact ⟨_, _, rfl, hI, hlo, HR.out.2⟩
theorem base_any (w : World) (c : Bool) : Calls Tryd.prog 22 #[.bool c] w (Based w c) := by
  cases c
  · exact base_bright w
  · exact base_colour w

end Go.Proofs.YtambeekkgbbfnaaDoor
