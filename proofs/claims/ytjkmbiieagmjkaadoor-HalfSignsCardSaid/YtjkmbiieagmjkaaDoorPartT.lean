/-
  The contracts of Part, of the reference's Parts, and of within.
-/
import Derived.Test.YtjkmbiieagmjkaaDoorFours
namespace Go.Proofs.YtjkmbiieagmjkaaDoor
open Go.RowKit

/-- what Part answers -/
def partF (h u i : Int) : Int := if (0 ≤ h ∧ h < 2) ∧ (0 ≤ u ∧ u < 8) ∧ 0 ≤ i ∧ i < 4 then hv h.toNat u.toNat i.toNat else 0
def Parted (w : World) (h u i : Int) (e : Ending) (w' : World) : Prop := e = .returned (.int .i64 (partF h u i)) ∧ w = w'
set_option maxHeartbeats 1600000 in
theorem part_any (w : World) (h u i : Int) (hT : Tab w) (hh : isInt h) (hu : isInt u) (hi : isInt i) : Calls Tryd.prog 12 #[.int .i64 h, .int .i64 u, .int .i64 i] w (Parted w h u i) := by
  by_cases hc : (0 ≤ h ∧ h < 2) ∧ (0 ≤ u ∧ u < 8) ∧ 0 ≤ i ∧ i < 4
  · have e : partF h u i = hv h.toNat u.toNat i.toNat := if_pos hc
    obtain ⟨⟨h0, h1⟩, ⟨u0, u1⟩, i0, i1⟩ := hc
    obtain ⟨a, rfl⟩ := Int.eq_ofNat_of_zero_le h0
    obtain ⟨b, rfl⟩ := Int.eq_ofNat_of_zero_le u0
    obtain ⟨c, rfl⟩ := Int.eq_ofNat_of_zero_le i0
    have hcell := hT.cell (p := a) (u := b) (i := c) (by omega) (by omega) (by omega)
    rw [Int.toNat_natCast, Int.toNat_natCast, Int.toNat_natCast] at e
    obtain ⟨z, hz'⟩ : ∃ z, z = hv a b c := ⟨_, rfl⟩
    rw [← hz'] at e hcell
    have E := Lib.hid e
    clear e hz' hT hh hu hi
    go_enter Tryd.func12, Tryd.ntmps12
    go_wp2_with fail
    go_ret
    exact ⟨by rw [E.out]; rfl, rfl⟩
  · have e : partF h u i = 0 := if_neg hc
    have E := Lib.hid e
    have hh' : h < 0 ∨ (0 ≤ h ∧ 2 ≤ h) ∨ (0 ≤ h ∧ h < 2 ∧ u < 0) ∨ (0 ≤ h ∧ h < 2 ∧ 0 ≤ u ∧ 8 ≤ u) ∨ (0 ≤ h ∧ h < 2 ∧ 0 ≤ u ∧ u < 8 ∧ i < 0) ∨ (0 ≤ h ∧ h < 2 ∧ 0 ≤ u ∧ u < 8 ∧ 0 ≤ i ∧ 4 ≤ i) := by omega
    clear e hc hh hu hi hT
    rcases hh' with a | ⟨a, b⟩ | ⟨a, b, c⟩ | ⟨a, b, c, d⟩ | ⟨a, b, c, d, f⟩ | ⟨a, b, c, d, f, g⟩
    all_goals
      go_enter Tryd.func12, Tryd.ntmps12
      go_wp2_with fail
      all_goals (go_ret; exact ⟨by rw [E.out]; rfl, rfl⟩)

/-- what Parts tells -/
def Told64 (w : World) (e : Ending) (w' : World) : Prop := ∃ A n, e = .returned (.slice A 64 n) ∧ Il w' A 64 n hz ∧ (∀ b off, A = some ⟨b, off, none⟩ → w.heap.size ≤ b) ∧ Below w.heap.size w w'
theorem il_of_box {w : World} {b n : Nat} {l : List Int} (h : Box w b 3 (cellsI l).toArray) (hl : l.length = n) (hm : n ≤ maxLen) : Il w (some ⟨b, 0, none⟩) n n l := by
  refine ⟨hl, Nat.le_refl _, hm, (fun e => by cases e), (fun b off e => by cases e; exact ⟨_, _, h⟩), fun _ => ⟨b, 0, rfl, h.lt, fun i hi => ?_⟩⟩
  rw [Nat.zero_add, h.cell i]
  simp [cellsI, List.getD_eq_getElem?_getD, List.getElem?_eq_getElem (show i < l.length by omega)]

set_option maxRecDepth 10000 in
set_option maxHeartbeats 3200000 in
theorem parts_any (w : World) : Calls Tryd.prog 11 #[] w (Told64 w) := by
  have hb := il_of_box (w := w.alloc (.cells (cellsI hz).toArray 3)) (n := 64) (Box.made w 3 (cellsI hz).toArray) rfl (by decide)
  have H := Lib.hid hb
  clear hb
  go_enter Tryd.func11, Tryd.ntmps11
  go_wp2_with fail
  go_ret
  exact ⟨_, _, rfl, H.out, fun b off e => by cases e; exact Nat.le_refl _, on_alloc _ _⟩

set_option maxRecDepth 10000 in
set_option maxHeartbeats 800000 in
theorem withinH_any (w : World) (b : List Int) (hb : b.length = 64) : Calls Tryd.prog 17 #[blkV b] w (Withd w b (-1048576) 1048576) := by
  obtain ⟨w1, hw1⟩ : ∃ w1, w1 = w.alloc (.cells (cellsI b).toArray 23) := ⟨_, rfl⟩
  have hB : Blk w1 w.heap.size b := by rw [hw1]; exact Blk.made _ _ hb
  have bel : Below w.heap.size w w1 := by rw [hw1]; exact on_alloc _ _
  have H := Lib.hid (And.intro hB (And.intro bel hw1))
  have HL := Lib.hid hB.load
  have HB := Lib.hid hb
  clear hB bel hw1 hb
  obtain ⟨v, hv⟩ : ∃ v, v = blkV b := ⟨_, rfl⟩
  rw [← hv] at HL ⊢
  obtain ⟨cs, hcs⟩ : ∃ cs, cs = (cellsI b).toArray := ⟨_, rfl⟩
  have hvc : v = .agg cs := by rw [hv, hcs]; rfl
  rw [hvc]
  have HV := Lib.hid (And.intro hv (And.intro hcs hvc))
  clear hv hcs hvc
  have HL2 := Lib.hid (show (Instr.loadAt 23 (.pointer (some ⟨w.heap.size, 0, none⟩))).run Tryd.prog (w.alloc (.cells cs 23)) = .ok v (w.alloc (.cells cs 23)) by rw [HV.out.2.1, ← H.out.2.2]; exact HL.out)
  go_enter Tryd.func17, Tryd.ntmps17
  go_wp2_with (first
    | (with_reducible refine wpList_load_to (op := ⟨some 5, _, _, _, _, _⟩) rfl 23 (.tmp 1) rfl (.pointer (some ⟨w.heap.size, 0, none⟩)) rfl v HL2.out ?_)
    | fail)
  rw [HV.out.2.1, ← H.out.2.2]
  go_loopw [6] (fun i wr => ∃ k : Nat, k ≤ 64 ∧ i = .int .i64 k ∧ Wk b (-1048576) 1048576 k ∧ w1 = wr) (fun i _ => 64 - (intOf i).toNat)
  case atStart => exact ⟨0, by omega, rfl, fun j hj => absurd hj (by omega), rfl⟩
  case round =>
    obtain ⟨k, hk, rfl, hR, rfl⟩ := hrel
    have HR := Lib.hid hR
    clear hR
    by_cases hlt : k < 64
    · have hidx := fun w => index23 w HB.out hlt
      rw [← HV.out.1] at hidx
      have hlt' := not_wi (b := b) (lo := -1048576) (hi := 1048576) hlt
      obtain ⟨z, hz'⟩ : ∃ z, z = b.getD k 0 := ⟨_, rfl⟩
      rw [← hz'] at hidx hlt'
      have HZ := Lib.hid (And.intro hz' hlt')
      clear hz' hlt'
      by_cases h0 : z < -1048576
      · go_wp2_with fail
        go_ret
        exact ⟨by rw [HZ.out.2 (.inl h0)]; rfl, H.out.2.1⟩
      · by_cases h1 : 1048576 < z
        · go_wp2_with fail
          go_ret
          exact ⟨by rw [HZ.out.2 (.inr h1)]; rfl, H.out.2.1⟩
        · go_wp2_with fail
          go_roundw
          case rel => exact ⟨k + 1, by omega, by go_num, HR.out.more (by rw [← HZ.out.1]; omega) (by rw [← HZ.out.1]; omega), trivial⟩
          case measure => simp [intOf]; omega
    · obtain rfl : k = 64 := by omega
      go_wp2
      go_ret
      exact ⟨by rw [decide_eq_true (show Wi b (-1048576) 1048576 from HR.out)]; rfl, H.out.2.1⟩
end Go.Proofs.YtjkmbiieagmjkaaDoor
