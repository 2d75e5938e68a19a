/-
  The contracts of the reference's Width, Back, Told and Put.
-/
import Derived.Test.YthjnknhdnogaeaaPut
namespace Go.Proofs.Ythjnknhdnogaeaa
open Go.RowKit

set_option maxHeartbeats 400000 in
theorem width_any (n : Int) (w : World) : Calls Try.prog 36 #[.int .i64 n] w fun e w' => e = .returned (.bool (decide (n = 1 ∨ n = 2 ∨ n = 4 ∨ n = 8))) ∧ w = w' := by
  by_cases h1 : n = 1
  · subst h1
    go_enter Try.func36, Try.ntmps36
    go_wp2
    go_ret
    exact ⟨rfl, rfl⟩
  · by_cases h2 : n = 2
    · subst h2
      go_enter Try.func36, Try.ntmps36
      go_wp2
      go_ret
      exact ⟨rfl, rfl⟩
    · by_cases h4 : n = 4
      · subst h4
        go_enter Try.func36, Try.ntmps36
        go_wp2
        go_ret
        exact ⟨rfl, rfl⟩
      · by_cases h8 : n = 8
        · subst h8
          go_enter Try.func36, Try.ntmps36
          go_wp2
          go_ret
          exact ⟨rfl, rfl⟩
        · have b1 : (n == 1) = false := by simpa using h1
          have b2 : (n == 2) = false := by simpa using h2
          have b4 : (n == 4) = false := by simpa using h4
          have b8 : (n == 8) = false := by simpa using h8
          go_enter Try.func36, Try.ntmps36
          go_wp2
          go_ret
          exact ⟨by simp [h1, h2, h4, h8], rfl⟩

theorem cellsOf_app (l : List Int) (z : Int) : cellsOf l ++ [.int .u8 z] = cellsOf (l ++ [z]) := by simp [cellsOf]

theorem rev_take (l : List Int) (k : Nat) (h : k < l.length) : l.reverse.take (k + 1) = l.reverse.take k ++ [l.getD (l.length - 1 - k) 0] := by
  rw [take_more _ _ (by simpa using h)]
  congr 2
  simp only [List.getD_eq_getElem?_getD]
  rw [List.getElem?_reverse h]

/-- a round's end of a slice that grows by one byte -/
theorem grows {w wr w1 : World} {v v' : Value} {k : Nat} {l : List Int} {z : Int} (hown : w1.ownsRow w.heap.size 5 1 v' (k + 1) (cellsOf l ++ [.int .u8 z])) (hv : wr.ownsRow w.heap.size 5 1 v k (cellsOf l)) (hbel : Below w.heap.size w wr)
    (hg : (wr.alloc (.cells #[.int .u8 z] 5)).grownBy w1 v.ownBlock) : w1.ownsRow w.heap.size 5 1 v' (k + 1) (cellsOf (l ++ [z])) ∧ Below w.heap.size w w1 :=
  ⟨by rw [← cellsOf_app]; exact hown, (hbel.alloc hbel.size _).grown hg (Nat.le_trans hbel.size (by simp)) (fun j hj => (hv.lt j hj).1)⟩

set_option maxHeartbeats 800000 in
theorem back_any (w : World) (K : Nat → Prop) (A : Option Addr) (n c : Nat) (l : List Int) (h : Sl w K A n c l) (hn : n ≤ 140737488351200) :
    Calls Try.prog 50 #[.slice A n c] w (Owned w n l.reverse) := by
  obtain ⟨i0, hi0, hz0, hz1, hz2⟩ := info_parts byte_info
  have H := Lib.hid h
  have HLEN := Lib.hid h.len
  clear h
  go_enter Try.func50, Try.ntmps50
  go_wp2
  go_loopw [3, 4] (fun v i wr => ∃ k : Nat, k ≤ n ∧ i = .int .i64 k ∧ wr.ownsRow w.heap.size 5 1 v k (cellsOf (l.reverse.take k)) ∧ Below w.heap.size w wr) (fun _ i _ => n - (intOf i).toNat)
  case atStart => exact ⟨0, Nat.zero_le _, rfl, World.ownsRow_nil _ _ _ _, Below.refl _ _⟩
  case round =>
    obtain ⟨k, hk, rfl, hown, hbel⟩ := hrel
    by_cases hlt : k < n
    · obtain ⟨b, off, rfl, hcell⟩ : ∃ b off, A = some ⟨b, off, none⟩ ∧ wr.cell? ⟨b, off + (n - 1 - k), none⟩ = some (.int .u8 (l.getD (n - 1 - k) 0)) := by
        obtain ⟨b, off, e, hb, _, hc⟩ := H.out.bts.at_ (by rw [HLEN.out]; omega)
        exact ⟨b, off, e, (hbel.cell (p := ⟨b, off + (n - 1 - k), none⟩) hb).trans (hc _ (by rw [HLEN.out]; omega))⟩
      obtain ⟨z, hz⟩ : ∃ z, z = l.getD (n - 1 - k) 0 := ⟨_, rfl⟩
      rw [← hz] at hcell
      have hzb : 0 ≤ z ∧ z ≤ 255 := by rw [hz]; exact H.out.bts.fit.getD _
      have HZ := Lib.hid hz
      have HR := Lib.hid (And.intro hown hbel)
      clear hz hown hbel
      go_wp2_with (at_builtin; refine wpList_append_own _ rfl _ _ 22 rfl w.heap.size 5 i0 (.int .u8 0) 1 1 Try.underlying22 hi0 hz0 hz1 hz2 rfl (by omega) _ k (cellsOf (l.reverse.take k)) rfl (HR.out.1.alloc _) ⟨wr.heap.size, 0, none⟩ 1 1 [.int .u8 z] rfl rfl ?_ ?_ ?_ ?_ ?_ ?_; exact cell_one_new _ _ _; simp [Value.oneCell']; (simp only [maxLen]; omega); omega; (have := HR.out.2.size; simp; omega); intro v' w1 hown1 hgrow _; have HG := Lib.hid (And.intro hown1 hgrow); clear hown1 hgrow)
      go_roundw
      case rel =>
        obtain ⟨g1, g2⟩ := grows HG.out.1 HR.out.1 HR.out.2 HG.out.2
        refine ⟨k + 1, by omega, by go_num, ?_, g2⟩
        rw [rev_take l k (by rw [HLEN.out]; omega), HLEN.out, ← HZ.out]
        exact g1
      case measure => simp [intOf]; omega
    · have HR := Lib.hid (And.intro hown hbel)
      clear hown hbel
      go_wp2
      go_ret
      have ek : k = n := by omega
      obtain ⟨hown, hbel⟩ := HR.out
      rw [ek, List.take_of_length_le (by rw [List.length_reverse, HLEN.out]; exact Nat.le_refl _)] at hown
      obtain ⟨A', c', e, hs⟩ := sl_of_own hown H.out.bts.fit.rev
      subst e
      exact ⟨A', c', rfl, hs, hbel⟩

end Go.Proofs.Ythjnknhdnogaeaa
