/-
  The reference's Give.
-/
import Derived.Test.YtcgajomngcgchaaRefMark
import Derived.Test.YtcgajomngcgchaaLBase
namespace Go.Proofs.Ytcgajomngcgchaa
open Go.RowKit

def RGiveErr (z : Int) (A : Option Addr) (n c : Nat) (w : World) (r : Ending) (w' : World) : Prop := r = .returned (.tuple #[.agg #[.slice A n c], .int .i64 z]) ∧ Below w.heap.size w w'
def RGiveOk (u : List Bool) (e : X) (w : World) (r : Ending) (w' : World) : Prop := ∃ A n c, r = .returned (.tuple #[.agg #[.slice A n c], .int .i64 0]) ∧ Bl (fun b => w.heap.size ≤ b) w' A n c (mark u e false) ∧ Below w.heap.size w w'
def RGive (u : List Bool) (A : Option Addr) (n c : Nat) (e : X) (w : World) (r : Ending) (w' : World) : Prop :=
  (¬ Ok u.length e ∧ RGiveErr 11 A n c w r w') ∨ (Ok u.length e ∧ (∃ k : Nat, k < u.length ∧ (e.1 ≤ (k : Int) ∧ (k : Int) < e.1 + e.2) ∧ u.getD k true = false) ∧ RGiveErr 13 A n c w r w') ∨
  (Ok u.length e ∧ (∀ k : Nat, k < u.length → e.1 ≤ (k : Int) → (k : Int) < e.1 + e.2 → u.getD k true = true) ∧ RGiveOk u e w r w')
set_option maxHeartbeats 3200000 in
set_option maxRecDepth 20000 in
theorem refGive_any (w : World) (K : Nat → Prop) (A : Option Addr) (n c : Nat) (u : List Bool) (hx : Bl K w A n c u) (hn : n ≤ 4096) (x y : Int) : Calls Try.prog 20 #[.agg #[.slice A n c], .agg #[.int .i64 x, .int .i64 y]] w (RGive u A n c (x, y) w) := by
  have hmax := hx.max
  have hcap := hx.cap
  unfold maxLen at hmax
  obtain ⟨w3, hw3⟩ : ∃ w3, ((w.alloc (.cells #[.slice A n c] 30)).alloc (.cells #[.int .i64 x, .int .i64 y] 42)).alloc (.cells #[.slice none 0 0] 30) = w3 := ⟨_, rfl⟩
  have hz3 : w3.heap.size = w.heap.size + 3 := by rw [← hw3]; simp
  have k3 : Below w.heap.size w w3 := by rw [← hw3]; exact on_trans (on_trans (on_alloc _ _) (on_alloc _ _)) (on_alloc _ _)
  have b0 : Box w3 w.heap.size 30 #[.slice A n c] := by rw [← hw3]; exact ((Box.made _ _ _).alloc _).alloc _
  have b1 : Box w3 (w.heap.size + 1) 42 #[.int .i64 x, .int .i64 y] := by
    have := (Box.made (w.alloc (.cells #[.slice A n c] 30)) 42 #[.int .i64 x, .int .i64 y]).alloc (.cells #[.slice none 0 0] 30)
    rw [hw3] at this
    simpa using this
  have b2 : Box w3 (w.heap.size + 1 + 1) 30 #[.slice none 0 0] := by
    have := Box.made ((w.alloc (.cells #[.slice A n c] 30)).alloc (.cells #[.int .i64 x, .int .i64 y] 42)) 30 #[.slice none 0 0]
    rw [hw3] at this
    simpa using this
  have c0 : w3.cell? ⟨w.heap.size, 0, none⟩ = some (.slice A n c) := b0.cell 0
  have e0 : w3.cell? ⟨w.heap.size + 1, 0, none⟩ = some (.int .i64 x) := b1.cell 0
  have e1 : w3.cell? ⟨w.heap.size + 1, 1, none⟩ = some (.int .i64 y) := b1.cell 1
  have hln := hx.lenB
  have HMay := Lib.hid (may_any x y n w3 ⟨by omega, by omega⟩)
  have H3 := Lib.hid (And.intro k3 (And.intro b0 (And.intro b1 (And.intro b2 (And.intro hz3 (And.intro hx hln))))))
  clear k3 b0 b1 b2 hz3 hx hln
  by_cases hok : Ok n (x, y)
  · have hd : decide (Ok n (x, y)) = true := decide_eq_true hok
    have HO := Lib.hid hok
    clear hok
    go_enter Try.func20, Try.ntmps20
    go_wp2_with (go_at_call 33
                 refine Calls.mono HMay.out ?_
                 rintro e w5 ⟨rfl, b5⟩
                 have H5 := Lib.hid (And.intro (on_trans H3.out.1 b5) (And.intro (H3.out.2.1.on b5) (And.intro (H3.out.2.2.1.on b5) (And.intro (H3.out.2.2.2.1.on b5) b5.size))))
                 rw [hd]
                 clear b5)
    obtain ⟨a, ha⟩ : ∃ a : Nat, x = a := ⟨x.toNat, by have := HO.out.1; simp only at this; omega⟩
    obtain ⟨s, hs⟩ : ∃ s : Nat, y = s := ⟨y.toNat, by have := HO.out.2.1; simp only at this; omega⟩
    subst ha hs
    have has : a + s ≤ n := by have := HO.out.2.2; simp only at this; omega
    go_loopw [6] (fun i wr => ∃ (k : Nat), k ≤ s ∧ i = .int .i64 (k : Int) ∧ (∀ j, j < k → u.getD (a + j) true = true) ∧ wr = w5) (fun i _ => s - (intOf i).toNat)
    case atStart => exact ⟨0, by omega, rfl, fun j hj => by omega, rfl⟩
    case round =>
      obtain ⟨k, hk, rfl, hno, rfl⟩ := hrel
      have HB := Lib.hid hno
      clear hno
      have d0 : wr.cell? ⟨w.heap.size + 1, 0, none⟩ = some (.int .i64 (a : Int)) := H5.out.2.2.1.cell 0
      have d1 : wr.cell? ⟨w.heap.size + 1, 1, none⟩ = some (.int .i64 (s : Int)) := H5.out.2.2.1.cell 1
      have d2 : wr.cell? ⟨w.heap.size, 0, none⟩ = some (.slice A n c) := H5.out.2.1.cell 0
      by_cases hks : k < s
      · obtain ⟨p, hp⟩ : ∃ p : Nat, p = a + k := ⟨_, rfl⟩
        have hp1 : (a : Int) + (k : Int) = (p : Int) := by omega
        have hp2 : (0 : Int) ≤ (p : Int) := by omega
        have hp3 : (p : Int) < (n : Int) := by omega
        obtain ⟨b, off, rfl, hbs, hK, d3⟩ := (H3.out.2.2.2.2.2.1.on H5.out.1).getB (i := p) (by omega)
        cases hu : u.getD p true with
        | true =>
          rw [hu] at d3
          have HN := Lib.hid (show ∀ j, j < k + 1 → u.getD (a + j) true = true from fun j hj => by
            rcases Nat.lt_or_ge j k with h | h
            · exact HB.out j h
            · obtain rfl : j = k := by omega
              rw [← hp]; exact hu)
          clear hu hp
          go_wp2_with fail
          go_roundw
          case rel => exact ⟨k + 1, by omega, by go_num, HN.out, trivial⟩
          case measure => simp [intOf]; omega
        | false =>
          rw [hu] at d3
          have HN := Lib.hid (And.intro hu hp)
          clear hu hp
          have x4 : wr.cell? ⟨w.heap.size + 1 + 1, 0, none⟩ = some (.slice none 0 0) := H5.out.2.2.2.1.cell 0
          have y4 := H5.out.2.2.2.1.free 0
          go_wp2_with fail
          have vz : (wr.setCell ⟨w.heap.size + 1 + 1, 0, none⟩ (.slice (some ⟨b, off, none⟩) n c)).cell? ⟨w.heap.size + 1 + 1, 0, none⟩ = some (.slice (some ⟨b, off, none⟩) n c) := by
            have := (H5.out.2.2.2.1.put 0 (.slice (some ⟨b, off, none⟩) n c)).cell 0
            simpa using this
          exact bodyPost_ret (v := .tuple #[.agg #[.slice (some ⟨b, off, none⟩) n c], .int .i64 13]) (by simp [results, Try.results20, go_sem, vz]) rfl ((fun h k => .inr (.inl ⟨by rw [H3.out.2.2.2.2.2.2]; exact HO.out, ⟨p, by rw [H3.out.2.2.2.2.2.2]; omega, by simp only; omega, HN.out.1⟩, h, k⟩)) (rfl) (Below.setCell (p := ⟨w.heap.size + 1 + 1, 0, none⟩) H5.out.1 (by simp only; omega) _))
      · obtain rfl : k = s := by omega
        have x4 : wr.cell? ⟨w.heap.size + 1 + 1, 0, none⟩ = some (.slice none 0 0) := H5.out.2.2.2.1.cell 0
        have y4 := H5.out.2.2.2.1.free 0
        have HK := Lib.hid (mark_any wr K A n c u (H3.out.2.2.2.2.2.1.on H5.out.1) hn a k (by rw [H3.out.2.2.2.2.2.2]; exact HO.out) false)
        go_wp2_with (go_at_call 38
                     refine Calls.mono HK.out ?_
                     rintro e w7 ⟨A7, n7, c7, rfl, hx7, b7⟩
                     have b27 := H5.out.2.2.2.1.on b7
                     have x7 : w7.cell? ⟨w.heap.size + 1 + 1, 0, none⟩ = some (.slice none 0 0) := b27.cell 0
                     have y7 := b27.free 0
                     have H7 := Lib.hid (And.intro hx7 (And.intro b7 b27))
                     clear hx7 b7 b27)
        have vz : (w7.setCell ⟨w.heap.size + 1 + 1, 0, none⟩ (.slice A7 n7 c7)).cell? ⟨w.heap.size + 1 + 1, 0, none⟩ = some (.slice A7 n7 c7) := by
          have := (H7.out.2.2.put 0 (.slice A7 n7 c7)).cell 0
          simpa using this
        have hz5 := H5.out.2.2.2.2
        have hz3 := H3.out.2.2.2.2.1
        exact bodyPost_ret (v := .tuple #[.agg #[.slice A7 n7 c7], .int .i64 0]) (by simp [results, Try.results20, go_sem, vz]) rfl (.inr (.inr ⟨by rw [H3.out.2.2.2.2.2.2]; exact HO.out, fun j hj h1 h2 => by
          simp only at h1 h2
          have := HB.out (j - a) (by omega)
          rwa [show a + (j - a) = j by omega] at this, A7, n7, c7, rfl, (H7.out.1.mono (K' := fun b => w.heap.size + 3 ≤ b) (fun b _ hb => by omega)).kept (S := fun i => i = w.heap.size + 1 + 1) (Kept.setCell (S := fun i => i = w.heap.size + 1 + 1) (p := ⟨w.heap.size + 1 + 1, 0, none⟩) (Kept.refl _ _) (fun _ => rfl) (.slice A7 n7 c7)) (fun b hb e => by omega) |>.mono (fun b _ hb => by omega), Below.setCell (p := ⟨w.heap.size + 1 + 1, 0, none⟩) (on_trans H5.out.1 H7.out.2.1) (by simp only; omega) _⟩))
  · have hd : decide (Ok n (x, y)) = false := decide_eq_false hok
    have HO := Lib.hid hok
    clear hok
    go_enter Try.func20, Try.ntmps20
    go_wp2_with (go_at_call 33
                 refine Calls.mono HMay.out ?_
                 rintro e w5 ⟨rfl, b5⟩
                 have H5 := Lib.hid (And.intro (on_trans H3.out.1 b5) (And.intro (H3.out.2.1.on b5) (And.intro (H3.out.2.2.1.on b5) (And.intro (H3.out.2.2.2.1.on b5) b5.size))))
                 have x4 : w5.cell? ⟨w.heap.size + 1 + 1, 0, none⟩ = some (.slice none 0 0) := H5.out.2.2.2.1.cell 0
                 have y4 := H5.out.2.2.2.1.free 0
                 have d2 : w5.cell? ⟨w.heap.size, 0, none⟩ = some (.slice A n c) := H5.out.2.1.cell 0
                 rw [hd]
                 clear b5)
    have vz : (w5.setCell ⟨w.heap.size + 1 + 1, 0, none⟩ (.slice A n c)).cell? ⟨w.heap.size + 1 + 1, 0, none⟩ = some (.slice A n c) := by
      have := (H5.out.2.2.2.1.put 0 (.slice A n c)).cell 0
      simpa using this
    exact bodyPost_ret (v := .tuple #[.agg #[.slice A n c], .int .i64 11]) (by simp [results, Try.results20, go_sem, vz]) rfl ((fun h k => .inl ⟨by rw [H3.out.2.2.2.2.2.2]; exact HO.out, h, k⟩) (rfl) (Below.setCell (p := ⟨w.heap.size + 1 + 1, 0, none⟩) H5.out.1 (by simp only; omega) _))
end Go.Proofs.Ytcgajomngcgchaa
