/-
  The contracts of Shape and of the reference's Shape.
-/
import Derived.Test.YtmadkpnkmkajoaaDoorSA
import Derived.BigRegion
namespace Go.Proofs.YtmadkpnkmkajoaaDoor
open Go.RowKit

def mixP (f h : Nat → Nat × Nat) (n k : Nat) : List (Nat × Nat) := (List.range n).map fun p => if p < k then h p else f p
theorem mixP_zero (f h : Nat → Nat × Nat) (n : Nat) : mixP f h n 0 = (List.range n).map f := by simp [mixP]
theorem mixP_all (f h : Nat → Nat × Nat) (n : Nat) : mixP f h n n = (List.range n).map h := by
  unfold mixP
  apply List.map_congr_left
  intro p hp
  rw [if_pos (List.mem_range.1 hp)]
theorem mixP_len (f h : Nat → Nat × Nat) (n k : Nat) : (mixP f h n k).length = n := by simp [mixP]
theorem mixP_at (f h : Nat → Nat × Nat) {n k : Nat} (hk : k < n) : (mixP f h n k)[k]? = some (f k) := by
  rw [mixP, List.getElem?_map, List.getElem?_range hk]
  simp
theorem mix2 (f h : Nat → Nat × Nat) {n k : Nat} (hn : n = 1 ∨ n = 3) (hk : k < n) :
    ((cellsP2 (mixP f h n k)).toArray.setIfInBounds (k * 2) (.int .i64 ((h k).1 : Int))).setIfInBounds (k * 2 + 1) (.int .i64 ((h k).2 : Int)) = (cellsP2 (mixP f h n (k + 1))).toArray := by
  rcases hn with rfl | rfl
  · obtain rfl : k = 0 := by omega
    rfl
  · rcases (show k = 0 ∨ k = 1 ∨ k = 2 by omega) with rfl | rfl | rfl <;> rfl

def ShapeY (w : World) (W H K R : Int) (e : Ending) (w' : World) : Prop :=
  (RightS W H K R → ∃ A c, e = .returned (.slice A (nP K) c) ∧ nP K ≤ c ∧ Ps w' w.heap.size A (nP K) (shpL W H K)) ∧ (¬ RightS W H K R → e = .returned (.slice none 0 0)) ∧ Below w.heap.size w w'

set_option maxHeartbeats 1600000 in
theorem shape_any (w : World) (W H K R : Int) : Calls Tryd.prog 28 #[scanV W H K R] w (ShapeY w W H K R) := by
  obtain ⟨w1, hw1⟩ : ∃ w1, w.alloc (.cells #[.int .i64 W, .int .i64 H, .int .i64 K, .int .i64 R] 26) = w1 := ⟨_, rfl⟩
  have b1 : Box w1 w.heap.size 26 #[.int .i64 W, .int .i64 H, .int .i64 K, .int .i64 R] := by rw [← hw1]; exact Box.made _ _ _
  have k1 : Below w.heap.size w w1 := by rw [← hw1]; exact on_alloc _ _
  have q0 : w1.cell? ⟨w.heap.size, 0, none⟩ = some (.int .i64 W) := b1.cell 0
  have q1 : w1.cell? ⟨w.heap.size, 1, none⟩ = some (.int .i64 H) := b1.cell 1
  have q2 : w1.cell? ⟨w.heap.size, 2, none⟩ = some (.int .i64 K) := b1.cell 2
  have q3 : w1.cell? ⟨w.heap.size, 3, none⟩ = some (.int .i64 R) := b1.cell 3
  have HB := Lib.hid (And.intro b1 k1)
  clear b1 k1
  unfold scanV
  have HR := Lib.hid (fun w' => rightS_any w' W H K R)
  by_cases hr : RightS W H K R
  · have HD := Lib.hid (And.intro (decide_eq_true hr) hr)
    clear hr
    go_enter Tryd.func28, Tryd.ntmps28
    go_wp2_with fail
    clear hw1
    refine (HR.out w1).mono ?_
    rintro e w2 ⟨rfl, k2⟩
    rw [HD.out.1]
    have q0' : w2.cell? ⟨w.heap.size, 0, none⟩ = some (.int .i64 W) := (HB.out.1.on k2).cell 0
    have q1' : w2.cell? ⟨w.heap.size, 1, none⟩ = some (.int .i64 H) := (HB.out.1.on k2).cell 1
    have q2' : w2.cell? ⟨w.heap.size, 2, none⟩ = some (.int .i64 K) := (HB.out.1.on k2).cell 2
    have q3' : w2.cell? ⟨w.heap.size, 3, none⟩ = some (.int .i64 R) := (HB.out.1.on k2).cell 3
    have H2 := Lib.hid (And.intro (HB.out.1.on k2) (on_trans HB.out.2 k2))
    clear q0 q1 q2 q3 k2
    have HU := Lib.hid (units_any w2 W H K R HD.out.2)
    unfold scanV at HU
    go_wp2_with fail
    refine HU.out.mono ?_
    rintro e w3 ⟨rfl, k3⟩
    have c2 : w3.cell? ⟨w.heap.size, 2, none⟩ = some (.int .i64 K) := (H2.out.1.on k3).cell 2
    have H3 := Lib.hid (on_trans H2.out.2 k3)
    clear q0' q1' q2' q3' k3
    obtain ⟨X, hX⟩ : ∃ X, X = uW W K := ⟨_, rfl⟩
    obtain ⟨Y, hY⟩ : ∃ Y, Y = uH H K := ⟨_, rfl⟩
    have hX1 := uW_le HD.out.2
    have hY1 := uH_le HD.out.2
    rw [← hX] at hX1
    rw [← hY] at hY1
    rw [← hX, ← hY]
    have HXY := Lib.hid (And.intro hX hY)
    clear hX hY HU
    have hK := HD.out.2.2.2.1
    go_wp2_with fail
    refine (unit_any w3 K hK.1 hK.2).mono ?_
    rintro e w4 ⟨g, rfl, hg, hb4, k4⟩
    have H4 := Lib.hid (And.intro hg (And.intro hb4 (on_trans H3.out k4)))
    obtain ⟨n, hn⟩ : ∃ n, n = nP K := ⟨_, rfl⟩
    have hn13 : n = 1 ∨ n = 3 := by rw [hn]; unfold nP; split <;> simp
    rw [← hn]
    have HN := Lib.hid hn
    clear c2 hg hb4 k4 hn
    go_wp2_with fail
    go_loopw [6, 20] (fun _ i wr => ∃ k : Nat, k ≤ n ∧ i = .int .i64 (k : Int) ∧ Box wr g 60 (cellsP2 (mixP (fun p => (uA K p, uD K p)) (fun p => (X * uA K p, Y * uD K p)) n k)).toArray ∧ Below w.heap.size w wr) (fun _ i _ => n - (intOf i).toNat)
    case atStart => exact ⟨0, Nat.zero_le _, rfl, by rw [mixP_zero, HN.out]; exact H4.out.2.1, H4.out.2.2⟩
    case round =>
      obtain ⟨k, hk, rfl, hbx, hbl⟩ := hrel
      by_cases hlt : k < n
      · obtain ⟨a, ha⟩ : ∃ a, a = uA K k := ⟨_, rfl⟩
        obtain ⟨d, hd⟩ : ∃ d, d = uD K k := ⟨_, rfl⟩
        have ha1 := uA_le K k
        have hd1 := uD_le K k
        rw [← ha] at ha1
        rw [← hd] at hd1
        have ps := (ps_of_box (lo := 0) hbx (Nat.zero_le _)).at_ (by rw [mixP_len]; omega)
        obtain ⟨_, _, e1, _, _, hc⟩ := ps
        cases e1
        obtain ⟨x0, x1⟩ := hc k _ (mixP_at _ _ hlt)
        dsimp only at x0 x1
        rw [Nat.zero_add] at x0 x1
        rw [← ha] at x0
        rw [← hd] at x1
        have hfz := fun i => hbx.free i
        have hgl := hbx.lt
        have HX := Lib.hid (And.intro hbx (And.intro hbl (And.intro ha hd)))
        clear hbx hbl ha hd hc
        have hai : (a : Int) ≤ 2 := by omega
        have hdi : (d : Int) ≤ 2 := by omega
        have hm1 : (a : Int) * (X : Int) = ((X * a : Nat) : Int) := by rw [Nat.mul_comm]; push_cast; rfl
        have hm2 : (d : Int) * (Y : Int) = ((Y * d : Nat) : Int) := by rw [Nat.mul_comm]; push_cast; rfl
        have hb1 : X * a ≤ 32 := Nat.mul_le_mul hX1.2 ha1.2
        have hb2 : Y * d ≤ 32 := Nat.mul_le_mul hY1.2 hd1.2
        obtain ⟨p, hp⟩ : ∃ p, p = X * a := ⟨_, rfl⟩
        obtain ⟨q, hq⟩ : ∃ q, q = Y * d := ⟨_, rfl⟩
        rw [← hp] at hm1 hb1
        rw [← hq] at hm2 hb2
        have HP := Lib.hid (And.intro hp hq)
        clear hp hq
        go_wp2_with fail
        go_region
        go_wp2_with fail
        go_region
        go_wp2
        obtain ⟨w6, hw6⟩ : ∃ w6, w6 = (wr.setCell ⟨g, k * 2, none⟩ (.int .i64 (p : Int))).setCell ⟨g, k * 2 + 1, none⟩ (.int .i64 (q : Int)) := ⟨_, rfl⟩
        rw [← hw6]
        have hbx6 : Box w6 g 60 (cellsP2 (mixP (fun p => (uA K p, uD K p)) (fun p => (X * uA K p, Y * uD K p)) n (k + 1))).toArray := by
          rw [hw6, ← mix2 _ _ hn13 hlt]
          dsimp only
          rw [← HX.out.2.2.1, ← HX.out.2.2.2, ← HP.out.1, ← HP.out.2]
          exact (HX.out.1.put _ _).put _ _
        have hk6 : Below w.heap.size w w6 := by
          have hgn : w.heap.size ≤ g := Nat.le_trans H3.out.size H4.out.1
          rw [hw6]
          exact HX.out.2.1.trans ((((Kept.refl (fun i => i = g) wr).setCell (p := ⟨g, k * 2, none⟩) (fun _ => rfl) _).setCell (p := ⟨g, k * 2 + 1, none⟩) (fun _ => rfl) _).below HX.out.2.1.size (fun i hi e => by omega))
        exact ⟨⟨k + 1, by omega, by go_num, (hbx6.on (on_drew _)).on (on_drew _), (hk6.trans ((on_drew w6).mono hk6.size)).trans ((on_drew _).mono (Nat.le_trans hk6.size (on_drew w6).size))⟩, by simp [intOf]; omega⟩
      · obtain rfl : k = n := by omega
        rw [mixP_all] at hbx
        have HX := Lib.hid (And.intro hbx hbl)
        clear hbx hbl
        go_wp2_with fail
        go_ret
        refine ⟨fun _ => ⟨_, _, by rw [HN.out]; rfl, Nat.le_refl _, ?_⟩, fun h => absurd HD.out.2 h, HX.out.2⟩
        have hgn : w.heap.size ≤ g := Nat.le_trans H3.out.size H4.out.1
        have h1 := ps_of_box HX.out.1 hgn
        have h2 : (List.range k).map (fun p => (X * uA K p, Y * uD K p)) = shpL W H K := by rw [HXY.out.1, HXY.out.2, HN.out]; rfl
        rw [h2] at h1
        have h3 : (shpL W H K).length = nP K := by simp [shpL]
        rw [h3] at h1
        exact h1
  · have HD := Lib.hid (And.intro (decide_eq_false hr) hr)
    clear hr
    go_enter Tryd.func28, Tryd.ntmps28
    go_wp2_with fail
    clear hw1
    refine (HR.out w1).mono ?_
    rintro e w2 ⟨rfl, k2⟩
    rw [HD.out.1]
    have H2 := Lib.hid (on_trans HB.out.2 k2)
    clear q0 q1 q2 q3 k2
    go_wp2_with fail
    go_ret
    exact ⟨fun h => absurd h HD.out.2, fun _ => rfl, H2.out⟩
end Go.Proofs.YtmadkpnkmkajoaaDoor
