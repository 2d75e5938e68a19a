/-
  The contract of Marker.
-/
import Derived.Test.YtdnjnbfmmgkpjaaDoorMC
namespace Go.Proofs.YtdnjnbfmmgkpjaaDoor
open Go.RowKit

set_option maxHeartbeats 800000 in
theorem marker_short (w : World) (r g : Nat) (l : List Int) (s : St) (h : Rd w r g l s) (ha : l.length < s.at_ + 2) : Calls Tryd.prog 42 #[.pointer (some ⟨r, 0, none⟩)] w (Got w r g l (markF l s)) := by
  have c2 : w.cell? ⟨r, 2, none⟩ = some (.int .i64 (s.at_ : Int)) := h.box.cell 2
  have c3 : w.cell? ⟨r, 3, none⟩ = some (.slice (some ⟨g, 0, none⟩) l.length l.length) := h.box.cell 3
  have hE : markE l s.at_ = 3 := by rw [markE, if_pos ha]
  have hlen := h.len
  have hat := h.ok.at_
  obtain ⟨n, hn⟩ : ∃ n, n = l.length := ⟨_, rfl⟩
  obtain ⟨a, haa⟩ : ∃ a, a = s.at_ := ⟨_, rfl⟩
  rw [← hn] at c3 hlen ha hat
  rw [← haa] at c2 ha hat
  have hd : decide ((n : Int) - (a : Int) < 2) = true := decide_eq_true (by omega)
  have HH := Lib.hid (And.intro h hE)
  clear h hE hn haa
  go_enter Tryd.func42, Tryd.ntmps42
  go_wp2_with fail
  go_quiet (fail)
  go_wp2
  go_ret2
  exact marked_not HH.out.1 HH.out.2 (by decide) (below_drewN_refl _ _)

set_option maxHeartbeats 800000 in
theorem marker_two (w : World) (r g : Nat) (l : List Int) (s : St) (h : Rd w r g l s) (ha : s.at_ + 2 ≤ l.length) : Calls Tryd.prog 42 #[.pointer (some ⟨r, 0, none⟩)] w (Got w r g l (markF l s)) := by
  have c2 : w.cell? ⟨r, 2, none⟩ = some (.int .i64 (s.at_ : Int)) := h.box.cell 2
  have c3 : w.cell? ⟨r, 3, none⟩ = some (.slice (some ⟨g, 0, none⟩) l.length l.length) := h.box.cell 3
  have b0 := h.byte s.at_ (by omega)
  have b1 := h.byte (s.at_ + 1) (by omega)
  have hE : markE l s.at_ = if l.getD s.at_ 0 = 255 ∧ l.getD (s.at_ + 1) 0 ≠ 255 ∧ l.getD (s.at_ + 1) 0 ≠ 0 then 0 else 4 := by rw [markE, if_neg (by omega)]
  have hlen := h.len
  obtain ⟨n, hn⟩ : ∃ n, n = l.length := ⟨_, rfl⟩
  obtain ⟨a, haa⟩ : ∃ a, a = s.at_ := ⟨_, rfl⟩
  obtain ⟨y, hy⟩ : ∃ y : Nat, y = (l.getD s.at_ 0).toNat := ⟨_, rfl⟩
  obtain ⟨z, hz⟩ : ∃ z : Nat, z = (l.getD (s.at_ + 1) 0).toNat := ⟨_, rfl⟩
  have hyi : l.getD s.at_ 0 = (y : Int) := by have := h.fit.getD s.at_; omega
  have hzi : l.getD (s.at_ + 1) 0 = (z : Int) := by have := h.fit.getD (s.at_ + 1); omega
  have hz8 : z < 256 := by have := h.fit.getD (s.at_ + 1); omega
  rw [hyi, hzi] at hE
  rw [hyi] at b0
  rw [hzi] at b1
  rw [← hn] at c3 hlen ha
  rw [← haa] at c2 ha b0 b1
  have hd : decide ((n : Int) - (a : Int) < 2) = false := decide_eq_false (by omega)
  have i0 : a < n := by omega
  have i1 : a + 1 < n := by omega
  have hz71 : ∀ w, (zeroValue 145).run Tryd.prog w = .ok (.agg #[.int .i64 0, .int .i64 0, .int .i64 0]) w := fun w => by kernel_rfl
  have f0 := h.box.free 0
  have f1 := h.box.free 1
  have f2 := h.box.free 2
  have e0 : w.cell? ⟨r, 0, none⟩ = some (.int .i64 (s.v : Int)) := h.box.cell 0
  have e1 : w.cell? ⟨r, 1, none⟩ = some (.int .i64 (s.c : Int)) := h.box.cell 1
  have HH := Lib.hid (And.intro h (And.intro hE (And.intro haa (And.intro hz (And.intro ha hn)))))
  clear h hE hn haa hz hy hyi hzi ha
  by_cases h1 : y = 255
  · by_cases h2 : z = 255
    · subst h1 h2
      have HE := Lib.hid (show markE l s.at_ = 4 by rw [HH.out.2.1]; simp)
      go_enter Tryd.func42, Tryd.ntmps42
      go_wp2_with fail
      go_quiet (fail)
      go_wp2_with fail
      go_quiet (fail)
      go_wp2
      go_ret2
      exact marked_not HH.out.1 HE.out (by decide) (by first | exact below_drewN_refl _ _ | exact on_trans (below_drewN_refl _ _) (below_drewN_refl _ _))
    by_cases h3 : z = 0
    · subst h1 h3
      have HE := Lib.hid (show markE l s.at_ = 4 by rw [HH.out.2.1]; simp)
      go_enter Tryd.func42, Tryd.ntmps42
      go_wp2_with fail
      go_quiet (fail)
      go_wp2_with fail
      go_quiet (fail)
      go_wp2
      go_ret2
      exact marked_not HH.out.1 HE.out (by decide) (by first | exact below_drewN_refl _ _ | exact on_trans (below_drewN_refl _ _) (below_drewN_refl _ _))
    · subst h1
      have g2 : ((z : Int) == 255) = false := by simp; omega
      have g3 : ((z : Int) == 0) = false := by simp; omega
      have g4 : ¬ (z : Int) = 255 := by omega
      have g5 : ¬ (z : Int) = 0 := by omega
      have HE := Lib.hid (show markE l s.at_ = 0 by rw [HH.out.2.1, if_pos ⟨rfl, by omega, by omega⟩])
      go_enter Tryd.func42, Tryd.ntmps42
      go_wp2_with fail
      go_quiet (fail)
      go_wp2_with fail
      go_quiet (fail)
      go_wp2
      go_ret2
      exact marked_done (x := (a : Int) + 2) HH.out.1 HE.out HH.out.2.2.1 HH.out.2.2.2.1 (by have := HH.out; omega) (by first | exact below_drewN_refl _ _ | exact on_trans (below_drewN_refl _ _) (below_drewN_refl _ _)) (by omega)
  · have HE := Lib.hid (show markE l s.at_ = 4 by rw [HH.out.2.1, if_neg (fun e => h1 (by have := e.1; omega))])
    go_enter Tryd.func42, Tryd.ntmps42
    go_wp2_with fail
    go_quiet (fail)
    go_wp2_with fail
    go_quiet (fail)
    go_wp2
    go_ret2
    exact marked_not HH.out.1 HE.out (by decide) (by first | exact below_drewN_refl _ _ | exact on_trans (below_drewN_refl _ _) (below_drewN_refl _ _))

theorem marker_any (w : World) (r g : Nat) (l : List Int) (s : St) (h : Rd w r g l s) : Calls Tryd.prog 42 #[.pointer (some ⟨r, 0, none⟩)] w (Got w r g l (markF l s)) := by
  by_cases ha : l.length < s.at_ + 2
  · exact marker_short w r g l s h ha
  · exact marker_two w r g l s h (by omega)
end Go.Proofs.YtdnjnbfmmgkpjaaDoor
