/-
  The contracts of plane's Grow and of its closure.
-/
import Derived.Test.YtadlaljohlpabaaQCropE
import Derived.Test.YtadlaljohlpabaaPLaw
import Derived.Deep.RegionWith
namespace Go.Proofs.Ytadlaljohlpabaa
open Go.RowKit

theorem calls37 (args : Array Value) (w : World) : (callFunc 37 args).run Try.prog w = .ok (.enter 37 args) w := by kernel_rfl
/-- by how much a side is divided -/
def facN (a : Bool) : Nat := if a then 2 else 1
theorem facN_bounds (a : Bool) : 1 ≤ facN a ∧ facN a ≤ 2 := by cases a <;> decide
theorem facN_div (a : Bool) (x : Nat) : x / facN a = if a then x / 2 else x := by cases a <;> simp [facN]
theorem factorN_any (w : World) (a : Bool) : Calls Try.prog 32 #[.bool a] w (Tells0 w (.int .i64 ((facN a : Nat) : Int))) := by
  have h := factor_any w a
  have e : (if a then 2 else 1 : Int) = ((facN a : Nat) : Int) := by cases a <;> rfl
  rw [e] at h
  exact h

set_option maxHeartbeats 1600000 in
theorem growT_any (w : World) (gP gC gD : Nat) (W H C D a b : Nat) (A : Option Addr) (n c : Nat) (xs : List Int) (bP : Box w gP 24 #[.int .i64 (W : Int), .int .i64 (H : Int), .slice A n c]) (bC : Box w gC 3 #[.int .i64 (C : Int)]) (bD : Box w gD 3 #[.int .i64 (D : Int)])
    (hI : Ia w A n c xs) (hr : RightP xs W H) (hC : 1 ≤ C ∧ C ≤ 2) (hD : 1 ≤ D ∧ D ≤ 2) (ha : a < 128) (hb : b < 128) :
    Calls Try.prog 37 #[.int .i64 (a : Int), .int .i64 (b : Int), .pointer (some ⟨gP, 0, none⟩), .pointer (some ⟨gC, 0, none⟩), .pointer (some ⟨gD, 0, none⟩)] w (Atd w (atL xs W H ((a / C : Nat) : Int) ((b / D : Nat) : Int))) := by
  have HA := Lib.hid (fun w' (k : Below w.heap.size w w') => sample_any w' W H A n c xs ((a : Int) / (C : Int)) ((b : Int) / (D : Int)) (hI.on k) hr)
  rw [Int.natCast_ediv, Int.natCast_ediv]
  unfold Atd at HA
  have HB := Lib.hid (And.intro bP (And.intro bC bD))
  have q0 : 0 ≤ (a : Int) / (C : Int) ∧ (a : Int) / (C : Int) ≤ 128 := by
    have h0 : 0 ≤ (a : Int) / (C : Int) := Int.ediv_nonneg (by omega) (by omega)
    have h1 : (a : Int) / (C : Int) ≤ (a : Int) := Int.ediv_le_self _ (by omega)
    omega
  have r0 : 0 ≤ (b : Int) / (D : Int) ∧ (b : Int) / (D : Int) ≤ 128 := by
    have h0 : 0 ≤ (b : Int) / (D : Int) := Int.ediv_nonneg (by omega) (by omega)
    have h1 : (b : Int) / (D : Int) ≤ (b : Int) := Int.ediv_le_self _ (by omega)
    omega
  obtain ⟨q0, q1⟩ := q0
  obtain ⟨r0, r1⟩ := r0
  obtain ⟨C0, C1⟩ := hC
  obtain ⟨D0, D1⟩ := hD
  clear hI hr bP bC bD
  go_enter Try.func37, Try.ntmps37
  go_wp2_with fail
  refine wp_region_held_drew (S := fun w' => Hid (Below w.heap.size w w')) (by kernel_rfl) (Lib.hid (on_drew w)) fun s0 => ?_
  refine take_to (i := 0) rfl (by kernel_rfl) (by kernel_rfl) (by kernel_rfl) (fun _ _ _ h => h) (yieldsIf_load (by rfl) 24 _ rfl (.pointer (some ⟨gP, 0, none⟩)) rfl (.agg #[.int .i64 (W : Int), .int .i64 (H : Int), .slice A n c]) (fun w' h => load_plane (HB.out.1.on h.out) rfl)) s0 (some 8) rfl ?_
  refine take_to (i := 1) (v := .int .i64 (a : Int)) rfl (by kernel_rfl) (by kernel_rfl) (by kernel_rfl) (fun _ _ _ h => h) (Or.inl ⟨by rfl, fun w' hS => by go_simp⟩) s0 (some 9) rfl ?_
  refine take_to (i := 2) (v := .int .i64 (C : Int)) rfl (by kernel_rfl) (by kernel_rfl) (by kernel_rfl) (fun _ _ _ h => h) (Or.inl ⟨by rfl, fun w' hS => by have c : w'.cell? ⟨gC, 0, none⟩ = some (.int .i64 (C : Int)) := (HB.out.2.1.on hS.out).cell 0; go_simp⟩) s0 (some 10) rfl ?_
  refine take_to (i := 3) (v := .int .i64 ((a : Int) / (C : Int))) rfl (by kernel_rfl) (by kernel_rfl) (by kernel_rfl) (fun _ _ _ h => h) (Or.inl ⟨by rfl, fun w' hS => by go_simp; rw [if_neg (by omega), wrap64 (by omega) (by omega)]⟩) s0 (some 11) rfl ?_
  refine take_to (i := 4) (v := .int .i64 (b : Int)) rfl (by kernel_rfl) (by kernel_rfl) (by kernel_rfl) (fun _ _ _ h => h) (Or.inl ⟨by rfl, fun w' hS => by go_simp⟩) s0 (some 12) rfl ?_
  refine take_to (i := 5) (v := .int .i64 (D : Int)) rfl (by kernel_rfl) (by kernel_rfl) (by kernel_rfl) (fun _ _ _ h => h) (Or.inl ⟨by rfl, fun w' hS => by have c : w'.cell? ⟨gD, 0, none⟩ = some (.int .i64 (D : Int)) := (HB.out.2.2.on hS.out).cell 0; go_simp⟩) s0 (some 13) rfl ?_
  refine take_to (i := 6) (v := .int .i64 ((b : Int) / (D : Int))) rfl (by kernel_rfl) (by kernel_rfl) (by kernel_rfl) (fun _ _ _ h => h) (Or.inl ⟨by rfl, fun w' hS => by go_simp; rw [if_neg (by omega), wrap64 (by omega) (by omega)]⟩) s0 (some 14) rfl ?_
  generalize w.drew = v0 at s0 ⊢
  refine wpAnyH_ready (rs := [7]) (by kernel_rfl) (by simp) ?_
  refine AllReadyH.cons rfl (fun K hK => ?_) AllReadyH.nil
  go_simp
  refine Calls.mono (HA.out v0 s0.out) ?_
  rintro r v1 ⟨rfl, k1⟩
  have s1 := Lib.hid (on_trans s0.out k1)
  clear k1
  refine hK.out _ _ s1 fun _ => ?_
  clear hK K
  refine take_to (i := 8) (v := .int .i64 (atL xs W H ((a : Int) / (C : Int)) ((b : Int) / (D : Int)))) rfl (by kernel_rfl) (by kernel_rfl) (by kernel_rfl) (fun _ _ _ h => h) (Or.inl ⟨by rfl, fun w' hS => by go_simp⟩) s1 (some 7) rfl ?_
  refine wpAnyH_done (by kernel_rfl) ?_ _
  go_wp2_with fail
  go_ret
  exact ⟨rfl, s1.out⟩
end Go.Proofs.Ytadlaljohlpabaa
