/-
  DiskKeeps: for every number of sectors, every two lists of steps and every keep, called with any memory, the law returns true, and each argument reads afterwards as it read before. No condition.
-/
import Derived.Test.YtghnhabpcikhgaaRows
import Derived.Test.YtghnhabpcikhgaaKeeps
import Derived.Test.YtghnhabpcikhgaaSyncedProof
namespace Go.Proofs.Ytghnhabpcikhgaa
open Go.ChangeShapes Go.WideShapes Go.ChangeAt Go.RowKit

set_option maxHeartbeats 400000 in
theorem keeps_else (w : World) (m keep : Int) (n c n2 c2 : Nat) (A A2 : Option Addr) (h : 100 < n ∨ 100 < n2 ∨ m < 1 ∨ 50 < m) :
    Calls Try.prog 4 #[.int .i64 m, .slice A n c, .slice A2 n2 c2, .int .u64 keep] w (Law w) := by
  have hc : ((100 : Int) < (n : Int)) ∨ (¬ (100 : Int) < (n : Int) ∧ (100 : Int) < (n2 : Int)) ∨ (¬ (100 : Int) < (n : Int) ∧ ¬ (100 : Int) < (n2 : Int) ∧ m < 1) ∨ (¬ (100 : Int) < (n : Int) ∧ ¬ (100 : Int) < (n2 : Int) ∧ ¬ m < 1 ∧ 50 < m) := by omega
  rcases hc with a1 | ⟨a1, a2⟩ | ⟨a1, a2, a3⟩ | ⟨a1, a2, a3, a4⟩
  all_goals
    go_enter Try.func4, Try.ntmps4
    go_wp2_with fail
    refine (awake_any w).mono ?_
    rintro e w8 ⟨rfl, b8⟩
    have F8 := Lib.hid b8
    clear b8
    go_wp2
    go_ret
    exact ⟨rfl, F8.out⟩

theorem diskKeeps_calls (w : World) (m : Int) (n c n2 c2 : Nat) (A A2 : Option Addr) (ks ks2 : List Step) (keep : Int) (h : Dos w A n ks) (h' : Dos w A2 n2 ks2) (h0 : 0 ≤ keep) (h1 : keep ≤ 18446744073709551615) :
    Calls Try.prog 4 #[.int .i64 m, .slice A n c, .slice A2 n2 c2, .int .u64 keep] w (Law w) := by
  by_cases hb : 100 < n ∨ 100 < n2 ∨ m < 1 ∨ 50 < m
  · exact keeps_else w m keep n c n2 c2 A A2 hb
  · obtain ⟨cnt, rfl⟩ : ∃ k : Nat, m = (k : Int) := ⟨m.toNat, by omega⟩
    obtain ⟨kp, rfl⟩ : ∃ k : Nat, keep = (k : Int) := ⟨keep.toNat, by omega⟩
    exact keeps_any w cnt n c n2 c2 kp A A2 ks ks2 h h' (by omega) (by omega) (by omega) (by omega) (by omega)

set_option maxRecDepth 100000 in
theorem diskKeeps_lifted (os : Os) (started : os.Started) (H : Type) (enc : TypeId × Value → H) :
    ReturnsInHanded {} Try.checked os 4 .any (Rows.diskKeepsSpec.pre6 enc Try.prog Try.f4 Rows.diskKeepsRow.domain false) (Rows.diskKeepsSpec.post enc Try.prog Try.f4 false true false false) := by
  refine returnsInHanded_of_change (C := Try.checked) own_knob started (by kernel_rfl) Try.func4
    (ChangeSpec.witness6 (enc := enc) (C := Try.checked) false ⟨#[], #[.int .i64 0, .slice none 0 0, .slice none 0 0, .int .u64 0], []⟩ 8 (by kernel_rfl) (by kernel_rfl) (by kernel_rfl) (by kernel_rfl)) ?_
  intro W base args ds gs before hval0 hW _ _
  have hval : ∀ (j : Nat) t v, Try.f4.params[j]? = some t → args[j]? = some v → Value.okWide Try.prog W .any base t v := hval0
  have hW' := hW
  obtain ⟨p, q, hA0, hV, rfl, _, _⟩ := hW
  have hA : DataW.TrodAll enc Try.prog W 0 (fun _ => true) true Try.f4.params.toList args.toList ds p := hA0
  rw [Try.params4] at hA hval
  obtain ⟨v0, v1, v2, v3, d0, d1, d2, d3, p0, p1, p2, p3, rfl, rfl, rfl, h0, h1, h2, h3⟩ := trodAll_four hA
  obtain ⟨rfl, rfl⟩ := trodVars_none hV
  obtain ⟨a0, rfl, rfl, rfl, w0⟩ := open_int Try.underlying3 (hval 0 3 v0 rfl rfl) h0
  obtain ⟨a1, len1, cap1, rfl⟩ := okWide_slice Try.underlying35 (hval 1 35 v1 rfl rfl)
  obtain ⟨a2, len2, cap2, rfl⟩ := okWide_slice Try.underlying35 (hval 2 35 v2 rfl rfl)
  obtain ⟨a3, rfl, rfl, rfl, w3⟩ := open_int Try.underlying28 (hval 3 28 v3 rfl rfl) h3
  have lt1 : ∀ x ∈ p1, x.block < W.heap.size := by obtain ⟨m, hm⟩ := h1; exact DataW.trod_lt m _ _ _ hm
  have lt2 : ∀ x ∈ p2, x.block < W.heap.size := by obtain ⟨m, hm⟩ := h2; exact DataW.trod_lt m _ _ _ hm
  obtain ⟨ks, s1⟩ := dos_of_trod h1
  obtain ⟨ks2, s2⟩ := dos_of_trod h2
  clear hA0 hval0
  refine (diskKeeps_calls W a0 len1 cap1 len2 cap2 a1 a2 ks ks2 a3 s1 s2 (wf_u64 w3).1 (wf_u64 w3).2).mono fun e W' ⟨he, bel⟩ => ?_
  subst he
  exact ⟨_, rfl, _, _, _, [], _, [], hW', trodAll_mk1 (shut_bool Try.underlying4 _), (trodAll_mk4 (shut_int Try.underlying3 w0) (Below.trod laid_out (by kernel_rfl) (of_decide_eq_true (by kernel_rfl)) h1 bel lt1) (Below.trod laid_out (by kernel_rfl) (of_decide_eq_true (by kernel_rfl)) h2 bel lt2) (shut_int Try.underlying28 w3)), rfl, bel.frame _, fun h => by cases h⟩

theorem diskKeeps_holds : Rows.DiskKeepsSaid :=
  OpenClaim.holds_of_wide 4 Try.f4 rfl rfl rfl rfl rfl rfl rfl ⟨rfl, rfl, rfl, rfl, rfl⟩ rfl rfl rfl rfl rfl (by kernel_rfl) Try.func4 (by kernel_rfl)
    (of_decide_eq_true (by kernel_rfl)) (by unfold Func.isWrapper; first | (rw [if_pos (by decide +kernel)]; kernel_rfl) | (rw [if_neg (by decide +kernel)]; exact ⟨rfl, rfl⟩))
    (fun os started H enc _ => diskKeeps_lifted os started H enc)

#print axioms diskKeeps_holds
end Go.Proofs.Ytghnhabpcikhgaa
