/-
  CursorBack: for every number n, every size byte, either byte order and every bytes b, called with any memory, the law returns true, and each argument reads afterwards as it read before. No condition.
-/
import Derived.Test.YthjnknhdnogaeaaRows
import Derived.Test.YthjnknhdnogaeaaBackNeg
import Derived.Test.YthjnknhdnogaeaaBackEight
import Derived.Test.YthjnknhdnogaeaaBackFits
import Derived.Test.YthjnknhdnogaeaaBackWide
import Derived.Test.YthjnknhdnogaeaaRowMath
import Derived.Test.YthjnknhdnogaeaaFrame
namespace Go.Proofs.Ythjnknhdnogaeaa
open Go.ChangeShapes Go.WideShapes Go.ChangeAt Go.RowKit

set_option maxHeartbeats 400000 in
theorem back_long (w : World) (A : Option Addr) (n c : Nat) (v z : Int) (big : Bool) (hn : (4000 : Int) < (n : Int)) :
    Calls Try.prog 7 #[.int .i64 v, .int .u8 z, .bool big, .slice A n c] w fun e w' => e = .returned (.bool true) ∧ Below w.heap.size w w' := by
  go_enter Try.func7, Try.ntmps7
  go_wp2_with fail
  refine (awake_any _).mono ?_
  rintro e w2 ⟨rfl, b2⟩
  have HC := Lib.hid b2
  clear b2
  go_wp2
  go_ret
  exact ⟨rfl, HC.out⟩

theorem back_all (w : World) (K : Nat → Prop) (A : Option Addr) (n c : Nat) (l : List Int) (v z : Int) (big : Bool) (h : Sl w K A n c l) (hz : 0 ≤ z ∧ z ≤ 255) (hv1 : v ≤ 9223372036854775807) :
    Calls Try.prog 7 #[.int .i64 v, .int .u8 z, .bool big, .slice A n c] w fun e w' => e = .returned (.bool true) ∧ Below w.heap.size w w' := by
  by_cases hn : n ≤ 4000
  · have hwd := wd_wrap z
    have hok := wd_ok z
    have h2 := of_decide_eq_true hok
    by_cases hv : v < 0
    · exact back_neg w K A n c l v z big (wdOf z) h hz hn hwd hok hv1 hv
    · by_cases h8 : wdOf z = 8
      · exact back_eight w K A n c l v z big (wdOf z) h hz hn hwd hok hv1 (by omega) h8
      · have hp := wd_pow hok (by omega)
        by_cases hP : v < (256 : Int) ^ wdOf z
        · exact back_fits w K A n c l v z big (wdOf z) h hz hn hwd hok hv1 (by omega) (by omega) _ hp hP rfl
        · exact back_wide w K A n c l v z big (wdOf z) h hz hn hwd hok hv1 (by omega) (by omega) _ hp hP
  · exact back_long w A n c v z big (by omega)

theorem i64_top {n : Int} (h : (Lit.int .i64 n).wf = true) : -9223372036854775808 ≤ n ∧ n ≤ 9223372036854775807 := by
  simpa [Lit.wf, IntKind.min, IntKind.max, IntKind.signed, IntKind.bits] using h
theorem u8_bd {n : Int} (h : (Lit.int .u8 n).wf = true) : 0 ≤ n ∧ n ≤ 255 := by
  simpa [Lit.wf, IntKind.min, IntKind.max, IntKind.signed, IntKind.bits] using h

set_option maxRecDepth 100000 in
theorem back_lifted (os : Os) (started : os.Started) (H : Type) (enc : TypeId × Value → H) :
    ReturnsInHanded {} Try.checked os 7 .any (Rows.cursorBackSpec.pre6 enc Try.prog Try.f7 Rows.cursorBackRow.domain false) (Rows.cursorBackSpec.post enc Try.prog Try.f7 false true false false) := by
  refine returnsInHanded_of_change (C := Try.checked) own_knob started (by kernel_rfl) Try.func7
    (ChangeSpec.witness6 (enc := enc) (C := Try.checked) false ⟨#[], #[.int .i64 0, .int .u8 0, .bool false, .slice none 0 0], []⟩ 8 (by kernel_rfl) (by kernel_rfl) (by kernel_rfl) (by kernel_rfl)) ?_
  intro W base args ds gs before hval0 hW _ _
  have hval : ∀ (j : Nat) t v, Try.f7.params[j]? = some t → args[j]? = some v → Value.okWide Try.prog W .any base t v := hval0
  have hW' := hW
  obtain ⟨p, q, hA0, hV, rfl, _, _⟩ := hW
  have hA : DataW.TrodAll enc Try.prog W 0 (fun _ => true) true Try.f7.params.toList args.toList ds p := hA0
  rw [Try.params7] at hA hval
  obtain ⟨v0, v1, v2, v3, d0, d1, d2, d3, p0, p1, p2, p3, rfl, rfl, rfl, h0, h1, h2, h3⟩ := trodAll_four hA
  obtain ⟨rfl, rfl⟩ := trodVars_none hV
  obtain ⟨a0, rfl, rfl, rfl, w0⟩ := open_int Try.underlying3 (hval 0 3 v0 rfl rfl) h0
  obtain ⟨a1, rfl, rfl, rfl, w1⟩ := open_int Try.underlying5 (hval 1 5 v1 rfl rfl) h1
  obtain ⟨a2, rfl, rfl, rfl⟩ := open_bool Try.underlying4 (hval 2 4 v2 rfl rfl) h2
  obtain ⟨a3, len3, cap3, rfl⟩ := okWide_slice Try.underlying22 (hval 3 22 v3 rfl rfl)
  have lt3 : ∀ x ∈ p3, x.block < W.heap.size := by obtain ⟨m, hm⟩ := h3; exact DataW.trod_lt m _ _ _ hm
  obtain ⟨l3, s3⟩ := sl_of_trod h3
  clear hA0 hval0
  refine (back_all W _ a3 len3 cap3 l3 a0 a1 a2 s3 (u8_bd w1) (i64_top w0).2).mono fun e W' ⟨he, bel⟩ => ?_
  subst he
  exact ⟨_, rfl, _, _, _, [], _, [], hW', trodAll_mk1 (shut_bool Try.underlying4 _), (trodAll_mk4 (shut_int Try.underlying3 w0) (shut_int Try.underlying5 w1) (shut_bool Try.underlying4 _) (Below.trod laid_out (by kernel_rfl) (of_decide_eq_true (by kernel_rfl)) h3 bel lt3)), rfl, bel.frame _, fun h => by cases h⟩

theorem cursorBack_holds : Rows.CursorBackSaid :=
  OpenClaim.holds_of_wide 7 Try.f7 rfl rfl rfl rfl rfl rfl rfl ⟨rfl, rfl, rfl, rfl, rfl⟩ rfl rfl rfl rfl rfl (by kernel_rfl) Try.func7 (by kernel_rfl)
    (of_decide_eq_true (by kernel_rfl)) (by unfold Func.isWrapper; first | (rw [if_pos (by decide +kernel)]; kernel_rfl) | (rw [if_neg (by decide +kernel)]; exact ⟨rfl, rfl⟩))
    (fun os started H enc _ => back_lifted os started H enc)

#print axioms cursorBack_holds
end Go.Proofs.Ythjnknhdnogaeaa
