/-
  The reference's pixels of a tile that may not be.
-/
import Derived.Test.YtmadkpnkmkajoaaDoorTN
import Derived.Test.YtmadkpnkmkajoaaDoorTB
namespace Go.Proofs.YtmadkpnkmkajoaaDoor
open Go.RowKit
set_option maxRecDepth 20000

set_option maxHeartbeats 3200000 in
theorem refPixels_bad (w : World) (W H T K Q : Int) (B : Bool) (A : Option Addr) (n c : Nat) (L : List (Option Addr × Nat × Nat)) (tl : List (List (List Int))) (hTi : Ti w A n L tl) (hno : ¬ OkT W H T K Q tl) :
    Calls Tryd.prog 21 #[geoV W H T K Q B, tileV A n c] w fun e w' => e = .returned (.tuple #[.slice none 0 0, .int .i64 1]) ∧ Below w.heap.size w w' := by
  obtain ⟨g1, hg1⟩ : ∃ g1, w.heap.size = g1 := ⟨_, rfl⟩
  obtain ⟨w0, hw0⟩ : ∃ w1, (w.alloc (.cells #[.int .i64 W, .int .i64 H, .int .i64 T, .int .i64 K, .int .i64 Q, .bool B] 23)).alloc (.cells #[.slice A n c] 35) = w1 := ⟨_, rfl⟩
  have b1 : Box w0 g1 23 #[.int .i64 W, .int .i64 H, .int .i64 T, .int .i64 K, .int .i64 Q, .bool B] := by rw [← hw0, ← hg1]; exact (Box.made _ _ _).alloc _
  have b2 : Box w0 (g1 + 1) 35 #[.slice A n c] := by rw [← hw0, ← hg1]; have := Box.made (w.alloc (.cells #[.int .i64 W, .int .i64 H, .int .i64 T, .int .i64 K, .int .i64 Q, .bool B] 23)) 35 #[.slice A n c]; simpa using this
  have k1 : Below w.heap.size w w0 := by rw [← hw0]; exact on_trans (on_alloc _ _) (on_alloc _ _)
  have HL := Lib.hid (And.intro (load_geo b1) (load_tile b2))
  have HB := Lib.hid (And.intro k1 hno)
  have HV := Lib.hid (may_any w0 W H T K Q B A n c L tl (hTi.on k1))
  unfold ValidY at HV
  unfold geoV at HV ⊢
  unfold tileV at HV ⊢
  clear b1 b2 k1 hTi hno
  go_enter Tryd.func21, Tryd.ntmps21
  go_wp2_with (first
    | (with_reducible refine wpList_load_to (op := ⟨some 27, _, _, _, _, _⟩) rfl 23 (.tmp 2) rfl (.pointer (some ⟨g1, 0, none⟩)) ?hx (.agg #[.int .i64 W, .int .i64 H, .int .i64 T, .int .i64 K, .int .i64 Q, .bool B]) HL.out.1 ?_)
    | (with_reducible refine wpList_load_to (op := ⟨some 28, _, _, _, _, _⟩) rfl 35 (.tmp 3) rfl (.pointer (some ⟨g1 + 1, 0, none⟩)) ?hx2 (.agg #[.slice A n c]) HL.out.2 ?_)
    | fail)
  all_goals try (first | (case hx => simp [Act.eval]) | (case hx2 => simp [Act.eval]))
  clear hw0
  refine HV.out.mono ?_
  rintro e w1 ⟨r, rfl, hr, k1⟩
  obtain rfl : r = false := by
    cases r with
    | false => rfl
    | true => exact absurd (hr.1 rfl) HB.out.2
  have H1 := Lib.hid (on_trans HB.out.1 k1)
  clear k1 hr HV
  go_wp2_with fail
  go_ret2
  exact ⟨rfl, H1.out⟩

end Go.Proofs.YtmadkpnkmkajoaaDoor
