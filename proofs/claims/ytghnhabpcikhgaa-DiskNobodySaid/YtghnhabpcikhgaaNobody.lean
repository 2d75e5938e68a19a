/-
  The contracts of a disk that is not there, and DiskNobody: the walk.
-/
import Derived.Test.YtghnhabpcikhgaaRead
namespace Go.Proofs.Ytghnhabpcikhgaa
open Go.RowKit Go.Maps

section
variable (w : World)
set_option maxHeartbeats 400000 in
theorem nil_read (i : Int) : Calls Try.prog 20 #[.pointer none, .int .i64 i] w fun e w' => e = .returned (.tuple #[.slice none 0 0, .int .i64 1]) ∧ w = w' := by
  have HR := Lib.hid (reach_nil w i)
  go_enter Try.func20, Try.ntmps20
  go_wp2_with fail
  refine HR.out.mono ?_
  rintro e w' ⟨rfl, rfl⟩
  go_wp2
  go_ret2
  exact ⟨rfl, rfl⟩
set_option maxHeartbeats 400000 in
theorem nil_fuse (i k : Int) : Calls Try.prog 21 #[.pointer none, .int .i64 i, .int .u64 k] w fun e w' => e = .returned (.tuple #[]) ∧ w = w' := by
  go_enter Try.func21, Try.ntmps21
  go_wp2
  refine bodyPost_ret (results_none rfl _ _ _) rfl ?_
  exact ⟨rfl, rfl⟩
set_option maxHeartbeats 400000 in
theorem nil_crash (k : Int) : Calls Try.prog 18 #[.pointer none, .int .u64 k] w fun e w' => e = .returned (.tuple #[]) ∧ w = w' := by
  go_enter Try.func18, Try.ntmps18
  go_wp2
  refine bodyPost_ret (results_none rfl _ _ _) rfl ?_
  exact ⟨rfl, rfl⟩
set_option maxHeartbeats 400000 in
theorem nil_revive : Calls Try.prog 22 #[.pointer none] w fun e w' => e = .returned (.tuple #[]) ∧ w = w' := by
  go_enter Try.func22, Try.ntmps22
  go_wp2
  go_end0
  exact ⟨rfl, rfl⟩
set_option maxHeartbeats 400000 in
theorem nil_write (i : Int) (v : Value) : Calls Try.prog 13 #[.pointer none, .int .i64 i, v] w fun e w' => e = .returned (.int .i64 1) ∧ w = w' := by
  have HR := Lib.hid (reach_nil w i)
  go_enter Try.func13, Try.ntmps13
  go_wp2_with fail
  refine HR.out.mono ?_
  rintro e w' ⟨rfl, rfl⟩
  go_wp2
  go_ret
  exact ⟨rfl, rfl⟩
set_option maxHeartbeats 400000 in
theorem nil_sync : Calls Try.prog 15 #[.pointer none] w fun e w' => e = .returned (.int .i64 1) ∧ w = w' := by
  have HR := Lib.hid (alive_nil w)
  go_enter Try.func15, Try.ntmps15
  go_wp2_with fail
  refine HR.out.mono ?_
  rintro e w' ⟨rfl, rfl⟩
  go_wp2
  go_ret
  exact ⟨rfl, rfl⟩
set_option maxHeartbeats 400000 in
theorem nil_sectors : Calls Try.prog 23 #[.pointer none] w fun e w' => e = .returned (.int .i64 0) ∧ w = w' := by
  go_enter Try.func23, Try.ntmps23
  go_wp2
  go_ret
  exact ⟨rfl, rfl⟩
set_option maxHeartbeats 400000 in
theorem nil_pending : Calls Try.prog 24 #[.pointer none] w fun e w' => e = .returned (.int .i64 0) ∧ w = w' := by
  go_enter Try.func24, Try.ntmps24
  go_wp2
  go_ret
  exact ⟨rfl, rfl⟩
set_option maxHeartbeats 400000 in
theorem nil_dead : Calls Try.prog 19 #[.pointer none] w fun e w' => e = .returned (.bool false) ∧ w = w' := by
  go_enter Try.func19, Try.ntmps19
  go_wp2
  go_ret
  exact ⟨rfl, rfl⟩
set_option maxHeartbeats 400000 in
theorem nil_bytes : Calls Try.prog 17 #[.pointer none] w fun e w' => e = .returned (.slice none 0 0) ∧ w = w' := by
  go_enter Try.func17, Try.ntmps17
  go_wp2
  go_ret
  exact ⟨rfl, rfl⟩
set_option maxHeartbeats 400000 in
theorem nil_copy : Calls Try.prog 16 #[.pointer none] w fun e w' => e = .returned (.pointer none) ∧ w = w' := by
  go_enter Try.func16, Try.ntmps16
  go_wp2
  go_ret
  exact ⟨rfl, rfl⟩
end

/-- the question's cells -/
def Asked (b : Nat) (i x : Int) (w : World) : Prop := w.cell? ⟨b, 1, none⟩ = some (.int .i64 i) ∧ w.cell? ⟨b, 2, none⟩ = some (.int .u8 x)
theorem Asked.on {b : Nat} {i x : Int} {w w' : World} (h : Asked b i x w) (k : Below w.heap.size w w') : Asked b i x w' :=
  ⟨(k.cell (p := ⟨b, 1, none⟩) (World.block_lt_of_cell? w _ h.1)).trans h.1, (k.cell (p := ⟨b, 2, none⟩) (World.block_lt_of_cell? w _ h.2)).trans h.2⟩

set_option maxRecDepth 10000 in
set_option maxHeartbeats 3200000 in
theorem diskNobody_calls (w : World) (vb i : Int) (x : Int) (sh : Bool) (kp : Int) :
    Calls Try.prog 5 #[.agg #[.int .i64 vb, .int .i64 i, .int .u8 x, .bool sh, .int .u64 kp]] w (Law w) := by
  go_enter Try.func5, Try.ntmps5
  go_wp2_with fail
  obtain ⟨b, hb⟩ : ∃ b, b = w.heap.size := ⟨_, rfl⟩
  obtain ⟨w1, hw1⟩ : ∃ w1, w1 = w.alloc (.cells #[.int .i64 vb, .int .i64 i, .int .u8 x, .bool sh, .int .u64 kp] 38) := ⟨_, rfl⟩
  have hbox := Box.made w 38 #[.int .i64 vb, .int .i64 i, .int .u8 x, .bool sh, .int .u64 kp]
  have b1 : Below w.heap.size w w1 := by rw [hw1]; exact on_alloc _ _
  rw [← hw1, ← hb] at hbox ⊢
  have s1 : w1.cell? ⟨b, 1, none⟩ = some (.int .i64 i) := hbox.cell 1
  have s2 : w1.cell? ⟨b, 2, none⟩ = some (.int .u8 x) := hbox.cell 2
  have s4 : w1.cell? ⟨b, 4, none⟩ = some (.int .u64 kp) := hbox.cell 4
  have H1 := Lib.hid (And.intro b1 (show Asked b i x w1 from ⟨s1, s2⟩))
  clear hw1 hbox b1 hb
  refine (nil_read w1 i).mono ?_
  rintro e w' ⟨rfl, rfl⟩
  go_wp2_with fail
  refine (nil_fuse w1 i kp).mono ?_
  rintro e w' ⟨rfl, rfl⟩
  go_wp2_with fail
  refine (nil_crash w1 kp).mono ?_
  rintro e w' ⟨rfl, rfl⟩
  go_wp2_with fail
  refine (nil_revive w1).mono ?_
  rintro e w' ⟨rfl, rfl⟩
  go_wp2_with fail
  have K1 := Lib.hid (show Asked b i x w1.drew from H1.out.2)
  clear s1 s2 s4
  go_region_held3 (fun w' => w'.cell? ⟨b, 1, none⟩ = some (.int .i64 i) ∧ w'.cell? ⟨b, 2, none⟩ = some (.int .u8 x))
    (first
      | exact K1.out
      | exact K2.out
      | exact K3.out)
    (first
      | (go_at_call 14
         refine (full_any w1.drew x).mono ?_
         rintro e w2 ⟨rfl, _, b2⟩
         have K2 := Lib.hid (K1.out.on b2)
         have H2 := Lib.hid (on_trans (on_trans H1.out.1 (on_drew w1)) b2)
         clear b2)
      | (go_at_call 13
         refine (nil_write w2 i _).mono ?_
         rintro e w' ⟨rfl, rfl⟩)
      | (go_at_call 15
         refine (nil_sync w2).mono ?_
         rintro e w' ⟨rfl, rfl⟩)
      | (go_at_call 23
         refine (nil_sectors w2).mono ?_
         rintro e w' ⟨rfl, rfl⟩)
      | (go_at_call 24
         refine (nil_pending w2).mono ?_
         rintro e w' ⟨rfl, rfl⟩)
      | (go_at_call 19
         refine (nil_dead w2).mono ?_
         rintro e w' ⟨rfl, rfl⟩)
      | (go_at_call 17
         refine (nil_bytes w2).mono ?_
         rintro e w' ⟨rfl, rfl⟩)
      | (go_at_call 16
         refine (nil_copy w2).mono ?_
         rintro e w' ⟨rfl, rfl⟩)
      | (go_at_call 8
         refine (awake_any w2).mono ?_
         rintro e w3 ⟨rfl, b3⟩
         have K3 := Lib.hid (K2.out.on b3)
         have H3 := Lib.hid (on_trans H2.out b3)
         clear b3))
  all_goals
    go_wp2
    go_ret
    exact ⟨rfl, H3.out⟩

end Go.Proofs.Ytghnhabpcikhgaa
