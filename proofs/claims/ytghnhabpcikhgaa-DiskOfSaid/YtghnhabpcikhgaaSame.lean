/-
  The contract of the laws' same, where nothing is pending; and of Of, where there is no such disk.
-/
import Derived.Test.YtghnhabpcikhgaaRefOf
import Derived.Test.YtghnhabpcikhgaaPlay
namespace Go.Proofs.Ytghnhabpcikhgaa
open Go.RowKit Go.Maps
variable {X : Nat → Prop} {N : Nat}

set_option maxRecDepth 10000 in
set_option maxHeartbeats 800000 in
theorem of_none (w : World) (A : Option Addr) (n c : Nat) (h : n = 0 ∨ 524288 < n) :
    Calls Try.prog 9 #[.slice A n c] w fun e w' => e = .returned (.pointer none) ∧ w = w' := by
  rcases h with rfl | h
  · go_enter Try.func9, Try.ntmps9
    go_wp2_with fail
    refine (new_none w 0 (by omega)).mono ?_
    rintro e w' ⟨rfl, rfl⟩
    go_wp2
    go_ret
    exact ⟨rfl, rfl⟩
  · have h1 : (524288 : Int) < (n : Int) := by omega
    go_enter Try.func9, Try.ntmps9
    go_wp2
    go_ret
    exact ⟨rfl, rfl⟩

/-- the reference's disk in a block -/
def RefBox (w : World) (b : Nat) (A : Option Addr) (cnt c : Nat) : Prop := Box w b 30 #[.slice A cnt c, .slice none 0 0, .int .i64 0, .int .u64 0, .bool false, .bool false]
/-- its cells -/
def RefCells (w' : World) (b : Nat) (A : Option Addr) (cnt c : Nat) : Prop := w'.cell? ⟨b, 0, none⟩ = some (.slice A cnt c) ∧ w'.cell? ⟨b, 1, none⟩ = some (.slice none 0 0) ∧ w'.cell? ⟨b, 2, none⟩ = some (.int .i64 0) ∧ w'.cell? ⟨b, 3, none⟩ = some (.int .u64 0) ∧ w'.cell? ⟨b, 4, none⟩ = some (.bool false) ∧ w'.cell? ⟨b, 5, none⟩ = some (.bool false)
theorem RefBox.cells {w : World} {b : Nat} {A : Option Addr} {cnt c : Nat} (h : RefBox w b A cnt c) : RefCells w b A cnt c := ⟨Box.cell h 0, Box.cell h 1, Box.cell h 2, Box.cell h 3, Box.cell h 4, Box.cell h 5⟩

set_option maxRecDepth 10000 in
set_option maxHeartbeats 3200000 in
theorem same_any (w : World) (d cnt c : Nat) (A : Option Addr) (f : Nat → List Int) (h : Disk X N w d cnt f [] false) (hD : Done w A cnt f) (hc : cnt ≤ 4096) :
    Calls Try.prog 11 #[.pointer (some ⟨d, 0, none⟩), .agg #[.slice A cnt c, .slice none 0 0, .int .i64 0, .int .u64 0, .bool false, .bool false]] w (Law w) := by
  have hg := h.good.1
  obtain ⟨S, hS⟩ : ∃ S, S = strOfNums (flat cnt f) := ⟨_, rfl⟩
  have HH := Lib.hid (And.intro h (And.intro hD (And.intro hg hS)))
  clear h hD hg hS
  go_enter Try.func11, Try.ntmps11
  go_wp2_with fail
  obtain ⟨b, hb⟩ : ∃ b, b = w.heap.size := ⟨_, rfl⟩
  obtain ⟨w1, hw1⟩ : ∃ w1, w1 = w.alloc (.cells #[.slice A cnt c, .slice none 0 0, .int .i64 0, .int .u64 0, .bool false, .bool false] 30) := ⟨_, rfl⟩
  have hbox := Box.made w 30 #[.slice A cnt c, .slice none 0 0, .int .i64 0, .int .u64 0, .bool false, .bool false]
  have b1 : Below w.heap.size w w1 := by rw [hw1]; exact on_alloc _ _
  rw [← hw1, ← hb] at hbox ⊢
  have H1 := Lib.hid (And.intro (show RefBox w1.drew b A cnt c from hbox) (And.intro (on_trans b1 (on_drew w1)) (HH.out.1.on (on_trans b1 (on_drew w1)))))
  have K1 := Lib.hid H1.out.1.cells
  clear hw1 hb hbox b1
  go_region_held (fun w' => w'.cell? ⟨b, 0, none⟩ = some (.slice A cnt c) ∧ w'.cell? ⟨b, 1, none⟩ = some (.slice none 0 0) ∧ w'.cell? ⟨b, 2, none⟩ = some (.int .i64 0) ∧ w'.cell? ⟨b, 3, none⟩ = some (.int .u64 0) ∧ w'.cell? ⟨b, 4, none⟩ = some (.bool false) ∧ w'.cell? ⟨b, 5, none⟩ = some (.bool false))
    (first
      | exact K1.out
      | exact K2.out
      | exact K3.out)
    (first
      | (go_at_call 23
         with_reducible refine (sectors_any H1.out.2.2).mono ?_
         rintro e w' ⟨rfl, rfl⟩)
      | (go_at_call 24
         with_reducible refine (pending_any H1.out.2.2).mono ?_
         rintro e w' ⟨rfl, rfl⟩)
      | (go_at_call 19
         with_reducible refine (dead_any H1.out.2.2).mono ?_
         rintro e w' ⟨rfl, rfl⟩)
      | (go_at_call 17
         with_reducible refine (bytes_any H1.out.2.2).mono ?_
         rintro e w2 ⟨g2, rfl, _, hb2, b2⟩
         rw [after_nil] at hb2
         have hs2 := sl_of_box (K := fun _ => True) hb2 (flat_fit HH.out.2.2.1) (flat_len HH.out.2.2.1) (by unfold maxLen; omega) trivial
         have cv1 := sl_str hs2
         rw [← HH.out.2.2.2] at cv1
         have K2 := Lib.hid (RefBox.cells (show RefBox w2 b A cnt c from Box.on H1.out.1 b2))
         have H2 := Lib.hid (And.intro (show RefBox w2 b A cnt c from Box.on H1.out.1 b2) (And.intro hs2 (on_trans H1.out.2.1 b2)))
         clear hb2 b2 hs2)
      | (go_at_call 26
         with_reducible refine (refBytes_any w2 A cnt c f (HH.out.2.1.on H2.out.2.2) HH.out.2.2.1 hc).mono ?_
         rintro e w3 ⟨B3, c3, rfl, hs3, b3⟩
         have cv2 := sl_str hs3
         have cv3 := sl_str (H2.out.2.1.on b3)
         rw [← HH.out.2.2.2] at cv2 cv3
         have K3 := Lib.hid (RefBox.cells (show RefBox w3 b A cnt c from Box.on H2.out.1 b3))
         have H3 := Lib.hid (on_trans H2.out.2.2 b3)
         clear hs3 b3)
      | (go_at_call 26
         with_reducible refine (refBytes_any w1.drew A cnt c f (HH.out.2.1.on H1.out.2.1) HH.out.2.2.1 hc).mono ?_
         rintro e w2 ⟨B2, c2, rfl, hs2, b2⟩
         have cv1 := sl_str hs2
         rw [← HH.out.2.2.2] at cv1
         have K2 := Lib.hid (RefBox.cells (show RefBox w2 b A cnt c from Box.on H1.out.1 b2))
         have H2 := Lib.hid (And.intro (show RefBox w2 b A cnt c from Box.on H1.out.1 b2) (And.intro hs2 (And.intro (on_trans H1.out.2.1 b2) (H1.out.2.2.on b2))))
         clear hs2 b2)
      | (go_at_call 17
         with_reducible refine (bytes_any H2.out.2.2.2).mono ?_
         rintro e w3 ⟨g3, rfl, _, hb3, b3⟩
         rw [after_nil] at hb3
         have cv2 := sl_str (sl_of_box (K := fun _ => True) hb3 (flat_fit HH.out.2.2.1) (flat_len HH.out.2.2.1) (by unfold maxLen; omega) trivial)
         have cv3 := sl_str (H2.out.2.1.on b3)
         rw [← HH.out.2.2.2] at cv2 cv3
         have K3 := Lib.hid (RefBox.cells (show RefBox w3 b A cnt c from Box.on H2.out.1 b3))
         have H3 := Lib.hid (on_trans H2.out.2.2.1 b3)
         clear hb3 b3))
  all_goals
    go_wp2
    go_ret
    exact ⟨rfl, H3.out⟩

end Go.Proofs.Ytghnhabpcikhgaa
