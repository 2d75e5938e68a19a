/-
  The map's Copy; what every law asks of a map.
-/
import Derived.Test.YtcgajomngcgchaaGive
namespace Go.Proofs.Ytcgajomngcgchaa
open Go.RowKit

def Copied (m : Int) (fs : List X) (w : World) (e : Ending) (w' : World) : Prop := ∃ g A n c, e = .returned (.pointer (some ⟨g, 0, none⟩)) ∧ Mm w' g m fs A n c ∧ w.heap.size ≤ g ∧ Xl (fun b => w.heap.size ≤ b ∧ b ≠ g) w' A n c fs ∧ Below w.heap.size w w'
set_option maxHeartbeats 1600000 in
theorem copy_any (w : World) (g : Nat) (m : Int) (fs : List X) (A : Option Addr) (n c : Nat) (hM : Mm w g m fs A n c) (hn : n ≤ 10000) : Calls Try.prog 28 #[.pointer (some ⟨g, 0, none⟩)] w (Copied m fs w) := by
  have r0 : w.cell? ⟨g, 0, none⟩ = some (.int .i64 m) := hM.box.cell 0
  have HF := Lib.hid (mfree_any w.drew g m fs A n c (hM.on (on_drew w)) hn)
  have HM := Lib.hid (And.intro hM r0)
  clear hM
  go_enter Try.func28, Try.ntmps28
  go_wp2_with fail
  go_region_held3 (fun w' => w'.cell? ⟨g, 0, none⟩ = some (.int .i64 m))
    (first
      | exact HM.out.2
      | exact KK.out
      | exact on_cell KK.out (on_alloc _ _))
    (first
      | (go_at_call 23
         refine Calls.mono HF.out ?_
         rintro e w2 ⟨v, rfl, hown, b2⟩
         obtain ⟨A2, c2, hv, hx2⟩ := rd_of_own hown
         subst hv
         have KK := Lib.hid (on_cell HM.out.2 (on_trans (on_drew w) b2))
         have H2 := Lib.hid (And.intro hx2 (on_trans (on_drew w) b2))
         clear hown b2 hx2))
  all_goals
    go_wp2
    go_ret
    obtain ⟨hx2, b2⟩ := H2.out
    refine ⟨w2.heap.size, A2, _, c2, rfl, ⟨Box.made _ _ _, ?_⟩, b2.size, ?_, on_trans b2 (on_alloc _ _)⟩
    · exact (hx2.mono (K' := fun b => b < w2.heap.size) (fun b hb _ => hb)).on (on_alloc _ _) |>.mono (fun b _ hb => by omega)
    · exact (hx2.mono (K' := fun b => w.heap.size ≤ b ∧ b < w2.heap.size) (fun b hb h => ⟨h, hb⟩)).on (on_alloc _ _) |>.mono (fun b _ hb => ⟨hb.1, by have := hb.2; omega⟩)
/-- what awake answers -/
def Awake (w : World) (e : Ending) (w' : World) : Prop := e = .returned (.bool true) ∧ Below w.heap.size w w'
theorem frees_23 {fs : List X} (h : Frees 10 [(2, 3)] fs) : fs = [(0, 2), (5, 5)] := by
  refine h.rise.only (m := [(0, 2), (5, 5)]) (by simp [Rise]) fun k h0 h1 => ?_
  rw [h.mem k h0 h1]
  simp only [inE_cons]
  simp [InE.nil]
  omega
set_option maxHeartbeats 3200000 in
theorem awake_any (w : World) : Calls Try.prog 11 #[] w (Awake w) := by
  obtain ⟨w1, hw1⟩ : ∃ w1, w.alloc (.cells #[.int .i64 2, .int .i64 3] 42) = w1 := ⟨_, rfl⟩
  have k1 : Below w.heap.size w w1 := by rw [← hw1]; exact on_alloc _ _
  have hx : Xl (fun _ => True) w1 (some ⟨w.heap.size, 0, none⟩) 1 1 [(2, 3)] := rd_of_box (by rw [← hw1]; exact Box.made _ _ _) rfl (by decide) trivial
  have hN : newE 10 [(2, 3)] = 0 := by decide
  have HN := Lib.hid (And.intro ((new_any w1 10 _ _ 1 1 _ hx (by intro e he; simp at he; subst he; simp [I64]) (by omega)).mono (R' := NewGood 10 [(2, 3)] w1) fun r w' h => h.resolve_left fun h => h.1 hN) k1)
  clear k1 hx hN
  go_enter Try.func11, Try.ntmps11
  go_wp2_with (go_at_call 18
               refine Calls.mono HN.out.1 ?_
               rintro e w2 ⟨_, g, fs, A, n, c, rfl, hM, hF, hg, b2⟩
               have hfs := frees_23 hF
               subst hfs
               have hn : n = 2 := by have := hM.row.lenX; simpa using this.symm
               subst hn
               have HT := Lib.hid (show Calls Try.prog 21 #[.pointer (some ⟨g, 0, none⟩), .int .i64 3] w2 (fun r w' => r = .returned (.tuple #[.agg #[.int .i64 5, .int .i64 3], .int .i64 0]) ∧ (∃ A n c, Mm w' g 10 [(0, 2), (8, 2)] A n c) ∧ Kept (fun i => i = g) w2 w') from (take_some w2 g 10 _ A 2 c hM hF.rise (by omega) (by omega) 3 (by omega) (by decide)).mono fun r w' h => h)
               have H2 := Lib.hid (And.intro hM (And.intro hF (And.intro hg b2)))
               clear hM hF hg b2)
  refine Calls.mono HT.out ?_
  rintro e w3 ⟨rfl, ⟨A3, n3, c3, m3⟩, k3⟩
  obtain ⟨w4, hw4⟩ : ∃ w4, w3.alloc (.cells #[.int .i64 5, .int .i64 3] 42) = w4 := ⟨_, rfl⟩
  have b4 : Below w3.heap.size w3 w4 := by rw [← hw4]; exact on_alloc _ _
  have bx : Box w4 w3.heap.size 42 #[.int .i64 5, .int .i64 3] := by rw [← hw4]; exact Box.made _ _ _
  have q0 : w4.cell? ⟨w3.heap.size, 0, none⟩ = some (.int .i64 5) := bx.cell 0
  have q1 : w4.cell? ⟨w3.heap.size, 1, none⟩ = some (.int .i64 3) := bx.cell 1
  have HL := Lib.hid (left_any w4 g 10 [(0, 2), (8, 2)] A3 n3 c3 (m3.on b4) (by simp [Rise]) (by omega))
  have hlo : w.heap.size ≤ w2.heap.size := by have := HN.out.2.size; have := H2.out.2.2.2.size; omega
  have H4 := Lib.hid (show Below w.heap.size w w4 from (HN.out.2.trans (H2.out.2.2.2.mono HN.out.2.size)).trans ((k3.below hlo (fun i hi e => by have := H2.out.2.2.1; have := HN.out.2.size; omega)).trans (b4.mono (Nat.le_trans hlo k3.size))))
  have hs : sumS [(0, 2), (8, 2)] = 4 := by decide
  rw [hs] at HL
  have hnd : needF 129 = 2 := by decide
  have HD := Lib.hid (fun w' => need_any 129 w' (by omega))
  rw [hnd] at HD
  clear k3 m3 b4 bx hlo hs hnd
  go_wp2_with (first
    | (go_at_call 24
       refine Calls.mono HL.out ?_
       rintro e w5 ⟨rfl, b5⟩
       have H5 := Lib.hid b5
       clear b5)
    | (go_at_call 14
       refine Calls.mono (HD.out _) ?_
       rintro e w6 ⟨rfl, rfl⟩))
  go_ret
  exact ⟨rfl, on_trans H4.out H5.out⟩
end Go.Proofs.Ytcgajomngcgchaa
