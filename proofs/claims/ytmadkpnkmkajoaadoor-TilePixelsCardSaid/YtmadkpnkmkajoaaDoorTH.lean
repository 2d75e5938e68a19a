/-
  Tiles that may be of a geometry: the contract of valid.
-/
import Derived.Test.YtmadkpnkmkajoaaDoorTF
import Derived.Test.YtmadkpnkmkajoaaDoorTS
import Derived.Test.YtmadkpnkmkajoaaDoorST
namespace Go.Proofs.YtmadkpnkmkajoaaDoor
open Go.RowKit
set_option maxRecDepth 20000

/-- may a tile be of a geometry? -/
def OkT (W H T K Q : Int) (tl : List (List (List Int))) : Prop := RightG W H T K Q ∧ RightT T T K 0 tl
theorem ok_head (W H T K Q : Int) (tl : List (List (List Int))) : RightT (hT W H T K Q) (hT W H T K Q) (hK W H T K Q) 0 tl ↔ OkT W H T K Q tl := by
  by_cases hG : RightG W H T K Q
  · rw [show hT W H T K Q = T from if_pos hG, show hK W H T K Q = K from if_pos hG]
    exact ⟨fun h => ⟨hG, h⟩, fun h => h.2⟩
  · rw [show hT W H T K Q = 0 from if_neg hG, show hK W H T K Q = 0 from if_neg hG]
    refine ⟨fun h => ?_, fun h => absurd h.1 hG⟩
    have h1 := h.1
    unfold RightS at h1
    omega
theorem load_tile {w : World} {g : Nat} {v : Value} (h : Box w g 35 #[v]) : (Instr.loadAt 35 (.pointer (some ⟨g, 0, none⟩))).run Tryd.prog w = .ok (.agg #[v]) w :=
  run_loadAt_mid w g 0 35 [v] (.struct _) (fun j u hu => by rw [Nat.zero_add, h.cell j]; simpa using hu) Tryd.underlying35 rfl (by rw [tile_size]; rfl)
def ValidY (w : World) (W H T K Q : Int) (tl : List (List (List Int))) (e : Ending) (w' : World) : Prop := ∃ r, e = .returned (.bool r) ∧ (r = true ↔ OkT W H T K Q tl) ∧ Below w.heap.size w w'
set_option maxHeartbeats 3200000 in
theorem valid_any (w : World) (W H T K Q : Int) (B : Bool) (A : Option Addr) (n c : Nat) (L : List (Option Addr × Nat × Nat)) (tl : List (List (List Int))) (hTi : Ti w A n L tl) : Calls Tryd.prog 30 #[geoV W H T K Q B, tileV A n c] w (ValidY w W H T K Q tl) := by
  obtain ⟨g1, hg1⟩ : ∃ g1, w.heap.size = g1 := ⟨_, rfl⟩
  obtain ⟨w0, hw0⟩ : ∃ w1, (w.alloc (.cells #[.int .i64 W, .int .i64 H, .int .i64 T, .int .i64 K, .int .i64 Q, .bool B] 23)).alloc (.cells #[.slice A n c] 35) = w1 := ⟨_, rfl⟩
  have b1 : Box w0 g1 23 #[.int .i64 W, .int .i64 H, .int .i64 T, .int .i64 K, .int .i64 Q, .bool B] := by rw [← hw0, ← hg1]; exact (Box.made _ _ _).alloc _
  have b2 : Box w0 (g1 + 1) 35 #[.slice A n c] := by rw [← hw0, ← hg1]; have := Box.made (w.alloc (.cells #[.int .i64 W, .int .i64 H, .int .i64 T, .int .i64 K, .int .i64 Q, .bool B] 23)) 35 #[.slice A n c]; simpa using this
  have k1 : Below w.heap.size w w0 := by rw [← hw0]; exact on_trans (on_alloc _ _) (on_alloc _ _)
  have HB := Lib.hid (And.intro b1 (And.intro b2 (And.intro k1 hTi)))
  have HH := Lib.hid (fun w' => head_any w' W H T K Q B)
  have HR := Lib.hid (fun (w' : World) (k : Below w.heap.size w w') => rightT_any w' (hT W H T K Q) (hT W H T K Q) (hK W H T K Q) 0 A n c L tl (hTi.on k))
  unfold RightY at HR
  unfold scanV tileV at HR
  unfold scanV at HH
  unfold geoV at HH ⊢
  unfold tileV
  clear b1 b2 k1 hTi
  go_enter Tryd.func30, Tryd.ntmps30
  go_upto_region 1 with fail
  refine wp_region_held_drew (S := fun w' => Hid (Below w0.heap.size w0 w')) (by kernel_rfl) (Lib.hid (on_drew w0)) fun s0 => ?_
  refine take_to (i := 0) rfl (by kernel_rfl) (by kernel_rfl) (by kernel_rfl) (fun _ _ _ h => h) (yieldsIf_load (by rfl) 23 _ rfl (.pointer (some ⟨g1, 0, none⟩)) (by simp [Act.eval]) (.agg #[.int .i64 W, .int .i64 H, .int .i64 T, .int .i64 K, .int .i64 Q, .bool B]) (fun w' h => load_geo (HB.out.1.on h.out))) s0 (some 5) rfl ?_
  try simp only [Act.put, List.setIfInBounds_toArray, List.set_cons_zero, List.set_cons_succ]
  refine take_to (i := 2) rfl (by kernel_rfl) (by kernel_rfl) (by kernel_rfl) (fun _ _ _ h => h) (yieldsIf_load (by rfl) 35 _ rfl (.pointer (some ⟨g1 + 1, 0, none⟩)) (by simp [Act.eval]) (.agg #[.slice A n c]) (fun w' h => load_tile (HB.out.2.1.on h.out))) s0 (some 7) rfl ?_
  try simp only [Act.put, List.setIfInBounds_toArray, List.set_cons_zero, List.set_cons_succ]
  generalize w0.drew = v0 at s0 ⊢
  refine wpAnyH_ready (rs := [1]) (by kernel_rfl) (by simp) ?_
  refine AllReadyH.cons rfl (fun Kq hKq => ?_) AllReadyH.nil
  go_simp
  refine Calls.mono (HH.out v0) ?_
  rintro r u1 ⟨rfl, k1⟩
  have s1 := Lib.hid (on_trans s0.out k1)
  clear k1
  refine hKq.out _ _ s1 fun _ => ?_
  clear hKq Kq
  try simp only [Act.put, List.setIfInBounds_toArray, List.set_cons_zero, List.set_cons_succ]
  refine wpAnyH_ready (rs := [3]) (by kernel_rfl) (by simp) ?_
  refine AllReadyH.cons rfl (fun Kq hKq => ?_) AllReadyH.nil
  go_simp
  refine Calls.mono (HR.out u1 (on_trans HB.out.2.2.1 s1.out)) ?_
  rintro e u2 ⟨r, rfl, hr, k2⟩
  have s2 := Lib.hid (on_trans s1.out k2)
  have HF := Lib.hid (hr.trans (ok_head W H T K Q tl))
  clear k2 hr
  refine hKq.out _ _ s2 fun _ => ?_
  clear hKq Kq
  try simp only [Act.put, List.setIfInBounds_toArray, List.set_cons_zero, List.set_cons_succ]
  refine take_to (i := 4) (v := .bool r) rfl (by kernel_rfl) (by kernel_rfl) (by kernel_rfl) (fun _ _ _ h => h) (Or.inl ⟨by rfl, fun w' hS => by go_simp⟩) s2 (some 4) rfl ?_
  try simp only [Act.put, List.setIfInBounds_toArray, List.set_cons_zero, List.set_cons_succ]
  refine wpAnyH_done (by kernel_rfl) ?_ _
  go_wp2_with fail
  go_ret
  exact ⟨r, rfl, HF.out, on_trans HB.out.2.2.1 s2.out⟩
end Go.Proofs.YtmadkpnkmkajoaaDoor
