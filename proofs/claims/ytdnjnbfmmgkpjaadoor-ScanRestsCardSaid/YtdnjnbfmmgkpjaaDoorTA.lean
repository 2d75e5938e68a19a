/-
  What tally counts with: the contracts of tally$1 (a block is counted), tally$2 (a restart), and of suited.
-/
import Derived.Test.YtdnjnbfmmgkpjaaDoorGC
import Derived.Test.YtdnjnbfmmgkpjaaDoorPD
namespace Go.Proofs.YtdnjnbfmmgkpjaaDoor
open Go.RowKit

def slP (p : Nat) : Value := .slice (some ⟨p, 0, none⟩) 256 256
/-- four rows of counts: DC and AC of brightness, DC and AC of colour -/
structure CntM (w : World) (lo ga : Nat) (P : Nat → Nat) (S : Nat → List Int) : Prop where
  box : Box w ga 90 #[slP (P 0), slP (P 1), slP (P 2), slP (P 3)]
  row : ∀ j, j < 4 → Box w (P j) 3 (cellsI (S j)).toArray ∧ (S j).length = 256 ∧ lo ≤ P j
theorem CntM.on {w w' : World} {lo ga : Nat} {P : Nat → Nat} {S : Nat → List Int} (h : CntM w lo ga P S) (k : Below w.heap.size w w') : CntM w' lo ga P S :=
  ⟨h.box.on k, fun j hj => ⟨(h.row j hj).1.on k, (h.row j hj).2⟩⟩
theorem CntM.kept {R : Nat → Prop} {w w' : World} {lo ga : Nat} {P : Nat → Nat} {S : Nat → List Int} (h : CntM w lo ga P S) (k : Kept R w w') (h0 : ¬ R ga) (h1 : ∀ j, j < 4 → ¬ R (P j)) : CntM w' lo ga P S :=
  ⟨k.box h.box h0, fun j hj => ⟨k.box (h.row j hj).1 (h1 j hj), (h.row j hj).2⟩⟩
theorem CntM.cell {w : World} {lo ga : Nat} {P : Nat → Nat} {S : Nat → List Int} (h : CntM w lo ga P S) {j : Nat} (hj : j < 4) : w.cell? ⟨ga, j, none⟩ = some (slP (P j)) := by
  rw [h.box.cell]
  rcases (show j = 0 ∨ j = 1 ∨ j = 2 ∨ j = 3 by omega) with rfl | rfl | rfl | rfl <;> rfl
theorem CntM.ia {w : World} {lo ga : Nat} {P : Nat → Nat} {S : Nat → List Int} (h : CntM w lo ga P S) {j : Nat} (hj : j < 4) : Ia w (some ⟨P j, 0, none⟩) 256 256 (S j) := by
  obtain ⟨h1, h2, _⟩ := h.row j hj
  exact (il_of_box h1 h2 (by unfold maxLen; omega)).ia
def put2 {α : Type} (f : Nat → α) (c : Nat) (x y : α) : Nat → α := fun j => if j = 2 * c then x else if j = 2 * c + 1 then y else f j
theorem CntM.more {w w' : World} {lo ga p q c : Nat} {P : Nat → Nat} {S : Nat → List Int} {x y : List Int} (h : CntM w lo ga P S) (hc : c ≤ 1) (k : Below w.heap.size w w') (hp : Box w' p 3 (cellsI x).toArray) (hq : Box w' q 3 (cellsI y).toArray) (hx : x.length = 256) (hy : y.length = 256) (h1 : lo ≤ p) (h2 : lo ≤ q) :
    CntM ((w'.setCell ⟨ga, c * 2, none⟩ (slP p)).setCell ⟨ga, c * 2 + 1, none⟩ (slP q)) lo ga (put2 P c p q) (put2 S c x y) ∧ Kept (fun i => i = ga) w ((w'.setCell ⟨ga, c * 2, none⟩ (slP p)).setCell ⟨ga, c * 2 + 1, none⟩ (slP q)) := by
  have hb := h.box.on k
  have hK : Kept (fun i => i = ga) w' ((w'.setCell ⟨ga, c * 2, none⟩ (slP p)).setCell ⟨ga, c * 2 + 1, none⟩ (slP q)) := ((Kept.refl (fun i => i = ga) w').setCell (p := ⟨ga, c * 2, none⟩) (fun _ => rfl) _).setCell (p := ⟨ga, c * 2 + 1, none⟩) (fun _ => rfl) _
  have ne : ∀ {g : Nat} {cs : Array Value}, Box w' g 3 cs → ¬ (g = ga) := fun hg e => by subst e; exact hg.apart hb (by decide) rfl
  refine ⟨⟨?_, fun j hj => ?_⟩, (Kept.of_below k (fun i => i = ga)).trans hK (fun _ _ h => h)⟩
  · have := (hb.put (c * 2) (slP p)).put (c * 2 + 1) (slP q)
    rcases (show c = 0 ∨ c = 1 by omega) with rfl | rfl
    · exact this
    · exact this
  · unfold put2
    by_cases e1 : j = 2 * c
    · rw [if_pos e1, if_pos e1]
      exact ⟨hK.box hp (ne hp), hx, h1⟩
    · rw [if_neg e1, if_neg e1]
      by_cases e2 : j = 2 * c + 1
      · rw [if_pos e2, if_pos e2]
        exact ⟨hK.box hq (ne hq), hy, h2⟩
      · rw [if_neg e2, if_neg e2]
        obtain ⟨g1, g2, g3⟩ := h.row j hj
        exact ⟨hK.box (g1.on k) (ne (g1.on k)), g2, g3⟩
section
variable (w : World) (lo ga p : Nat) (P : Nat → Nat) (S : Nat → List Int) (z : Int) (bb ob : Nat) (b : List Int)
/-- what tally$1 tells -/
def CountY (w : World) (lo ga p : Nat) (S : Nat → List Int) (z : Int) (b : List Int) (e : Ending) (w' : World) : Prop :=
  e = .returned (.int .i64 0) ∧ (∃ P', CntM w' lo ga P' (put2 S (min p 1) (cntL (S (2 * min p 1)) 0 (allS z b)) (cntL (S (2 * min p 1 + 1)) 1 (allS z b)))) ∧ Kept (fun i => i = ga) w w'
set_option maxRecDepth 10000 in
set_option maxHeartbeats 3200000 in
theorem count1_any (hT : Tab w) (hc : CntM w lo ga P S) (hp : p ≤ 3) (hz : In z) (hb : b.length = 64) (hr : RightB b) (hbb : bb < w.heap.size) (hbg : bb ≠ ga) (hcell : ∀ j, j < 64 → w.cell? ⟨bb, ob + j, none⟩ = some (.int .i64 (b.getD j 0))) (hi : ∀ j, j < 4 → ∀ i, isInt ((S j).getD i 0)) (hlo : lo ≤ w.heap.size) :
    Calls Tryd.prog 66 #[.int .i64 (p : Int), .pointer (some ⟨bb, ob, none⟩), .int .i64 z, .pointer (some ⟨ga, 0, none⟩)] w (CountY w lo ga p S z b) := by
  unfold CountY
  obtain ⟨c, hcc⟩ : ∃ c, c = min p 1 := ⟨_, rfl⟩
  have hc2 : c ≤ 1 := by rw [hcc]; exact Nat.min_le_right _ _
  rw [← hcc]
  have hwh := fun w' => which_any w' p (by omega)
  rw [← hcc] at hwh
  have HWh := Lib.hid hwh
  have hci : (c : Int) < 2 := by omega
  have e2 : 2 * c = c * 2 := Nat.mul_comm _ _
  have r0 : w.drew.cell? ⟨ga, c * 2, none⟩ = some (.slice (some ⟨P (c * 2), 0, none⟩) 256 256) := (hc.on (on_drew w)).cell (by omega)
  have r1 : w.drew.cell? ⟨ga, c * 2 + 1, none⟩ = some (.slice (some ⟨P (c * 2 + 1), 0, none⟩) 256 256) := (hc.on (on_drew w)).cell (by omega)
  have HR := Lib.hid (And.intro r0 r1)
  have hld : ∀ w', Kept (fun i => i = ga) w w' → (Instr.loadAt 25 (.pointer (some ⟨bb, ob, none⟩))).run Tryd.prog w' = .ok (blkV b) w' := fun w' k => load_blkAt hb (fun j hj => (k.cell (p := ⟨bb, ob + j, none⟩) hbb hbg).trans (hcell j hj))
  have HB := Lib.hid hld
  have HC := Lib.hid (And.intro hc (And.intro hc2 (And.intro hlo e2)))
  have HT := Lib.hid (fun w' (k : Below w.heap.size w w') => tally_done w' (some ⟨P (c * 2), 0, none⟩) (some ⟨P (c * 2 + 1), 0, none⟩) 256 256 256 256 z b (S (c * 2)) (S (c * 2 + 1)) (hT.on k) rfl rfl hb hz hr ((hc.on k).ia (by omega)) ((hc.on k).ia (by omega)) (hi _ (by omega)) (hi _ (by omega)))
  unfold Tallied at HT
  clear hT hc hz hb hr hcell hi hld hwh hcc hlo r0 r1 e2
  go_enter Tryd.func66, Tryd.ntmps66
  go_upto_region 2 with (first
    | (go_at_call 25; with_reducible refine (HWh.out _).mono ?_; rintro e w6 ⟨rfl, rfl⟩)
    | fail)
  refine wp_region_held_drew (S := fun w' => Hid (Kept (fun i => i = ga) w w')) (by kernel_rfl) (Lib.hid (Kept.of_below (on_drew w) _)) fun s0 => ?_
  refine take_to (i := 0) (v := .pointer (some ⟨ga, c * 2, none⟩)) rfl (by kernel_rfl) (by kernel_rfl) (by kernel_rfl) (fun _ _ _ h => h) (Or.inl ⟨by rfl, fun w' hS => by go_simp⟩) s0 (some 13) rfl ?_
  try simp only [Act.put, List.setIfInBounds_toArray, List.set_cons_zero, List.set_cons_succ]
  refine take_to (i := 1) (v := .pointer (some ⟨ga, c * 2, none⟩)) rfl (by kernel_rfl) (by kernel_rfl) (by kernel_rfl) (fun _ _ _ h => h) (Or.inl ⟨by rfl, fun w' hS => by go_simp⟩) s0 (some 14) rfl ?_
  try simp only [Act.put, List.setIfInBounds_toArray, List.set_cons_zero, List.set_cons_succ]
  refine take_to (i := 2) (v := .pointer (some ⟨ga, c * 2, none⟩)) rfl (by kernel_rfl) (by kernel_rfl) (by kernel_rfl) (fun _ _ _ h => h) (Or.inl ⟨by rfl, fun w' hS => by go_simp⟩) s0 (some 15) rfl ?_
  try simp only [Act.put, List.setIfInBounds_toArray, List.set_cons_zero, List.set_cons_succ]
  refine take_to (i := 3) (v := .pointer (some ⟨ga, c * 2, none⟩)) rfl (by kernel_rfl) (by kernel_rfl) (by kernel_rfl) (fun _ _ _ h => h) (Or.inl ⟨by rfl, fun w' hS => by go_simp⟩) s0 (some 16) rfl ?_
  try simp only [Act.put, List.setIfInBounds_toArray, List.set_cons_zero, List.set_cons_succ]
  refine take_to (i := 4) (v := .pointer (some ⟨ga, c * 2, none⟩)) rfl (by kernel_rfl) (by kernel_rfl) (by kernel_rfl) (fun _ _ _ h => h) (Or.inl ⟨by rfl, fun w' hS => by go_simp⟩) s0 (some 17) rfl ?_
  try simp only [Act.put, List.setIfInBounds_toArray, List.set_cons_zero, List.set_cons_succ]
  refine take_to (i := 6) (v := .pointer (some ⟨ga, c * 2, none⟩)) rfl (by kernel_rfl) (by kernel_rfl) (by kernel_rfl) (fun _ _ _ h => h) (Or.inl ⟨by rfl, fun w' hS => by go_simp⟩) s0 (some 19) rfl ?_
  try simp only [Act.put, List.setIfInBounds_toArray, List.set_cons_zero, List.set_cons_succ]
  refine take_to (i := 7) (v := .pointer (some ⟨ga, c * 2, none⟩)) rfl (by kernel_rfl) (by kernel_rfl) (by kernel_rfl) (fun _ _ _ h => h) (Or.inl ⟨by rfl, fun w' hS => by go_simp⟩) s0 (some 20) rfl ?_
  try simp only [Act.put, List.setIfInBounds_toArray, List.set_cons_zero, List.set_cons_succ]
  refine take_to (i := 8) (v := .pointer (some ⟨ga, c * 2 + 1, none⟩)) rfl (by kernel_rfl) (by kernel_rfl) (by kernel_rfl) (fun _ _ _ h => h) (Or.inl ⟨by rfl, fun w' hS => by go_simp⟩) s0 (some 21) rfl ?_
  try simp only [Act.put, List.setIfInBounds_toArray, List.set_cons_zero, List.set_cons_succ]
  refine take_to (i := 10) (v := .int .i64 z) rfl (by kernel_rfl) (by kernel_rfl) (by kernel_rfl) (fun _ _ _ h => h) (Or.inl ⟨by rfl, fun w' hS => by go_simp⟩) s0 (some 23) rfl ?_
  try simp only [Act.put, List.setIfInBounds_toArray, List.set_cons_zero, List.set_cons_succ]
  refine take_to (i := 11) (v := .pointer (some ⟨bb, ob, none⟩)) rfl (by kernel_rfl) (by kernel_rfl) (by kernel_rfl) (fun _ _ _ h => h) (Or.inl ⟨by rfl, fun w' hS => by go_simp⟩) s0 (some 24) rfl ?_
  try simp only [Act.put, List.setIfInBounds_toArray, List.set_cons_zero, List.set_cons_succ]
  refine take_to (i := 12) (v := .pointer (some ⟨bb, ob, none⟩)) rfl (by kernel_rfl) (by kernel_rfl) (by kernel_rfl) (fun _ _ _ h => h) (Or.inl ⟨by rfl, fun w' hS => by go_simp⟩) s0 (some 25) rfl ?_
  try simp only [Act.put, List.setIfInBounds_toArray, List.set_cons_zero, List.set_cons_succ]
  refine take_to (i := 13) (v := blkV b) rfl (by kernel_rfl) (by kernel_rfl) (by kernel_rfl) (fun _ _ _ h => h) (yieldsIf_load7 (by rfl) 25 (.tmp 25) rfl (.pointer (some ⟨bb, ob, none⟩)) rfl (blkV b) (fun w' hS => HB.out w' hS.out)) s0 (some 26) rfl ?_
  try simp only [Act.put, List.setIfInBounds_toArray, List.set_cons_zero, List.set_cons_succ]
  refine wpAnyH_ready (rs := [5, 9]) (by kernel_rfl) (by simp) ?_
  refine AllReadyH.cons rfl (fun Kq hKq => ?_) (AllReadyH.cons rfl (fun Kq hKq => ?_) AllReadyH.nil)
  · have r0 := HR.out.1
    go_simp
    refine hKq.out _ _ s0 fun _ => ?_
    clear hKq Kq r0
    refine wpAnyH_ready (rs := [9]) (by kernel_rfl) (by simp) ?_
    refine AllReadyH.cons rfl (fun Kq hKq => ?_) AllReadyH.nil
    have r1 := HR.out.2
    go_simp
    refine hKq.out _ _ s0 fun _ => ?_
    clear hKq Kq r1
    refine wpAnyH_ready (rs := [14]) (by kernel_rfl) (by simp) ?_
    refine AllReadyH.cons rfl (fun Kq hKq => ?_) AllReadyH.nil
    go_simp
    refine Calls.mono (HT.out _ (on_drew w)) ?_
    rintro e wq ⟨a, q, rfl, ba, bq, hne, ha, hq, kq⟩
    have k1 : Below w.heap.size w wq := on_trans (on_drew w) kq
    have sq := Lib.hid (Kept.of_below k1 (fun i => i = ga))
    refine hKq.out _ _ sq fun _ => ?_
    have HQ := Lib.hid (And.intro ba (And.intro bq (And.intro (show w.heap.size ≤ a from Nat.le_trans (on_drew w).size ha) (And.intro (show w.heap.size ≤ q from Nat.le_trans (on_drew w).size hq) k1))))
    have hbq := HC.out.1.box.on k1
    have f0 : wq.frozen? ⟨ga, c * 2, none⟩ = false := hbq.free _
    have f1 : wq.frozen? ⟨ga, c * 2 + 1, none⟩ = false := hbq.free _
    have r0 : wq.cell? ⟨ga, c * 2, none⟩ = some (.slice (some ⟨P (c * 2), 0, none⟩) 256 256) := (HC.out.1.on k1).cell (by have := HC.out.2.1; omega)
    have r1 : wq.cell? ⟨ga, c * 2 + 1, none⟩ = some (.slice (some ⟨P (c * 2 + 1), 0, none⟩) 256 256) := (HC.out.1.on k1).cell (by have := HC.out.2.1; omega)
    clear hKq Kq s0 kq ba bq hne ha hq k1 hbq
    refine take_to (i := 15) (v := .tuple #[.slice (some ⟨a, 0, none⟩) 256 256, .slice (some ⟨q, 0, none⟩) 256 256, .int .i64 0]) rfl (by kernel_rfl) (by kernel_rfl) (by kernel_rfl) (fun _ _ _ h => h) (Or.inl ⟨by rfl, fun w' hS => by go_simp⟩) sq (some 12) rfl ?_
    try simp only [Act.put, List.setIfInBounds_toArray, List.set_cons_zero, List.set_cons_succ]
    refine take_to (i := 16) (v := .slice (some ⟨a, 0, none⟩) 256 256) rfl (by kernel_rfl) (by kernel_rfl) (by kernel_rfl) (fun _ _ _ h => h) (Or.inl ⟨by rfl, fun w' hS => by go_simp⟩) sq (some 28) rfl ?_
    try simp only [Act.put, List.setIfInBounds_toArray, List.set_cons_zero, List.set_cons_succ]
    refine take_to (i := 17) (v := .slice (some ⟨q, 0, none⟩) 256 256) rfl (by kernel_rfl) (by kernel_rfl) (by kernel_rfl) (fun _ _ _ h => h) (Or.inl ⟨by rfl, fun w' hS => by go_simp⟩) sq (some 29) rfl ?_
    try simp only [Act.put, List.setIfInBounds_toArray, List.set_cons_zero, List.set_cons_succ]
    refine take_to (i := 18) (v := .int .i64 0) rfl (by kernel_rfl) (by kernel_rfl) (by kernel_rfl) (fun _ _ _ h => h) (Or.inl ⟨by rfl, fun w' hS => by go_simp⟩) sq (some 30) rfl ?_
    try simp only [Act.put, List.setIfInBounds_toArray, List.set_cons_zero, List.set_cons_succ]
    refine take_to (i := 19) (v := .pointer (some ⟨ga, c * 2, none⟩)) rfl (by kernel_rfl) (by kernel_rfl) (by kernel_rfl) (fun _ _ _ h => h) (Or.inl ⟨by rfl, fun w' hS => by go_simp⟩) sq (some 31) rfl ?_
    try simp only [Act.put, List.setIfInBounds_toArray, List.set_cons_zero, List.set_cons_succ]
    refine take_to (i := 20) (v := .pointer (some ⟨ga, c * 2, none⟩)) rfl (by kernel_rfl) (by kernel_rfl) (by kernel_rfl) (fun _ _ _ h => h) (Or.inl ⟨by rfl, fun w' hS => by go_simp⟩) sq (some 32) rfl ?_
    try simp only [Act.put, List.setIfInBounds_toArray, List.set_cons_zero, List.set_cons_succ]
    refine wpAnyH_ready (rs := [21]) (by kernel_rfl) (by simp) ?_
    refine AllReadyH.cons rfl (fun Kq hKq => ?_) AllReadyH.nil
    go_simp
    have s1 := Lib.hid (sq.out.setCell (p := ⟨ga, c * 2, none⟩) (fun _ => rfl) (.slice (some ⟨a, 0, none⟩) 256 256))
    refine hKq.out _ _ s1 fun _ => ?_
    clear hKq Kq
    have hbx := (HC.out.1.box.on HQ.out.2.2.2.2).put (c * 2) (.slice (some ⟨a, 0, none⟩) 256 256)
    have g1 : (wq.setCell ⟨ga, c * 2, none⟩ (.slice (some ⟨a, 0, none⟩) 256 256)).frozen? ⟨ga, c * 2 + 1, none⟩ = false := hbx.free _
    have g0 : ∃ x, (wq.setCell ⟨ga, c * 2, none⟩ (.slice (some ⟨a, 0, none⟩) 256 256)).cell? ⟨ga, c * 2 + 1, none⟩ = some x := by
      rw [hbx.cell]
      rcases (show c = 0 ∨ c = 1 by have := HC.out.2.1; omega) with rfl | rfl <;> exact ⟨_, rfl⟩
    obtain ⟨x0, g0⟩ := g0
    clear hbx
    refine take_to (i := 22) (v := .pointer (some ⟨ga, c * 2, none⟩)) rfl (by kernel_rfl) (by kernel_rfl) (by kernel_rfl) (fun _ _ _ h => h) (Or.inl ⟨by rfl, fun w' hS => by go_simp⟩) s1 (some 33) rfl ?_
    try simp only [Act.put, List.setIfInBounds_toArray, List.set_cons_zero, List.set_cons_succ]
    refine take_to (i := 23) (v := .pointer (some ⟨ga, c * 2 + 1, none⟩)) rfl (by kernel_rfl) (by kernel_rfl) (by kernel_rfl) (fun _ _ _ h => h) (Or.inl ⟨by rfl, fun w' hS => by go_simp⟩) s1 (some 34) rfl ?_
    try simp only [Act.put, List.setIfInBounds_toArray, List.set_cons_zero, List.set_cons_succ]
    refine wpAnyH_ready (rs := [24]) (by kernel_rfl) (by simp) ?_
    refine AllReadyH.cons rfl (fun Kq hKq => ?_) AllReadyH.nil
    go_simp
    have s2 := Lib.hid (s1.out.setCell (p := ⟨ga, c * 2 + 1, none⟩) (fun _ => rfl) (.slice (some ⟨q, 0, none⟩) 256 256))
    refine hKq.out _ _ s2 fun _ => ?_
    clear hKq Kq
    refine take_to (i := 25) (v := .int .i64 0) rfl (by kernel_rfl) (by kernel_rfl) (by kernel_rfl) (fun _ _ _ h => h) (Or.inl ⟨by rfl, fun w' hS => by go_simp⟩) s2 (some 7) rfl ?_
    try simp only [Act.put, List.setIfInBounds_toArray, List.set_cons_zero, List.set_cons_succ]
    refine wpAnyH_done (by kernel_rfl) ?_ _
    go_wp2_with fail
    go_ret
    have hfin := HC.out.1.more (c := c) HC.out.2.1 HQ.out.2.2.2.2 HQ.out.1 HQ.out.2.1 (cntL_len _ _ _) (cntL_len _ _ _) (Nat.le_trans HC.out.2.2.1 HQ.out.2.2.1) (Nat.le_trans HC.out.2.2.1 HQ.out.2.2.2.1)
    rw [HC.out.2.2.2]
    exact ⟨rfl, ⟨_, hfin.1⟩, hfin.2⟩
  · have r1 := HR.out.2
    go_simp
    refine hKq.out _ _ s0 fun _ => ?_
    clear hKq Kq r1
    refine wpAnyH_ready (rs := [5]) (by kernel_rfl) (by simp) ?_
    refine AllReadyH.cons rfl (fun Kq hKq => ?_) AllReadyH.nil
    have r0 := HR.out.1
    go_simp
    refine hKq.out _ _ s0 fun _ => ?_
    clear hKq Kq r0
    refine wpAnyH_ready (rs := [14]) (by kernel_rfl) (by simp) ?_
    refine AllReadyH.cons rfl (fun Kq hKq => ?_) AllReadyH.nil
    go_simp
    refine Calls.mono (HT.out _ (on_drew w)) ?_
    rintro e wq ⟨a, q, rfl, ba, bq, hne, ha, hq, kq⟩
    have k1 : Below w.heap.size w wq := on_trans (on_drew w) kq
    have sq := Lib.hid (Kept.of_below k1 (fun i => i = ga))
    refine hKq.out _ _ sq fun _ => ?_
    have HQ := Lib.hid (And.intro ba (And.intro bq (And.intro (show w.heap.size ≤ a from Nat.le_trans (on_drew w).size ha) (And.intro (show w.heap.size ≤ q from Nat.le_trans (on_drew w).size hq) k1))))
    have hbq := HC.out.1.box.on k1
    have f0 : wq.frozen? ⟨ga, c * 2, none⟩ = false := hbq.free _
    have f1 : wq.frozen? ⟨ga, c * 2 + 1, none⟩ = false := hbq.free _
    have r0 : wq.cell? ⟨ga, c * 2, none⟩ = some (.slice (some ⟨P (c * 2), 0, none⟩) 256 256) := (HC.out.1.on k1).cell (by have := HC.out.2.1; omega)
    have r1 : wq.cell? ⟨ga, c * 2 + 1, none⟩ = some (.slice (some ⟨P (c * 2 + 1), 0, none⟩) 256 256) := (HC.out.1.on k1).cell (by have := HC.out.2.1; omega)
    clear hKq Kq s0 kq ba bq hne ha hq k1 hbq
    refine take_to (i := 15) (v := .tuple #[.slice (some ⟨a, 0, none⟩) 256 256, .slice (some ⟨q, 0, none⟩) 256 256, .int .i64 0]) rfl (by kernel_rfl) (by kernel_rfl) (by kernel_rfl) (fun _ _ _ h => h) (Or.inl ⟨by rfl, fun w' hS => by go_simp⟩) sq (some 12) rfl ?_
    try simp only [Act.put, List.setIfInBounds_toArray, List.set_cons_zero, List.set_cons_succ]
    refine take_to (i := 16) (v := .slice (some ⟨a, 0, none⟩) 256 256) rfl (by kernel_rfl) (by kernel_rfl) (by kernel_rfl) (fun _ _ _ h => h) (Or.inl ⟨by rfl, fun w' hS => by go_simp⟩) sq (some 28) rfl ?_
    try simp only [Act.put, List.setIfInBounds_toArray, List.set_cons_zero, List.set_cons_succ]
    refine take_to (i := 17) (v := .slice (some ⟨q, 0, none⟩) 256 256) rfl (by kernel_rfl) (by kernel_rfl) (by kernel_rfl) (fun _ _ _ h => h) (Or.inl ⟨by rfl, fun w' hS => by go_simp⟩) sq (some 29) rfl ?_
    try simp only [Act.put, List.setIfInBounds_toArray, List.set_cons_zero, List.set_cons_succ]
    refine take_to (i := 18) (v := .int .i64 0) rfl (by kernel_rfl) (by kernel_rfl) (by kernel_rfl) (fun _ _ _ h => h) (Or.inl ⟨by rfl, fun w' hS => by go_simp⟩) sq (some 30) rfl ?_
    try simp only [Act.put, List.setIfInBounds_toArray, List.set_cons_zero, List.set_cons_succ]
    refine take_to (i := 19) (v := .pointer (some ⟨ga, c * 2, none⟩)) rfl (by kernel_rfl) (by kernel_rfl) (by kernel_rfl) (fun _ _ _ h => h) (Or.inl ⟨by rfl, fun w' hS => by go_simp⟩) sq (some 31) rfl ?_
    try simp only [Act.put, List.setIfInBounds_toArray, List.set_cons_zero, List.set_cons_succ]
    refine take_to (i := 20) (v := .pointer (some ⟨ga, c * 2, none⟩)) rfl (by kernel_rfl) (by kernel_rfl) (by kernel_rfl) (fun _ _ _ h => h) (Or.inl ⟨by rfl, fun w' hS => by go_simp⟩) sq (some 32) rfl ?_
    try simp only [Act.put, List.setIfInBounds_toArray, List.set_cons_zero, List.set_cons_succ]
    refine wpAnyH_ready (rs := [21]) (by kernel_rfl) (by simp) ?_
    refine AllReadyH.cons rfl (fun Kq hKq => ?_) AllReadyH.nil
    go_simp
    have s1 := Lib.hid (sq.out.setCell (p := ⟨ga, c * 2, none⟩) (fun _ => rfl) (.slice (some ⟨a, 0, none⟩) 256 256))
    refine hKq.out _ _ s1 fun _ => ?_
    clear hKq Kq
    have hbx := (HC.out.1.box.on HQ.out.2.2.2.2).put (c * 2) (.slice (some ⟨a, 0, none⟩) 256 256)
    have g1 : (wq.setCell ⟨ga, c * 2, none⟩ (.slice (some ⟨a, 0, none⟩) 256 256)).frozen? ⟨ga, c * 2 + 1, none⟩ = false := hbx.free _
    have g0 : ∃ x, (wq.setCell ⟨ga, c * 2, none⟩ (.slice (some ⟨a, 0, none⟩) 256 256)).cell? ⟨ga, c * 2 + 1, none⟩ = some x := by
      rw [hbx.cell]
      rcases (show c = 0 ∨ c = 1 by have := HC.out.2.1; omega) with rfl | rfl <;> exact ⟨_, rfl⟩
    obtain ⟨x0, g0⟩ := g0
    clear hbx
    refine take_to (i := 22) (v := .pointer (some ⟨ga, c * 2, none⟩)) rfl (by kernel_rfl) (by kernel_rfl) (by kernel_rfl) (fun _ _ _ h => h) (Or.inl ⟨by rfl, fun w' hS => by go_simp⟩) s1 (some 33) rfl ?_
    try simp only [Act.put, List.setIfInBounds_toArray, List.set_cons_zero, List.set_cons_succ]
    refine take_to (i := 23) (v := .pointer (some ⟨ga, c * 2 + 1, none⟩)) rfl (by kernel_rfl) (by kernel_rfl) (by kernel_rfl) (fun _ _ _ h => h) (Or.inl ⟨by rfl, fun w' hS => by go_simp⟩) s1 (some 34) rfl ?_
    try simp only [Act.put, List.setIfInBounds_toArray, List.set_cons_zero, List.set_cons_succ]
    refine wpAnyH_ready (rs := [24]) (by kernel_rfl) (by simp) ?_
    refine AllReadyH.cons rfl (fun Kq hKq => ?_) AllReadyH.nil
    go_simp
    have s2 := Lib.hid (s1.out.setCell (p := ⟨ga, c * 2 + 1, none⟩) (fun _ => rfl) (.slice (some ⟨q, 0, none⟩) 256 256))
    refine hKq.out _ _ s2 fun _ => ?_
    clear hKq Kq
    refine take_to (i := 25) (v := .int .i64 0) rfl (by kernel_rfl) (by kernel_rfl) (by kernel_rfl) (fun _ _ _ h => h) (Or.inl ⟨by rfl, fun w' hS => by go_simp⟩) s2 (some 7) rfl ?_
    try simp only [Act.put, List.setIfInBounds_toArray, List.set_cons_zero, List.set_cons_succ]
    refine wpAnyH_done (by kernel_rfl) ?_ _
    go_wp2_with fail
    go_ret
    have hfin := HC.out.1.more (c := c) HC.out.2.1 HQ.out.2.2.2.2 HQ.out.1 HQ.out.2.1 (cntL_len _ _ _) (cntL_len _ _ _) (Nat.le_trans HC.out.2.2.1 HQ.out.2.2.1) (Nat.le_trans HC.out.2.2.1 HQ.out.2.2.2.1)
    rw [HC.out.2.2.2]
    exact ⟨rfl, ⟨_, hfin.1⟩, hfin.2⟩
/-- a restart counts nothing -/
theorem count2_any (w : World) (v : Value) : Calls Tryd.prog 68 #[v] w fun e w' => e = .returned (.int .i64 0) ∧ w = w' := by
  go_enter Tryd.func68, Tryd.ntmps68
  go_wp2_with fail
  go_ret
  exact ⟨rfl, rfl⟩
end
end Go.Proofs.YtdnjnbfmmgkpjaaDoor
