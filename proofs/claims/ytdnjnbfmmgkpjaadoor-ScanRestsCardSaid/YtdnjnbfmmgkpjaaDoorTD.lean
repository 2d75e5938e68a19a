/-
  The contract of tally, of one tile that may be: the walk.
-/
import Derived.Test.YtdnjnbfmmgkpjaaDoorTB
namespace Go.Proofs.YtdnjnbfmmgkpjaaDoor
open Go.RowKit

/-- the counts' rows while they are made: k pairs are laid -/
structure LayC (wr : World) (base ga k : Nat) (P : Nat → Nat) : Prop where
  box : Box wr ga 90 (((List.range 4).map fun j => if j < 2 * k then slP (P j) else .slice none 0 0).toArray)
  row : ∀ j, j < 2 * k → Box wr (P j) 3 (cellsI (List.replicate 256 0)).toArray ∧ base ≤ P j
theorem LayC.on {wr w' : World} {base ga k : Nat} {P : Nat → Nat} (h : LayC wr base ga k P) (b : Below wr.heap.size wr w') : LayC w' base ga k P := ⟨h.box.on b, fun j hj => ⟨(h.row j hj).1.on b, (h.row j hj).2⟩⟩
theorem LayC.more {wr w3 : World} {base ga k p q : Nat} {P : Nat → Nat} (h : LayC wr base ga k P) (hk : k < 2) (b : Below wr.heap.size wr w3) (hp : Box w3 p 3 (cellsI (List.replicate 256 0)).toArray) (hq : Box w3 q 3 (cellsI (List.replicate 256 0)).toArray) (h1 : base ≤ p) (h2 : base ≤ q) :
    LayC (w3.setCells ga (k * 2) [slP p, slP q]) base ga (k + 1) (put2 P k p q) ∧ Kept (fun i => i = ga) w3 (w3.setCells ga (k * 2) [slP p, slP q]) := by
  have hK := kept_setCells ga [slP p, slP q] (k * 2) w3
  have hb := h.box.on b
  have ne : ∀ {g : Nat} {cs : Array Value}, Box w3 g 3 cs → ¬ (g = ga) := fun hg e => by subst e; exact hg.apart hb (by decide) rfl
  refine ⟨⟨?_, fun j hj => ?_⟩, hK⟩
  · have hb2 : Box (w3.setCells ga (k * 2) [slP p, slP q]) ga 90 _ := (hb.put (k * 2) (slP p)).put (k * 2 + 1) (slP q)
    rcases (show k = 0 ∨ k = 1 by omega) with rfl | rfl
    · exact hb2
    · exact hb2
  · unfold put2
    by_cases e1 : j = 2 * k
    · rw [if_pos e1]
      exact ⟨hK.box hp (ne hp), h1⟩
    · rw [if_neg e1]
      by_cases e2 : j = 2 * k + 1
      · rw [if_pos e2]
        exact ⟨hK.box hq (ne hq), h2⟩
      · rw [if_neg e2]
        obtain ⟨g1, g2⟩ := h.row j (by omega)
        exact ⟨hK.box (g1.on b) (ne (g1.on b)), g2⟩
theorem LayC.done {wr : World} {base ga : Nat} {P : Nat → Nat} {tl : List (List (List Int))} (h : LayC wr base ga 2 P) : CntM wr base ga P (cntR tl []) := by
  refine ⟨h.box, fun j hj => ?_⟩
  obtain ⟨g1, g2⟩ := h.row j (by omega)
  have e : cntR tl [] j = List.replicate 256 0 := by
    unfold cntR
    have : sy (runT tl []) (j / 2) = [] := by unfold sy runT; split <;> rfl
    rw [this, cntS_nil]
  rw [e]
  exact ⟨g1, List.length_replicate, g2⟩
theorem counts_size : (Tryd.prog.info? 89).map (·.size) = some 2 := by kernel_rfl
theorem counts2_size : (Tryd.prog.info? 90).map (·.size) = some 4 := by kernel_rfl
section
variable (w : World) (W H K : Int) (R : Nat) (tl : List (List (List Int))) (A : Option Addr) (n c : Nat) (L : List (Option Addr × Nat × Nat)) (bl ol cl : Nat)
def TallyY (w : World) (W H K : Int) (R : Nat) (tl : List (List (List Int))) (e : Ending) (w' : World) : Prop := ∃ P : Nat → Nat, e = .returned (.tuple #[.agg #[slP (P 0), slP (P 1), slP (P 2), slP (P 3)], .int .i64 0]) ∧ (∀ j, j < 4 → Box w' (P j) 3 (cellsI (cntR tl (evTo (uW W K) K R (uW W K * uH H K)) j)).toArray) ∧ Below w.heap.size w w'
set_option maxRecDepth 10000 in
set_option maxHeartbeats 6400000 in
theorem tally_any (hT : Tab w) (ht : Ti w A n L tl) (hR : RightT W H K (R : Int) tl) (hw : W ≤ 40) (hh : H ≤ 40) (hbl : bl < w.heap.size) (hc : w.cell? ⟨bl, ol, none⟩ = some (.slice A n c)) :
    Calls Tryd.prog 32 #[scanV W H K (R : Int), .slice (some ⟨bl, ol, none⟩) 1 cl] w (TallyY w W H K R tl) := by
  obtain ⟨g1, hg1⟩ : ∃ g1, w.heap.size = g1 := ⟨_, rfl⟩
  obtain ⟨Z, hZ⟩ : ∃ Z : Array Value, Z = #[.slice none 0 0, .slice none 0 0, .slice none 0 0, .slice none 0 0] := ⟨_, rfl⟩
  have hz90 : ∀ w, (zeroValue 90).run Tryd.prog w = .ok (.agg Z) w := fun w => by rw [hZ]; kernel_rfl
  obtain ⟨w1, hw1⟩ : ∃ w1, ((w.alloc (.cells #[.int .i64 W, .int .i64 H, .int .i64 K, .int .i64 (R : Int)] 23)).alloc (.cells Z 90)).alloc (.cells Z 90) = w1 := ⟨_, rfl⟩
  have b1 : Box w1 g1 23 #[.int .i64 W, .int .i64 H, .int .i64 K, .int .i64 (R : Int)] := by rw [← hw1, ← hg1]; exact ((Box.made _ _ _).alloc _).alloc _
  have b2 : Box w1 (g1 + 1) 90 Z := by
    rw [← hw1, ← hg1]
    have := (Box.made (w.alloc (.cells #[.int .i64 W, .int .i64 H, .int .i64 K, .int .i64 (R : Int)] 23)) 90 Z).alloc (.cells Z 90)
    simpa using this
  have b3 : Box w1 (g1 + 1 + 1) 90 Z := by
    rw [← hw1, ← hg1]
    have := Box.made ((w.alloc (.cells #[.int .i64 W, .int .i64 H, .int .i64 K, .int .i64 (R : Int)] 23)).alloc (.cells Z 90)) 90 Z
    simpa using this
  have k1 : Below w.heap.size w w1 := by rw [← hw1]; exact on_trans (on_trans (on_alloc _ _) (on_alloc _ _)) (on_alloc _ _)
  have hs1 : w1.heap.size = g1 + 1 + 1 + 1 := by rw [← hw1, ← hg1]; simp
  have HB := Lib.hid (And.intro b1 (And.intro b2 (And.intro b3 (And.intro k1 (And.intro hg1 (And.intro hs1 hZ))))))
  have HA := Lib.hid (And.intro hT (And.intro ht (And.intro hR (And.intro hw (And.intro hh (And.intro hbl hc))))))
  obtain ⟨M, hM⟩ : ∃ M, M = (cellsI (List.replicate 256 (0 : Int))).toArray := ⟨_, rfl⟩
  have hmk : ∀ w, (Instr.makeSlice 28 (.int .i64 256) (.int .i64 256)).run Tryd.prog w = .ok (.slice (some ⟨w.heap.size, 0, none⟩) 256 256) (w.alloc (.cells M 3)) := fun w => by rw [hM]; exact make256 w
  have HM := Lib.hid hM
  clear b1 b2 b3 k1 hT ht hR hw hh hbl hc hs1 hM hZ
  unfold scanV
  go_enter Tryd.func32, Tryd.ntmps32
  go_wp2_with fail
  clear hw1
  go_loopw [7, 11] (fun _ i wr => ∃ (k : Nat) (P : Nat → Nat), k ≤ 2 ∧ i = .int .i64 (k : Int) ∧ LayC wr (g1 + 1 + 1 + 1) (g1 + 1 + 1) k P ∧ Kept (fun i => i = g1 + 1 + 1) w1 wr) (fun _ i _ => 2 - (intOf i).toNat)
  case atStart => exact ⟨0, fun _ => 0, by omega, rfl, ⟨by have := HB.out.2.2.1; rw [HB.out.2.2.2.2.2.2] at this; exact this, fun j hj => absurd hj (by omega)⟩, Kept.refl _ _⟩
  case round =>
    obtain ⟨k, P, hk, rfl, hly, hkp⟩ := hrel
    by_cases hlt : k < 2
    · have hsz := hkp.size
      have hs1 := HB.out.2.2.2.2.2.1
      obtain ⟨w4, hw4⟩ : ∃ w4, wr.drew = w4 := ⟨_, rfl⟩
      obtain ⟨g5, hg5⟩ : ∃ g5, w4.heap.size = g5 := ⟨_, rfl⟩
      obtain ⟨w5, hw5⟩ : ∃ w5, w4.alloc (.cells M 3) = w5 := ⟨_, rfl⟩
      obtain ⟨g6, hg6⟩ : ∃ g6, w5.heap.size = g6 := ⟨_, rfl⟩
      obtain ⟨w6, hw6⟩ : ∃ w6, w5.alloc (.cells M 3) = w6 := ⟨_, rfl⟩
      have k4 : Below wr.heap.size wr w4 := by rw [← hw4]; exact on_drew _
      have k5 : Below w4.heap.size w4 w5 := by rw [← hw5]; exact on_alloc _ _
      have k6 : Below w5.heap.size w5 w6 := by rw [← hw6]; exact on_alloc _ _
      have b5 : Box w5 g5 3 M := by rw [← hw5, ← hg5]; exact Box.made _ _ _
      have b6 : Box w6 g6 3 M := by rw [← hw6, ← hg6]; exact Box.made _ _ _
      have b56 := b5.on k6
      rw [HM.out] at b56 b6
      have hn5 : g1 + 1 + 1 + 1 ≤ g5 := by rw [← hg5]; have := k4.size; omega
      have hn6 : g1 + 1 + 1 + 1 ≤ g6 := by rw [← hg6]; have := k5.size; omega
      have k46 := on_trans (on_trans k4 k5) k6
      have HL := Lib.hid (And.intro (hly.more hlt k46 b56 b6 hn5 hn6) (And.intro (hly.more hlt k46 b6 b56 hn6 hn5) (And.intro (hly.on k46) (hkp.trans (Kept.of_below k46 (fun i => i = g1 + 1 + 1)) (fun _ _ h => h)))))
      have hb6 := HL.out.2.2.1.box
      have hsz6 : ∀ j, j < 4 → (((List.range 4).map fun j => if j < 2 * k then slP (P j) else .slice none 0 0).toArray)[j]? ≠ none := fun j hj => by
        rw [List.getElem?_toArray, List.getElem?_map, List.getElem?_range hj]
        simp
      obtain ⟨v0, hv0⟩ : ∃ v0, w6.cell? ⟨g1 + 1 + 1, k * 2, none⟩ = some v0 := by rw [hb6.cell]; exact Option.ne_none_iff_exists'.1 (hsz6 _ (by omega))
      have f0 : w6.frozen? ⟨g1 + 1 + 1, k * 2, none⟩ = false := hb6.free _
      obtain ⟨sA, hsA⟩ : ∃ sA, sA = slP g5 := ⟨_, rfl⟩
      obtain ⟨sB, hsB⟩ : ∃ sB, sB = slP g6 := ⟨_, rfl⟩
      obtain ⟨wA, hwA⟩ : ∃ wA, w6.setCell ⟨g1 + 1 + 1, k * 2, none⟩ (.slice (some ⟨g5, 0, none⟩) 256 256) = wA := ⟨_, rfl⟩
      have hbA := hb6.put (k * 2) (.slice (some ⟨g5, 0, none⟩) 256 256)
      rw [hwA] at hbA
      obtain ⟨vA, hvA⟩ : ∃ vA, wA.cell? ⟨g1 + 1 + 1, k * 2 + 1, none⟩ = some vA := by
        rw [hbA.cell, Array.getElem?_setIfInBounds_ne (by omega)]
        exact Option.ne_none_iff_exists'.1 (hsz6 _ (by omega))
      have fA : wA.frozen? ⟨g1 + 1 + 1, k * 2 + 1, none⟩ = false := hbA.free _
      obtain ⟨wB, hwB⟩ : ∃ wB, w6.setCell ⟨g1 + 1 + 1, k * 2, none⟩ (.slice (some ⟨g6, 0, none⟩) 256 256) = wB := ⟨_, rfl⟩
      have hbB := hb6.put (k * 2) (.slice (some ⟨g6, 0, none⟩) 256 256)
      rw [hwB] at hbB
      obtain ⟨vB, hvB⟩ : ∃ vB, wB.cell? ⟨g1 + 1 + 1, k * 2 + 1, none⟩ = some vB := by
        rw [hbB.cell, Array.getElem?_setIfInBounds_ne (by omega)]
        exact Option.ne_none_iff_exists'.1 (hsz6 _ (by omega))
      have fB : wB.frozen? ⟨g1 + 1 + 1, k * 2 + 1, none⟩ = false := hbB.free _
      obtain ⟨w7A, hw7A⟩ : ∃ w7, wA.setCell ⟨g1 + 1 + 1, k * 2 + 1, none⟩ (.slice (some ⟨g6, 0, none⟩) 256 256) = w7 := ⟨_, rfl⟩
      obtain ⟨w7B, hw7B⟩ : ∃ w7, wB.setCell ⟨g1 + 1 + 1, k * 2 + 1, none⟩ (.slice (some ⟨g5, 0, none⟩) 256 256) = w7 := ⟨_, rfl⟩
      have H7A := Lib.hid (show ∃ P', LayC w7A (g1 + 1 + 1 + 1) (g1 + 1 + 1) (k + 1) P' ∧ Kept (fun i => i = g1 + 1 + 1) w1 w7A from by rw [← hw7A, ← hwA]; exact ⟨_, HL.out.1.1, HL.out.2.2.2.trans HL.out.1.2 (fun _ _ h => h)⟩)
      have H7B := Lib.hid (show ∃ P', LayC w7B (g1 + 1 + 1 + 1) (g1 + 1 + 1) (k + 1) P' ∧ Kept (fun i => i = g1 + 1 + 1) w1 w7B from by rw [← hw7B, ← hwB]; exact ⟨_, HL.out.2.1.1, HL.out.2.2.2.trans HL.out.2.1.2 (fun _ _ h => h)⟩)
      have hbd : ∀ (w : World) (p q : Nat), (Instr.build 89 #[(0, .slice (some ⟨p, 0, none⟩) 256 256), (1, .slice (some ⟨q, 0, none⟩) 256 256)]).run Tryd.prog w = .ok (.agg #[.slice (some ⟨p, 0, none⟩) 256 256, .slice (some ⟨q, 0, none⟩) 256 256]) w := fun w p q => run_build w 89 _ _ (by show Program.built _ _ _ = _; kernel_rfl)
      have hk2 : (k : Int) < 2 := by omega
      clear k4 k5 k6 b5 b6 b56 hn5 hn6 k46 hly hkp hs1 hb6 hbA hbB hsz6 hsA hsB sA sB
      go_upto_region 5 with fail
      go_region_law (fail)
      all_goals
        go_wp2_with fail
        go_roundw
        case rel =>
          first
            | (obtain ⟨P', h1, h2⟩ := H7A.out
               exact ⟨k + 1, P', by omega, by go_num, h1, h2⟩)
            | (obtain ⟨P', h1, h2⟩ := H7B.out
               exact ⟨k + 1, P', by omega, by go_num, h1, h2⟩)
        case measure => simp [intOf]; omega
    · obtain rfl : k = 2 := by omega
      have hs1 := HB.out.2.2.2.2.2.1
      have hg := HB.out.2.2.2.2.1
      have bel2 : Below w.heap.size w wr := HB.out.2.2.2.1.trans (hkp.below HB.out.2.2.2.1.size (fun i hi e => by omega))
      have HL := Lib.hid (And.intro (hly.done (tl := tl)) (And.intro bel2 (And.intro (hkp.box HB.out.1 (by omega)) (hkp.box HB.out.2.1 (by omega)))))
      have hsz := hkp.size
      clear hly hkp bel2
      obtain ⟨wL, hwL⟩ : ∃ wL, wL = wr := ⟨_, rfl⟩
      rw [← hwL] at HL hsz ⊢
      clear hwL
      rw [show ((2 : Nat) : Int) = 2 from rfl]
      go_wp2_with fail
      go_loopw [10, 22] (fun _ i wx => ∃ k : Nat, k ≤ 1 ∧ i = .int .i64 (k : Int) ∧ (k = 0 → wx = wL) ∧ (k = 1 → ∃ P, CntM wx (g1 + 1 + 1 + 1) (g1 + 1 + 1) P (cntR tl (evTo (uW W K) K R (uW W K * uH H K))) ∧ Box wx (g1 + 1) 90 Z ∧ Below w.heap.size w wx)) (fun _ i _ => 1 - (intOf i).toNat)
      case atStart => exact ⟨0, by omega, rfl, fun _ => rfl, fun h => absurd h (by omega)⟩
      case round =>
        obtain ⟨k, hk1, rfl, hk0, hkk⟩ := hrel
        by_cases hlt1 : k < 1
        · obtain rfl := hk0 (by omega)
          clear hkk hk0
          have kL := HL.out.2.1
          have hbl := HA.out.2.2.2.2.2.1
          have p0 : wr.cell? ⟨bl, ol + k, none⟩ = some (.slice A n c) := by
            rw [show k = 0 by omega]
            exact (kL.cell (p := ⟨bl, ol, none⟩) hbl).trans HA.out.2.2.2.2.2.2
          obtain ⟨g5, hg5⟩ : ∃ g5, wr.heap.size = g5 := ⟨_, rfl⟩
          obtain ⟨w5, hw5⟩ : ∃ w5, wr.alloc (.cells #[.slice A n c] 36) = w5 := ⟨_, rfl⟩
          have k5 : Below wr.heap.size wr w5 := by rw [← hw5]; exact on_alloc _ _
          have b5 : Box w5 g5 36 #[.slice A n c] := by rw [← hw5, ← hg5]; exact Box.made _ _ _
          have r5 : w5.cell? ⟨g5, 0, none⟩ = some (.slice A n c) := b5.cell 0
          have q0 : w5.cell? ⟨g1, 0, none⟩ = some (.int .i64 W) := (HL.out.2.2.1.on k5).cell 0
          have q1 : w5.cell? ⟨g1, 1, none⟩ = some (.int .i64 H) := (HL.out.2.2.1.on k5).cell 1
          have q2 : w5.cell? ⟨g1, 2, none⟩ = some (.int .i64 K) := (HL.out.2.2.1.on k5).cell 2
          have q3 : w5.cell? ⟨g1, 3, none⟩ = some (.int .i64 (R : Int)) := (HL.out.2.2.1.on k5).cell 3
          obtain ⟨ad, cc, hLL, hat⟩ := tile_ad HA.out.2.1 HA.out.2.2.1
          have k05 := on_trans kL k5
          have h5s := k5.size
          have hinv : TInv w5 w tl (g1 + 1 + 1 + 1) (g1 + 1 + 1) [] [0, 0, 0] w5 := ⟨rfl, k05, ⟨P, HL.out.1.on k5⟩, fun g t cs _ _ hb => hb⟩
          have heach := each14_any (TInv w5 w tl (g1 + 1 + 1 + 1) (g1 + 1 + 1)) NoBad 66 68 #[.pointer (some ⟨g1 + 1 + 1, 0, none⟩)] #[] w.heap.size ad cc w5 W H K A n c L R
            callsT66 callsT68 HA.out.2.2.1.1 k05.size hinv (HA.out.2.1.len.symm.trans HA.out.2.2.1.2.1) hLL (fun done prev w1 w2 h k => h.on k) (fun done prev w1 w2 h k => h.one k05.size k) (fun done prev w1 h => HA.out.2.1.pt.on h.bel)
            (fun done prev p a w1 hq hp ha hl hi hs => tally_see w5 w W H K R tl (g1 + 1 + 1 + 1) (g1 + 1 + 1) w5.heap.size ad HA.out.2.2.1 HA.out.2.2.2.1 HA.out.2.2.2.2.1 HA.out.1 hat (by omega) (by omega) done prev p a w1 hq hp ha hl hi hs)
            (fun done prev w1 _ _ hi _ => tally_rest w5 w tl (g1 + 1 + 1 + 1) (g1 + 1 + 1) w5.heap.size done prev w1 hi)
          unfold scanV tileV at heach
          have HEa := Lib.hid heach
          have H5 := Lib.hid (And.intro (HL.out.2.2.2.on k5) k05)
          clear heach hinv b5 k5 hat hLL k05 h5s kL hbl
          go_upto_region 10 with fail
          clear hw5
          go_wp2_with fail
          refine Calls.mono HEa.out ?_
          rintro e wa ⟨E, rfl, hE0, hE1, ka⟩
          clear q0 q1 q2 q3 r5 p0 HEa
          by_cases hE : E = 0
          · subst hE
            obtain ⟨prev, hi⟩ := hE0 rfl
            obtain ⟨P9, hP9⟩ := hi.cnt
            have HI := Lib.hid (And.intro hP9 (And.intro (hi.fr _ _ _ (by omega) (by decide) H5.out.1) hi.bel))
            clear hE0 hE1 ka hi hP9
            go_wp2_with fail
            go_roundw
            case rel => exact ⟨k + 1, by omega, by go_num, fun h => absurd h (by omega), fun _ => ⟨P9, HI.out⟩⟩
            case measure => simp [intOf]; omega
          · exact absurd (hE1 hE) (fun h => h)
        · obtain rfl : k = 1 := by omega
          obtain ⟨P9, hP9, hZ9, hB9⟩ := hkk rfl
          clear hkk hk0
          have r0 : wr.cell? ⟨g1 + 1 + 1, 0, none⟩ = some (.slice (some ⟨P9 0, 0, none⟩) 256 256) := hP9.cell (by omega)
          have r1 : wr.cell? ⟨g1 + 1 + 1, 1, none⟩ = some (.slice (some ⟨P9 1, 0, none⟩) 256 256) := hP9.cell (by omega)
          have r2 : wr.cell? ⟨g1 + 1 + 1, 2, none⟩ = some (.slice (some ⟨P9 2, 0, none⟩) 256 256) := hP9.cell (by omega)
          have r3 : wr.cell? ⟨g1 + 1 + 1, 3, none⟩ = some (.slice (some ⟨P9 3, 0, none⟩) 256 256) := hP9.cell (by omega)
          have hld : (Instr.loadAt 90 (.pointer (some ⟨g1 + 1 + 1, 0, none⟩))).run Tryd.prog wr = .ok (.agg #[.slice (some ⟨P9 0, 0, none⟩) 256 256, .slice (some ⟨P9 1, 0, none⟩) 256 256, .slice (some ⟨P9 2, 0, none⟩) 256 256, .slice (some ⟨P9 3, 0, none⟩) 256 256]) wr :=
            run_loadAt_mid wr (g1 + 1 + 1) 0 90 [.slice (some ⟨P9 0, 0, none⟩) 256 256, .slice (some ⟨P9 1, 0, none⟩) 256 256, .slice (some ⟨P9 2, 0, none⟩) 256 256, .slice (some ⟨P9 3, 0, none⟩) 256 256] _ (fun k u hu => by
              rw [Nat.zero_add, hP9.box.cell]
              simpa [slP] using hu) Tryd.underlying90 rfl (by rw [counts2_size]; rfl)
          obtain ⟨C9, hC9⟩ : ∃ C9 : Array Value, C9 = #[.slice (some ⟨P9 0, 0, none⟩) 256 256, .slice (some ⟨P9 1, 0, none⟩) 256 256, .slice (some ⟨P9 2, 0, none⟩) 256 256, .slice (some ⟨P9 3, 0, none⟩) 256 256] := ⟨_, rfl⟩
          rw [← hC9] at hld
          have HLd := Lib.hid hld
          have H9 := Lib.hid (And.intro hP9 (And.intro hZ9 hB9))
          have hZs : Z.size = C9.size := by rw [HB.out.2.2.2.2.2.2, hC9]; rfl
          have hCi : (Tryd.prog.info? 90).map (·.size) = some C9.size := by rw [counts2_size, hC9]; rfl
          have hC1 : C9.all (·.oneCell') = true := by rw [hC9]; simp [Value.oneCell']
          have HC9 := Lib.hid (And.intro hZs (And.intro hCi (And.intro hC1 hC9)))
          clear hP9 hZ9 hB9 hld r0 r1 r2 r3 hZs hCi hC1 hC9
          go_wp2_with (first
            | (with_reducible refine wpList_load_to (op := ⟨some 35, _, _, _, _, _⟩) rfl 90 (.tmp 6) rfl (.pointer (some ⟨g1 + 1 + 1, 0, none⟩)) rfl (.agg C9) HLd.out ?_)
            | ((with_reducible refine wpList_store_rowk (o := ⟨none, _, _, _, _, _⟩) rfl 90 (.tmp 4) (.tmp 35) rfl rfl (g1 + 1) C9 rfl rfl HC9.out.2.1 90 Z H9.out.2.1 HC9.out.1 HC9.out.2.2.1 ?_)
               intro w9 b9 k9
               have H99 := Lib.hid (And.intro b9 k9)
               clear b9 k9)
            | fail)
          refine bodyPost_ret (v := .tuple #[.agg C9, .int .i64 0]) (results_ct (fn := Tryd.f32) Tryd.results32 _ _ (g1 + 1) _ _ rfl rfl (run_loadVar_row _ (g1 + 1) 90 90 _ (0, 0) _ H99.out.1 Tryd.underlying90 rfl HC9.out.2.1)) rfl ?_
          refine ⟨P9, by rw [HC9.out.2.2.2]; rfl, fun j hj => ?_, H9.out.2.2.trans (H99.out.2.below H9.out.2.2.size (fun i hi e => by omega))⟩
          have hr := H9.out.1.row j hj
          exact H99.out.2.box hr.1 (fun e => hr.1.apart H9.out.2.1 (by decide) e)
end
end Go.Proofs.YtdnjnbfmmgkpjaaDoor
