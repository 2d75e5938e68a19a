/-
  The law's awake.
-/
import Derived.Test.YtdnjnbfmmgkpjaaDoorSW
import Derived.Deep.DeepCutAuto
import Derived.ChangeKeysEq
import Derived.Laws.StructEq
namespace Go.Proofs.YtdnjnbfmmgkpjaaDoor
open Go.RowKit

theorem zero_cells (n : Nat) : blocksC (List.replicate n (List.replicate 64 0)) = List.replicate (n * 64) (.int .i64 0) := by
  induction n with
  | zero => rfl
  | succ n ih =>
    have e : List.replicate (n + 1) (List.replicate 64 (0 : Int)) = List.replicate n (List.replicate 64 0) ++ [List.replicate 64 0] := List.replicate_succ'
    rw [e, blocksC_app, ih]
    have e2 : blocksC [List.replicate 64 (0 : Int)] = List.replicate 64 (.int .i64 0) := by simp only [blocksC, List.flatMap_cons, List.flatMap_nil, List.append_nil, cellsI, List.map_replicate]
    rw [e2, List.replicate_append_replicate, Nat.add_mul, Nat.one_mul]
theorem madeCells_blk (n : Nat) : madeCells (blkV (List.replicate 64 0)).cells (n * 64) = (blocksC (List.replicate n (List.replicate 64 0))).toArray := by
  rw [zero_cells]
  apply Array.toList_inj.1
  apply List.ext_getElem?
  intro j
  obtain ⟨z, hz⟩ : ∃ z, z = (blkV (List.replicate 64 0)).cells := ⟨_, rfl⟩
  have hz2 : ∀ i, i < 64 → z[i]! = .int .i64 0 := by
    intro i hi
    rw [hz]
    have e : (blkV (List.replicate 64 0)).cells = (List.replicate 64 (Value.int .i64 0)).toArray := by
      show (cellsI (List.replicate 64 0)).toArray = _
      rw [cellsI, List.map_replicate]
    rw [e, getElem!_pos _ _ (by rw [List.size_toArray, List.length_replicate]; exact hi), List.getElem_toArray, List.getElem_replicate]
  have hzs : z.size = 64 := by rw [hz]; rfl
  rw [← hz]
  by_cases hj : j < n * 64
  · simp only [madeCells, Array.toList_map, Array.toList_range, List.getElem?_map, List.getElem?_range hj, hzs, Option.map_some, hz2 _ (Nat.mod_lt j (by omega : 0 < 64))]
    rw [List.getElem?_replicate, if_pos hj]
  · rw [List.getElem?_eq_none (by simp [madeCells]; omega), List.getElem?_eq_none (by simp; omega)]
theorem make_blks (n : Nat) (hn : n ≤ 1100) : ∀ w, (Instr.makeSlice 61 (.int .i64 (n : Int)) (.int .i64 (n : Int))).run Tryd.prog w = .ok (.slice (some ⟨w.heap.size, 0, none⟩) n n) (w.alloc (.cells (blocksC (List.replicate n (List.replicate 64 0))).toArray 25)) := by
  obtain ⟨i0, hi0, h2⟩ := Option.map_eq_some_iff.1 blk_info
  simp only [Prod.mk.injEq] at h2
  obtain ⟨hz0, hz1, hz2⟩ := h2
  intro w
  have h := run_make (P := Tryd.prog) w 61 25 i0 _ Tryd.underlying61 hi0 hz0 .i64 .i64 (n : Int) (n : Int) (by omega) (Int.le_refl _) (by rw [hz2]; omega) (by omega)
  rw [hz1, Int.toNat_natCast, madeCells_blk] at h
  exact h
theorem own_zero (w : World) (base n : Nat) (hb : base ≤ w.heap.size) (hn : n ≤ 1100) : (w.alloc (.cells (blocksC (List.replicate n (List.replicate 64 0))).toArray 25)).ownsRow base 25 64 (.slice (some ⟨w.heap.size, 0, none⟩) n n) n (blocksC (List.replicate n (List.replicate 64 0))) := by
  have hl : (blocksC (List.replicate n (List.replicate 64 (0 : Int)))).length = n * 64 := by rw [zero_cells, List.length_replicate]
  refine ⟨hl, .inr ⟨w.heap.size, n, _, rfl, hb, heap_alloc_new w _, Nat.le_refl _, by unfold maxLen; omega, by rw [List.size_toArray, hl], ?_⟩⟩
  rw [List.take_of_length_le (by rw [hl]; exact Nat.le_refl _)]
theorem Box.made_at {w : World} {g : Nat} {t : TypeId} {cs : Array Value} (h : g = w.heap.size) : Box (w.alloc (.cells cs t)) g t cs := by rw [h]; exact Box.made _ _ _
theorem Box.drw {w : World} {g : Nat} {t : TypeId} {cs : Array Value} (h : Box w g t cs) : Box w.drew g t cs := h.on (on_drew _)
/-- two pairs of the same numbers are equal -/
theorem itemsP (w : World) {B : List Int} (hB : B.length = 2) (d : Nat) : ∀ is : List Nat, (∀ i ∈ is, i < 2) → (Op.eqItems (d + 1) 3 1 (cellsI B).toArray (cellsI B).toArray is).run Tryd.prog w = .ok true w
  | [], _ => by simp [Op.eqItems]
  | i :: is, h => by
    have hp : (part 3 (cellsI B).toArray (i * 1)).run Tryd.prog w = .ok (.int .i64 (B.getD i 0)) w := run_part_plain w (by kernel_rfl) (by rw [Nat.mul_one]; simpa using cellsI_get B i (by have := h i (by simp); omega))
    have he := run_equalIn_int w d 3 .i64 .i64 (B.getD i 0) (B.getD i 0) Tryd.underlying3
    have ih := itemsP w hB d is (fun j hj => h j (by simp [hj]))
    simp only [Op.eqItems, Sem.run_bind, hp, he, Result.andThen_ok, beq_self_eq_true]
    simp
    exact ih
theorem pair_equal (w : World) (x y : Int) : (Op.equalIn 10000 65 (.agg #[.int .i64 x, .int .i64 y]) (.agg #[.int .i64 x, .int .i64 y])).run Tryd.prog w = .ok true w := by
  obtain ⟨i, hi⟩ : ∃ i, Tryd.prog.info? 3 = some i := by
    obtain ⟨i, h, _⟩ := Option.map_eq_some_iff.1 int_size
    exact ⟨i, h⟩
  have h1 : Tryd.prog.cellsOf 3 = 1 := by kernel_rfl
  rw [show (10000 : Nat) = 9999 + 1 from rfl, run_equalIn_array (P := Tryd.prog) w 9999 _ _ Tryd.underlying65 hi, h1]
  exact itemsP w (B := [x, y]) rfl 9998 (List.range 2) (fun i hi => List.mem_range.1 hi)
def zeroT (l : List Nat) : List (List (List Int)) := l.map fun n => List.replicate n (List.replicate 64 0)
theorem zeroBlk {w : World} {g n : Nat} (h : Box w g 25 (blocksC (List.replicate n (List.replicate 64 0))).toArray) : Bs w (some ⟨g, 0, none⟩) n (List.replicate n (List.replicate 64 0)) := by
  have hw : ∀ x ∈ List.replicate n (List.replicate 64 (0 : Int)), x.length = 64 := fun x hx => by rw [(List.mem_replicate.1 hx).2, List.length_replicate]
  refine ⟨by rw [List.length_replicate], hw, fun _ => ⟨g, 0, rfl, h.lt, fun i x hx j hj => ?_⟩⟩
  rw [Nat.zero_add, h.cell, List.getElem?_toArray]
  exact blocksC_at hw hx hj
theorem tile3 {w : World} {gs ga gb gc : Nat} {M4 M1 : Array Value} (HM : M4 = (blocksC (List.replicate 4 (List.replicate 64 0))).toArray ∧ M1 = (blocksC (List.replicate 1 (List.replicate 64 0))).toArray)
    (h : Box w gs 61 #[.slice (some ⟨ga, 0, none⟩) 4 4, .slice (some ⟨gb, 0, none⟩) 1 1, .slice (some ⟨gc, 0, none⟩) 1 1]) (h4 : Box w ga 25 M4) (h1 : Box w gb 25 M1) (h2 : Box w gc 25 M1) :
    Ti w (some ⟨gs, 0, none⟩) 3 [(some ⟨ga, 0, none⟩, 4, 4), (some ⟨gb, 0, none⟩, 1, 1), (some ⟨gc, 0, none⟩, 1, 1)] (zeroT [4, 1, 1]) := by
  rw [HM.1] at h4
  rw [HM.2] at h1 h2
  refine ⟨⟨rfl, fun _ => ⟨gs, 0, rfl, h.lt, fun p x hx => ?_⟩⟩, rfl, fun p x t hx ht => ?_⟩
  · have hp : p < 3 := (List.getElem?_eq_some_iff.1 hx).1
    rw [Nat.zero_add, h.cell]
    rcases (show p = 0 ∨ p = 1 ∨ p = 2 by omega) with rfl | rfl | rfl <;> (cases hx; rfl)
  · have hp : p < 3 := (List.getElem?_eq_some_iff.1 hx).1
    have hm : ∀ n : Nat, n ≤ 4 → n ≤ maxLen := fun n hn => by unfold maxLen; omega
    rcases (show p = 0 ∨ p = 1 ∨ p = 2 by omega) with rfl | rfl | rfl <;> (cases hx; cases ht)
    · exact ⟨zeroBlk h4, Nat.le_refl _, hm 4 (by omega), fun e => by cases e⟩
    · exact ⟨zeroBlk h1, Nat.le_refl _, hm 1 (by omega), fun e => by cases e⟩
    · exact ⟨zeroBlk h2, Nat.le_refl _, hm 1 (by omega), fun e => by cases e⟩
set_option maxRecDepth 10000 in
set_option maxHeartbeats 6400000 in
theorem awake_any (w : World) : Calls Tryd.prog 9 #[] w fun e w' => e = .returned (.bool true) ∧ Below w.heap.size w w' := by
  have hr : RightS 9 9 3 0 := by unfold RightS; omega
  have HS := Lib.hid (fun w' => shape_any w' 9 9 3 0)
  unfold scanV ShapeY at HS
  have HRt := Lib.hid (fun w' A n c L T h => rightT_any w' 9 9 3 0 A n c L T h)
  unfold scanV tileV RightY at HRt
  have hb23 : ∀ w, (Instr.build 23 #[(0, .int .i64 9), (1, .int .i64 9), (2, .int .i64 3)]).run Tryd.prog w = .ok (.agg #[.int .i64 9, .int .i64 9, .int .i64 3, .int .i64 0]) w := fun w => run_build w 23 _ _ (by show Program.built _ _ _ = _; kernel_rfl)
  go_enter Tryd.func9, Tryd.ntmps9
  go_wp2_with fail
  refine (HS.out w).mono ?_
  rintro e w1 ⟨h1, _, k1⟩
  obtain ⟨A, c, rfl, hc, hps⟩ := h1 hr
  have e3 : nP 3 = 3 := rfl
  rw [e3] at hc hps ⊢
  have hsl : shpL 9 9 3 = [(2, 2), (1, 1), (1, 1)] := by rfl
  rw [hsl] at hps
  have H1 := Lib.hid (And.intro hps (And.intro k1 hr))
  clear hps k1 hr h1
  obtain ⟨M4, hM4⟩ : ∃ M4, M4 = (blocksC (List.replicate 4 (List.replicate 64 0))).toArray := ⟨_, rfl⟩
  obtain ⟨M1, hM1⟩ : ∃ M1, M1 = (blocksC (List.replicate 1 (List.replicate 64 0))).toArray := ⟨_, rfl⟩
  have hk4 : ∀ w, (Instr.makeSlice 61 (.int .i64 4) (.int .i64 4)).run Tryd.prog w = .ok (.slice (some ⟨w.heap.size, 0, none⟩) 4 4) (w.alloc (.cells M4 25)) := fun w => by rw [hM4]; exact make_blks 4 (by omega) w
  have hk1 : ∀ w, (Instr.makeSlice 61 (.int .i64 1) (.int .i64 1)).run Tryd.prog w = .ok (.slice (some ⟨w.heap.size, 0, none⟩) 1 1) (w.alloc (.cells M1 25)) := fun w => by rw [hM1]; exact make_blks 1 (by omega) w
  have HM := Lib.hid (And.intro hM4 hM1)
  have hz36 : ∀ w, (zeroValue 36).run Tryd.prog w = .ok (.agg #[.slice none 0 0]) w := fun w => by kernel_rfl
  clear hM4 hM1
  go_wp2_with fail
  go_cut [2] (fun v wx => ∃ g A' c' L', v = .pointer (some ⟨g, 0, none⟩) ∧ Box wx g 36 #[.slice A' 3 c'] ∧ Ti wx A' 3 L' (zeroT [4, 1, 1]) ∧ Below w1.heap.size w1 wx)
  case first =>
    go_region
    all_goals
      go_wp2_with fail
      go_meet
      apply Exists.intro
      apply Exists.intro
      apply Exists.intro
      apply Exists.intro
      refine ⟨rfl, Box.drw (by (first | (refine Box.made_at ?_; rfl) | (refine Box.made_at ?_; simp; done) | (refine Box.alloc ?_ _; (first | (refine Box.made_at ?_; rfl) | (refine Box.made_at ?_; simp; done) | (refine Box.alloc ?_ _; (first | (refine Box.made_at ?_; rfl) | (refine Box.made_at ?_; simp; done) | (refine Box.alloc ?_ _; (first | (refine Box.made_at ?_; rfl) | (refine Box.made_at ?_; simp; done) | (refine Box.alloc ?_ _; (first | (refine Box.made_at ?_; rfl) | (refine Box.made_at ?_; simp; done) | (refine Box.alloc ?_ _; (first | (refine Box.made_at ?_; rfl) | (refine Box.made_at ?_; simp; done))))))))))))), tile3 HM.out (Box.drw (by (first | (refine Box.made_at ?_; rfl) | (refine Box.made_at ?_; simp; done) | (refine Box.alloc ?_ _; (first | (refine Box.made_at ?_; rfl) | (refine Box.made_at ?_; simp; done) | (refine Box.alloc ?_ _; (first | (refine Box.made_at ?_; rfl) | (refine Box.made_at ?_; simp; done) | (refine Box.alloc ?_ _; (first | (refine Box.made_at ?_; rfl) | (refine Box.made_at ?_; simp; done) | (refine Box.alloc ?_ _; (first | (refine Box.made_at ?_; rfl) | (refine Box.made_at ?_; simp; done) | (refine Box.alloc ?_ _; (first | (refine Box.made_at ?_; rfl) | (refine Box.made_at ?_; simp; done)))))))))))))) (Box.drw (by (first | (refine Box.made_at ?_; rfl) | (refine Box.made_at ?_; simp; done) | (refine Box.alloc ?_ _; (first | (refine Box.made_at ?_; rfl) | (refine Box.made_at ?_; simp; done) | (refine Box.alloc ?_ _; (first | (refine Box.made_at ?_; rfl) | (refine Box.made_at ?_; simp; done) | (refine Box.alloc ?_ _; (first | (refine Box.made_at ?_; rfl) | (refine Box.made_at ?_; simp; done) | (refine Box.alloc ?_ _; (first | (refine Box.made_at ?_; rfl) | (refine Box.made_at ?_; simp; done) | (refine Box.alloc ?_ _; (first | (refine Box.made_at ?_; rfl) | (refine Box.made_at ?_; simp; done)))))))))))))) (Box.drw (by (first | (refine Box.made_at ?_; rfl) | (refine Box.made_at ?_; simp; done) | (refine Box.alloc ?_ _; (first | (refine Box.made_at ?_; rfl) | (refine Box.made_at ?_; simp; done) | (refine Box.alloc ?_ _; (first | (refine Box.made_at ?_; rfl) | (refine Box.made_at ?_; simp; done) | (refine Box.alloc ?_ _; (first | (refine Box.made_at ?_; rfl) | (refine Box.made_at ?_; simp; done) | (refine Box.alloc ?_ _; (first | (refine Box.made_at ?_; rfl) | (refine Box.made_at ?_; simp; done) | (refine Box.alloc ?_ _; (first | (refine Box.made_at ?_; rfl) | (refine Box.made_at ?_; simp; done)))))))))))))) (Box.drw (by (first | (refine Box.made_at ?_; rfl) | (refine Box.made_at ?_; simp; done) | (refine Box.alloc ?_ _; (first | (refine Box.made_at ?_; rfl) | (refine Box.made_at ?_; simp; done) | (refine Box.alloc ?_ _; (first | (refine Box.made_at ?_; rfl) | (refine Box.made_at ?_; simp; done) | (refine Box.alloc ?_ _; (first | (refine Box.made_at ?_; rfl) | (refine Box.made_at ?_; simp; done) | (refine Box.alloc ?_ _; (first | (refine Box.made_at ?_; rfl) | (refine Box.made_at ?_; simp; done) | (refine Box.alloc ?_ _; (first | (refine Box.made_at ?_; rfl) | (refine Box.made_at ?_; simp; done)))))))))))))), on_trans (on_trans (on_trans (on_trans (on_trans (on_alloc _ _) (on_alloc _ _)) (on_alloc _ _)) (on_alloc _ _)) (on_alloc _ _)) (on_drew _)⟩
  case rest =>
    obtain ⟨g, A', c', L', rfl, hbx, hTi, hk⟩ := hcut
    obtain ⟨b, off, rfl, _, _, hps⟩ := (H1.out.1.on hk).at_ (by omega)
    obtain ⟨p0, p1⟩ := hps 0 _ rfl
    obtain ⟨p2, p3⟩ := hps 1 _ rfl
    have r0 : wc.cell? ⟨g, 0, none⟩ = some (.slice A' 3 c') := hbx.cell 0
    have HT := Lib.hid (And.intro hTi (And.intro (on_trans H1.out.2.1 hk) hbx))
    clear hps hTi hk hbx
    have p0 : wc.cell? ⟨b, off, none⟩ = some (.int .i64 2) := p0
    have p1 : wc.cell? ⟨b, off + 1, none⟩ = some (.int .i64 2) := p1
    have p2 : wc.cell? ⟨b, off + 2, none⟩ = some (.int .i64 1) := p2
    have p3 : wc.cell? ⟨b, off + 2 + 1, none⟩ = some (.int .i64 1) := p3
    have p4 : wc.cell? ⟨b, off + 3, none⟩ = some (.int .i64 1) := p3
    have hq2 := fun w => pair_equal w 2 2
    have hq1 := fun w => pair_equal w 1 1
    go_wp2_with fail
    refine (HRt.out _ _ _ _ _ _ HT.out.1).mono ?_
    rintro e w9 ⟨r, rfl, hr, k9⟩
    have hrt : r = true := hr.2 ⟨H1.out.2.2, rfl, fun p hp => by
      rw [e3] at hp
      have hz : ∀ n, ∀ y ∈ List.replicate n (List.replicate 64 (0 : Int)), RightB y := fun n y hy => by rw [(List.mem_replicate.1 hy).2]; exact zeros_right
      rcases (show p = 0 ∨ p = 1 ∨ p = 2 by omega) with rfl | rfl | rfl
      · exact ⟨rfl, hz 4⟩
      · exact ⟨rfl, hz 1⟩
      · exact ⟨rfl, hz 1⟩⟩
    subst hrt
    have H9 := Lib.hid (on_trans HT.out.2.1 k9)
    clear hr k9
    go_wp2_with fail
    go_ret
    exact ⟨rfl, H9.out⟩
end Go.Proofs.YtdnjnbfmmgkpjaaDoor
