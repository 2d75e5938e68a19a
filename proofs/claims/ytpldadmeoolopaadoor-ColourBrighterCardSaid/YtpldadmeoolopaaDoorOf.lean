/-
  The contracts of Of and of Pixel.
-/
import Derived.Test.YtpldadmeoolopaaDoorMixed
namespace Go.Proofs.YtpldadmeoolopaaDoor
open Go.RowKit

theorem wk_in {a b c : Int} : Wk [a, b, c] 3 ↔ In3 a b c :=
  ⟨fun h => ⟨h 0 (by omega), h 1 (by omega), h 2 (by omega)⟩, fun h j hj => by
    obtain ⟨h0, h1, h2⟩ := h
    have : j = 0 ∨ j = 1 ∨ j = 2 := by omega
    rcases this with rfl | rfl | rfl
    · exact h0
    · exact h1
    · exact h2⟩
theorem decide_wk {a b c : Int} : decide (Wk [a, b, c] 3) = decide (In3 a b c) := decide_eq_decide.2 wk_in
/-- three numbers and an error -/
def triV (R : Int × Int × Int) : Value := .agg #[.int .i64 R.1, .int .i64 R.2.1, .int .i64 R.2.2]
/-- what a call answers that tells three numbers and an error -/
def Tells (w : World) (R : (Int × Int × Int) × Int) (e : Ending) (w' : World) : Prop := e = .returned (.tuple #[triV R.1, .int .i64 R.2]) ∧ Below w.heap.size w w'

/-- three numbers in memory -/
theorem load_tri {w : World} {G : Nat} {l : List Int} (h : Box w G 25 (cellsI l).toArray) (hl : l.length = 3) : (Instr.loadAt 25 (.pointer (some ⟨G, 0, none⟩))).run Tryd.prog w = .ok (rowV l) w :=
  run_loadAt_mid w G 0 25 (cellsI l) _ (fun j u hu => by rw [Nat.zero_add, h.cell j]; simpa using hu) Tryd.underlying25 rfl (by rw [show (Tryd.prog.info? 25).map (·.size) = some 3 by kernel_rfl, cellsI_len, hl])
theorem load_tone {w : World} {G : Nat} {l : List Int} (h : Box w G 23 (cellsI l).toArray) (hl : l.length = 3) : (Instr.loadAt 23 (.pointer (some ⟨G, 0, none⟩))).run Tryd.prog w = .ok (rowV l) w :=
  run_loadAt_mid w G 0 23 (cellsI l) _ (fun j u hu => by rw [Nat.zero_add, h.cell j]; simpa using hu) Tryd.underlying23 rfl (by rw [show (Tryd.prog.info? 23).map (·.size) = some 3 by kernel_rfl, cellsI_len, hl])
theorem loadVar_tri {w : World} {G : Nat} {l : List Int} (h : Box w G 25 (cellsI l).toArray) (hl : l.length = 3) : (loadVar 25 ⟨G, 0, none⟩).run Tryd.prog w = .ok (rowV l) w :=
  run_loadVar_row w G 25 25 _ (0, 0) _ h Tryd.underlying25 rfl (by rw [show (Tryd.prog.info? 25).map (·.size) = some 3 by kernel_rfl]; simp [cellsI_len, hl])
theorem loadVar_tone {w : World} {G : Nat} {l : List Int} (h : Box w G 23 (cellsI l).toArray) (hl : l.length = 3) : (loadVar 23 ⟨G, 0, none⟩).run Tryd.prog w = .ok (rowV l) w :=
  run_loadVar_row w G 23 23 _ (0, 0) _ h Tryd.underlying23 rfl (by rw [show (Tryd.prog.info? 23).map (·.size) = some 3 by kernel_rfl]; simp [cellsI_len, hl])
/-- three numbers are written whole -/
theorem wpList_store_tri {ops : Array Oper} {rest : List Oper} {o : Oper} {a : Act} {w : World} {Q : Exit → Act → World → Prop} (t : TypeId) (ht : (Tryd.prog.info? t).map (·.size) = some 3) (hgd : o.guard = none) (x y : Operand) (ho : o.op = .store t x y) (hd : o.dst = none)
    (g : Nat) (b : List Int) (hx : a.eval x = .pointer (some ⟨g, 0, none⟩)) (hy : a.eval y = rowV b) (old : Array Value) (hg : Box w g t old) (hold : old.size = 3) (hb : b.length = 3)
    (h : ∀ w', Box w' g t (cellsI b).toArray → Kept (fun i => i = g) w w' → wpList Tryd.prog ops Q rest a w') : wpList Tryd.prog ops Q (o :: rest) a w := by
  refine wpList_plain hgd fun _ hK => ?_
  refine wp_store_row t x y ho g (cellsI b).toArray hx hy t old hg (by rw [ht]; simp [cellsI_len, hb]) (by rw [hold]; simp [cellsI_len, hb]) (all_oneCell_toArray (cellsI_one b)) ?_
  rw [hd]
  exact hK _ _ (h _ (setRow_heap w g old _ t _ hg) ⟨rfl, rfl, rfl, by simp, fun k _ hk => setRow_other w g k _ hk⟩)
theorem sz25 : (Tryd.prog.info? 25).map (·.size) = some 3 := by kernel_rfl
theorem sz23 : (Tryd.prog.info? 23).map (·.size) = some 3 := by kernel_rfl
/-- what lies in memory: the argument, what is told, three numbers -/
structure Ox (w w3 : World) (tA tB : TypeId) (c z d : List Int) : Prop where
  arg : Box w3 w.heap.size tA (cellsI c).toArray
  res : Box w3 (w.heap.size + 1) tB (cellsI z).toArray
  row : Row w3 (w.heap.size + 1 + 1) d
  bel : Below w.heap.size w w3
section
variable {w w3 w' : World} {tA tB : TypeId} {c z d : List Int}
theorem Ox.on (h : Ox w w3 tA tB c z d) (k : Below w3.heap.size w3 w') : Ox w w' tA tB c z d := ⟨h.arg.on k, h.res.on k, h.row.on k, on_trans h.bel k⟩
theorem Ox.done (h : Ox w w3 tA tB c z d) (k : Kept (fun i => i = w.heap.size + 1) w3 w') : Below w.heap.size w w' := h.bel.trans (k.below h.bel.size (fun i hi e => by omega))
end
theorem ox_made (w : World) (tA tB : TypeId) (c : List Int) (hc : c.length = 3) : ∃ w3, ((w.alloc (.cells (cellsI c).toArray tA)).alloc (.cells (cellsI [0, 0, 0]).toArray tB)).alloc (.cells (cellsI c).toArray 39) = w3 ∧ Ox w w3 tA tB c [0, 0, 0] c := by
  refine ⟨_, rfl, ?_⟩
  have a1 : Box (w.alloc (.cells (cellsI c).toArray tA)) w.heap.size tA (cellsI c).toArray := Box.made _ _ _
  have k1 := on_alloc w (.cells (cellsI c).toArray tA)
  obtain ⟨w1, h1⟩ : ∃ w1, w1 = w.alloc (.cells (cellsI c).toArray tA) := ⟨_, rfl⟩
  have s1 : w1.heap.size = w.heap.size + 1 := by rw [h1]; simp
  rw [← h1] at a1 k1 ⊢
  have a2 : Box (w1.alloc (.cells (cellsI [0, 0, 0]).toArray tB)) w1.heap.size tB (cellsI [0, 0, 0]).toArray := Box.made _ _ _
  have k2 := on_alloc w1 (.cells (cellsI [0, 0, 0]).toArray tB)
  obtain ⟨w2, h2⟩ : ∃ w2, w2 = w1.alloc (.cells (cellsI [0, 0, 0]).toArray tB) := ⟨_, rfl⟩
  have s2 : w2.heap.size = w.heap.size + 1 + 1 := by rw [h2]; simp [s1]
  rw [← h2] at a2 k2 ⊢
  have a3 : Row (w2.alloc (.cells (cellsI c).toArray 39)) w2.heap.size c := Row.made _ _ hc
  have k3 := on_alloc w2 (.cells (cellsI c).toArray 39)
  rw [s1] at a2
  rw [s2] at a3
  exact ⟨(a1.on k2).on k3, a2.on k3, a3, on_trans (on_trans k1 k2) k3⟩
theorem fit_tone {r g b : Int} (h : In3 r g b) : Fit toneW [r, g, b] [0, 128, 128] := by
  obtain ⟨⟨a0, a1⟩, ⟨a2, a3⟩, a4, a5⟩ := h
  refine ⟨by decide, fun j hj => ?_, by decide⟩
  have : j = 0 ∨ j = 1 ∨ j = 2 := by omega
  rcases this with rfl | rfl | rfl
  · show -255 ≤ r ∧ r ≤ 255; omega
  · show -255 ≤ g ∧ g ≤ 255; omega
  · show -255 ≤ b ∧ b ≤ 255; omega
theorem mx_tone (r g b : Int) : mxL toneW [r, g, b] [0, 128, 128] = [toneY r g b, toneB r g b, toneR r g b] := by
  have e0 : mxT toneW [r, g, b] [0, 128, 128] 0 = cut8 (0 + rnd (0 + 19595 * r + 38470 * g + 7471 * b) 65536) := rfl
  have e1 : mxT toneW [r, g, b] [0, 128, 128] 1 = cut8 (128 + rnd (0 + -11059 * r + -21709 * g + 32768 * b) 65536) := rfl
  have e2 : mxT toneW [r, g, b] [0, 128, 128] 2 = cut8 (128 + rnd (0 + 32768 * r + -27439 * g + -5329 * b) 65536) := rfl
  unfold mxL toneY toneB toneR
  rw [e0, e1, e2, Int.zero_add, show 0 + 19595 * r + 38470 * g + 7471 * b = 19595 * r + 38470 * g + 7471 * b by omega, show 0 + -11059 * r + -21709 * g + 32768 * b = 32768 * b - 11059 * r - 21709 * g by omega, show 0 + 32768 * r + -27439 * g + -5329 * b = 32768 * r - 27439 * g - 5329 * b by omega]
theorem fit_pix {y cb cr : Int} (h : In3 y cb cr) : Fit pixW [y, cb - 128, cr - 128] [y, y, y] := by
  obtain ⟨⟨a0, a1⟩, ⟨a2, a3⟩, a4, a5⟩ := h
  refine ⟨by decide, fun j hj => ?_, fun j hj => ?_⟩
  all_goals
    have : j = 0 ∨ j = 1 ∨ j = 2 := by omega
  · rcases this with rfl | rfl | rfl
    · show -255 ≤ y ∧ y ≤ 255; omega
    · show -255 ≤ cb - 128 ∧ cb - 128 ≤ 255; omega
    · show -255 ≤ cr - 128 ∧ cr - 128 ≤ 255; omega
  · rcases this with rfl | rfl | rfl <;> exact ⟨a0, a1⟩
theorem mx_pix (y cb cr : Int) : mxL pixW [y, cb - 128, cr - 128] [y, y, y] = [pixR y cb cr, pixG y cb cr, pixB y cb cr] := by
  have e0 : mxT pixW [y, cb - 128, cr - 128] [y, y, y] 0 = cut8 (y + rnd (0 + 0 * y + 0 * (cb - 128) + 91881 * (cr - 128)) 65536) := rfl
  have e1 : mxT pixW [y, cb - 128, cr - 128] [y, y, y] 1 = cut8 (y + rnd (0 + 0 * y + -22554 * (cb - 128) + -46802 * (cr - 128)) 65536) := rfl
  have e2 : mxT pixW [y, cb - 128, cr - 128] [y, y, y] 2 = cut8 (y + rnd (0 + 0 * y + 116130 * (cb - 128) + 0 * (cr - 128)) 65536) := rfl
  unfold mxL pixR pixG pixB
  rw [e0, e1, e2, show 0 + 0 * y + 0 * (cb - 128) + 91881 * (cr - 128) = 91881 * (cr - 128) by omega, show 0 + 0 * y + -22554 * (cb - 128) + -46802 * (cr - 128) = -(22554 * (cb - 128) + 46802 * (cr - 128)) by omega, show 0 + 0 * y + 116130 * (cb - 128) + 0 * (cr - 128) = 116130 * (cb - 128) by omega, rnd_neg,
    show y + -rnd (22554 * (cb - 128) + 46802 * (cr - 128)) 65536 = y - rnd (22554 * (cb - 128) + 46802 * (cr - 128)) 65536 by omega]

set_option maxHeartbeats 1600000 in
theorem of_any (w : World) (r g b : Int) (hT : TabT w) : Calls Tryd.prog 10 #[.agg #[.int .i64 r, .int .i64 g, .int .i64 b]] w (Tells w (ofF r g b)) := by
  obtain ⟨w3, hw3, hO⟩ := ox_made w 25 23 [r, g, b] rfl
  have H := Lib.hid (And.intro hO (And.intro (hT.on hO.bel) hw3))
  have HI := Lib.hid (fun w => within_any w [r, g, b] rfl)
  unfold Withd at HI
  rw [decide_wk] at HI
  clear hw3 hO hT
  have hw : ((w.alloc (.cells #[.int .i64 r, .int .i64 g, .int .i64 b] 25)).alloc (.cells #[.int .i64 0, .int .i64 0, .int .i64 0] 23)).alloc (.cells #[.int .i64 r, .int .i64 g, .int .i64 b] 39) = w3 := H.out.2.2
  have HW := Lib.hid hw
  clear hw
  by_cases hin : In3 r g b
  · have hE : ofF r g b = ((toneY r g b, toneB r g b, toneR r g b), 0) := if_pos hin
    have HC := Lib.hid (fun w => mixed_any w [0, 128, 128] toneW [r, g, b] rfl rfl rfl (fit_tone hin))
    unfold Mixed at HC
    rw [mx_tone] at HC
    rw [decide_eq_true hin] at HI
    have hb0 := hin
    obtain ⟨⟨a0, a1⟩, ⟨a2, a3⟩, a4, a5⟩ := hin
    obtain ⟨x, hx⟩ : ∃ x, x = toneY r g b := ⟨_, rfl⟩
    obtain ⟨y, hy⟩ : ∃ y, y = toneB r g b := ⟨_, rfl⟩
    obtain ⟨z, hz⟩ : ∃ z, z = toneR r g b := ⟨_, rfl⟩
    rw [← hx, ← hy, ← hz] at HC hE
    have HE := Lib.hid hE
    clear hE hx hy hz hb0
    go_enter Tryd.func10, Tryd.ntmps10
    go_wp2_with fail
    rw [HW.out]
    refine Calls.mono (HI.out w3) ?_
    rintro e w4 ⟨rfl, b4⟩
    have H4 := Lib.hid (And.intro (H.out.1.on b4) (H.out.2.1.on b4))
    clear b4
    go_wp2_with (first
      | (with_reducible refine wpList_load_to (op := ⟨some 18, _, _, _, _, _⟩) rfl 41 _ rfl (.pointer (some ⟨1, 0, none⟩)) rfl (rowV toneW) H4.out.2.load ?_)
      | (with_reducible refine wpList_load_to (op := ⟨some 19, _, _, _, _, _⟩) rfl 39 (.tmp 4) rfl (.pointer (some ⟨w.heap.size + 1 + 1, 0, none⟩)) rfl (rowV [r, g, b]) H4.out.1.row.load ?_)
      | fail)
    refine Calls.mono (HC.out w4) ?_
    rintro e w5 ⟨rfl, b5⟩
    have H5 := Lib.hid (H4.out.1.on b5)
    clear b5
    have hv : rowV [x, y, z] = .agg #[.int .i64 x, .int .i64 y, .int .i64 z] := rfl
    rw [hv]
    clear hv
    go_wp2_with (first
      | ((with_reducible refine wpList_store_tri 23 sz23 (o := ⟨none, _, _, _, _, _⟩) rfl (.tmp 2) (.tmp 27) rfl rfl (w.heap.size + 1) [x, y, z] rfl ?hy _ (H5.out.on (on_alloc w5 _)).res rfl rfl ?_)
         case hy => rfl
         intro w9 b9 k9
         have H9 := Lib.hid (And.intro b9 ((H5.out.on (on_alloc w5 _)).done k9))
         clear b9 k9)
      | fail)
    refine bodyPost_ret (v := .tuple #[rowV [x, y, z], .int .i64 0]) (results_ct (fn := Tryd.f10) Tryd.results10 _ _ (w.heap.size + 1) _ _ rfl rfl (loadVar_tone H9.out.1 rfl)) rfl ?_
    exact ⟨by rw [HE.out]; rfl, H9.out.2⟩
  · have hE : ofF r g b = ((0, 0, 0), 2) := if_neg hin
    rw [decide_eq_false hin] at HI
    have HE := Lib.hid hE
    clear hE hin
    go_enter Tryd.func10, Tryd.ntmps10
    go_wp2_with fail
    rw [HW.out]
    refine Calls.mono (HI.out w3) ?_
    rintro e w4 ⟨rfl, b4⟩
    have H4 := Lib.hid (H.out.1.on b4)
    clear b4
    go_wp2_with (first
      | ((with_reducible refine wpList_store_tri 23 sz23 (o := ⟨none, _, _, _, _, _⟩) rfl (.tmp 2) (.tmp 16) rfl rfl (w.heap.size + 1) [0, 0, 0] rfl ?hy _ H4.out.res rfl rfl ?_)
         case hy => rfl
         intro w9 b9 k9
         have H9 := Lib.hid (And.intro b9 (H4.out.done k9))
         clear b9 k9)
      | fail)
    refine bodyPost_ret (v := .tuple #[rowV [0, 0, 0], .int .i64 2]) (results_ct (fn := Tryd.f10) Tryd.results10 _ _ (w.heap.size + 1) _ _ rfl rfl (loadVar_tone H9.out.1 rfl)) rfl ?_
    exact ⟨by rw [HE.out]; rfl, H9.out.2⟩
set_option maxHeartbeats 1600000 in
theorem pix_any (w : World) (r g b : Int) (hT : TabP w) : Calls Tryd.prog 7 #[.agg #[.int .i64 r, .int .i64 g, .int .i64 b]] w (Tells w (pixF r g b)) := by
  obtain ⟨w3, hw3, hO⟩ := ox_made w 23 25 [r, g, b] rfl
  have H := Lib.hid (And.intro hO (And.intro (hT.on hO.bel) hw3))
  have HI := Lib.hid (fun w => within_any w [r, g, b] rfl)
  unfold Withd at HI
  rw [decide_wk] at HI
  clear hw3 hO hT
  have hw : ((w.alloc (.cells #[.int .i64 r, .int .i64 g, .int .i64 b] 23)).alloc (.cells #[.int .i64 0, .int .i64 0, .int .i64 0] 25)).alloc (.cells #[.int .i64 r, .int .i64 g, .int .i64 b] 39) = w3 := H.out.2.2
  have HW := Lib.hid hw
  clear hw
  by_cases hin : In3 r g b
  · have hE : pixF r g b = ((pixR r g b, pixG r g b, pixB r g b), 0) := if_pos hin
    have HC := Lib.hid (fun w => mixed_any w [r, r, r] pixW [r, g - 128, b - 128] rfl rfl rfl (fit_pix hin))
    unfold Mixed at HC
    rw [mx_pix] at HC
    rw [decide_eq_true hin] at HI
    have hb0 := hin
    obtain ⟨⟨a0, a1⟩, ⟨a2, a3⟩, a4, a5⟩ := hin
    obtain ⟨x, hx⟩ : ∃ x, x = pixR r g b := ⟨_, rfl⟩
    obtain ⟨y, hy⟩ : ∃ y, y = pixG r g b := ⟨_, rfl⟩
    obtain ⟨z, hz⟩ : ∃ z, z = pixB r g b := ⟨_, rfl⟩
    rw [← hx, ← hy, ← hz] at HC hE
    have HE := Lib.hid hE
    clear hE hx hy hz hb0
    go_enter Tryd.func7, Tryd.ntmps7
    go_wp2_with fail
    rw [HW.out]
    refine Calls.mono (HI.out w3) ?_
    rintro e w4 ⟨rfl, b4⟩
    have H4 := Lib.hid (And.intro (H.out.1.on b4) (H.out.2.1.on b4))
    clear b4
    have c0 : w4.cell? ⟨w.heap.size, 0, none⟩ = some (.int .i64 r) := H4.out.1.arg.cell 0
    have c1 : w4.cell? ⟨w.heap.size, 1, none⟩ = some (.int .i64 g) := H4.out.1.arg.cell 1
    have c2 : w4.cell? ⟨w.heap.size, 2, none⟩ = some (.int .i64 b) := H4.out.1.arg.cell 2
    go_wp2_with (first
      | (with_reducible refine wpList_load_to (op := ⟨some 24, _, _, _, _, _⟩) rfl 41 _ rfl (.pointer (some ⟨0, 0, none⟩)) rfl (rowV pixW) H4.out.2.load ?_)
      | fail)
    refine Calls.mono (HC.out w4) ?_
    rintro e w5 ⟨rfl, b5⟩
    have H5 := Lib.hid (H4.out.1.on b5)
    clear b5
    have hv : rowV [x, y, z] = .agg #[.int .i64 x, .int .i64 y, .int .i64 z] := rfl
    rw [hv]
    clear hv
    go_wp2_with (first
      | ((with_reducible refine wpList_store_tri 25 sz25 (o := ⟨none, _, _, _, _, _⟩) rfl (.tmp 2) (.tmp 41) rfl rfl (w.heap.size + 1) [x, y, z] rfl ?hy _ (H5.out.on (on_alloc w5 _)).res rfl rfl ?_)
         case hy => rfl
         intro w9 b9 k9
         have H9 := Lib.hid (And.intro b9 ((H5.out.on (on_alloc w5 _)).done k9))
         clear b9 k9)
      | fail)
    refine bodyPost_ret (v := .tuple #[rowV [x, y, z], .int .i64 0]) (results_ct (fn := Tryd.f7) Tryd.results7 _ _ (w.heap.size + 1) _ _ rfl rfl (loadVar_tri H9.out.1 rfl)) rfl ?_
    exact ⟨by rw [HE.out]; rfl, H9.out.2⟩
  · have hE : pixF r g b = ((0, 0, 0), 2) := if_neg hin
    rw [decide_eq_false hin] at HI
    have HE := Lib.hid hE
    clear hE hin
    go_enter Tryd.func7, Tryd.ntmps7
    go_wp2_with fail
    rw [HW.out]
    refine Calls.mono (HI.out w3) ?_
    rintro e w4 ⟨rfl, b4⟩
    have H4 := Lib.hid (H.out.1.on b4)
    clear b4
    go_wp2_with (first
      | ((with_reducible refine wpList_store_tri 25 sz25 (o := ⟨none, _, _, _, _, _⟩) rfl (.tmp 2) (.tmp 16) rfl rfl (w.heap.size + 1) [0, 0, 0] rfl ?hy _ H4.out.res rfl rfl ?_)
         case hy => rfl
         intro w9 b9 k9
         have H9 := Lib.hid (And.intro b9 (H4.out.done k9))
         clear b9 k9)
      | fail)
    refine bodyPost_ret (v := .tuple #[rowV [0, 0, 0], .int .i64 2]) (results_ct (fn := Tryd.f7) Tryd.results7 _ _ (w.heap.size + 1) _ _ rfl rfl (loadVar_tri H9.out.1 rfl)) rfl ?_
    exact ⟨by rw [HE.out]; rfl, H9.out.2⟩
end Go.Proofs.YtpldadmeoolopaaDoor
