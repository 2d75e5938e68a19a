/-
  SegmentTells: any tables, and any header, as streams are the document's, or may not be: the walk.
-/
import Derived.Test.YtgipngedmblnmaaDoorLOwn
import Derived.Test.YtgipngedmblnmaaDoorLSame
import Derived.Test.YtgipngedmblnmaaDoorLRefTab
namespace Go.Proofs.YtgipngedmblnmaaDoor
open Go.RowKit

set_option maxRecDepth 100000 in
theorem build_tab (w : World) (T : Tb) (X : Nat → Value) : (Instr.build 46 #[(0, tbV T X)]).run Tryd.prog w = .ok (kvV ⟨T, kz.F, kz.N⟩ X) w := by
  refine run_build w 46 _ _ ?_
  show Program.built _ _ _ = _
  kernel_rfl
set_option maxRecDepth 10000 in
set_option maxHeartbeats 12800000 in
theorem tells_calls (w : World) (T : Tb) (X : Nat → Value) (col : Bool) (W H K R : Int) (hT : Tab w) (hW : Wt T) (h1X : ∀ j, (X j).oneCell' = true) (hX : ∀ j, j < 4 → ∃ A n c, X j = .slice A n c ∧ Ia w A n c (T.V j)) :
    Calls Tryd.prog 3 #[tbV T X, .bool col, .agg #[.int .i64 W, .int .i64 H, .int .i64 K, .int .i64 R]] w (Law w) := by
  obtain ⟨C, hC⟩ : ∃ C, C = (tbC T X).toArray := ⟨_, rfl⟩
  have eC : tbV T X = .agg C := by rw [hC]; rfl
  obtain ⟨D, hD⟩ : ∃ D : Array Value, D = #[.int .i64 W, .int .i64 H, .int .i64 K, .int .i64 R] := ⟨_, rfl⟩
  obtain ⟨w1, hw1⟩ : ∃ x, (w.alloc (.cells C 31)).alloc (.cells D 33) = x := ⟨_, rfl⟩
  have b1 : Box w1 w.heap.size 31 (tbC T X).toArray := by rw [← hw1, hC]; exact (Box.made _ _ _).alloc _
  have b2 : Box w1 (w.heap.size + 1) 33 D := by
    have := Box.made (w.alloc (.cells C 31)) 33 D
    rw [show (w.alloc (.cells C 31)).heap.size = w.heap.size + 1 by simp, hw1] at this
    exact this
  have k1 : Below w.heap.size w w1 := by rw [← hw1]; exact on_trans (on_alloc _ _) (on_alloc _ _)
  have hX1 : ∀ j, j < 4 → ∃ A n c, X j = .slice A n c ∧ Ia w1 A n c (T.V j) := fun j hj => by obtain ⟨A, n, c, e, i⟩ := hX j hj; exact ⟨A, n, c, e, i.on k1⟩
  have hfw := few_any w1 T X hX1
  have hld : (Instr.loadAt 31 (.pointer (some ⟨w.heap.size, 0, none⟩))).run Tryd.prog w1 = .ok (tbV T X) w1 := b1.tb.load
  rw [← hD]
  rw [eC] at hfw hld ⊢
  have HFw := Lib.hid hfw
  have HLd := Lib.hid hld
  have H1 := Lib.hid (And.intro hw1 (And.intro b1 (And.intro b2 (And.intro k1 (And.intro (hT.on k1) (And.intro hX1 (And.intro hW (And.intro h1X (And.intro eC hD)))))))))
  have hpos0 : 0 < w.heap.size := hT.zero
  clear hw1 b1 b2 k1 hX1 hX hfw hld hT hW h1X eC hC hD
  go_enter Tryd.func3, Tryd.ntmps3
  go_upto_region 1 with fail
  rw [H1.out.1]
  go_wp2_with (first
    | (with_reducible refine wpList_load_to (op := ⟨some 16, _, _, _, _, _⟩) rfl 31 (.tmp 3) rfl (.pointer (some ⟨w.heap.size, 0, none⟩)) rfl (.agg C) HLd.out ?_)
    | fail)
  refine Calls.mono HFw.out ?_
  rintro e w2 ⟨fb, rfl, hfb, k2⟩
  have H2 := Lib.hid (And.intro (on_trans H1.out.2.2.2.1 k2) (And.intro (H1.out.2.1.on k2) (And.intro (H1.out.2.2.1.on k2) (And.intro (H1.out.2.2.2.2.1.on k2) (And.intro (show ∀ j, j < 4 → ∃ A n c, X j = .slice A n c ∧ Ia w2 A n c (T.V j) from fun j hj => by obtain ⟨A, n, c, e, i⟩ := H1.out.2.2.2.2.2.1 j hj; exact ⟨A, n, c, e, i.on k2⟩) hfb)))))
  clear k2 hfb HFw HLd
  cases fb with
  | false =>
    have HA := Lib.hid (awake_any w2 H2.out.2.2.2.1)
    go_wp2_with fail
    refine Calls.mono HA.out ?_
    rintro e w3 ⟨rfl, b3⟩
    have H3 := Lib.hid (on_trans H2.out.1 b3)
    clear b3
    go_wp2_with fail
    go_ret
    exact ⟨rfl, H3.out⟩
  | true =>
  have hfew : ∀ j, j < 4 → (T.V j).length ≤ 5000 := fun j hj => Nat.le_trans (H2.out.2.2.2.2.2 rfl j hj) (by omega)
  have how := own_any w2 T X H1.out.2.2.2.2.2.2.2.1 H2.out.2.2.2.2.1 hfew
  have hld : (Instr.loadAt 31 (.pointer (some ⟨w.heap.size, 0, none⟩))).run Tryd.prog w2 = .ok (tbV T X) w2 := H2.out.2.1.tb.load
  rw [H1.out.2.2.2.2.2.2.2.2.1] at how hld
  have HOw := Lib.hid how
  have HLd := Lib.hid hld
  have HFe := Lib.hid hfew
  clear how hld hfew
  go_wp2_with (first
    | (with_reducible refine wpList_load_to (op := ⟨some 20, _, _, _, _, _⟩) rfl 31 (.tmp 3) rfl (.pointer (some ⟨w.heap.size, 0, none⟩)) rfl (.agg C) HLd.out ?_)
    | fail)
  refine Calls.mono HOw.out ?_
  rintro e w3 ⟨X', rfl, h1X', hX', k3⟩
  obtain ⟨Vx, hVx⟩ : ∃ V, V = tbV T X' := ⟨_, rfl⟩
  rw [← hVx]
  obtain ⟨Z, hZ⟩ : ∃ Z, Z = (tbC kz.tb X0).toArray := ⟨_, rfl⟩
  have hz' : ∀ w, (zeroValue 31).run Tryd.prog w = .ok (.agg Z) w := fun w => by rw [hZ]; exact zero31 w
  obtain ⟨g7, hg7⟩ : ∃ g, g = w3.heap.size := ⟨_, rfl⟩
  have HX := Lib.hid (And.intro hVx (And.intro h1X' (And.intro (show Z.size = 196 by rw [hZ, tbC_size]) hg7)))
  have H3 := Lib.hid (And.intro (on_trans H2.out.1 k3) (And.intro (H2.out.2.1.on k3) (And.intro (H2.out.2.2.1.on k3) (And.intro (H2.out.2.2.2.1.on k3) (And.intro (show ∀ j, j < 4 → ∃ A n c, X j = .slice A n c ∧ Ia w3 A n c (T.V j) from fun j hj => by obtain ⟨A, n, c, e, i⟩ := H2.out.2.2.2.2.1 j hj; exact ⟨A, n, c, e, i.on k3⟩) hX')))))
  clear k3 hX' h1X' hVx hZ HOw HLd hg7
  go_upto_region 4 with (first
    | ((with_reducible refine wpList_store_tb (o := ⟨none, _, _, _, _, _⟩) rfl (.tmp 7) (.tmp 21) rfl rfl w3.heap.size T X' HX.out.2.1 rfl ?hy Z (Box.made _ _ _) HX.out.2.2.1 ?_)
       case hy => exact HX.out.1
       intro w4 b4 k4
       have H4 := Lib.hid (And.intro b4 k4)
       clear b4 k4)
    | fail)
  have kk4 : Below w3.heap.size w3 w4 := (on_alloc w3 (.cells Z 31)).trans (H4.out.2.below (by simp) (fun i hi e => by omega))
  have b7 : Box w4 g7 31 (tbC T X').toArray := by rw [HX.out.2.2.2]; exact H4.out.1
  have H5 := Lib.hid (And.intro (on_trans H3.out.1 kk4) (And.intro (H3.out.2.1.on kk4) (And.intro (H3.out.2.2.1.on kk4) (And.intro (H3.out.2.2.2.1.on kk4) (And.intro b7 (And.intro
    (show ∀ j, j < 4 → ∃ A n c, X j = .slice A n c ∧ Ia w4 A n c (T.V j) from fun j hj => by obtain ⟨A, n, c, e, i⟩ := H3.out.2.2.2.2.1 j hj; exact ⟨A, n, c, e, i.on kk4⟩)
    (show ∀ j, j < 4 → ∃ A n c, X' j = .slice A n c ∧ Ia w4 A n c (T.V j) from fun j hj => by obtain ⟨A, n, c, e, i⟩ := H3.out.2.2.2.2.2 j hj; exact ⟨A, n, c, e, i.on kk4⟩)))))))
  rw [← HX.out.2.2.2]
  obtain ⟨F, hF⟩ : ∃ F, F = tablesF T (if col then 2 else 1) := ⟨_, rfl⟩
  obtain ⟨G, hG⟩ : ∃ F, F = headF W H K R := ⟨_, rfl⟩
  have ht := tables_any w4 T X' col H1.out.2.2.2.2.2.2.1 H5.out.2.2.2.2.2.2 HFe.out H5.out.2.2.2.1
  have hld : (Instr.loadAt 31 (.pointer (some ⟨g7, 0, none⟩))).run Tryd.prog w4 = .ok (tbV T X') w4 := b7.tb.load
  rw [← HX.out.1] at ht hld
  rw [← hF] at ht
  have HTa := Lib.hid ht
  have HLd := Lib.hid hld
  have HF := Lib.hid (And.intro hF hG)
  clear kk4 b7 ht hld hF hG H4 H3
  go_wp2_with (first
    | (with_reducible refine wpList_load_to (op := ⟨some 23, _, _, _, _, _⟩) rfl 31 (.tmp 7) rfl (.pointer (some ⟨g7, 0, none⟩)) rfl Vx HLd.out ?_)
    | fail)
  refine Calls.mono HTa.out ?_
  rintro e w5 ⟨A1, c1, rfl, s1, k5⟩
  obtain ⟨n1, hn1⟩ : ∃ n, n = F.1.length := ⟨_, rfl⟩
  obtain ⟨f, hf⟩ : ∃ f, f = F.2 := ⟨_, rfl⟩
  rw [← hn1] at s1
  rw [← hn1, ← hf]
  have ht := refTables_any w5 T X col H1.out.2.2.2.2.2.2.1 (fun j hj => by obtain ⟨A, n, c, e, i⟩ := H5.out.2.2.2.2.2.1 j hj; exact ⟨A, n, c, e, i.on k5⟩) HFe.out
  have hld : (Instr.loadAt 31 (.pointer (some ⟨w.heap.size, 0, none⟩))).run Tryd.prog w5 = .ok (tbV T X) w5 := (H5.out.2.1.on k5).tb.load
  rw [H1.out.2.2.2.2.2.2.2.2.1] at ht hld
  rw [← HF.out.1] at ht
  have HTb := Lib.hid ht
  have HLe := Lib.hid hld
  have H6 := Lib.hid (And.intro s1 (And.intro k5 (And.intro hn1 hf)))
  clear ht hld s1 k5 hn1 hf HTa HLd
  go_wp2_with (first
    | (with_reducible refine wpList_load_to (op := ⟨some 29, _, _, _, _, _⟩) rfl 31 (.tmp 3) rfl (.pointer (some ⟨w.heap.size, 0, none⟩)) rfl (.agg C) HLe.out ?_)
    | fail)
  refine Calls.mono HTb.out ?_
  rintro e w6 ⟨A2, c2, rfl, s2, k6⟩
  rw [← H6.out.2.2.1] at s2
  rw [← H6.out.2.2.1, ← H6.out.2.2.2]
  obtain ⟨Vs, hVs⟩ : ∃ V, V = Value.agg D := ⟨_, rfl⟩
  have hls : ∀ w', Box w' (w.heap.size + 1) 33 D → (Instr.loadAt 33 (.pointer (some ⟨w.heap.size + 1, 0, none⟩))).run Tryd.prog w' = .ok Vs w' := fun w' h => by
    rw [hVs]
    exact run_loadAt_mid w' (w.heap.size + 1) 0 33 D.toList _ (fun k u hu => by rw [Nat.zero_add, h.cell k]; simpa using hu) Tryd.underlying33 rfl (by rw [H1.out.2.2.2.2.2.2.2.2.2]; kernel_rfl)
  have eVs : Vs = .agg #[.int .i64 W, .int .i64 H, .int .i64 K, .int .i64 R] := by rw [hVs, H1.out.2.2.2.2.2.2.2.2.2]
  have hh := head_any w6 W H K R
  rw [← HF.out.2, ← eVs] at hh
  have HHa := Lib.hid hh
  have k46 := on_trans H6.out.2.1 k6
  have HLs := Lib.hid (hls w6 (H5.out.2.2.1.on k46))
  have H7 := Lib.hid (And.intro (H6.out.1.below k6 (fun b hb _ => hb)) (And.intro s2 (And.intro k46 (And.intro hls eVs))))
  clear s2 k6 hls hVs eVs hh k46 HTb HLe
  go_wp2_with (first
    | (with_reducible refine wpList_load_to (op := ⟨some 35, _, _, _, _, _⟩) rfl 33 (.tmp 5) rfl (.pointer (some ⟨w.heap.size + 1, 0, none⟩)) rfl Vs HLs.out ?_)
    | fail)
  refine Calls.mono HHa.out ?_
  rintro e w7 ⟨A3, c3, rfl, s3, k7⟩
  obtain ⟨n3, hn3⟩ : ∃ n, n = G.1.length := ⟨_, rfl⟩
  obtain ⟨g, hg⟩ : ∃ f, f = G.2 := ⟨_, rfl⟩
  rw [← hn3] at s3
  rw [← hn3, ← hg]
  have hh := refHead_any w7 W H K R
  rw [← HF.out.2, ← H7.out.2.2.2.2] at hh
  have HHb := Lib.hid hh
  have k47 := on_trans H7.out.2.2.1 k7
  have HLs2 := Lib.hid (H7.out.2.2.2.1 w7 (H5.out.2.2.1.on k47))
  have H7b := Lib.hid (And.intro s3 (And.intro (H7.out.1.below k7 (fun b hb _ => hb)) (And.intro (H7.out.2.1.below k7 (fun b hb _ => hb)) (And.intro k47 (And.intro hn3 hg)))))
  clear s3 k7 hh k47 hn3 hg HHa HLs
  go_wp2_with (first
    | (with_reducible refine wpList_load_to (op := ⟨some 40, _, _, _, _, _⟩) rfl 33 (.tmp 5) rfl (.pointer (some ⟨w.heap.size + 1, 0, none⟩)) rfl Vs HLs2.out ?_)
    | fail)
  refine Calls.mono HHb.out ?_
  rintro e w8 ⟨A4, c4, rfl, s4, k8⟩
  rw [← H7b.out.2.2.2.2.1] at s4
  rw [← H7b.out.2.2.2.2.1, ← H7b.out.2.2.2.2.2]
  have k48 := on_trans H7b.out.2.2.2.1 k8
  obtain ⟨Sa, hSa⟩ : ∃ S, S = strOfNums F.1 := ⟨_, rfl⟩
  obtain ⟨Sb, hSb⟩ : ∃ S, S = strOfNums G.1 := ⟨_, rfl⟩
  obtain ⟨rb, hrb⟩ : ∃ b, b = decide (RightS W H K R) := ⟨_, rfl⟩
  obtain ⟨Vt, hVt⟩ : ∃ V, V = Value.agg C := ⟨_, rfl⟩
  obtain ⟨Kx, hKx⟩ : ∃ V, V = kvV ⟨T, kz.F, kz.N⟩ X' := ⟨_, rfl⟩
  obtain ⟨Kt, hKt⟩ : ∃ V, V = kvV ⟨T, kz.F, kz.N⟩ X := ⟨_, rfl⟩
  have t1 := H7b.out.2.1.below k8 (fun b hb _ => hb)
  have t2 := H7b.out.2.2.1.below k8 (fun b hb _ => hb)
  have t3 := H7b.out.1.below k8 (fun b hb _ => hb)
  have HCv := Lib.hid (And.intro (fun (w' : World) (k : Below w8.heap.size w8 w') => (show (convert 37 9 (.slice A1 n1 c1)).run Tryd.prog w' = .ok (.string Sa) w' by rw [hSa]; exact sl_str (t1.on k)))
    (And.intro (fun (w' : World) (k : Below w8.heap.size w8 w') => (show (convert 37 9 (.slice A2 n1 c2)).run Tryd.prog w' = .ok (.string Sa) w' by rw [hSa]; exact sl_str (t2.on k)))
    (And.intro (fun (w' : World) (k : Below w8.heap.size w8 w') => (show (convert 37 9 (.slice A3 n3 c3)).run Tryd.prog w' = .ok (.string Sb) w' by rw [hSb]; exact sl_str (t3.on k)))
      (fun (w' : World) (k : Below w8.heap.size w8 w') => (show (convert 37 9 (.slice A4 n3 c4)).run Tryd.prog w' = .ok (.string Sb) w' by rw [hSb]; exact sl_str (s4.on k))))))
  have bt := H5.out.2.1.on k48
  have bx := H5.out.2.2.2.2.1.on k48
  have bs := H5.out.2.2.1.on k48
  have HL := Lib.hid (And.intro (fun (w' : World) (k : Below w8.heap.size w8 w') => H7.out.2.2.2.1 w' (bs.on k))
    (And.intro (fun (w' : World) (k : Below w8.heap.size w8 w') => (show (Instr.loadAt 31 (.pointer (some ⟨g7, 0, none⟩))).run Tryd.prog w' = .ok Vx w' by rw [HX.out.1]; exact (bx.on k).tb.load))
      (fun (w' : World) (k : Below w8.heap.size w8 w') => (show (Instr.loadAt 31 (.pointer (some ⟨w.heap.size, 0, none⟩))).run Tryd.prog w' = .ok Vt w' by rw [hVt, ← H1.out.2.2.2.2.2.2.2.2.1]; exact (bt.on k).tb.load))))
  have HB := Lib.hid (And.intro (fun (w' : World) => (show (Instr.build 46 #[(0, Vx)]).run Tryd.prog w' = .ok Kx w' by rw [HX.out.1, hKx]; exact build_tab w' T X')) (fun (w' : World) => (show (Instr.build 46 #[(0, Vt)]).run Tryd.prog w' = .ok Kt w' by rw [hVt, ← H1.out.2.2.2.2.2.2.2.2.1, hKt]; exact build_tab w' T X)))
  have HRt := Lib.hid (And.intro (fun (w' : World) => (show Calls Tryd.prog 15 #[Vs] w' (fun e w'' => e = .returned (.bool rb) ∧ Below w'.heap.size w' w'') by rw [H7.out.2.2.2.2, hrb]; exact rightS_any w' W H K R)) (fun (w' : World) => (show Calls Tryd.prog 16 #[Vs] w' (fun e w'' => e = .returned (.bool rb) ∧ Below w'.heap.size w' w'') by rw [H7.out.2.2.2.2, hrb]; exact refRightS_any w' W H K R)))
  have kx8 : ∀ j, j < 4 → ∃ A n c, X j = .slice A n c ∧ Ia w8 A n c (T.V j) := fun j hj => by obtain ⟨A, n, c, e, i⟩ := H5.out.2.2.2.2.2.1 j hj; exact ⟨A, n, c, e, i.on k48⟩
  have ky8 : ∀ j, j < 4 → ∃ A n c, X' j = .slice A n c ∧ Ia w8 A n c (T.V j) := fun j hj => by obtain ⟨A, n, c, e, i⟩ := H5.out.2.2.2.2.2.2 j hj; exact ⟨A, n, c, e, i.on k48⟩
  have HSm := Lib.hid (fun (w' : World) (k : Below w8.heap.size w8 w') => (show Calls Tryd.prog 17 #[Kx, Kt] w' (Law w') by
    rw [hKx, hKt]
    exact same_any w' ⟨T, kz.F, kz.N⟩ X' X (KnR.on ⟨H1.out.2.2.2.2.2.2.1, HX.out.2.1, ky8⟩ k) (KnR.on ⟨H1.out.2.2.2.2.2.2.1, H1.out.2.2.2.2.2.2.2.1, kx8⟩ k)))
  have H8 := Lib.hid (And.intro (on_trans H5.out.1 k48) (And.intro trivial (And.intro trivial (And.intro trivial (And.intro (H5.out.2.2.2.1.on k48) trivial)))))
  clear s4 k8 k48 hSa hSb hrb hVt hKx hKt t1 t2 t3 bt bx bs kx8 ky8 HHb HLs2 H7b H7 H6 H5 HF HFe
  go_upto_region 8 with fail
  refine wp_region_held_drew (S := fun w' => Hid (Below w8.heap.size w8 w')) (by kernel_rfl) (Lib.hid (on_drew w8)) fun s0 => ?_
  refine take_to (i := 0) (v := .slice A1 n1 c1) rfl (by kernel_rfl) (by kernel_rfl) (by kernel_rfl) (fun _ _ _ h => h) (Or.inl ⟨by rfl, fun w' hS => by go_simp⟩) s0 (some 44) rfl ?_
  simp only [Act.put, List.setIfInBounds_toArray, List.set_cons_zero, List.set_cons_succ]
  refine take_to (i := 1) (v := .string Sa) rfl (by kernel_rfl) (by kernel_rfl) (by kernel_rfl) (fun _ _ _ h => h) (Or.inl ⟨by rfl, fun w' hS => by have cv := HCv.out.1 w' hS.out; go_simp⟩) s0 (some 45) rfl ?_
  simp only [Act.put, List.setIfInBounds_toArray, List.set_cons_zero, List.set_cons_succ]
  refine take_to (i := 2) (v := .slice A2 n1 c2) rfl (by kernel_rfl) (by kernel_rfl) (by kernel_rfl) (fun _ _ _ h => h) (Or.inl ⟨by rfl, fun w' hS => by go_simp⟩) s0 (some 46) rfl ?_
  simp only [Act.put, List.setIfInBounds_toArray, List.set_cons_zero, List.set_cons_succ]
  refine take_to (i := 3) (v := .string Sa) rfl (by kernel_rfl) (by kernel_rfl) (by kernel_rfl) (fun _ _ _ h => h) (Or.inl ⟨by rfl, fun w' hS => by have cv := HCv.out.2.1 w' hS.out; go_simp⟩) s0 (some 47) rfl ?_
  simp only [Act.put, List.setIfInBounds_toArray, List.set_cons_zero, List.set_cons_succ]
  refine take_to (i := 4) (v := .bool true) rfl (by kernel_rfl) (by kernel_rfl) (by kernel_rfl) (fun _ _ _ h => h) (Or.inl ⟨by rfl, fun w' hS => by go_simp⟩) s0 (some 48) rfl ?_
  simp only [Act.put, List.setIfInBounds_toArray, List.set_cons_zero, List.set_cons_succ]
  refine take_to (i := 5) (v := .bool true) rfl (by kernel_rfl) (by kernel_rfl) (by kernel_rfl) (fun _ _ _ h => h) (Or.inl ⟨by rfl, fun w' hS => by go_simp⟩) s0 (some 49) rfl ?_
  simp only [Act.put, List.setIfInBounds_toArray, List.set_cons_zero, List.set_cons_succ]
  refine take_to (i := 6) (v := .int .i64 f) rfl (by kernel_rfl) (by kernel_rfl) (by kernel_rfl) (fun _ _ _ h => h) (Or.inl ⟨by rfl, fun w' hS => by go_simp⟩) s0 (some 50) rfl ?_
  simp only [Act.put, List.setIfInBounds_toArray, List.set_cons_zero, List.set_cons_succ]
  refine take_to (i := 7) (v := .int .i64 f) rfl (by kernel_rfl) (by kernel_rfl) (by kernel_rfl) (fun _ _ _ h => h) (Or.inl ⟨by rfl, fun w' hS => by go_simp⟩) s0 (some 51) rfl ?_
  simp only [Act.put, List.setIfInBounds_toArray, List.set_cons_zero, List.set_cons_succ]
  refine take_to (i := 8) (v := .bool true) rfl (by kernel_rfl) (by kernel_rfl) (by kernel_rfl) (fun _ _ _ h => h) (Or.inl ⟨by rfl, fun w' hS => by go_simp⟩) s0 (some 52) rfl ?_
  simp only [Act.put, List.setIfInBounds_toArray, List.set_cons_zero, List.set_cons_succ]
  refine take_to (i := 9) (v := .bool true) rfl (by kernel_rfl) (by kernel_rfl) (by kernel_rfl) (fun _ _ _ h => h) (Or.inl ⟨by rfl, fun w' hS => by go_simp⟩) s0 (some 53) rfl ?_
  simp only [Act.put, List.setIfInBounds_toArray, List.set_cons_zero, List.set_cons_succ]
  refine take_to (i := 10) (v := .bool true) rfl (by kernel_rfl) (by kernel_rfl) (by kernel_rfl) (fun _ _ _ h => h) (Or.inl ⟨by rfl, fun w' hS => by go_simp⟩) s0 (some 54) rfl ?_
  simp only [Act.put, List.setIfInBounds_toArray, List.set_cons_zero, List.set_cons_succ]
  refine take_to (i := 11) (v := .slice A3 n3 c3) rfl (by kernel_rfl) (by kernel_rfl) (by kernel_rfl) (fun _ _ _ h => h) (Or.inl ⟨by rfl, fun w' hS => by go_simp⟩) s0 (some 55) rfl ?_
  simp only [Act.put, List.setIfInBounds_toArray, List.set_cons_zero, List.set_cons_succ]
  refine take_to (i := 12) (v := .string Sb) rfl (by kernel_rfl) (by kernel_rfl) (by kernel_rfl) (fun _ _ _ h => h) (Or.inl ⟨by rfl, fun w' hS => by have cv := HCv.out.2.2.1 w' hS.out; go_simp⟩) s0 (some 56) rfl ?_
  simp only [Act.put, List.setIfInBounds_toArray, List.set_cons_zero, List.set_cons_succ]
  refine take_to (i := 13) (v := .slice A4 n3 c4) rfl (by kernel_rfl) (by kernel_rfl) (by kernel_rfl) (fun _ _ _ h => h) (Or.inl ⟨by rfl, fun w' hS => by go_simp⟩) s0 (some 57) rfl ?_
  simp only [Act.put, List.setIfInBounds_toArray, List.set_cons_zero, List.set_cons_succ]
  refine take_to (i := 14) (v := .string Sb) rfl (by kernel_rfl) (by kernel_rfl) (by kernel_rfl) (fun _ _ _ h => h) (Or.inl ⟨by rfl, fun w' hS => by have cv := HCv.out.2.2.2 w' hS.out; go_simp⟩) s0 (some 58) rfl ?_
  simp only [Act.put, List.setIfInBounds_toArray, List.set_cons_zero, List.set_cons_succ]
  refine take_to (i := 15) (v := .bool true) rfl (by kernel_rfl) (by kernel_rfl) (by kernel_rfl) (fun _ _ _ h => h) (Or.inl ⟨by rfl, fun w' hS => by go_simp⟩) s0 (some 59) rfl ?_
  simp only [Act.put, List.setIfInBounds_toArray, List.set_cons_zero, List.set_cons_succ]
  refine take_to (i := 16) (v := .bool true) rfl (by kernel_rfl) (by kernel_rfl) (by kernel_rfl) (fun _ _ _ h => h) (Or.inl ⟨by rfl, fun w' hS => by go_simp⟩) s0 (some 60) rfl ?_
  simp only [Act.put, List.setIfInBounds_toArray, List.set_cons_zero, List.set_cons_succ]
  refine take_to (i := 17) (v := .bool true) rfl (by kernel_rfl) (by kernel_rfl) (by kernel_rfl) (fun _ _ _ h => h) (Or.inl ⟨by rfl, fun w' hS => by go_simp⟩) s0 (some 61) rfl ?_
  simp only [Act.put, List.setIfInBounds_toArray, List.set_cons_zero, List.set_cons_succ]
  refine take_to (i := 18) (v := .int .i64 g) rfl (by kernel_rfl) (by kernel_rfl) (by kernel_rfl) (fun _ _ _ h => h) (Or.inl ⟨by rfl, fun w' hS => by go_simp⟩) s0 (some 62) rfl ?_
  simp only [Act.put, List.setIfInBounds_toArray, List.set_cons_zero, List.set_cons_succ]
  refine take_to (i := 19) (v := .int .i64 g) rfl (by kernel_rfl) (by kernel_rfl) (by kernel_rfl) (fun _ _ _ h => h) (Or.inl ⟨by rfl, fun w' hS => by go_simp⟩) s0 (some 63) rfl ?_
  simp only [Act.put, List.setIfInBounds_toArray, List.set_cons_zero, List.set_cons_succ]
  refine take_to (i := 20) (v := .bool true) rfl (by kernel_rfl) (by kernel_rfl) (by kernel_rfl) (fun _ _ _ h => h) (Or.inl ⟨by rfl, fun w' hS => by go_simp⟩) s0 (some 64) rfl ?_
  simp only [Act.put, List.setIfInBounds_toArray, List.set_cons_zero, List.set_cons_succ]
  refine take_to (i := 21) (v := .bool true) rfl (by kernel_rfl) (by kernel_rfl) (by kernel_rfl) (fun _ _ _ h => h) (Or.inl ⟨by rfl, fun w' hS => by go_simp⟩) s0 (some 65) rfl ?_
  simp only [Act.put, List.setIfInBounds_toArray, List.set_cons_zero, List.set_cons_succ]
  refine take_to (i := 22) (v := .bool true) rfl (by kernel_rfl) (by kernel_rfl) (by kernel_rfl) (fun _ _ _ h => h) (Or.inl ⟨by rfl, fun w' hS => by go_simp⟩) s0 (some 66) rfl ?_
  simp only [Act.put, List.setIfInBounds_toArray, List.set_cons_zero, List.set_cons_succ]
  refine take_to (i := 23) rfl (by kernel_rfl) (by kernel_rfl) (by kernel_rfl) (fun _ _ _ h => h) (yieldsIf_load (by rfl) 33 _ rfl (.pointer (some ⟨w.heap.size + 1, 0, none⟩)) rfl Vs (fun w' hS => HL.out.1 w' hS.out)) s0 (some 67) rfl ?_
  simp only [Act.put, List.setIfInBounds_toArray, List.set_cons_zero, List.set_cons_succ]
  refine take_to (i := 25) rfl (by kernel_rfl) (by kernel_rfl) (by kernel_rfl) (fun _ _ _ h => h) (yieldsIf_load (by rfl) 33 _ rfl (.pointer (some ⟨w.heap.size + 1, 0, none⟩)) rfl Vs (fun w' hS => HL.out.1 w' hS.out)) s0 (some 69) rfl ?_
  simp only [Act.put, List.setIfInBounds_toArray, List.set_cons_zero, List.set_cons_succ]
  refine wpAnyH_ready (rs := [24]) (by kernel_rfl) (by simp) ?_
  refine AllReadyH.cons rfl (fun Kq hKq => ?_) AllReadyH.nil
  go_simp
  refine (HRt.out.1 _).mono ?_
  rintro e wq1 ⟨rfl, bq⟩
  have sq := Lib.hid (on_trans s0.out bq)
  refine hKq.out _ _ sq fun _ => ?_
  clear hKq Kq bq s0
  have s0 := sq
  clear sq
  refine wpAnyH_ready (rs := [26]) (by kernel_rfl) (by simp) ?_
  refine AllReadyH.cons rfl (fun Kq hKq => ?_) AllReadyH.nil
  go_simp
  refine (HRt.out.2 _).mono ?_
  rintro e wq2 ⟨rfl, bq⟩
  have sq := Lib.hid (on_trans s0.out bq)
  refine hKq.out _ _ sq fun _ => ?_
  clear hKq Kq bq s0
  have s0 := sq
  clear sq
  refine take_to (i := 27) (v := .bool true) rfl (by kernel_rfl) (by kernel_rfl) (by kernel_rfl) (fun _ _ _ h => h) (Or.inl ⟨by rfl, fun w' hS => by go_simp⟩) s0 (some 71) rfl ?_
  simp only [Act.put, List.setIfInBounds_toArray, List.set_cons_zero, List.set_cons_succ]
  refine take_to (i := 28) (v := .bool true) rfl (by kernel_rfl) (by kernel_rfl) (by kernel_rfl) (fun _ _ _ h => h) (Or.inl ⟨by rfl, fun w' hS => by go_simp⟩) s0 (some 72) rfl ?_
  simp only [Act.put, List.setIfInBounds_toArray, List.set_cons_zero, List.set_cons_succ]
  refine take_to (i := 29) (v := .bool true) rfl (by kernel_rfl) (by kernel_rfl) (by kernel_rfl) (fun _ _ _ h => h) (Or.inl ⟨by rfl, fun w' hS => by go_simp⟩) s0 (some 73) rfl ?_
  simp only [Act.put, List.setIfInBounds_toArray, List.set_cons_zero, List.set_cons_succ]
  refine take_to (i := 30) rfl (by kernel_rfl) (by kernel_rfl) (by kernel_rfl) (fun _ _ _ h => h) (yieldsIf_load (by rfl) 31 _ rfl (.pointer (some ⟨g7, 0, none⟩)) rfl Vx (fun w' hS => HL.out.2.1 w' hS.out)) s0 (some 74) rfl ?_
  simp only [Act.put, List.setIfInBounds_toArray, List.set_cons_zero, List.set_cons_succ]
  refine take_to (i := 31) rfl (by kernel_rfl) (by kernel_rfl) (by kernel_rfl) (fun _ _ _ h => h) (yieldsIf_build (by rfl) 46 _ rfl Kx #[(0, Vx)] (by simp [Act.eval]) HB.out.1) s0 (some 75) rfl ?_
  simp only [Act.put, List.setIfInBounds_toArray, List.set_cons_zero, List.set_cons_succ]
  refine take_to (i := 32) rfl (by kernel_rfl) (by kernel_rfl) (by kernel_rfl) (fun _ _ _ h => h) (yieldsIf_load (by rfl) 31 _ rfl (.pointer (some ⟨w.heap.size, 0, none⟩)) rfl Vt (fun w' hS => HL.out.2.2 w' hS.out)) s0 (some 76) rfl ?_
  simp only [Act.put, List.setIfInBounds_toArray, List.set_cons_zero, List.set_cons_succ]
  refine take_to (i := 33) rfl (by kernel_rfl) (by kernel_rfl) (by kernel_rfl) (fun _ _ _ h => h) (yieldsIf_build (by rfl) 46 _ rfl Kt #[(0, Vt)] (by simp [Act.eval]) HB.out.2) s0 (some 77) rfl ?_
  simp only [Act.put, List.setIfInBounds_toArray, List.set_cons_zero, List.set_cons_succ]
  refine wpAnyH_ready (rs := [34]) (by kernel_rfl) (by simp) ?_
  refine AllReadyH.cons rfl (fun Kq hKq => ?_) AllReadyH.nil
  go_simp
  refine (HSm.out _ s0.out).mono ?_
  rintro e wq3 ⟨rfl, bq⟩
  have sq := Lib.hid (on_trans s0.out bq)
  refine hKq.out _ _ sq fun _ => ?_
  clear hKq Kq bq s0
  have s0 := sq
  clear sq
  refine take_to (i := 35) (v := .bool true) rfl (by kernel_rfl) (by kernel_rfl) (by kernel_rfl) (fun _ _ _ h => h) (Or.inl ⟨by rfl, fun w' hS => by go_simp⟩) s0 (some 79) rfl ?_
  simp only [Act.put, List.setIfInBounds_toArray, List.set_cons_zero, List.set_cons_succ]
  refine take_to (i := 36) (v := .bool true) rfl (by kernel_rfl) (by kernel_rfl) (by kernel_rfl) (fun _ _ _ h => h) (Or.inl ⟨by rfl, fun w' hS => by go_simp⟩) s0 (some 80) rfl ?_
  simp only [Act.put, List.setIfInBounds_toArray, List.set_cons_zero, List.set_cons_succ]
  refine wpAnyH_ready (rs := [37]) (by kernel_rfl) (by simp) ?_
  refine AllReadyH.cons rfl (fun Kq hKq => ?_) AllReadyH.nil
  go_simp
  refine (awake_any _ (H8.out.2.2.2.2.1.on s0.out)).mono ?_
  rintro e wq4 ⟨rfl, bq⟩
  have sq := Lib.hid (on_trans s0.out bq)
  refine hKq.out _ _ sq fun _ => ?_
  clear hKq Kq bq s0
  have s0 := sq
  clear sq
  refine take_to (i := 38) (v := .bool true) rfl (by kernel_rfl) (by kernel_rfl) (by kernel_rfl) (fun _ _ _ h => h) (Or.inl ⟨by rfl, fun w' hS => by go_simp⟩) s0 (some 82) rfl ?_
  simp only [Act.put, List.setIfInBounds_toArray, List.set_cons_zero, List.set_cons_succ]
  refine take_to (i := 39) (v := .bool true) rfl (by kernel_rfl) (by kernel_rfl) (by kernel_rfl) (fun _ _ _ h => h) (Or.inl ⟨by rfl, fun w' hS => by go_simp⟩) s0 (some 6) rfl ?_
  simp only [Act.put, List.setIfInBounds_toArray, List.set_cons_zero, List.set_cons_succ]
  refine wpAnyH_done (by kernel_rfl) ?_ _
  have H9 := Lib.hid (on_trans H8.out.1 s0.out)
  go_wp2_with fail
  go_ret
  exact ⟨rfl, H9.out⟩
end Go.Proofs.YtgipngedmblnmaaDoor
