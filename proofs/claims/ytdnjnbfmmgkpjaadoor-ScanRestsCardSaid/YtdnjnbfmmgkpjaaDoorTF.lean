/-
  The contract of Tune, of one tile.
-/
import Derived.Test.YtdnjnbfmmgkpjaaDoorTE
namespace Go.Proofs.YtdnjnbfmmgkpjaaDoor
open Go.RowKit

def rowJ (j : Nat) : Nat := 2 * (j % 2) + j / 2
structure TunY (w : World) (W H K R : Int) (tl : List (List (List Int))) (s : Nat → List Int) (e : Ending) (w' : World) : Prop where
  bel : Below w.heap.size w w'
  bad : ¬ RightT W H K R tl → e = .returned (.tuple #[tbV tb0 nilX, .int .i64 1])
  got : RightT W H K R tl → ∃ (T : Tbs) (X : Nat → Value), e = .returned (.tuple #[tbV T X, .int .i64 0]) ∧ T.t = s ∧ (∀ j, j < 4 → (T.B j).length = 16) ∧ (∀ j, ∃ A n c, X j = .slice A n c) ∧ ∀ j, j < 4 → RowU w' T X (cntR tl (evTo (uW W K) K R.toNat (uW W K * uH H K)) (rowJ j)) j
/-- how Tune's second loop stands -/
structure TuL (wr : World) (g : Nat) (s : Nat → List Int) (C : Nat → List Int) (k : Nat) (T : Tbs) (X : Nat → Value) : Prop where
  tb : TbB wr g T X
  st : T.t = s
  len : ∀ j, j < 4 → (T.B j).length = 16
  one : ∀ j, ∃ A n c, X j = .slice A n c
  row : ∀ c, c < k → RowU wr T X (C (2 * c)) c ∧ RowU wr T X (C (2 * c + 1)) (c + 2)
theorem TuL.on {wr w' : World} {g k : Nat} {s C : Nat → List Int} {T : Tbs} {X : Nat → Value} (h : TuL wr g s C k T X) (b : Below wr.heap.size wr w') : TuL w' g s C k T X :=
  ⟨h.tb.on b, h.st, h.len, h.one, fun c hc => ⟨(h.row c hc).1.on b, (h.row c hc).2.on b⟩⟩
/-- one table more -/
theorem TuL.put {wr w' : World} {g k i : Nat} {s C : Nat → List Int} {T : Tbs} {X : Nat → Value} {B V : List Int} {A : Option Addr} {n c : Nat} (h : TuL wr g s C k T X) (hi : i = k ∨ i = k + 2) (hk : k < 2) (hB : B.length = 16) (htb : TbB w' g ⟨T.t, upf T.B i B, upf T.V i V⟩ (upf X i (.slice A n c))) (hkp : Kept (fun j => j = g) wr w') :
    TuL w' g s C k ⟨T.t, upf T.B i B, upf T.V i V⟩ (upf X i (.slice A n c)) := by
  obtain ⟨cs, hb, _⟩ := h.tb.box
  refine ⟨htb, h.st, fun j hj => ?_, fun j => ?_, fun c hc => ⟨((h.row c hc).1.kept hkp hb (fun _ e => e)).other (by omega), ((h.row c hc).2.kept hkp hb (fun _ e => e)).other (by omega)⟩⟩
  · show (upf T.B i B j).length = 16
    unfold upf
    split
    · exact hB
    · exact h.len j hj
  · unfold upf
    split
    · exact ⟨_, _, _, rfl⟩
    · exact h.one j
section
variable (w : World) (W H K R : Int) (tl : List (List (List Int))) (A : Option Addr) (n c : Nat) (L : List (Option Addr × Nat × Nat)) (bl ol cl : Nat) (s : Nat → List Int)
set_option maxRecDepth 10000 in
set_option maxHeartbeats 12800000 in
theorem tune_any (hT : Tab w) (ht : Ti w A n L tl) (hs : RightS W H K R → W ≤ 40 ∧ H ≤ 40) (hbl : bl < w.heap.size) (hc : w.cell? ⟨bl, ol, none⟩ = some (.slice A n c)) (hst : ∀ i, i < 2 → (s i).length = 64) :
    Calls Tryd.prog 14 #[scanV W H K R, .slice (some ⟨bl, ol, none⟩) 1 cl, .agg (twoC s).toArray] w (TunY w W H K R tl s) := by
  obtain ⟨g1, hg1⟩ : ∃ g1, w.heap.size = g1 := ⟨_, rfl⟩
  obtain ⟨V, hV⟩ : ∃ V, V = (twoC s).toArray := ⟨_, rfl⟩
  obtain ⟨Z, hZ⟩ : ∃ Z, Z = (tbC tb0 nilX).toArray := ⟨_, rfl⟩
  have hz33 : ∀ w, (zeroValue 33).run Tryd.prog w = .ok (.agg Z) w := fun w => by rw [hZ]; exact zero33 w
  obtain ⟨w1, hw1⟩ : ∃ w1, ((w.alloc (.cells #[.int .i64 W, .int .i64 H, .int .i64 K, .int .i64 R] 23)).alloc (.cells V 26)).alloc (.cells Z 33) = w1 := ⟨_, rfl⟩
  have b1 : Box w1 g1 23 #[.int .i64 W, .int .i64 H, .int .i64 K, .int .i64 R] := by rw [← hw1, ← hg1]; exact ((Box.made _ _ _).alloc _).alloc _
  have b2 : Box w1 (g1 + 1) 26 V := by
    rw [← hw1, ← hg1]
    have := (Box.made (w.alloc (.cells #[.int .i64 W, .int .i64 H, .int .i64 K, .int .i64 R] 23)) 26 V).alloc (.cells Z 33)
    simpa using this
  have b3 : Box w1 (g1 + 1 + 1) 33 Z := by
    rw [← hw1, ← hg1]
    have := Box.made ((w.alloc (.cells #[.int .i64 W, .int .i64 H, .int .i64 K, .int .i64 R] 23)).alloc (.cells V 26)) 33 Z
    simpa using this
  have k1 : Below w.heap.size w w1 := by rw [← hw1]; exact on_trans (on_trans (on_alloc _ _) (on_alloc _ _)) (on_alloc _ _)
  have hs1 : w1.heap.size = g1 + 1 + 1 + 1 := by rw [← hw1, ← hg1]; simp
  have HB := Lib.hid (And.intro b1 (And.intro b2 (And.intro b3 (And.intro k1 (And.intro hg1 (And.intro hs1 (And.intro hV hZ)))))))
  have HA := Lib.hid (And.intro hT (And.intro ht (And.intro hs (And.intro hbl (And.intro hc hst)))))
  have hzs : Z.size = 196 := by rw [hZ, List.size_toArray, tbC_len]
  have hz1 : Z.all (·.oneCell') = true := by rw [hZ]; exact all_oneCell_toArray (tb_one (fun j => rfl))
  have HZ := Lib.hid (And.intro hzs (And.intro hz1 (show (Tryd.prog.info? 33).map (·.size) = some Z.size by rw [tables_size, hzs])))
  have hb33 : ∀ w, (Instr.build 33 #[]).run Tryd.prog w = .ok (.agg Z) w := fun w => by rw [hZ]; exact build33_none w
  rw [← hV]
  clear b1 b2 b3 k1 hT ht hs hbl hc hs1 hV hZ hst hzs hz1
  unfold scanV
  go_enter Tryd.func14, Tryd.ntmps14
  go_wp2_with fail
  clear hw1
  go_loopw [17] (fun i wr => ∃ k : Nat, k ≤ 1 ∧ i = .int .i64 (k : Int) ∧ (k = 1 → RightT W H K R tl) ∧ Below w1.heap.size w1 wr) (fun i _ => 1 - (intOf i).toNat)
  case atStart => exact ⟨0, by omega, rfl, fun h => absurd h (by omega), Below.refl _ _⟩
  case round =>
    obtain ⟨k, hk1, rfl, hkr, hbw⟩ := hrel
    have hsz := hbw.size
    have hs1 := HB.out.2.2.2.2.2.1
    have HW := Lib.hid (And.intro hbw (on_trans HB.out.2.2.2.1 hbw))
    clear hbw
    by_cases hlt1 : k < 1
    · clear hkr
      have kL := HW.out.2
      have hbl := HA.out.2.2.2.1
      have p0 : wr.cell? ⟨bl, ol + k, none⟩ = some (.slice A n c) := by
        rw [show k = 0 by omega]
        exact (kL.cell (p := ⟨bl, ol, none⟩) hbl).trans HA.out.2.2.2.2.1
      obtain ⟨g5, hg5⟩ : ∃ g5, wr.heap.size = g5 := ⟨_, rfl⟩
      obtain ⟨w5, hw5⟩ : ∃ w5, wr.alloc (.cells #[.slice A n c] 36) = w5 := ⟨_, rfl⟩
      have k5 : Below wr.heap.size wr w5 := by rw [← hw5]; exact on_alloc _ _
      have b5 : Box w5 g5 36 #[.slice A n c] := by rw [← hw5, ← hg5]; exact Box.made _ _ _
      have r5 : w5.cell? ⟨g5, 0, none⟩ = some (.slice A n c) := b5.cell 0
      have k15 := on_trans HW.out.1 k5
      have q0 : w5.cell? ⟨g1, 0, none⟩ = some (.int .i64 W) := (HB.out.1.on k15).cell 0
      have q1 : w5.cell? ⟨g1, 1, none⟩ = some (.int .i64 H) := (HB.out.1.on k15).cell 1
      have q2 : w5.cell? ⟨g1, 2, none⟩ = some (.int .i64 K) := (HB.out.1.on k15).cell 2
      have q3 : w5.cell? ⟨g1, 3, none⟩ = some (.int .i64 R) := (HB.out.1.on k15).cell 3
      have hrt := rightT_any w5 W H K R A n c L tl (HA.out.2.1.on (on_trans kL k5))
      unfold scanV tileV at hrt
      have HRt := Lib.hid hrt
      have H5 := Lib.hid k15
      clear hrt k15 k5 b5 kL hbl
      go_upto_region 4 with fail
      clear hw5
      go_wp2_with fail
      refine Calls.mono HRt.out ?_
      rintro e w6 ⟨rb, rfl, hrb, k6⟩
      have H6 := Lib.hid (And.intro (on_trans H5.out k6) hrb)
      clear k6 hrb HRt q0 q1 q2 q3 r5 p0
      cases rb with
      | false =>
        go_wp2_with (first
          | ((with_reducible refine wpList_store_rowk (o := ⟨none, _, _, _, _, _⟩) rfl 33 (.tmp 6) (.tmp 25) rfl rfl (g1 + 1 + 1) Z rfl rfl HZ.out.2.2 33 Z (HB.out.2.2.1.on H6.out.1) rfl HZ.out.2.1 ?_)
             intro w9 b9 k9
             have H99 := Lib.hid (And.intro b9 k9)
             clear b9 k9)
          | fail)
        have hn : ¬ RightT W H K R tl := fun h => by have := H6.out.2.2 h; cases this
        refine bodyPost_ret (v := .tuple #[.agg Z, .int .i64 1]) (results_ct (fn := Tryd.f14) Tryd.results14 _ _ (g1 + 1 + 1) _ _ rfl rfl (run_loadVar_row _ (g1 + 1 + 1) 33 33 _ (0, 0) _ H99.out.1 Tryd.underlying33 rfl HZ.out.2.2)) rfl ?_
        have bel6 := on_trans HB.out.2.2.2.1 H6.out.1
        refine ⟨bel6.trans (H99.out.2.below bel6.size (fun i hi e => by omega)), fun _ => by rw [HB.out.2.2.2.2.2.2.2]; rfl, fun h => absurd h hn⟩
      | true =>
        go_wp2_with fail
        go_roundw
        case rel => exact ⟨k + 1, by omega, by go_num, fun _ => H6.out.2.1 trivial, H6.out.1⟩
        case measure => simp [intOf]; omega
    · obtain rfl : k = 1 := by omega
      have hR := hkr rfl
      have HR := Lib.hid hR
      obtain ⟨⟨hW1, hH1, hK1, hR1⟩, _⟩ := hR
      obtain ⟨r, rfl⟩ : ∃ r : Nat, R = (r : Int) := ⟨R.toNat, by omega⟩
      clear hkr hW1 hH1 hK1 hR1
      have q0 : wr.cell? ⟨g1, 0, none⟩ = some (.int .i64 W) := (HB.out.1.on HW.out.1).cell 0
      have q1 : wr.cell? ⟨g1, 1, none⟩ = some (.int .i64 H) := (HB.out.1.on HW.out.1).cell 1
      have q2 : wr.cell? ⟨g1, 2, none⟩ = some (.int .i64 K) := (HB.out.1.on HW.out.1).cell 2
      have q3 : wr.cell? ⟨g1, 3, none⟩ = some (.int .i64 (r : Int)) := (HB.out.1.on HW.out.1).cell 3
      have hsm := HA.out.2.2.1 HR.out.1
      have hta := tally_any wr W H K r tl A n c L bl ol cl (HA.out.1.on HW.out.2) (HA.out.2.1.on HW.out.2) HR.out hsm.1 hsm.2 (Nat.lt_of_lt_of_le HA.out.2.2.2.1 HW.out.2.size) ((HW.out.2.cell (p := ⟨bl, ol, none⟩) HA.out.2.2.2.1).trans HA.out.2.2.2.2.1)
      unfold scanV TallyY at hta
      have HTa := Lib.hid hta
      rw [show ((1 : Nat) : Int) = 1 from rfl]
      clear hta hsm
      go_upto_region 7 with fail
      go_wp2_with fail
      refine Calls.mono HTa.out ?_
      rintro e w7 ⟨P, rfl, hrow, k7⟩
      obtain ⟨C9, hC9⟩ : ∃ C9 : Array Value, C9 = #[.slice (some ⟨P 0, 0, none⟩) 256 256, .slice (some ⟨P 1, 0, none⟩) 256 256, .slice (some ⟨P 2, 0, none⟩) 256 256, .slice (some ⟨P 3, 0, none⟩) 256 256] := ⟨_, rfl⟩
      rw [show (#[slP (P 0), slP (P 1), slP (P 2), slP (P 3)] : Array Value) = C9 from hC9.symm]
      obtain ⟨Z9, hZ9⟩ : ∃ Z9 : Array Value, Z9 = #[.slice none 0 0, .slice none 0 0, .slice none 0 0, .slice none 0 0] := ⟨_, rfl⟩
      have hz90 : ∀ w, (zeroValue 90).run Tryd.prog w = .ok (.agg Z9) w := fun w => by rw [hZ9]; kernel_rfl
      obtain ⟨g8, hg8⟩ : ∃ g8, w7.heap.size = g8 := ⟨_, rfl⟩
      obtain ⟨w8, hw8⟩ : ∃ w8, w7.alloc (.cells Z9 90) = w8 := ⟨_, rfl⟩
      have b8 : Box w8 g8 90 Z9 := by rw [← hw8, ← hg8]; exact Box.made _ _ _
      have k8 : Below w7.heap.size w7 w8 := by rw [← hw8]; exact on_alloc _ _
      have k18 := on_trans (on_trans HW.out.1 k7) k8
      have HC9 := Lib.hid (And.intro (show Z9.size = C9.size by rw [hZ9, hC9]; rfl) (And.intro (show (Tryd.prog.info? 90).map (·.size) = some C9.size by rw [counts2_size, hC9]; rfl) (And.intro (show C9.all (·.oneCell') = true by rw [hC9]; simp [Value.oneCell']) hC9)))
      have H8 := Lib.hid (And.intro b8 (And.intro k18 (fun j hj => (hrow j hj).on k8)))
      have hg18 : w1.heap.size ≤ g8 := by have := k7.size; omega
      clear b8 k8 k18 hrow k7 hC9 hZ9 q0 q1 q2 q3 HTa
      go_upto_region 8 with (first
        | ((with_reducible refine wpList_store_rowk (o := ⟨none, _, _, _, _, _⟩) rfl 90 (.tmp 10) (.tmp 31) rfl rfl g8 C9 rfl rfl HC9.out.2.1 90 Z9 H8.out.1 HC9.out.1 HC9.out.2.2.1 ?_)
           intro w9 b9 k9
           have H9 := Lib.hid (And.intro b9 k9)
           clear b9 k9)
        | fail)
      clear hw8
      have bel9 := H8.out.2.1.trans (H9.out.2.below H8.out.2.1.size (fun i hi e => by omega))
      have hld26 : (Instr.loadAt 26 (.pointer (some ⟨g1 + 1, 0, none⟩))).run Tryd.prog w9 = .ok (.agg V) w9 := by
        have hb := HB.out.2.1.on bel9
        rw [HB.out.2.2.2.2.2.2.1] at hb ⊢
        exact load_two HA.out.2.2.2.2.2 hb
      obtain ⟨C0, hC0⟩ : ∃ C0, C0 = (tbC ⟨s, tb0.B, tb0.V⟩ nilX).toArray := ⟨_, rfl⟩
      have hbd0 : ∀ w, (Instr.build 33 #[(0, .agg V)]).run Tryd.prog w = .ok (.agg C0) w := fun w => by rw [hC0, HB.out.2.2.2.2.2.2.1]; exact build33 w s HA.out.2.2.2.2.2
      obtain ⟨g10, hg10⟩ : ∃ g10, w9.heap.size = g10 := ⟨_, rfl⟩
      obtain ⟨w10, hw10⟩ : ∃ w10, w9.alloc (.cells Z 33) = w10 := ⟨_, rfl⟩
      have b10 : Box w10 g10 33 Z := by rw [← hw10, ← hg10]; exact Box.made _ _ _
      have k10 : Below w9.heap.size w9 w10 := by rw [← hw10]; exact on_alloc _ _
      have hrow9 : ∀ j, j < 4 → Box w9 (P j) 3 (cellsI (cntR tl (evTo (uW W K) K r (uW W K * uH H K)) j)).toArray := fun j hj => H9.out.2.box (H8.out.2.2 j hj) (fun e => (H8.out.2.2 j hj).apart H8.out.1 (by decide) e)
      have hsC : C0.size = 196 := by rw [hC0, List.size_toArray, tbC_len]
      have H10 := Lib.hid (And.intro b10 (And.intro (on_trans bel9 k10) (And.intro (H9.out.1.on k10) (And.intro (fun j hj => (hrow9 j hj).on k10) (And.intro hC0 (And.intro (show (Tryd.prog.info? 33).map (·.size) = some C0.size by rw [tables_size, hsC]) (And.intro (show Z.size = C0.size by rw [HZ.out.1, hsC]) (show C0.all (·.oneCell') = true by rw [hC0]; exact all_oneCell_toArray (tb_one (fun j => rfl)))))))))) 
      have HL26 := Lib.hid hld26
      have HBd := Lib.hid hbd0
      clear hbd0
      clear b10 k10 bel9 hrow9 hC0 hsC hld26
      go_upto_region 11 with (first
        | (with_reducible refine wpList_load_to (op := ⟨some 37, _, _, _, _, _⟩) rfl 26 (.tmp 5) rfl (.pointer (some ⟨g1 + 1, 0, none⟩)) rfl (.agg V) HL26.out ?_)
        | (refine wpList_build_to (op := ⟨some 38, _, _, _, _, _⟩) rfl 33 _ rfl (.agg C0) #[(0, .agg V)] (by simp; rfl) (HBd.out _) ?_)
        | ((with_reducible refine wpList_store_rowk (o := ⟨none, _, _, _, _, _⟩) rfl 33 (.tmp 12) (.tmp 38) rfl rfl g10 C0 rfl rfl H10.out.2.2.2.2.2.1 33 Z H10.out.1 H10.out.2.2.2.2.2.2.1 H10.out.2.2.2.2.2.2.2 ?_)
           intro w11 b11 k11
           have H11 := Lib.hid (And.intro b11 k11)
           clear b11 k11)
        | fail)
      clear hw10
      have hlo10 : w1.heap.size ≤ g10 := by have := H9.out.1.lt; omega
      have hTu0 : TuL w11 g10 s (cntR tl (evTo (uW W K) K r (uW W K * uH H K))) 0 ⟨s, tb0.B, tb0.V⟩ nilX := by
        have hb := H11.out.1
        rw [H10.out.2.2.2.2.1] at hb
        exact ⟨⟨hb.rng, _, hb, by rw [List.size_toArray, tbC_len]⟩, rfl, fun j hj => by simp [tb0], fun j => ⟨_, _, _, rfl⟩, fun c hc => absurd hc (by omega)⟩
      have k1011 := H11.out.2
      have bel11 : Below w1.heap.size w1 w11 := H10.out.2.1.trans (k1011.below H10.out.2.1.size (fun i hi e => by omega))
      have hC9b : Box w11 g8 90 C9 := k1011.box H10.out.2.2.1 (fun e => H10.out.2.2.1.apart H10.out.1 (by decide) e)
      have hrow11 : ∀ j, j < 4 → Box w11 (P j) 3 (cellsI (cntR tl (evTo (uW W K) K r (uW W K * uH H K)) j)).toArray := fun j hj => k1011.box (H10.out.2.2.2.1 j hj) (fun e => (H10.out.2.2.2.1 j hj).apart H10.out.1 (by decide) e)
      have hld90 : (Instr.loadAt 90 (.pointer (some ⟨g8, 0, none⟩))).run Tryd.prog w11 = .ok (.agg C9) w11 := by
        rw [HC9.out.2.2.2] at hC9b ⊢
        exact run_loadAt_mid w11 g8 0 90 [.slice (some ⟨P 0, 0, none⟩) 256 256, .slice (some ⟨P 1, 0, none⟩) 256 256, .slice (some ⟨P 2, 0, none⟩) 256 256, .slice (some ⟨P 3, 0, none⟩) 256 256] _ (fun k u hu => by
          rw [Nat.zero_add, hC9b.cell]
          simpa using hu) Tryd.underlying90 rfl (by rw [counts2_size]; rfl)
      have HL90 := Lib.hid hld90
      have H12 := Lib.hid (And.intro hTu0 (And.intro bel11 hrow11))
      clear hTu0 k1011 bel11 hC9b hrow11 hld90
      go_wp2_with (first
        | (with_reducible refine wpList_load_to (op := ⟨some 39, _, _, _, _, _⟩) rfl 90 (.tmp 10) rfl (.pointer (some ⟨g8, 0, none⟩)) rfl (.agg C9) HL90.out ?_)
        | fail)
      go_loopw [11, 13, 40] (fun _ _ i wx => ∃ (k : Nat) (T : Tbs) (X : Nat → Value), k ≤ 2 ∧ i = .int .i64 (k : Int) ∧ TuL wx g10 s (cntR tl (evTo (uW W K) K r (uW W K * uH H K))) k T X ∧ Kept (fun i => i = g10) w11 wx) (fun _ _ i _ => 2 - (intOf i).toNat)
      case atStart => exact ⟨0, _, _, by omega, rfl, H12.out.1, Kept.refl _ _⟩
      case round =>
        obtain ⟨k, T, X, hk2, rfl, htu, hkx⟩ := hrel
        by_cases hlt : k < 2
        · have hix : ∀ w, (Instr.index 90 (.agg C9) (.int .i64 (k : Int))).run Tryd.prog w = .ok (.agg #[.slice (some ⟨P (2 * k), 0, none⟩) 256 256, .slice (some ⟨P (2 * k + 1), 0, none⟩) 256 256]) w := fun w => by
            rw [HC9.out.2.2.2]
            rcases (show k = 0 ∨ k = 1 by omega) with rfl | rfl <;> kernel_rfl
          have HIx := Lib.hid hix
          have hrw : ∀ j, j < 4 → Box wr (P j) 3 (cellsI (cntR tl (evTo (uW W K) K r (uW W K * uH H K)) j)).toArray := fun j hj => hkx.box (H12.out.2.2 j hj) (fun e => by
            obtain ⟨cs, hb, _⟩ := H12.out.1.tb.box
            exact (H12.out.2.2 j hj).apart hb (by decide) e)
          have hz89 : ∀ w, (zeroValue 89).run Tryd.prog w = .ok (.agg #[.slice none 0 0, .slice none 0 0]) w := fun w => by kernel_rfl
          obtain ⟨g14, hg14⟩ : ∃ g14, wr.heap.size = g14 := ⟨_, rfl⟩
          obtain ⟨we, hwe⟩ : ∃ we, wr.alloc (.cells #[.slice (some ⟨P (2 * k), 0, none⟩) 256 256, .slice (some ⟨P (2 * k + 1), 0, none⟩) 256 256] 89) = we := ⟨_, rfl⟩
          have be : Box we g14 89 #[.slice (some ⟨P (2 * k), 0, none⟩) 256 256, .slice (some ⟨P (2 * k + 1), 0, none⟩) 256 256] := by rw [← hwe, ← hg14]; exact Box.made _ _ _
          have ke : Below wr.heap.size wr we := by rw [← hwe]; exact on_alloc _ _
          have e0 : we.cell? ⟨g14, 0, none⟩ = some (.slice (some ⟨P (2 * k), 0, none⟩) 256 256) := be.cell 0
          have HEa := Lib.hid (And.intro (htu.on ke) (And.intro be (And.intro (fun j hj => (hrw j hj).on ke) (hkx.trans (Kept.of_below ke (fun i => i = g10)) (fun _ _ h => h)))))
          have hsa := suited_any we (cntR tl (evTo (uW W K) K r (uW W K * uH H K)) (2 * k)) (some ⟨P (2 * k), 0, none⟩) 256 256 ((il_of_box ((hrw (2 * k) (by omega)).on ke) (cntL_len _ _ _) (by unfold maxLen; omega)).ia) (cntS_good _ _ (Nat.le_trans (few_syms HR.out.1 (HA.out.2.2.1 HR.out.1).1 (HA.out.2.2.1 HR.out.1).2 (q := []) (by rw [List.append_nil]) (by omega)) (by omega)))
          unfold SuitY at hsa
          have HSua := Lib.hid hsa
          have hkl : (k : Int) < 2 := by omega
          clear hix hrw be ke htu hkx hsa
          go_upto_region 14 with (first
            | (with_reducible refine wpList_index_to (op := ⟨some 43, _, _, _, _, _⟩) rfl 90 (.tmp 39) (.tmp 40) rfl (.agg C9) (.int .i64 (k : Int)) rfl rfl (.agg #[.slice (some ⟨P (2 * k), 0, none⟩) 256 256, .slice (some ⟨P (2 * k + 1), 0, none⟩) 256 256]) (HIx.out _) ?_)
            | fail)
          clear hwe
          go_wp2_with fail
          refine Calls.mono HSua.out ?_
          rintro e wsa ⟨ksa, Ba, Va, Aa, na, ca, rfl, hila, hsua, hna, hBa⟩
          obtain ⟨CBa, hCBa⟩ : ∃ CB, CB = specC Ba (.slice Aa na ca) := ⟨_, rfl⟩
          rw [show specV Ba (.slice Aa na ca) = .agg CBa by rw [hCBa]; rfl]
          have HSa := Lib.hid (And.intro ksa (And.intro hila (And.intro hsua (And.intro hna (And.intro hBa hCBa)))))
          have HTa2 := Lib.hid (HEa.out.1.on ksa)
          clear ksa hila hsua hna hBa hCBa HSua
          have hlog : w1.heap.size ≤ g10 := hlo10
          go_wp2_with (first
            | ((with_reducible refine wpList_store_specAt (V := Va) (o := ⟨none, _, _, _, _, _⟩) rfl (.tmp 52) (.tmp 49) rfl rfl g10 (128 + k * 17) k Ba (.slice Aa na ca) CBa HSa.out.2.2.2.2.2 rfl rfl (by omega) (by omega) HSa.out.2.2.2.2.1 rfl HTa2.out.tb ?_)
               intro wfa tba kfa
               have e1 : wfa.cell? ⟨g14, 1, none⟩ = some (.slice (some ⟨P (2 * k + 1), 0, none⟩) 256 256) := (kfa.box (HEa.out.2.1.on HSa.out.1) (fun e => by
                 obtain ⟨cs, hb, _⟩ := HTa2.out.tb.box
                 exact (HEa.out.2.1.on HSa.out.1).apart hb (by decide) e)).cell 1
               have HFa := Lib.hid (And.intro tba kfa)
               clear tba kfa)
            | fail)
          have htua := HTa2.out.put (.inl rfl) hlt HSa.out.2.2.2.2.1 HFa.out.1 HFa.out.2
          have hrwa : Box wfa (P (2 * k + 1)) 3 (cellsI (cntR tl (evTo (uW W K) K r (uW W K * uH H K)) (2 * k + 1))).toArray := HFa.out.2.box ((HEa.out.2.2.1 (2 * k + 1) (by omega)).on HSa.out.1) (fun e => by
            obtain ⟨cs, hb, _⟩ := HTa2.out.tb.box
            exact ((HEa.out.2.2.1 (2 * k + 1) (by omega)).on HSa.out.1).apart hb (by decide) e)
          have hsb := suited_any wfa (cntR tl (evTo (uW W K) K r (uW W K * uH H K)) (2 * k + 1)) (some ⟨P (2 * k + 1), 0, none⟩) 256 256 ((il_of_box hrwa (cntL_len _ _ _) (by unfold maxLen; omega)).ia) (cntS_good _ _ (Nat.le_trans (few_syms HR.out.1 (HA.out.2.2.1 HR.out.1).1 (HA.out.2.2.1 HR.out.1).2 (q := []) (by rw [List.append_nil]) (by omega)) (by omega)))
          unfold SuitY at hsb
          have HSub := Lib.hid hsb
          have hila : Il wfa Aa na ca Va := HSa.out.2.1.kept HFa.out.2 (fun b off e h => by
            obtain ⟨cs', fr, hh⟩ := HSa.out.2.1.typ b off e
            obtain ⟨cs, hb, _⟩ := HTa2.out.tb.box
            rw [h, show wsa.heap[g10]? = some (.cells cs 33 (0, 0)) from hb] at hh
            cases hh)
          have HUa := Lib.hid (And.intro htua (RowU.this (i := k) (T := T) (X := X) hila HSa.out.2.2.1 HSa.out.2.2.2.1))
          clear htua hrwa hsb hila e1
          refine Calls.mono HSub.out ?_
          rintro e wsb ⟨ksb, Bb, Vb, Ab, nb, cb, rfl, hilb, hsub, hnb, hBb⟩
          obtain ⟨CBb, hCBb⟩ : ∃ CB, CB = specC Bb (.slice Ab nb cb) := ⟨_, rfl⟩
          rw [show specV Bb (.slice Ab nb cb) = .agg CBb by rw [hCBb]; rfl]
          have HSb := Lib.hid (And.intro ksb (And.intro hilb (And.intro hsub (And.intro hnb (And.intro hBb hCBb)))))
          have HTb := Lib.hid (HUa.out.1.on ksb)
          clear ksb hilb hsub hnb hBb hCBb HSub
          go_wp2_with (first
            | ((with_reducible refine wpList_store_specAt (V := Vb) (o := ⟨none, _, _, _, _, _⟩) rfl (.tmp 65) (.tmp 62) rfl rfl g10 (162 + k * 17) (k + 2) Bb (.slice Ab nb cb) CBb HSb.out.2.2.2.2.2 rfl rfl (by omega) (by omega) HSb.out.2.2.2.2.1 rfl HTb.out.tb ?_)
               intro wfb tbb kfb
               have HFb := Lib.hid (And.intro tbb kfb)
               clear tbb kfb)
            | fail)
          go_roundw
          case rel =>
            have htub := HTb.out.put (.inr rfl) hlt HSb.out.2.2.2.2.1 HFb.out.1 HFb.out.2
            have hilb : Il wfb Ab nb cb Vb := HSb.out.2.1.kept HFb.out.2 (fun b off e h => by
              obtain ⟨cs', fr, hh⟩ := HSb.out.2.1.typ b off e
              obtain ⟨cs, hb, _⟩ := HTb.out.tb.box
              rw [h, show wsb.heap[g10]? = some (.cells cs 33 (0, 0)) from hb] at hh
              cases hh)
            obtain ⟨cs, hbx, _⟩ := HTb.out.tb.box
            have hra := ((HUa.out.2.on HSb.out.1).kept HFb.out.2 hbx (fun _ e => e)).other (i := k + 2) (B := Bb) (V := Vb) (v := .slice Ab nb cb) (by omega)
            refine ⟨k + 1, _, _, by omega, by go_num, ⟨htub.tb, htub.st, htub.len, htub.one, fun c hc => ?_⟩, ?_⟩
            · rcases Nat.lt_or_ge c k with h | h
              · exact htub.row c h
              · obtain rfl : c = k := by omega
                exact ⟨hra, RowU.this hilb HSb.out.2.2.1 HSb.out.2.2.2.1⟩
            · exact ((((HEa.out.2.2.2.trans (Kept.of_below HSa.out.1 (fun i => i = g10)) (fun _ _ h => h)).trans HFa.out.2 (fun _ _ h => h)).trans (Kept.of_below HSb.out.1 (fun i => i = g10)) (fun _ _ h => h)).trans HFb.out.2 (fun _ _ h => h))
          case measure => simp [intOf]; omega
        · obtain rfl : k = 2 := by omega
          obtain ⟨CF, hCF⟩ : ∃ CF, CF = (tbC T X).toArray := ⟨_, rfl⟩
          have hld33 : (Instr.loadAt 33 (.pointer (some ⟨g10, 0, none⟩))).run Tryd.prog wr = .ok (.agg CF) wr := by rw [hCF]; exact htu.tb.rng.load
          have hsC : CF.size = 196 := by rw [hCF, List.size_toArray, tbC_len]
          have hbR : Box wr (g1 + 1 + 1) 33 Z := hkx.box (HB.out.2.2.1.on H12.out.2.1) (by omega)
          have HF := Lib.hid (And.intro htu (And.intro hkx (And.intro hbR (And.intro (show (Tryd.prog.info? 33).map (·.size) = some CF.size by rw [tables_size, hsC]) (And.intro (show Z.size = CF.size by rw [HZ.out.1, hsC]) (And.intro (show CF.all (·.oneCell') = true by
            rw [hCF]
            exact all_oneCell_toArray (tb_one (fun j => by
              obtain ⟨_, _, _, e⟩ := htu.one j
              rw [e]
              rfl))) hCF))))))
          have HL33 := Lib.hid hld33
          clear htu hkx hCF hld33 hsC hbR
          go_wp2_with (first
            | (with_reducible refine wpList_load_to (op := ⟨some 71, _, _, _, _, _⟩) rfl 33 (.tmp 12) rfl (.pointer (some ⟨g10, 0, none⟩)) rfl (.agg CF) HL33.out ?_)
            | ((with_reducible refine wpList_store_rowk (o := ⟨none, _, _, _, _, _⟩) rfl 33 (.tmp 6) (.tmp 71) rfl rfl (g1 + 1 + 1) CF rfl rfl HF.out.2.2.2.1 33 Z HF.out.2.2.1 HF.out.2.2.2.2.1 HF.out.2.2.2.2.2.1 ?_)
               intro wz bz kz
               have HFz := Lib.hid (And.intro bz kz)
               clear bz kz)
            | fail)
          refine bodyPost_ret (v := .tuple #[.agg CF, .int .i64 0]) (results_ct (fn := Tryd.f14) Tryd.results14 _ _ (g1 + 1 + 1) _ _ rfl rfl (run_loadVar_row _ (g1 + 1 + 1) 33 33 _ (0, 0) _ HFz.out.1 Tryd.underlying33 rfl HF.out.2.2.2.1)) rfl ?_
          have belr : Below w.heap.size w wr := (on_trans HB.out.2.2.2.1 H12.out.2.1).trans (HF.out.2.1.below (on_trans HB.out.2.2.2.1 H12.out.2.1).size (fun i hi e => by omega))
          refine ⟨belr.trans (HFz.out.2.below belr.size (fun i hi e => by omega)), fun h => absurd HR.out h, fun _ => ⟨T, X, by rw [HF.out.2.2.2.2.2.2]; rfl, HF.out.1.st, HF.out.1.len, HF.out.1.one, fun j hj => ?_⟩⟩
          rw [Int.toNat_natCast]
          have h0 := HF.out.1.row 0 (by omega)
          have h1 := HF.out.1.row 1 (by omega)
          have kz : ∀ {C : List Int} {j : Nat}, RowU wr T X C j → RowU wz T X C j := fun hr => hr.kept HFz.out.2 HF.out.2.2.1 (fun _ e => e)
          rcases (show j = 0 ∨ j = 1 ∨ j = 2 ∨ j = 3 by omega) with rfl | rfl | rfl | rfl
          · exact kz h0.1
          · exact kz h1.1
          · exact kz h0.2
          · exact kz h1.2
end
end Go.Proofs.YtdnjnbfmmgkpjaaDoor
