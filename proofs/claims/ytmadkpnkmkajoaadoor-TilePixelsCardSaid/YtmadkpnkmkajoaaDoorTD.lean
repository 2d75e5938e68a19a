/-
  A geometry's tile of noughts: the contract of None.
-/
import Derived.Test.YtmadkpnkmkajoaaDoorTB
import Derived.Test.YtmadkpnkmkajoaaDoorTS
import Derived.Test.YtmadkpnkmkajoaaDoorSB
namespace Go.Proofs.YtmadkpnkmkajoaaDoor
open Go.RowKit
set_option maxRecDepth 20000

theorem Box.drw {w : World} {g : Nat} {t : TypeId} {cs : Array Value} (h : Box w g t cs) : Box w.drew g t cs := h
set_option maxHeartbeats 3200000 in
theorem none_good (w : World) (W H T K Q : Int) (B : Bool) (hG : RightG W H T K Q) : Calls Tryd.prog 15 #[geoV W H T K Q B] w (BlankY w T T K) := by
  have hR : RightS T T K 0 := by
    obtain ⟨_, _, h3, h4, _⟩ := hG
    unfold RightS
    omega
  have e1 : hT W H T K Q = T := if_pos hG
  have e2 : hK W H T K Q = K := if_pos hG
  obtain ⟨g1, hg1⟩ : ∃ g1, w.heap.size = g1 := ⟨_, rfl⟩
  obtain ⟨w0, hw0⟩ : ∃ w1, (w.alloc (.cells #[.int .i64 W, .int .i64 H, .int .i64 T, .int .i64 K, .int .i64 Q, .bool B] 23)).alloc (.cells #[.slice none 0 0] 35) = w1 := ⟨_, rfl⟩
  have b1 : Box w0 g1 23 #[.int .i64 W, .int .i64 H, .int .i64 T, .int .i64 K, .int .i64 Q, .bool B] := by rw [← hw0, ← hg1]; exact (Box.made _ _ _).alloc _
  have b2 : Box w0 (g1 + 1) 35 #[.slice none 0 0] := by rw [← hw0, ← hg1]; have := Box.made (w.alloc (.cells #[.int .i64 W, .int .i64 H, .int .i64 T, .int .i64 K, .int .i64 Q, .bool B] 23)) 35 #[.slice none 0 0]; simpa using this
  have k1 : Below w.heap.size w w0 := by rw [← hw0]; exact on_trans (on_alloc _ _) (on_alloc _ _)
  have hs1 : w0.heap.size = g1 + 1 + 1 := by rw [← hw0, ← hg1]; simp
  have HL := Lib.hid (load_geo b1)
  have HB0 := Lib.hid (And.intro b2 (And.intro k1 (And.intro hg1 hs1)))
  have hz35 : ∀ w, (zeroValue 35).run Tryd.prog w = .ok (.agg #[.slice none 0 0]) w := fun w => by kernel_rfl
  have HH := Lib.hid (fun w' => head_any w' W H T K Q B)
  rw [e1, e2] at HH
  have HS := Lib.hid (fun w1 => shape_any w1 T T K 0)
  have HR := Lib.hid hR
  unfold scanV at HH
  unfold scanV ShapeY at HS
  unfold geoV at HH ⊢
  clear b1 b2 k1 hR e1 e2 hG
  go_enter Tryd.func15, Tryd.ntmps15
  go_wp2_with (first
    | (with_reducible refine wpList_load_to (op := ⟨some 5, _, _, _, _, _⟩) rfl 23 (.tmp 1) rfl (.pointer (some ⟨g1, 0, none⟩)) ?hx (.agg #[.int .i64 W, .int .i64 H, .int .i64 T, .int .i64 K, .int .i64 Q, .bool B]) HL.out ?_)
    | fail)
  case hx => simp [Act.eval]
  clear hw0 hs1
  refine (HH.out _).mono ?_
  rintro e w1 ⟨rfl, k0⟩
  have HB := Lib.hid (And.intro (HB0.out.1.on k0) (And.intro (on_trans HB0.out.2.1 k0) (And.intro HB0.out.2.2.1 (by have := k0.size; have := HB0.out.2.2.2; omega : g1 + 1 + 1 ≤ w1.heap.size))))
  clear k0
  go_wp2_with fail
  refine (HS.out w1).mono ?_
  rintro e w2 ⟨h1, _, k2⟩
  obtain ⟨As, cs, rfl, hcs, hps⟩ := h1 HR.out
  obtain ⟨m, hm⟩ : ∃ m, m = nP K := ⟨_, rfl⟩
  have hm3 := nP_le K
  rw [← hm] at hm3 hcs hps ⊢
  have HM := Lib.hid hm
  have H2 := Lib.hid (And.intro hps (And.intro (HB.out.1.on k2) (on_trans HB.out.2.1 k2)))
  have hk2 := k2.size
  have hs2 := HB.out.2.2.2
  have hk2 : g1 + 1 + 1 ≤ w2.heap.size := Nat.le_trans hs2 hk2
  obtain ⟨N2, hN2⟩ : ∃ N2, N2 = w2.heap.size := ⟨_, rfl⟩
  rw [← hN2] at hk2
  clear HS h1 k2 hps hm hs2
  go_wp2_with fail
  go_loopw [9] (fun i wr => ∃ (k : Nat) (v : Value) (bd : Nat → Nat), k ≤ m ∧ i = .int .i64 (k : Int) ∧ Box wr (g1 + 1) 35 #[v] ∧ LayB wr N2 T T K k v bd ∧ Kept (fun i => i = g1 + 1) w2 wr) (fun i _ => m - (intOf i).toNat)
  case atStart => exact ⟨0, _, fun _ => 0, Nat.zero_le _, rfl, H2.out.2.1, ⟨⟨rfl, .inl ⟨rfl, rfl⟩⟩, fun p hp => absurd hp (by omega), fun p q hp => absurd hp (by omega)⟩, Kept.refl _ _⟩
  case round =>
    obtain ⟨k, v, bd, hk, rfl, hbx, hly, hkp⟩ := hrel
    obtain ⟨Ao, co, rfl⟩ := own_slice hly.own
    by_cases hlt : k < m
    · obtain ⟨ba, off, rfl, _, hba, hps⟩ := H2.out.1.at_ (by omega)
      have hpk := hps k _ (shpL_at T T K (by rw [← HM.out]; exact hlt))
      obtain ⟨a, ha⟩ : ∃ a, a = uW T K * uA K k := ⟨_, rfl⟩
      obtain ⟨b, hb⟩ : ∃ b, b = uH T K * uD K k := ⟨_, rfl⟩
      rw [← ha, ← hb] at hpk
      have hab : nB T T K k = a * b := by rw [ha, hb]; rfl
      have hab2 := nB_le HR.out k
      rw [hab] at hab2
      have ha2 : a ≤ 32 := by
        rw [ha]
        exact Nat.le_trans (Nat.mul_le_mul (uW_le HR.out).2 (uA_le K k).2) (by omega)
      have hb2 : b ≤ 32 := by
        rw [hb]
        exact Nat.le_trans (Nat.mul_le_mul (uH_le HR.out).2 (uD_le K k).2) (by omega)
      have hwr : Below (g1 + 1) w2 wr := hkp.below (B := g1 + 1) (by omega) (fun i hi e => by omega)
      have hwr0 : Below w.heap.size w wr := H2.out.2.2.trans (hkp.below H2.out.2.2.size (fun i hi e => by have := HB.out.2.2.1; omega))
      have hsz := hkp.size
      obtain ⟨n5, hn5⟩ : ∃ n5, a * b = n5 := ⟨_, rfl⟩
      rw [hn5] at hab hab2
      obtain ⟨M, hM⟩ : ∃ M, M = (blocksC (List.replicate (n5) zeros64)).toArray := ⟨_, rfl⟩
      have hmk : ∀ w, (Instr.makeSlice 54 (.int .i64 (n5 : Int)) (.int .i64 (n5 : Int))).run Tryd.prog w = .ok (.slice (some ⟨w.heap.size, 0, none⟩) n5 n5) (w.alloc (.cells M 29)) := fun w => by
        rw [hM]
        exact make_blksT n5 (by omega) w
      have hwp : IntKind.i64.wrap ((a : Int) * (b : Int)) = (n5 : Int) := by rw [← Int.natCast_mul, hn5, IntKind.wrap_i64]; omega
      have hne : ba ≠ g1 + 1 := by have := HB.out.2.2.2; omega
      have s0 : wr.cell? ⟨ba, off + k * 2, none⟩ = some (.int .i64 (a : Int)) := (hkp.cell (p := ⟨ba, off + k * 2, none⟩) hba hne).trans hpk.1
      have s1 : wr.cell? ⟨ba, off + k * 2 + 1, none⟩ = some (.int .i64 (b : Int)) := (hkp.cell (p := ⟨ba, off + k * 2 + 1, none⟩) hba hne).trans hpk.2
      obtain ⟨w4, hw4⟩ : ∃ w4, (wr.alloc (.cells #[.int .i64 (a : Int), .int .i64 (b : Int)] 60)).drew = w4 := ⟨_, rfl⟩
      obtain ⟨g5, hg5⟩ : ∃ g5, w4.heap.size = g5 := ⟨_, rfl⟩
      obtain ⟨w5, hw5⟩ : ∃ w5, w4.alloc (.cells M 29) = w5 := ⟨_, rfl⟩
      obtain ⟨g6, hg6⟩ : ∃ g6, w5.heap.size = g6 := ⟨_, rfl⟩
      obtain ⟨w6, hw6⟩ : ∃ w6, w5.alloc (.cells #[.slice (some ⟨g5, 0, none⟩) (n5) (n5)] 54) = w6 := ⟨_, rfl⟩
      have k4 : Below wr.heap.size wr w4 := by rw [← hw4]; exact on_trans (on_alloc _ _) (on_drew _)
      have k5 : Below w4.heap.size w4 w5 := by rw [← hw5]; exact on_alloc _ _
      have k6 : Below w5.heap.size w5 w6 := by rw [← hw6]; exact on_alloc _ _
      have p0 : w4.cell? ⟨wr.heap.size, 0, none⟩ = some (.int .i64 (a : Int)) := by rw [← hw4]; exact (Box.drw (Box.made wr 60 #[.int .i64 (a : Int), .int .i64 (b : Int)])).cell 0
      have p1 : w4.cell? ⟨wr.heap.size, 1, none⟩ = some (.int .i64 (b : Int)) := by rw [← hw4]; exact (Box.drw (Box.made wr 60 #[.int .i64 (a : Int), .int .i64 (b : Int)])).cell 1
      have r4 : w4.cell? ⟨g1 + 1, 0, none⟩ = some (.slice Ao k co) := (hbx.on k4).cell 0
      have r5 : w5.cell? ⟨g1 + 1, 0, none⟩ = some (.slice Ao k co) := (hbx.on (on_trans k4 k5)).cell 0
      have r6 : w6.cell? ⟨g1 + 1, 0, none⟩ = some (.slice Ao k co) := (hbx.on (on_trans (on_trans k4 k5) k6)).cell 0
      have bk5 : Bk w5 g5 (n5) (List.replicate (n5) zeros64) := by rw [← hw5, ← hg5, hM]; exact bk_made _ _
      have b6 : Box w6 g6 54 #[.slice (some ⟨g5, 0, none⟩) (n5) (n5)] := by rw [← hw6, ← hg6]; exact Box.made _ _ _
      have hn6 : wr.heap.size ≤ g5 := by rw [← hg5]; exact k4.size
      have hz60 : ∀ w, (zeroValue 60).run Tryd.prog w = .ok (.agg #[.int .i64 0, .int .i64 0]) w := fun w => by kernel_rfl
      have H6 := Lib.hid (And.intro (bk5.on k6) (And.intro b6 (And.intro (on_trans (on_trans k4 k5) k6) (And.intro hn6 hab))))
      have HR3 := Lib.hid (And.intro hbx (And.intro hly (And.intro hkp hwr0)))
      have hsb : N2 ≤ wr.heap.size := by omega
      clear hM hn5 hpk hps ha hb hab k4 k5 k6 bk5 b6 hn6 hbx hly hkp hwr hwr0 hne
      go_upto_region 4 with fail
      go_region_law
        (first
          | ((refine step_append_gk el_rows rfl (.tmp 14) (.tmp 21) rfl N2 (.slice Ao k co) k _ rfl (HR3.out.2.1.on H6.out.2.2.1).own ⟨g6, 0, none⟩ 1 1 [.slice (some ⟨g5, 0, none⟩) (n5) (n5)] rfl rfl (box_read H6.out.2.1) (by intro u hu; simp at hu; subst hu; rfl) (by omega) (Nat.le_trans hsb H6.out.2.2.1.size) (some 22) rfl ?_)
             intro v7 w7 hown7 k7
             obtain ⟨A7, c7, hv7⟩ := own_slice hown7
             subst hv7
             have hLy := HR3.out.2.1.more (b := g5) H6.out.2.2.1 H6.out.2.2.2.1 hsb (by rw [H6.out.2.2.2.2]; exact H6.out.1) (by rw [H6.out.2.2.2.2]; exact hown7) k7
             have b7 : Box w7 (g1 + 1) 35 #[.slice Ao k co] := (HR3.out.1.on H6.out.2.2.1).bel (k7.below (B := g1 + 1 + 1) (Nat.le_trans (Nat.le_trans hk2 hsb) H6.out.2.2.1.size) (fun i hi e => by have := (own_block3 (HR3.out.2.1.on H6.out.2.2.1).own e).1; omega)) (by omega)
             have r7 : w7.cell? ⟨g1 + 1, 0, none⟩ = some (.slice Ao k co) := b7.cell 0
             have f7 : w7.frozen? ⟨g1 + 1, 0, none⟩ = false := b7.free 0
             have H7 := Lib.hid (And.intro hLy (And.intro b7 k7))
             clear hown7 k7 hLy b7))
      all_goals
        have HN := Lib.hid (show Box (w7.setCell ⟨g1 + 1, 0, none⟩ (.slice A7 (k + 1) c7)) (g1 + 1) 35 #[.slice A7 (k + 1) c7] ∧ LayB (w7.setCell ⟨g1 + 1, 0, none⟩ (.slice A7 (k + 1) c7)) N2 T T K (k + 1) (.slice A7 (k + 1) c7) (fun p => if p = k then g5 else bd p) ∧ Kept (fun i => i = g1 + 1) w2 (w7.setCell ⟨g1 + 1, 0, none⟩ (.slice A7 (k + 1) c7)) from by
          have hK := (Kept.refl (fun i => i = g1 + 1) w7).setCell (p := ⟨g1 + 1, 0, none⟩) (fun _ => rfl) (.slice A7 (k + 1) c7)
          have hown := HR3.out.2.1.own
          refine ⟨H7.out.2.1.put 0 _, H7.out.1.kept hK (fun i hi => by omega), ((HR3.out.2.2.1.trans (Kept.of_below H6.out.2.2.1 (fun i => i = g1 + 1)) (fun _ _ h => h)).trans H7.out.2.2 (fun i hi e => ?_)).trans hK (fun _ _ h => h)⟩
          have h9 := (own_block3 hown e).1
          omega)
        go_wp2_with fail
        go_roundw
        case rel => exact ⟨k + 1, _, _, by omega, by go_num, HN.out⟩
        case measure => simp [intOf]; omega
    · obtain rfl : k = m := by omega
      have r0 : wr.cell? ⟨g1 + 1, 0, none⟩ = some (.slice Ao k co) := hbx.cell 0
      have f0 : wr.frozen? ⟨g1 + 1, 0, none⟩ = false := hbx.free 0
      have HE := Lib.hid (And.intro hbx (And.intro hly hkp))
      clear hbx hly hkp
      go_wp2_with fail
      have hb2 : Box (wr.setCell ⟨g1 + 1, 0, none⟩ (.slice Ao k co)) (g1 + 1) 35 #[.slice Ao k co] := HE.out.1.put 0 _
      have hK : Kept (fun i => i = g1 + 1) wr (wr.setCell ⟨g1 + 1, 0, none⟩ (.slice Ao k co)) := (Kept.refl (fun i => i = g1 + 1) wr).setCell (p := ⟨g1 + 1, 0, none⟩) (fun _ => rfl) _
      refine bodyPost_ret (v := tileV Ao k co) (results_c (fn := Tryd.f15) Tryd.results15 _ _ (g1 + 1) _ rfl (loadVar_tile hb2)) rfl ?_
      have hL := HE.out.2.1.kept hK (fun i e => by omega)
      have hwr0 : Below w.heap.size w wr := H2.out.2.2.trans (HE.out.2.2.below H2.out.2.2.size (fun i hi e => by have := HB.out.2.2.1; omega))
      have hM := HM.out
      subst hM
      have hd := hL.done
      exact ⟨Ao, co, bd, rfl, ⟨by obtain ⟨gp, cs, a1, a2, a3, a4⟩ := hd.parts; exact ⟨gp, cs, a1, a2, by have := HB.out.2.2.1; omega, a4⟩, fun p hp => ⟨(hd.row p hp).1, by have := (hd.row p hp).2; have := HB.out.2.2.1; omega⟩, hd.inj, hd.len⟩, hwr0.trans (hK.below hwr0.size (fun i hi e => by have := HB.out.2.2.1; omega))⟩
end Go.Proofs.YtmadkpnkmkajoaaDoor
