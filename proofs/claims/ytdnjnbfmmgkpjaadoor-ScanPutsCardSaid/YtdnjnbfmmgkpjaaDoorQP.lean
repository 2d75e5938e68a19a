/-
  The contract of the reference's Put.
-/
import Derived.Test.YtdnjnbfmmgkpjaaDoorPH
import Derived.Test.YtdnjnbfmmgkpjaaDoorQO
import Derived.Test.YtdnjnbfmmgkpjaaDoorSU
namespace Go.Proofs.YtdnjnbfmmgkpjaaDoor
open Go.RowKit

theorem wpList_append_bb {w : World} {ops : Array Oper} {rest : List Oper} {o : Oper} {a : Act} {Q : Exit → Act → World → Prop} (hgd : o.guard = none) (s x : Operand)
    (ho : o.op = .call { callee := .builtin .append, args := #[s, x], argTypes := #[41, 41] })
    (base : Nat) (v : Value) (n : Nat) (l : List Int) (hs : a.eval s = v) (hown : w.ownsRow base 5 1 v n (cellsOf l)) (A : Option Addr) (m c : Nat) (r : List Int)
    (hx : a.eval x = .slice A m c) (hr : Sl w (fun _ => True) A m c r) (h63 : n + m ≤ 1000000) (hbase : base ≤ w.heap.size)
    (h : ∀ v' w', w'.ownsRow base 5 1 v' (n + m) (cellsOf (l ++ r)) → Kept (fun i => v.ownBlock = some i) w w' → wpList Tryd.prog ops Q rest (a.put o.dst v') w') : wpList Tryd.prog ops Q (o :: rest) a w :=
  wpList_plain hgd fun _ hQ => by
    obtain ⟨v', w', h0, h1, h2⟩ := run_append_sk w o.type base v n l hown A m c r hr h63 hbase
    unfold Oper.wp
    simp [execOp, ho, resolve, invoke, builtin, hs, hx, h0, Result.andThen]
    exact hQ _ _ (h v' w' h1 h2)

/-- the state of the reference's Put between two places -/
structure RSt (w0 wr : World) (T : Tbs) (tl : List (List (List Int))) (gB base : Nat) (S : PS) (v10 : Value) (Ab : Option Addr) (nb cb gp : Nat) : Prop where
  err : S.err = 0
  bel : Below w0.heap.size w0 wr
  out : wr.ownsRow base 5 1 v10 S.out.length (cellsOf S.out)
  bits : Il wr Ab nb cb S.cur
  prev : Box wr gp 3 (cellsI S.prev).toArray
  lo : gB ≤ gp
  bs : base ≤ wr.heap.size
  apart : ∀ b off, Ab = some ⟨b, off, none⟩ → b ≠ gp
theorem RSt.on {w0 wr w' : World} {T : Tbs} {tl : List (List (List Int))} {gB base : Nat} {S : PS} {v10 : Value} {Ab : Option Addr} {nb cb gp : Nat} (h : RSt w0 wr T tl gB base S v10 Ab nb cb gp) (k : Below wr.heap.size wr w') : RSt w0 w' T tl gB base S v10 Ab nb cb gp :=
  ⟨h.err, on_trans h.bel k, own_on h.out k, h.bits.on k, h.prev.on k, h.lo, Nat.le_trans h.bs k.size, h.apart⟩
theorem expD_take {D : List Pl3} {k : Nat} {x : Pl3} (h : D[k]? = some x) : expD (D.take (k + 1)) = expD (D.take k) ++ exp1 x := by
  rw [List.take_add_one, h]
  simp [expD]
theorem Od.kept {w w' : World} {S : Nat → Prop} {b n : Nat} {D : List Pl3} (h : Od w (some ⟨b, 0, none⟩) n D) (k : Kept S w w') (hS : ¬ S b) : Od w' (some ⟨b, 0, none⟩) n D :=
  ⟨h.len, fun h0 => by
    obtain ⟨b', e, h1, h2⟩ := h.at_ h0
    cases e
    exact ⟨b, rfl, Nat.lt_of_lt_of_le h1 k.size, fun i x hx => ⟨(k.cell (p := ⟨b, i * 3, none⟩) h1 hS).trans (h2 i x hx).1, (k.cell (p := ⟨b, i * 3 + 1, none⟩) h1 hS).trans (h2 i x hx).2.1, (k.cell (p := ⟨b, i * 3 + 2, none⟩) h1 hS).trans (h2 i x hx).2.2⟩⟩⟩
theorem mem_evTo2 {X Y : Nat} {K : Int} {R p a : Nat} (h : some (p, a) ∈ evTo X K R (X * Y)) : a < (X * uA K p) * (Y * uD K p) := by
  unfold evTo at h
  obtain ⟨k, hk, h⟩ := List.mem_flatMap.1 h
  have hk := List.mem_range.1 hk
  unfold evOf at h
  rcases List.mem_append.1 h with h | h
  · unfold rsOf at h
    split at h
    · simp at h
    · cases h
  · unfold plTo at h
    obtain ⟨q, hq, h⟩ := List.mem_flatMap.1 h
    unfold plOf at h
    obtain ⟨i, hi, h⟩ := List.mem_map.1 h
    have h1 := plAt_lt (X := X) (Y := Y) (K := K) (n := k) (p := q) (i := i) hk (List.mem_range.1 hi)
    have h2 : plAt X K k q i = (p, a) := Option.some.inj h
    have h3 : q = p := congrArg Prod.fst h2
    rw [h2, h3] at h1
    exact h1
theorem step_store_row {ops : Array Oper} {o : Oper} {a : Act} {w : World} {K : Act → World → Prop} {Q : Exit → Act → World → Prop} {E : Prop} (hgd : o.guard = none) (ty : TypeId) (x y : Operand) (ho : o.op = .store ty x y) (hd : o.dst = none)
    (g : Nat) (cs : Array Value) (hx : a.eval x = .pointer (some ⟨g, 0, none⟩)) (hy : a.eval y = .agg cs) (hi : (Tryd.prog.info? ty).map (·.size) = some cs.size) (t : TypeId) (old : Array Value) (hg : Box w g t old) (hold : old.size = cs.size) (h1 : cs.all (·.oneCell') = true)
    (h : ∀ w', Box w' g t cs → Kept (fun i => i = g) w w' → K (a.put none undef) w') : if Region.wanted o (yielded ops a.tmps) = true then Oper.wp Tryd.prog o a w K Q else E := by
  have hw : Region.wanted o (yielded ops a.tmps) = true := by simp [Region.wanted, hgd]
  rw [if_pos hw]
  refine wp_store_row ty x y ho g cs hx hy t old hg hi hold h1 ?_
  rw [hd]
  exact h _ (setRow_heap w g old _ t _ hg) ⟨rfl, rfl, rfl, by simp, fun k _ hk => setRow_other w g k _ hk⟩
/-- a place with its restart -/
theorem runP_place {T : Tbs} {tl : List (List (List Int))} {l : List Ev} (h : (runP T tl l).err = 0) (p a : Nat) (f : Bool) : runP T tl (l ++ exp1 (p, a, f)) = seeP T tl (if f = true then restP (runP T tl l) else runP T tl l) p a := by
  unfold exp1
  cases f with
  | false => simp only [Bool.false_eq_true, if_false, List.nil_append]; exact runP_see h p a
  | true =>
    simp only [if_true]
    rw [← List.append_assoc, runP_see (by rw [runP_rest h]; exact h), runP_rest h]
section
variable (w : World) (W H K R : Int) (T : Tbs) (X : Nat → Value) (A : Option Addr) (n c : Nat) (L : List (Option Addr × Nat × Nat)) (tl : List (List (List Int)))
set_option maxRecDepth 10000 in
set_option maxHeartbeats 12800000 in
theorem refPut14_any (hX : Xs w T X) (hW : Wt T) (ht : Ti w A n L tl) (hs : RightS W H K R → W ≤ 40 ∧ H ≤ 40) : Calls Tryd.prog 12 #[scanV W H K R, tbV T X, tileV A n c] w fun e w' => Below w.heap.size w w' ∧ ∃ A' m c', e = .returned (.tuple #[.slice A' m c', .int .i64 (putR W H K R T tl).2]) ∧ Sl w' (fun _ => True) A' m c' (putR W H K R T tl).1 := by
  obtain ⟨C, hC⟩ : ∃ C, C = (tbC T X).toArray := ⟨_, rfl⟩
  have eC : tbV T X = .agg C := by rw [hC]; rfl
  obtain ⟨g1, hg1⟩ : ∃ g1, w.heap.size = g1 := ⟨_, rfl⟩
  obtain ⟨w1, hw1⟩ : ∃ w1, ((w.alloc (.cells #[.int .i64 W, .int .i64 H, .int .i64 K, .int .i64 R] 23)).alloc (.cells C 33)).alloc (.cells #[.slice A n c] 36) = w1 := ⟨_, rfl⟩
  have b1 : Box w1 g1 23 #[.int .i64 W, .int .i64 H, .int .i64 K, .int .i64 R] := by rw [← hw1, ← hg1]; exact ((Box.made _ _ _).alloc _).alloc _
  have b2 : Box w1 (g1 + 1) 33 C := by
    rw [← hw1, ← hg1]
    have := (Box.made (w.alloc (.cells #[.int .i64 W, .int .i64 H, .int .i64 K, .int .i64 R] 23)) 33 C).alloc (.cells #[.slice A n c] 36)
    simpa using this
  have b3 : Box w1 (g1 + 1 + 1) 36 #[.slice A n c] := by
    rw [← hw1, ← hg1]
    have := Box.made ((w.alloc (.cells #[.int .i64 W, .int .i64 H, .int .i64 K, .int .i64 R] 23)).alloc (.cells C 33)) 36 #[.slice A n c]
    simpa using this
  have k1 : Below w.heap.size w w1 := by rw [← hw1]; exact on_trans (on_trans (on_alloc _ _) (on_alloc _ _)) (on_alloc _ _)
  have q0 : w1.cell? ⟨g1, 0, none⟩ = some (.int .i64 W) := b1.cell 0
  have q1 : w1.cell? ⟨g1, 1, none⟩ = some (.int .i64 H) := b1.cell 1
  have q2 : w1.cell? ⟨g1, 2, none⟩ = some (.int .i64 K) := b1.cell 2
  have q3 : w1.cell? ⟨g1, 3, none⟩ = some (.int .i64 R) := b1.cell 3
  have r0 : w1.cell? ⟨g1 + 1 + 1, 0, none⟩ = some (.slice A n c) := b3.cell 0
  have hrt := refRightT_any w1 W H K R A n c L tl (ht.on k1)
  unfold scanV tileV at hrt
  have HRt := Lib.hid hrt
  have HB := Lib.hid (And.intro b1 (And.intro b2 (And.intro b3 (And.intro k1 (And.intro hg1 (And.intro eC hC))))))
  have HA := Lib.hid (And.intro hX (And.intro hW (And.intro ht hs)))
  rw [eC]
  clear b1 b2 b3 k1 hX hW ht hs hrt eC hC
  unfold scanV tileV
  go_enter Tryd.func12, Tryd.ntmps12
  go_upto_region 1 with fail
  clear hw1
  go_wp2_with fail
  refine Calls.mono HRt.out ?_
  rintro e w2 ⟨rb, rfl, hrb, k2⟩
  have H2 := Lib.hid (And.intro (HB.out.1.on k2) (And.intro (HB.out.2.1.on k2) (And.intro (HB.out.2.2.1.on k2) (And.intro (on_trans HB.out.2.2.2.1 k2) hrb))))
  clear k2 hrb HRt q0 q1 q2 q3 r0
  cases rb with
  | false =>
    go_wp2_with fail
    go_ret2
    have hn : ¬ RightT W H K R tl := fun h => by have := H2.out.2.2.2.2.2 h; cases this
    refine ⟨H2.out.2.2.2.1, none, 0, 0, ?_, ?_⟩
    · rw [putR, if_neg hn]; rfl
    · rw [putR, if_neg hn]; exact sl_nil _ _
  | true =>
    have hR := H2.out.2.2.2.2.1 rfl
    have HR := Lib.hid hR
    obtain ⟨⟨hW1, hH1, hK1, hR1⟩, _⟩ := hR
    obtain ⟨r, rfl⟩ : ∃ r : Nat, R = (r : Int) := ⟨R.toNat, by omega⟩
    have q2 : w2.cell? ⟨g1, 2, none⟩ = some (.int .i64 K) := H2.out.1.cell 2
    have kw2 := H2.out.2.2.2.1
    have hld : (Instr.loadAt 33 (.pointer (some ⟨g1 + 1, 0, none⟩))).run Tryd.prog w2 = .ok (.agg C) w2 := by
      have hb := H2.out.2.1
      rw [HB.out.2.2.2.2.2.2] at hb
      rw [← HB.out.2.2.2.2.2.1]
      exact (hb.rng).load
    have HLd := Lib.hid hld
    have hu := codes_any w2 K T X (HA.out.1.on kw2) HA.out.2.1
    rw [HB.out.2.2.2.2.2.1] at hu
    have HU := Lib.hid hu
    clear hld hu hW1 hH1 hK1 hR1 kw2
    go_wp2_with (first
      | (with_reducible refine wpList_load_to (op := ⟨some 28, _, _, _, _, _⟩) rfl 33 (.tmp 4) rfl (.pointer (some ⟨g1 + 1, 0, none⟩)) rfl (.agg C) HLd.out ?_)
      | fail)
    refine Calls.mono HU.out ?_
    rintro e w3 ⟨k3, ⟨hok, Ac, cc, rfl, hcrs⟩ | ⟨hno, rfl⟩⟩
    · have H3 := Lib.hid (And.intro (H2.out.1.on k3) (And.intro (H2.out.2.2.1.on k3) (And.intro (on_trans H2.out.2.2.2.1 k3) (And.intro hok hcrs))))
      clear k3 hok hcrs HU HLd q2
      obtain ⟨nc, hnc⟩ : ∃ nc, nc = 2 * nC K := ⟨_, rfl⟩
      rw [← hnc]
      have hnc4 : nc ≤ 4 := by have := (nC_le K).2; omega
      have HNC := Lib.hid hnc
      clear hnc
      obtain ⟨gp, hgp⟩ : ∃ gp, w3.heap.size = gp := ⟨_, rfl⟩
      obtain ⟨w4, hw4⟩ : ∃ w4, w3.alloc (.cells #[.int .i64 0, .int .i64 0, .int .i64 0] 3) = w4 := ⟨_, rfl⟩
      have b4 : Box w4 gp 3 (cellsI [0, 0, 0]).toArray := by rw [← hw4, ← hgp]; exact Box.made _ _ _
      have k4 : Below w3.heap.size w3 w4 := by rw [← hw4]; exact on_alloc _ _
      have q0 : w4.cell? ⟨g1, 0, none⟩ = some (.int .i64 W) := (H3.out.1.on k4).cell 0
      have q1 : w4.cell? ⟨g1, 1, none⟩ = some (.int .i64 H) := (H3.out.1.on k4).cell 1
      have q2 : w4.cell? ⟨g1, 2, none⟩ = some (.int .i64 K) := (H3.out.1.on k4).cell 2
      have q3 : w4.cell? ⟨g1, 3, none⟩ = some (.int .i64 (r : Int)) := (H3.out.1.on k4).cell 3
      have hord := order14_any w4 W H K r HR.out.1
      unfold scanV at hord
      have HOr := Lib.hid hord
      have H4 := Lib.hid (And.intro b4 (And.intro (H3.out.1.on k4) (And.intro (H3.out.2.1.on k4) (And.intro (on_trans H3.out.2.2.1 k4) (H3.out.2.2.2.2.on k4)))))
      have H4b := Lib.hid k4
      clear b4 k4 hord
      go_wp2_with fail
      refine Calls.mono HOr.out ?_
      rintro e w5 ⟨Ao, no, co, DL, rfl, hod, hev, k5, hob⟩
      clear q0 q1 q2 q3 hw4
      obtain ⟨ad, cd, hLp, hat⟩ := tile_ad HA.out.2.2.1 HR.out
      have hsm := HA.out.2.2.2 HR.out.1
      have H5 := Lib.hid (And.intro hod (And.intro hev (And.intro hob (And.intro hLp hat))))
      have hgp : w3.heap.size = gp := hgp
      have hk4s : gp < w4.heap.size := H4.out.1.lt
      have hst0 : RSt w3 w5 T tl w3.heap.size w5.heap.size (runP T tl (expD (DL.take 0))) (.slice none 0 0) none 0 0 gp :=
        ⟨rfl, (on_trans (H4b.out) k5), World.ownsRow_nil _ _ _ _, Il.none _, H4.out.1.on k5, by omega, Nat.le_refl _, fun b off e => by cases e⟩
      have H6 := Lib.hid (And.intro hst0 (fun b off (e : Ao = some ⟨b, off, none⟩) => (by have := hob b off e; omega : gp ≠ b)))
      have hno80 : no ≤ 80 := by
        have h1 := congrArg places hev
        rw [places_expD, places_evTo] at h1
        have h2 := (few_places HR.out.1 hsm.1 hsm.2).1
        have h3 := hod.len
        omega
      clear hod hev hob hLp hat hst0 k5 hgp hk4s
      go_wp2_with fail
      go_loopw [10, 11, 12, 13, 15] (fun v10 v11 v12 v13 i wr => ∃ (k rs : Nat) (Ab : Option Addr) (nb cb gq : Nat), k ≤ no ∧ i = .int .i64 (k : Int) ∧ v11 = .slice Ab nb cb ∧ v12 = .slice (some ⟨gq, 0, none⟩) 3 3 ∧ v13 = .int .i64 (rs : Int) ∧ rs = (runP T tl (expD (DL.take k))).rs ∧
        RSt w3 wr T tl w3.heap.size w5.heap.size (runP T tl (expD (DL.take k))) v10 Ab nb cb gq ∧ Od wr Ao no DL ∧ (∀ b off, Ao = some ⟨b, off, none⟩ → gq ≠ b)) (fun _ _ _ _ i _ => no - (intOf i).toNat)
      case atStart => exact ⟨0, 0, none, 0, 0, gp, Nat.zero_le _, rfl, rfl, rfl, rfl, rfl, H6.out.1, H5.out.1, H6.out.2⟩
      case round =>
        obtain ⟨wo, rfl⟩ : ∃ wo, wo = wr := ⟨_, rfl⟩
        obtain ⟨k, rs, Ab, nb, cb, gq, hk, rfl, rfl, rfl, rfl, hrs, hst, hod, hne⟩ := hrel
        obtain ⟨Av, cv, hv0⟩ := own_slice hst.out
        obtain ⟨lo, hlo⟩ : ∃ lo, lo = (runP T tl (expD (DL.take k))).out.length := ⟨_, rfl⟩
        rw [← hlo] at hv0
        subst hv0
        have HLo := Lib.hid hlo
        clear hlo
        have HS := Lib.hid (And.intro hst (And.intro hod (And.intro hne hrs)))
        by_cases hlt : k < no
        · have hki : (k : Int) < (no : Int) := by omega
          obtain ⟨x, hx⟩ : ∃ x, DL[k]? = some x := ⟨_, List.getElem?_eq_getElem (by rw [hod.len]; exact hlt)⟩
          obtain ⟨p, a, f⟩ := x
          obtain ⟨bo, e1, hbo, hcell⟩ := hod.at_ (by omega)
          obtain ⟨c0, c1, c2⟩ := hcell k _ hx
          have HXp := Lib.hid (And.intro hx e1)
          subst e1
          dsimp only at c0 c1 c2
          obtain ⟨w6, hw6⟩ : ∃ w6, wo.alloc (.cells #[.int .i64 (p : Int), .int .i64 (a : Int), .bool f] 58) = w6 := ⟨_, rfl⟩
          obtain ⟨g6, hg6⟩ : ∃ g6, wo.heap.size = g6 := ⟨_, rfl⟩
          have b6 : Box w6 g6 58 #[.int .i64 (p : Int), .int .i64 (a : Int), .bool f] := by rw [← hw6, ← hg6]; exact Box.made _ _ _
          have k6 : Below wo.heap.size wo w6 := by rw [← hw6]; exact on_alloc _ _
          have f2 : w6.cell? ⟨g6, 2, none⟩ = some (.bool f) := b6.cell 2
          have H7 := Lib.hid (And.intro (hst.on k6) (And.intro (hod.on k6) b6))
          clear hst hod hne hrs hcell k6 b6 hx
          have hpre : expD (DL.take k) ++ expD (DL.drop k) = evTo (uW W K) K r (uW W K * uH H K) := by
            rw [← H5.out.2.1, expD, expD, ← List.flatMap_append, List.take_append_drop]
            rfl
          have hbits := few_bits (tl := tl) HR.out.1 hsm.1 hsm.2 H3.out.2.2.2.1 hpre
          obtain ⟨S, hS⟩ : ∃ S, S = runP T tl (expD (DL.take k)) := ⟨_, rfl⟩
          rw [← hS] at hbits H7
          have hrs8 : S.rs = rs := by rw [hS]; exact HS.out.2.2.2.symm
          have hrsn : S.rs ≤ 100 := by
            have h1 := (few_bits (tl := tl) HR.out.1 hsm.1 hsm.2 H3.out.2.2.2.1 hpre).2.2.rle
            have h2 := rests_evTo (uW W K) K r (uW W K * uH H K)
            rw [← hpre, rests_app] at h2
            have h3 : (uW W K * uH H K - 1) / r ≤ uW W K * uH H K - 1 := Nat.div_le_self _ _
            have h4 := (few_places HR.out.1 hsm.1 hsm.2).2
            rw [← hS] at h1
            split at h2 <;> omega
          have HBits := Lib.hid (And.intro hbits (And.intro hS (And.intro hpre hrs8)))
          have hrs100 : rs ≤ 100 := by omega
          clear hbits hpre hrs8 hrsn hS
          go_upto_if 49 with fail
          go_cut [10, 11, 12, 13] (fun v10 v11 v12 v13 wx => ∃ (rs' : Nat) (Ab' : Option Addr) (nb' cb' gq' : Nat), v11 = .slice Ab' nb' cb' ∧ v12 = .slice (some ⟨gq', 0, none⟩) 3 3 ∧ v13 = .int .i64 (rs' : Int) ∧ rs' = (if f = true then restP S else S).rs ∧
            RSt w3 wx T tl w3.heap.size w5.heap.size (if f = true then restP S else S) v10 Ab' nb' cb' gq' ∧ Od wx (some ⟨bo, 0, none⟩) no DL ∧ gq' ≠ bo ∧ Box wx g6 58 #[.int .i64 (p : Int), .int .i64 (a : Int), .bool f])
          case first =>
            clear hw6 hg6 c0 c1 c2
            cases f with
            | false =>
              go_wp2_with fail
              go_meet
              exact ⟨rs, Ab, nb, cb, gq, rfl, rfl, rfl, HBits.out.2.2.2.symm, H7.out.1, H7.out.2.1, HS.out.2.2.1 bo 0 rfl, H7.out.2.2⟩
            | true =>
              obtain ⟨q8, hq8⟩ : ∃ q8, q8 = rs % 8 := ⟨_, rfl⟩
              have hq8i : (rs : Int) % 8 = (q8 : Int) := by rw [hq8]; rfl
              have hq8l : q8 < 8 := by rw [hq8]; exact Nat.mod_lt _ (by omega)
              obtain ⟨code, hcode⟩ : ∃ code : Int, code = ((208 + q8 : Nat) : Int) := ⟨_, rfl⟩
              have hcodei : (208 : Int) + (q8 : Int) = code := by rw [hcode]; push_cast; rfl
              have hcb : 0 ≤ code ∧ code ≤ 255 := by omega
              have hconv : IntKind.u8.wrap code = code := by
                unfold IntKind.wrap
                simp [IntKind.signed, IntKind.bits]
                omega
              have hby := refBytes_scan w6 Ab nb cb S.cur H7.out.1.bits (by have := HBits.out.1.2.2.packs; rw [← HBits.out.2.1] at this; exact this) (by have := H7.out.1.bits.len; have := HBits.out.1.1; omega)
              have HBy := Lib.hid hby
              have HCo := Lib.hid (And.intro hq8 hcode)
              clear hby hq8 hcode
              go_wp2_with fail
              refine Calls.mono HBy.out ?_
              rintro e w7 ⟨A3, m3, c3, l3, rfl, hsc, hsl, k7⟩
              have hl3 : l3 = scanOf S.cur := (scanOf_is hsc).symm
              have hln := scan_len hsc
              have hbw6 := H7.out.1.bs
              have hS0 := HBits.out.1.1
              have hS1 := HBits.out.1.2.1
              have H8 := Lib.hid (And.intro (H7.out.1.on k7) (And.intro (H7.out.2.1.on k7) (And.intro (H7.out.2.2.on k7) (And.intro hsl (And.intro hl3 (And.intro hsl.len (show S.out.length + m3 ≤ 90000 by have := hsl.len; omega)))))))
              clear hsc hsl k7 hl3 hln HBy hbw6 hS0 hS1
              go_wp2_with (first
                | ((refine wpList_append_bb rfl (.tmp 50) (.tmp 52) rfl w5.heap.size (.slice Av lo cv) S.out.length S.out rfl H8.out.1.out A3 m3 c3 l3 rfl H8.out.2.2.2.1 (by have := H8.out.2.2.2.2.2.2; omega) H8.out.1.bs ?_)
                   intro v5 w9 hown5 k9
                   obtain ⟨w10, hw10⟩ : ∃ w10, w9.alloc (.cells #[.int .u8 255, .int .u8 code] 5) = w10 := ⟨_, rfl⟩
                   obtain ⟨g10, hg10⟩ : ∃ g10, w9.heap.size = g10 := ⟨_, rfl⟩
                   have b10 : Box w10 g10 5 #[.int .u8 255, .int .u8 code] := by rw [← hw10, ← hg10]; exact Box.made _ _ _
                   have k10 : Below w9.heap.size w9 w10 := by rw [← hw10]; exact on_alloc _ _
                   have H9 := Lib.hid (And.intro (own_on hown5 k10) (And.intro k9 (And.intro k10 (And.intro b10 (Nat.le_trans H8.out.1.bs (Nat.le_trans k9.size k10.size))))))
                   clear hown5 k9 b10 k10)
                | ((refine wpList_append_bb rfl (.tmp 53) (.tmp 58) rfl w5.heap.size v5 (S.out.length + m3) (S.out ++ l3) rfl H9.out.1 (some ⟨g10, 0, none⟩) 2 2 [255, code] rfl (two_sl H9.out.2.2.2.1 hcb) (by have := H8.out.2.2.2.2.2.2; omega) H9.out.2.2.2.2 ?_)
                   intro v9 w11 hown9 k11
                   obtain ⟨w12, hw12⟩ : ∃ w12, w11.alloc (.cells #[.int .i64 0, .int .i64 0, .int .i64 0] 3) = w12 := ⟨_, rfl⟩
                   obtain ⟨g12, hg12⟩ : ∃ g12, w11.heap.size = g12 := ⟨_, rfl⟩
                   have b12 : Box w12 g12 3 (cellsI [0, 0, 0]).toArray := by rw [← hw12, ← hg12]; exact Box.made _ _ _
                   have k12 : Below w11.heap.size w11 w12 := by rw [← hw12]; exact on_alloc _ _
                   have H10 := Lib.hid (And.intro hown9 (And.intro k11 (And.intro k12 (And.intro b12 hg12))))
                   clear hown9 k11 b12 k12)
                | fail)
              go_meet
              simp only [if_true]
              have kk12 := H10.out.2.2.1
              have hw5 := H5.out.1.at_ (by omega)
              obtain ⟨bo', e', hbo5, _⟩ := hw5
              cases e'
              have ge9 : ∀ i, (Value.slice Av lo cv).ownBlock = some i → w5.heap.size ≤ i := fun i e => (own_block3 H8.out.1.out e).1
              have ge11 : ∀ i, v5.ownBlock = some i → w5.heap.size ≤ i := fun i e => (own_block3 H9.out.1 e).1
              have hw35 : w3.heap.size ≤ w5.heap.size := H6.out.1.bel.size
              have bl9 : Below w3.heap.size w3 w9 := H8.out.1.bel.trans (H9.out.2.1.below H8.out.1.bel.size (fun i hi e => by have := ge9 i e; omega))
              have bl10 := on_trans bl9 H9.out.2.2.1
              have bl11 : Below w3.heap.size w3 w11 := bl10.trans (H10.out.2.1.below bl10.size (fun i hi e => by have := ge11 i e; omega))
              have od11 : Od w11 (some ⟨bo, 0, none⟩) no DL := ((H8.out.2.1.kept H9.out.2.1 (fun e => by have := ge9 bo e; omega)).on H9.out.2.2.1).kept H10.out.2.1 (fun e => by have := ge11 bo e; omega)
              have bx9 := own_box H8.out.1.out H9.out.2.1 H8.out.2.2.1 (by decide)
              have bx11 := own_box H9.out.1 H10.out.2.1 (bx9.on H9.out.2.2.1) (by decide)
              have hbo11 : bo < w11.heap.size := by have := bl11.size; have := H10.out.2.1.size; have := H9.out.2.2.2.2; omega
              refine ⟨rs + 1, none, 0, 0, g12, rfl, rfl, by push_cast; rfl, by show rs + 1 = S.rs + 1; rw [HBits.out.2.2.2], ⟨H7.out.1.err, on_trans bl11 kk12, ?_, Il.none _, H10.out.2.2.2.1, by have := bl11.size; have := H10.out.2.2.2.2; omega, Nat.le_trans H9.out.2.2.2.2 (Nat.le_trans H10.out.2.1.size kk12.size), fun b off e => by cases e⟩, od11.on kk12, by have := H10.out.2.2.2.2; omega, bx11.on kk12⟩
              have ho := own_on H10.out.1 kk12
              have e1 : (restP S).out = S.out ++ l3 ++ [255, code] := by
                show S.out ++ scanOf S.cur ++ [255, ((208 + S.rs % 8 : Nat) : Int)] = _
                rw [H8.out.2.2.2.2.1, HCo.out.2, HCo.out.1, HBits.out.2.2.2]
              rw [e1]
              have e2 : (S.out ++ l3 ++ [255, code]).length = S.out.length + m3 + 2 := by
                rw [List.length_append, List.length_append, H8.out.2.2.2.2.2.1]
                rfl
              rw [e2]
              exact ho
          case rest =>
            clear hw6 hg6 c0 c1 c2 f2
            obtain ⟨rs', Ab', nb', cb', gq', rfl, rfl, rfl, hrs', hst', hod', hne', hb6⟩ := hcut
            obtain ⟨Av', cv', hv0⟩ := own_slice hst'.out
            obtain ⟨lo', hlo⟩ : ∃ lo', lo' = (if f = true then restP S else S).out.length := ⟨_, rfl⟩
            rw [← hlo] at hv0
            subst hv0
            obtain ⟨S2, hS2⟩ : ∃ S2, S2 = (if f = true then restP S else S) := ⟨_, rfl⟩
            rw [← hS2] at hrs' hst' hlo
            have hmem : some (p, a) ∈ evTo (uW W K) K r (uW W K * uH H K) := by
              rw [← H5.out.2.1]
              refine List.mem_flatMap.2 ⟨(p, a, f), List.mem_of_getElem? HXp.out.1, ?_⟩
              simp [exp1]
            have hp := mem_evTo hmem
            have ha := mem_evTo2 hmem
            obtain ⟨hbl, hbb, hbc⟩ := H5.out.2.2.2.2 p a hp ha
            obtain ⟨hLp, hcp⟩ := H5.out.2.2.2.1 p hp
            have belc : Below w.heap.size w wc := on_trans H3.out.2.2.1 hst'.bel
            have hnn : n = nP K := HA.out.2.2.1.len.symm.trans HR.out.2.1
            obtain ⟨ba, oa, hA, hba, hcell⟩ := (HA.out.2.2.1.pt.on belc).at_ (by omega)
            have s0 := hcell p _ hLp
            dsimp only at s0
            obtain ⟨gb, hgb⟩ : ∃ gb, gb = (ad p).1 := ⟨_, rfl⟩
            obtain ⟨ob, hob⟩ : ∃ ob, ob = (ad p).2 := ⟨_, rfl⟩
            obtain ⟨ar, har⟩ : ∃ ar, ar = (uW W K * uA K p) * (uH H K * uD K p) := ⟨_, rfl⟩
            obtain ⟨cdp, hcd⟩ : ∃ cdp, cdp = cd p := ⟨_, rfl⟩
            obtain ⟨bl, hbl2⟩ : ∃ bl, bl = blkAt tl p a := ⟨_, rfl⟩
            rw [← hgb, ← hob, ← har, ← hcd] at s0
            rw [← hgb, ← hob, ← hbl2] at hbc
            rw [← hbl2] at hbl
            rw [← hgb] at hbb
            rw [← har] at ha hcp
            rw [← hcd] at hcp
            have b36 : Box wc (g1 + 1 + 1) 36 #[.slice A n c] := H3.out.2.1.on hst'.bel
            subst hA
            have HK := Lib.hid (fun (w' : World) (k : Below wc.heap.size wc w') => And.intro ((b36.on k).cell 0) (And.intro ((hb6.on k).cell 0) (And.intro ((k.cell (p := ⟨ba, oa + p, none⟩) hba).trans s0) (And.intro ((hb6.on k).cell 1)
              (load_blkAt (w := w') hbl (fun j hj => ((on_trans belc k).cell (p := ⟨gb, ob + a * 64 + j, none⟩) hbb).trans (hbc j hj)))))))
            have hpn : p < n := by omega
            have hpni : (p : Int) < (n : Int) := by omega
            have hai : (a : Int) < (ar : Int) := by omega
            have hn3 : n ≤ 3 := by have := (nP_le K).2; omega
            have H12 := Lib.hid (And.intro hst' (And.intro hod' (And.intro hne' (And.intro hb6 (And.intro hrs' (And.intro hS2 (And.intro hlo (And.intro hp (And.intro hbl hbl2)))))))))
            have har2 : ar ≤ 1024 := by
              have e1 := uA_le K p
              have e2 := uD_le K p
              have e3 := uW_le HR.out.1
              have e4 := uH_le HR.out.1
              rw [har]
              exact Nat.mul_le_mul (Nat.mul_le_mul e3.2 e1.2) (Nat.mul_le_mul e4.2 e2.2)
            clear hnn hst' hod' hne' hb6 hrs' hS2 hlo hmem hbc hbb hLp hcell s0 hgb hob har hcd hbl2 b36 hbl belc hba
            go_upto_region 20 with fail
            refine wp_region_held_drew (S := fun w' => Hid (Below wc.heap.size wc w')) (by kernel_rfl) (Lib.hid (on_drew wc)) fun s0 => ?_
            obtain ⟨wd, hwd⟩ : ∃ x, x = wc.drew := ⟨_, rfl⟩
            rw [← hwd] at s0 ⊢
            clear hwd
            obtain ⟨Z, hZ⟩ : ∃ Z, Z = (cellsI (List.replicate 64 0)).toArray := ⟨_, rfl⟩
            have hz25 : ∀ w, (zeroValue 25).run Tryd.prog w = .ok (.agg Z) w := fun w => by rw [hZ]; exact zero23 w
            have hZs : Z.size = (cellsI bl).toArray.size := by rw [hZ, List.size_toArray, List.size_toArray, cellsI_len, cellsI_len, List.length_replicate, H12.out.2.2.2.2.2.2.2.2.1]
            have HZ := Lib.hid (And.intro hZs (show (Tryd.prog.info? 25).map (·.size) = some (cellsI bl).toArray.size by rw [arr23_size, List.size_toArray, cellsI_len, H12.out.2.2.2.2.2.2.2.2.1]))
            clear hZ hZs
            refine take_to (i := 0) (v := .pointer (some ⟨g1 + 1 + 1, 0, none⟩)) rfl (by kernel_rfl) (by kernel_rfl) (by kernel_rfl) (fun _ _ _ h => h) (Or.inl ⟨by rfl, fun w' hS => by go_simp⟩) s0 (some 63) rfl ?_
            try simp only [Act.put, List.setIfInBounds_toArray, List.set_cons_zero, List.set_cons_succ]
            refine take_to (i := 1) (v := .slice (some ⟨ba, oa, none⟩) n c) rfl (by kernel_rfl) (by kernel_rfl) (by kernel_rfl) (fun _ _ _ h => h) (Or.inl ⟨by rfl, fun w' hS => by have := (HK.out w' hS.out).1; go_simp⟩) s0 (some 64) rfl ?_
            try simp only [Act.put, List.setIfInBounds_toArray, List.set_cons_zero, List.set_cons_succ]
            refine take_to (i := 2) (v := .pointer (some ⟨g6, 0, none⟩)) rfl (by kernel_rfl) (by kernel_rfl) (by kernel_rfl) (fun _ _ _ h => h) (Or.inl ⟨by rfl, fun w' hS => by go_simp⟩) s0 (some 65) rfl ?_
            try simp only [Act.put, List.setIfInBounds_toArray, List.set_cons_zero, List.set_cons_succ]
            refine take_to (i := 3) (v := .int .i64 (p : Int)) rfl (by kernel_rfl) (by kernel_rfl) (by kernel_rfl) (fun _ _ _ h => h) (Or.inl ⟨by rfl, fun w' hS => by have := (HK.out w' hS.out).2.1; go_simp⟩) s0 (some 66) rfl ?_
            try simp only [Act.put, List.setIfInBounds_toArray, List.set_cons_zero, List.set_cons_succ]
            refine take_to (i := 4) (v := .pointer (some ⟨ba, oa + p, none⟩)) rfl (by kernel_rfl) (by kernel_rfl) (by kernel_rfl) (fun _ _ _ h => h) (Or.inl ⟨by rfl, fun w' hS => by go_simp⟩) s0 (some 67) rfl ?_
            try simp only [Act.put, List.setIfInBounds_toArray, List.set_cons_zero, List.set_cons_succ]
            refine take_to (i := 5) (v := .slice (some ⟨gb, ob, none⟩) ar cdp) rfl (by kernel_rfl) (by kernel_rfl) (by kernel_rfl) (fun _ _ _ h => h) (Or.inl ⟨by rfl, fun w' hS => by have := (HK.out w' hS.out).2.2.1; go_simp⟩) s0 (some 68) rfl ?_
            try simp only [Act.put, List.setIfInBounds_toArray, List.set_cons_zero, List.set_cons_succ]
            refine take_to (i := 6) (v := .pointer (some ⟨g6, 1, none⟩)) rfl (by kernel_rfl) (by kernel_rfl) (by kernel_rfl) (fun _ _ _ h => h) (Or.inl ⟨by rfl, fun w' hS => by go_simp⟩) s0 (some 69) rfl ?_
            try simp only [Act.put, List.setIfInBounds_toArray, List.set_cons_zero, List.set_cons_succ]
            refine take_to (i := 7) (v := .int .i64 (a : Int)) rfl (by kernel_rfl) (by kernel_rfl) (by kernel_rfl) (fun _ _ _ h => h) (Or.inl ⟨by rfl, fun w' hS => by have := (HK.out w' hS.out).2.2.2.1; go_simp⟩) s0 (some 70) rfl ?_
            try simp only [Act.put, List.setIfInBounds_toArray, List.set_cons_zero, List.set_cons_succ]
            refine take_to (i := 8) (v := .pointer (some ⟨gb, ob + a * 64, none⟩)) rfl (by kernel_rfl) (by kernel_rfl) (by kernel_rfl) (fun _ _ _ h => h) (Or.inl ⟨by rfl, fun w' hS => by go_simp⟩) s0 (some 71) rfl ?_
            try simp only [Act.put, List.setIfInBounds_toArray, List.set_cons_zero, List.set_cons_succ]
            refine take_to (i := 9) (v := blkV bl) rfl (by kernel_rfl) (by kernel_rfl) (by kernel_rfl) (fun _ _ _ h => h) (yieldsIf_load7 (by rfl) 25 (.tmp 71) rfl (.pointer (some ⟨gb, ob + a * 64, none⟩)) rfl (blkV bl) (fun w' hS => (HK.out w' hS.out).2.2.2.2)) s0 (some 72) rfl ?_
            try simp only [Act.put, List.setIfInBounds_toArray, List.set_cons_zero, List.set_cons_succ]
            refine wpAnyH_ready (rs := [10]) (by kernel_rfl) (by simp) ?_
            refine AllReadyH.cons rfl (fun Kq hKq => ?_) AllReadyH.nil
            obtain ⟨g17, hg17⟩ : ∃ g17, wd.heap.size = g17 := ⟨_, rfl⟩
            obtain ⟨w13, hw13⟩ : ∃ w13, wd.alloc (.cells Z 25) = w13 := ⟨_, rfl⟩
            have b13 : Box w13 g17 25 Z := by rw [← hw13, ← hg17]; exact Box.made _ _ _
            have k13 : Below wd.heap.size wd w13 := by rw [← hw13]; exact on_alloc _ _
            go_simp
            have s1 := Lib.hid (on_trans s0.out k13)
            refine hKq.out _ _ s1 fun _ => ?_
            have hgd : wc.heap.size ≤ g17 := by have := s0.out.size; omega
            have H13 := Lib.hid (And.intro b13 hgd)
            clear hKq Kq s0 b13 k13 hw13 hg17 hgd
            refine wpAnyH_ready (rs := [11]) (by kernel_rfl) (by simp) ?_
            refine AllReadyH.cons rfl (fun Kq hKq => ?_) AllReadyH.nil
            refine step_store_row rfl 25 (.tmp 17) (.tmp 72) rfl rfl g17 (cellsI bl).toArray rfl rfl HZ.out.2 25 Z H13.out.1 HZ.out.1 (all_oneCell_toArray (cellsI_one bl)) ?_
            intro w14 b14 k14
            have s2 := Lib.hid (s1.out.trans (k14.below s1.out.size (fun i hi e => by have := H13.out.2; omega)))
            refine hKq.out _ _ s2 fun _ => ?_
            have H14 := Lib.hid (And.intro b14 H13.out.2)
            clear hKq Kq s1 b14 k14 H13 hz25
            refine wpAnyH_done (by kernel_rfl) ?_ _
            have f0 : w14.cell? ⟨g6, 0, none⟩ = some (.int .i64 (p : Int)) := (H12.out.2.2.2.1.on s2.out).cell 0
            obtain ⟨m1, hm1⟩ : ∃ m1, m1 = min p 1 := ⟨_, rfl⟩
            have hm1i : (if 1 < (p : Int) then (1 : Int) else (p : Int)) = (m1 : Int) := by rw [hm1]; split <;> omega
            have hm1l : m1 ≤ 1 := by rw [hm1]; exact Nat.min_le_right _ _
            have HM1 := Lib.hid hm1
            obtain ⟨k2, hk2⟩ : ∃ k2, k2 = 2 * m1 := ⟨_, rfl⟩
            have hk2i : (2 : Int) * (m1 : Int) = (k2 : Int) := by rw [hk2]; push_cast; rfl
            have hk2l : k2 ≤ 2 := by omega
            have HK2 := Lib.hid hk2
            clear hm1 hk2
            go_upto_region 22 with fail
            clear f0 hm1i hk2i
            have bel14 : Below w3.heap.size w3 w14 := on_trans H12.out.1.bel s2.out
            obtain ⟨bcr, eAc, hbcr, hcr⟩ := H3.out.2.2.2.2.on bel14
            subst eAc
            have hm1c : m1 < nC K := by rw [HM1.out]; exact nP_nC H12.out.2.2.2.2.2.2.2.1
            obtain ⟨A1, n1, k1, A2, n2, k2', hc1, hc2, te1, te2, hn1, hn2⟩ := hcr m1 (by have := HNC.out; omega)
            rw [← HK2.out] at hc1 hc2
            obtain ⟨k3, hk3⟩ : ∃ k3, k3 = k2 + 1 := ⟨_, rfl⟩
            have hk3i : (k2 : Int) + 1 = (k3 : Int) := by rw [hk3]; push_cast; rfl
            have hk3l : k3 ≤ 3 := by omega
            have hk3w : IntKind.i64.wrap (k3 : Int) = (k3 : Int) := wrap_small (by omega) (by omega)
            rw [← hk3] at hc2
            obtain ⟨z, hz⟩ : ∃ z, z = S2.prev.getD p 0 := ⟨_, rfl⟩
            have hpl : S2.prev.length = 3 := by
              rw [H12.out.2.2.2.2.2.1]
              split
              · rfl
              · have := HBits.out.1.2.2.len
                rw [← HBits.out.2.1] at this
                exact this
            have hcl : S2.cur.length ≤ 158000 := by
              rw [H12.out.2.2.2.2.2.1]
              split
              · exact Nat.zero_le _
              · exact HBits.out.1.1
            have hpc : w14.cell? ⟨gq', p, none⟩ = some (.int .i64 z) := by
              rw [(H12.out.1.prev.on s2.out).cell, List.getElem?_toArray, hz]
              exact cellsI_get S2.prev p (by rw [hpl]; omega)
            have hCd : Cd T p = codes (T.B m1) (T.V m1) := by rw [Cd, ← HM1.out]
            have hCa : Ca T p = codes (T.B (m1 + 2)) (T.V (m1 + 2)) := by rw [Ca, ← HM1.out]
            have hvv := H3.out.2.2.2.1 m1 hm1c
            have hb14 : Blk w14 g17 bl := ⟨H14.out.1, H12.out.2.2.2.2.2.2.2.2.1⟩
            have hgq14 : gq' < w14.heap.size := Nat.lt_of_lt_of_le H12.out.1.prev.lt s2.out.size
            have HK3 := Lib.hid (fun (w' : World) (k : Below w14.heap.size w14 w') => And.intro ((k.cell (p := ⟨bcr, k2, none⟩) hbcr).trans hc1) (And.intro ((k.cell (p := ⟨bcr, k3, none⟩) hbcr).trans hc2) (And.intro ((H12.out.2.2.2.1.on (on_trans s2.out k)).cell 0) (And.intro ((k.cell (p := ⟨gq', p, none⟩) hgq14).trans hpc) (hb14.on k).load))))
            have HC3 := Lib.hid (fun (w' : World) (k : Below w14.heap.size w14 w') => (show Calls Tryd.prog 31 #[.slice Ab' nb' cb', .slice A1 n1 k1, .slice A2 n2 k2', .int .i64 z, blkV bl] w' (RefPutB w' Ab' (Cd T p) (Ca T p) z bl S2.cur) by
              rw [hCd, hCa]
              exact refPutB_any w' A1 n1 k1 A2 n2 k2' (T.B m1) (T.V m1) (T.B (m1 + 2)) (T.V (m1 + 2)) Ab' nb' cb' S2.cur z bl hb14.len (te1.on k) hn1 hvv.1 (te2.on k) hn2 hvv.2 (H12.out.1.bits.on (on_trans s2.out k)) (by rw [← H12.out.1.bits.len]; exact hcl)))
            have hk3n : (k3 : Int) < (nc : Int) := by have := HNC.out; have := HK2.out; omega
            have hk2n' : (k2 : Int) < (nc : Int) := by omega
            have hp3i : (p : Int) < 3 := by omega
            have H15 := Lib.hid (And.intro bel14 (And.intro hz (And.intro hpl (And.intro hb14 hm1c))))
            clear hk3 bel14 hbcr hcr hc1 hc2 te1 te2 hn1 hn2 hz hpl hcl hpc hCd hCa hvv hb14 hgq14
            refine wp_region_held_drew (S := fun w' => Hid (Below w14.heap.size w14 w')) (by kernel_rfl) (Lib.hid (on_drew w14)) fun s0 => ?_
            refine take_to (i := 0) (v := .slice Ab' nb' cb') rfl (by kernel_rfl) (by kernel_rfl) (by kernel_rfl) (fun _ _ _ h => h) (Or.inl ⟨by rfl, fun w' hS => by go_simp⟩) s0 (some 78) rfl ?_
            try simp only [Act.put, List.setIfInBounds_toArray, List.set_cons_zero, List.set_cons_succ]
            refine take_to (i := 1) (v := .slice (some ⟨bcr, 0, none⟩) nc cc) rfl (by kernel_rfl) (by kernel_rfl) (by kernel_rfl) (fun _ _ _ h => h) (Or.inl ⟨by rfl, fun w' hS => by go_simp⟩) s0 (some 79) rfl ?_
            try simp only [Act.put, List.setIfInBounds_toArray, List.set_cons_zero, List.set_cons_succ]
            refine take_to (i := 2) (v := .int .i64 (k2 : Int)) rfl (by kernel_rfl) (by kernel_rfl) (by kernel_rfl) (fun _ _ _ h => h) (Or.inl ⟨by rfl, fun w' hS => by go_simp⟩) s0 (some 80) rfl ?_
            try simp only [Act.put, List.setIfInBounds_toArray, List.set_cons_zero, List.set_cons_succ]
            refine take_to (i := 3) (v := .pointer (some ⟨bcr, k2, none⟩)) rfl (by kernel_rfl) (by kernel_rfl) (by kernel_rfl) (fun _ _ _ h => h) (Or.inl ⟨by rfl, fun w' hS => by go_simp⟩) s0 (some 81) rfl ?_
            try simp only [Act.put, List.setIfInBounds_toArray, List.set_cons_zero, List.set_cons_succ]
            refine take_to (i := 4) (v := .slice A1 n1 k1) rfl (by kernel_rfl) (by kernel_rfl) (by kernel_rfl) (fun _ _ _ h => h) (Or.inl ⟨by rfl, fun w' hS => by have := (HK3.out w' hS.out).1; go_simp⟩) s0 (some 82) rfl ?_
            try simp only [Act.put, List.setIfInBounds_toArray, List.set_cons_zero, List.set_cons_succ]
            refine take_to (i := 5) (v := .slice (some ⟨bcr, 0, none⟩) nc cc) rfl (by kernel_rfl) (by kernel_rfl) (by kernel_rfl) (fun _ _ _ h => h) (Or.inl ⟨by rfl, fun w' hS => by go_simp⟩) s0 (some 83) rfl ?_
            try simp only [Act.put, List.setIfInBounds_toArray, List.set_cons_zero, List.set_cons_succ]
            refine take_to (i := 6) (v := .int .i64 (k2 : Int)) rfl (by kernel_rfl) (by kernel_rfl) (by kernel_rfl) (fun _ _ _ h => h) (Or.inl ⟨by rfl, fun w' hS => by go_simp⟩) s0 (some 84) rfl ?_
            try simp only [Act.put, List.setIfInBounds_toArray, List.set_cons_zero, List.set_cons_succ]
            refine take_to (i := 7) (v := .int .i64 (k3 : Int)) rfl (by kernel_rfl) (by kernel_rfl) (by kernel_rfl) (fun _ _ _ h => h) (Or.inl ⟨by rfl, fun w' hS => by go_simp⟩) s0 (some 85) rfl ?_
            try simp only [Act.put, List.setIfInBounds_toArray, List.set_cons_zero, List.set_cons_succ]
            refine take_to (i := 8) (v := .pointer (some ⟨bcr, k3, none⟩)) rfl (by kernel_rfl) (by kernel_rfl) (by kernel_rfl) (fun _ _ _ h => h) (Or.inl ⟨by rfl, fun w' hS => by go_simp⟩) s0 (some 86) rfl ?_
            try simp only [Act.put, List.setIfInBounds_toArray, List.set_cons_zero, List.set_cons_succ]
            refine take_to (i := 9) (v := .slice A2 n2 k2') rfl (by kernel_rfl) (by kernel_rfl) (by kernel_rfl) (fun _ _ _ h => h) (Or.inl ⟨by rfl, fun w' hS => by have := (HK3.out w' hS.out).2.1; go_simp⟩) s0 (some 87) rfl ?_
            try simp only [Act.put, List.setIfInBounds_toArray, List.set_cons_zero, List.set_cons_succ]
            refine take_to (i := 10) (v := .slice (some ⟨gq', 0, none⟩) 3 3) rfl (by kernel_rfl) (by kernel_rfl) (by kernel_rfl) (fun _ _ _ h => h) (Or.inl ⟨by rfl, fun w' hS => by go_simp⟩) s0 (some 88) rfl ?_
            try simp only [Act.put, List.setIfInBounds_toArray, List.set_cons_zero, List.set_cons_succ]
            refine take_to (i := 11) (v := .pointer (some ⟨g6, 0, none⟩)) rfl (by kernel_rfl) (by kernel_rfl) (by kernel_rfl) (fun _ _ _ h => h) (Or.inl ⟨by rfl, fun w' hS => by go_simp⟩) s0 (some 89) rfl ?_
            try simp only [Act.put, List.setIfInBounds_toArray, List.set_cons_zero, List.set_cons_succ]
            refine take_to (i := 12) (v := .int .i64 (p : Int)) rfl (by kernel_rfl) (by kernel_rfl) (by kernel_rfl) (fun _ _ _ h => h) (Or.inl ⟨by rfl, fun w' hS => by have := (HK3.out w' hS.out).2.2.1; go_simp⟩) s0 (some 90) rfl ?_
            try simp only [Act.put, List.setIfInBounds_toArray, List.set_cons_zero, List.set_cons_succ]
            refine take_to (i := 13) (v := .pointer (some ⟨gq', p, none⟩)) rfl (by kernel_rfl) (by kernel_rfl) (by kernel_rfl) (fun _ _ _ h => h) (Or.inl ⟨by rfl, fun w' hS => by go_simp⟩) s0 (some 91) rfl ?_
            try simp only [Act.put, List.setIfInBounds_toArray, List.set_cons_zero, List.set_cons_succ]
            refine take_to (i := 14) (v := .int .i64 z) rfl (by kernel_rfl) (by kernel_rfl) (by kernel_rfl) (fun _ _ _ h => h) (Or.inl ⟨by rfl, fun w' hS => by have := (HK3.out w' hS.out).2.2.2.1; go_simp⟩) s0 (some 92) rfl ?_
            try simp only [Act.put, List.setIfInBounds_toArray, List.set_cons_zero, List.set_cons_succ]
            refine take_to (i := 15) (v := blkV bl) rfl (by kernel_rfl) (by kernel_rfl) (by kernel_rfl) (fun _ _ _ h => h) (yieldsIf_load7 (by rfl) 25 (.tmp 17) rfl (.pointer (some ⟨g17, 0, none⟩)) rfl (blkV bl) (fun w' hS => (HK3.out w' hS.out).2.2.2.2)) s0 (some 93) rfl ?_
            try simp only [Act.put, List.setIfInBounds_toArray, List.set_cons_zero, List.set_cons_succ]
            obtain ⟨E, hE⟩ : ∃ E, E = putBE (Cd T p) (Ca T p) z bl := ⟨_, rfl⟩
            refine wpAnyH_ready (rs := [16]) (by kernel_rfl) (by simp) ?_
            refine AllReadyH.cons rfl (fun Kq hKq => ?_) AllReadyH.nil
            go_simp
            refine Calls.mono (HC3.out _ s0.out) ?_
            rintro e w15 ⟨A4, m4, c4, he, hI4, hA4, k15⟩
            rw [← hE] at he
            subst he
            have s1 := Lib.hid (on_trans s0.out k15)
            refine hKq.out _ _ s1 fun _ => ?_
            have H16 := Lib.hid (And.intro hI4 (And.intro hA4 (And.intro hE s0.out.size)))
            clear hKq Kq s0 hI4 hA4 k15 hE HC3 HK3
            have s0 := s1
            clear s1
            refine take_to (i := 17) (v := .tuple #[.slice A4 m4 c4, .int .i64 E]) rfl (by kernel_rfl) (by kernel_rfl) (by kernel_rfl) (fun _ _ _ h => h) (Or.inl ⟨by rfl, fun w' hS => by go_simp⟩) s0 (some 77) rfl ?_
            try simp only [Act.put, List.setIfInBounds_toArray, List.set_cons_zero, List.set_cons_succ]
            refine take_to (i := 18) (v := .slice A4 m4 c4) rfl (by kernel_rfl) (by kernel_rfl) (by kernel_rfl) (fun _ _ _ h => h) (Or.inl ⟨by rfl, fun w' hS => by go_simp⟩) s0 (some 95) rfl ?_
            try simp only [Act.put, List.setIfInBounds_toArray, List.set_cons_zero, List.set_cons_succ]
            refine take_to (i := 19) (v := .int .i64 E) rfl (by kernel_rfl) (by kernel_rfl) (by kernel_rfl) (fun _ _ _ h => h) (Or.inl ⟨by rfl, fun w' hS => by go_simp⟩) s0 (some 96) rfl ?_
            try simp only [Act.put, List.setIfInBounds_toArray, List.set_cons_zero, List.set_cons_succ]
            refine take_to (i := 20) (v := .slice A4 m4 c4) rfl (by kernel_rfl) (by kernel_rfl) (by kernel_rfl) (fun _ _ _ h => h) (Or.inl ⟨by rfl, fun w' hS => by go_simp⟩) s0 (some 19) rfl ?_
            try simp only [Act.put, List.setIfInBounds_toArray, List.set_cons_zero, List.set_cons_succ]
            refine take_to (i := 21) (v := .int .i64 E) rfl (by kernel_rfl) (by kernel_rfl) (by kernel_rfl) (fun _ _ _ h => h) (Or.inl ⟨by rfl, fun w' hS => by go_simp⟩) s0 (some 20) rfl ?_
            try simp only [Act.put, List.setIfInBounds_toArray, List.set_cons_zero, List.set_cons_succ]
            refine wpAnyH_done (by kernel_rfl) ?_ _
            have hsee : seeE T tl S2 p a = E := by rw [H16.out.2.2.1, H15.out.2.1, seeE, ← H12.out.2.2.2.2.2.2.2.2.2]
            have hpl : (runP T tl (expD (DL.take (k + 1)))) = seeP T tl S2 p a := by
              rw [expD_take HXp.out.1, runP_place (by rw [← HBits.out.2.1]; exact H7.out.1.err), ← HBits.out.2.1, ← H12.out.2.2.2.2.2.1]
            have HPl := Lib.hid (And.intro hsee hpl)
            clear hsee hpl
            by_cases hE0 : E = 0
            · subst hE0
              obtain ⟨b0, hb0⟩ : ∃ b0, b0 = bl.getD 0 0 := ⟨_, rfl⟩
              have hbx := H12.out.1.prev.on (on_trans s2.out s0.out)
              have f0 : w15.cell? ⟨g6, 0, none⟩ = some (.int .i64 (p : Int)) := (H12.out.2.2.2.1.on (on_trans s2.out s0.out)).cell 0
              have f1 : w15.cell? ⟨g17, 0, none⟩ = some (.int .i64 b0) := by
                rw [(H15.out.2.2.2.1.on s0.out).box.cell, List.getElem?_toArray, hb0]
                exact cellsI_get bl 0 (by rw [H15.out.2.2.2.1.len]; omega)
              have f2 : w15.cell? ⟨gq', p, none⟩ = some (.int .i64 z) := by
                rw [hbx.cell, List.getElem?_toArray, H15.out.2.1]
                exact cellsI_get S2.prev p (by rw [H15.out.2.2.1]; omega)
              have f3 : w15.frozen? ⟨gq', p, none⟩ = false := hbx.free p
              have H17 := Lib.hid (And.intro hbx hb0)
              clear hbx hb0
              go_wp2_with fail
              have hkk : Kept (fun i => i = gq') w15 (w15.setCell ⟨gq', p, none⟩ (.int .i64 b0)) := (Kept.refl (fun i => i = gq') w15).setCell (p := ⟨gq', p, none⟩) (fun _ => rfl) _
              have bel15 := on_trans H15.out.1 s0.out
              have hlo := H12.out.1.lo
              have e3 : runP T tl (expD (DL.take (k + 1))) = ⟨S2.out, putBL (Cd T p) (Ca T p) S2.cur z bl, S2.prev.set p b0, S2.rs, S2.err⟩ := by
                rw [HPl.out.2, seeP, if_pos HPl.out.1, ← H15.out.2.1, ← H12.out.2.2.2.2.2.2.2.2.2, ← H17.out.2]
              have hrel : ∃ (k0 rs0 : Nat) (Ab0 : Option Addr) (nb0 cb0 gq0 : Nat), k0 ≤ no ∧ Value.int .i64 ((k : Int) + 1) = .int .i64 (k0 : Int) ∧ Value.slice A4 m4 c4 = .slice Ab0 nb0 cb0 ∧ Value.slice (some ⟨gq', 0, none⟩) 3 3 = .slice (some ⟨gq0, 0, none⟩) 3 3 ∧ Value.int .i64 (rs' : Int) = .int .i64 (rs0 : Int) ∧ rs0 = (runP T tl (expD (DL.take k0))).rs ∧
                  RSt w3 (w15.setCell ⟨gq', p, none⟩ (.int .i64 b0)) T tl w3.heap.size w5.heap.size (runP T tl (expD (DL.take k0))) (.slice Av' lo' cv') Ab0 nb0 cb0 gq0 ∧ Od (w15.setCell ⟨gq', p, none⟩ (.int .i64 b0)) (some ⟨bo, 0, none⟩) no DL ∧ (∀ b off, (some ⟨bo, 0, none⟩ : Option Addr) = some ⟨b, off, none⟩ → gq0 ≠ b) := by
                refine ⟨k + 1, rs', A4, m4, c4, gq', hlt, by push_cast; rfl, rfl, rfl, rfl, by rw [e3]; exact H12.out.2.2.2.2.1, ?_, (H12.out.2.1.on (on_trans s2.out s0.out)).kept hkk (fun e => H12.out.2.2.1 e.symm), fun b off e => by cases e; exact H12.out.2.2.1⟩
                rw [e3]
                refine ⟨H12.out.1.err, bel15.trans (hkk.below bel15.size (fun i hi e => by omega)), ?_, ?_, ?_, hlo, Nat.le_trans H12.out.1.bs (Nat.le_trans (on_trans s2.out s0.out).size hkk.size), fun b off e => ?_⟩
                · exact ownsRow_block (own_on H12.out.1.out (on_trans s2.out s0.out)) (fun g cs hg hh => hkk.block g (Array.getElem?_eq_some_iff.1 hh).1 (fun e => by subst e; exact (show Box w15 g 5 cs from hh).apart H17.out.1 (by decide) rfl))
                · have hI := H16.out.1
                  refine hI.kept hkk (fun b off e e' => ?_)
                  rcases H16.out.2.1 with h | h
                  · exact H12.out.1.apart b off (h ▸ e) e'
                  · have h1 := h b off e
                    have h2 := H12.out.1.prev.lt
                    have h3 := s2.out.size
                    have h4 := H16.out.2.2.2
                    omega
                · have hp := H17.out.1.put p (.int .i64 b0)
                  rw [put_cellsI] at hp
                  exact hp
                · intro e'
                  rcases H16.out.2.1 with h | h
                  · exact H12.out.1.apart b off (h ▸ e) e'
                  · have h1 := h b off e
                    have h2 := H12.out.1.prev.lt
                    have h3 := s2.out.size
                    have h4 := H16.out.2.2.2
                    omega
              have HRel := Lib.hid hrel
              clear hrel hkk bel15 hlo e3
              go_roundw
              case rel => exact HRel.out
              case measure =>
                show no - ((k : Int) + 1).toNat < no - (k : Int).toNat
                omega
            · have hEb : (E != 0) = true := by simpa using hE0
              have HE := Lib.hid hE0
              clear hE0
              go_wp2_with fail
              go_ret2
              have herr : putE14 W H K (r : Int) T tl = E := by
                have h1 : (runP T tl (expD (DL.take (k + 1)))).err = E := by
                  rw [HPl.out.2, seeP, if_neg (by rw [HPl.out.1]; exact HE.out)]
                  exact HPl.out.1
                have h2 : expD (DL.take (k + 1)) ++ expD (DL.drop (k + 1)) = evTo (uW W K) K r (uW W K * uH H K) := by
                  rw [← H5.out.2.1, expD, expD, ← List.flatMap_append, List.take_append_drop]
                  rfl
                unfold putE14
                rw [Int.toNat_natCast, ← h2, runP_err _ (by rw [h1]; exact HE.out), h1]
              have hpr : putR W H K (r : Int) T tl = ([], E) := by rw [putR, if_pos HR.out, if_pos H3.out.2.2.2.1, if_neg (by rw [herr]; exact HE.out), herr]
              rw [hpr]
              exact ⟨by rw [← HB.out.2.2.2.2.1]; exact on_trans H3.out.2.2.1 (on_trans H15.out.1 s0.out), none, 0, 0, rfl, sl_nil _ _⟩
        · obtain rfl : k = no := by omega
          have htk : expD (DL.take k) = evTo (uW W K) K r (uW W K * uH H K) := by
            rw [List.take_of_length_le (by rw [hod.len]; exact Nat.le_refl _)]
            exact H5.out.2.1
          rw [htk] at hst HLo
          obtain ⟨S, hS⟩ : ∃ S, S = runP T tl (evTo (uW W K) K r (uW W K * uH H K)) := ⟨_, rfl⟩
          have hbits := few_bits (tl := tl) HR.out.1 hsm.1 hsm.2 H3.out.2.2.2.1 (done := evTo (uW W K) K r (uW W K * uH H K)) (q := []) (List.append_nil _)
          have hpk := hbits.2.2.packs
          have hout := hbits.2.2.fit
          have hb0 := hbits.1
          have ho0 := hbits.2.1
          rw [← hS] at hst HLo hpk hout hb0 ho0
          have HBy := Lib.hid (refBytes_scan wo Ab nb cb S.cur hst.bits hpk (by rw [← hst.bits.len]; omega))
          have H7 := Lib.hid (And.intro hst (And.intro hS (And.intro hout (And.intro hb0 ho0))))
          clear hst hod hne hrs htk hS hbits hpk hout hb0 ho0
          go_wp2_with fail
          refine Calls.mono HBy.out ?_
          rintro e w7 ⟨A3, m3, c3, l3, rfl, hsc, hsl, k7⟩
          have hln := scan_len hsc
          have H8 := Lib.hid (And.intro (H7.out.1.on k7) (And.intro hsl (And.intro (scanOf_is hsc).symm (And.intro hsl.len (And.intro (show S.out.length + m3 ≤ 90000 by have := hsl.len; have := H7.out.2.2.2.1; have := H7.out.2.2.2.2; omega) (scan_fit hsc))))))
          clear hsc hsl k7 hln HBy
          go_wp2_with (first
            | ((refine wpList_append_bb rfl (.tmp 107) (.tmp 109) rfl w5.heap.size (.slice Av lo cv) S.out.length S.out rfl H8.out.1.out A3 m3 c3 l3 rfl H8.out.2.1 (by have := H8.out.2.2.2.2.1; omega) H8.out.1.bs ?_)
               intro v9 w9 hown9 k9
               obtain ⟨A9, c9, hv9⟩ := own_slice hown9
               subst hv9
               have H9 := Lib.hid (And.intro hown9 k9)
               clear hown9 k9)
            | fail)
          go_ret2
          have hw35 : w3.heap.size ≤ w5.heap.size := H6.out.1.bel.size
          have bl9 : Below w3.heap.size w3 w9 := H8.out.1.bel.trans (H9.out.2.below H8.out.1.bel.size (fun i hi e => by have := (own_block3 H8.out.1.out e).1; omega))
          have herr : putE14 W H K (r : Int) T tl = 0 := by
            unfold putE14
            rw [Int.toNat_natCast, ← H7.out.2.1]
            exact H7.out.1.err
          have hpo : putOut W H K (r : Int) T tl = S.out ++ l3 := by
            unfold putOut
            rw [Int.toNat_natCast, ← H7.out.2.1, H8.out.2.2.1]
          have hpr : putR W H K (r : Int) T tl = (S.out ++ l3, 0) := by rw [putR, if_pos HR.out, if_pos H3.out.2.2.2.1, if_pos herr, hpo]
          rw [hpr]
          obtain ⟨A', c', e', hs'⟩ := sl_of_own H9.out.1 (H7.out.2.2.1.app H8.out.2.2.2.2.2)
          cases e'
          exact ⟨on_trans H3.out.2.2.1 bl9, _, _, _, rfl, hs'.mono (fun _ _ _ => trivial)⟩
    · have H3 := Lib.hid (And.intro (on_trans H2.out.2.2.2.1 k3) hno)
      clear k3 hno
      go_wp2_with fail
      go_ret2
      refine ⟨H3.out.1, none, 0, 0, ?_, ?_⟩
      · rw [putR, if_pos HR.out, if_neg H3.out.2]; rfl
      · rw [putR, if_pos HR.out, if_neg H3.out.2]; exact sl_nil _ _
end
end Go.Proofs.YtdnjnbfmmgkpjaaDoor
