/-
  The contract of Bytes.
-/
import Derived.Test.YtghnhabpcikhgaaSync
import Derived.Deep.RegionLaw
namespace Go.Proofs.Ytghnhabpcikhgaa
open Go.RowKit Go.Maps
variable {X : Nat → Prop} {N : Nat}

/-- what Bytes stands on in its first loop -/
structure BytesAt (w wr : World) (g T cnt : Nat) (h : Nat → List Int) : Prop where
  bel : Below w.heap.size w wr
  new : w.heap.size ≤ g
  box : Box wr g 5 (cellsOf (flat cnt h)).toArray
/-- a value of the map as a slice of bytes -/
theorem Sec.sl {w : World} {v : Value} {l : List Int} (h : Sec X w v l) (hl : l.length = 128) (hf : Fit l) : ∃ sp sl l0, v = .slice sp sl sl ∧ sl ≤ 128 ∧ Sl w (fun _ => True) sp sl sl l0 ∧ ((l0 = l ∧ sl = 128) ∨ (l0 = [] ∧ l = zeros ∧ sl = 0)) := by
  rcases h with ⟨rfl, rfl⟩ | ⟨g, rfl, hb, _⟩
  · exact ⟨none, 0, [], rfl, by omega, ⟨⟨(fun z hz => by cases hz), fun h0 => absurd h0 (by simp)⟩, rfl, Nat.le_refl _, Nat.zero_le _, fun _ => rfl⟩, .inr ⟨rfl, rfl, rfl⟩⟩
  · exact ⟨some ⟨g, 0, none⟩, 128, l, rfl, by omega, sl_of_box hb hf hl (by unfold maxLen; omega) trivial, .inl ⟨rfl, rfl⟩⟩

/-- bytes that are copied to their sector -/
theorem copied {cnt k : Nat} {h : Nat → List Int} {l l0 : List Int} {sl : Nat} (hg : Good cnt h) (hk : k < cnt) (hl : l.length = 128) (hc : (l0 = l ∧ sl = 128) ∨ (l0 = [] ∧ l = zeros ∧ sl = 0)) (hz : l = zeros → h k = zeros) : splice (cellsOf (flat cnt h)) (k * 128) (cellsOf l0) = cellsOf (flat cnt (upd h k l)) := by
  rw [splice_cells]
  congr 1
  rcases hc with ⟨rfl, _⟩ | ⟨rfl, e, _⟩
  · exact splice_flat hg hk hl
  · have : flat cnt (upd h k l) = flat cnt h := flat_congr fun i _ => by
      unfold upd
      split
      · next e1 => subst e1; rw [e, hz e]
      · rfl
    rw [this]
    simp [splice]

/-- writes tells a slice that is known ahead, as long as only new memory has come -/
theorem writes_told {w : World} {J : Value} {q : List Ent} (h : Jn X w J q) : ∃ rv, Row w rv q ∧ ∀ (w' : World) (d : Nat), Below w.heap.size w w' → w'.cell? ⟨d, 2, none⟩ = some J → w'.cell? ⟨d, 3, none⟩ = some (.int .i64 (q.length : Int)) →
    Calls Try.prog 32 #[.pointer (some ⟨d, 0, none⟩)] w' fun e w2 => e = .returned rv ∧ Below w'.heap.size w' w2 := by
  rcases h.2 with ⟨rfl, rfl⟩ | ⟨j, v, rfl, hb, A, c, rfl, h1, h2, h3, h4⟩
  · exact ⟨.slice none 0 0, ⟨none, 0, rfl, Nat.le_refl _, Nat.zero_le _, fun _ => rfl, fun a ha => by cases ha⟩, fun w' d _ c2 _ => writes_nil w' d c2⟩
  · refine ⟨.slice A q.length q.length, ⟨A, q.length, rfl, Nat.le_refl _, Nat.le_trans h1 h2, fun e => ?_, h4⟩, fun w' d hw c2 c3 => writes_row w' d j q.length A c c2 c3 ((hb.on hw).cell 0) h1⟩
    have := h3 e
    omega

/-- what a copy to a sector asks -/
theorem bytes_step {w : World} {g o T cnt k sl : Nat} {sp : Option Addr} {h : Nat → List Int} {l0 : List Int} (hS : Sl w (fun _ => True) sp sl sl l0) (hb : Box w g 5 (cellsOf (flat cnt h)).toArray) (hg : Good cnt h) (hT : T = cnt * 128) (ho : o = k * 128) (hk : k < cnt) (hsl : sl ≤ 128) :
    w.heap[g]? = some (.cells (cellsOf (flat cnt h)).toArray 5 (0, 0)) ∧ (cellsOf l0).length = Nat.min sl (T - o) ∧ (0 < (cellsOf l0).length → ∃ ad, sp = some ad ∧ ∀ j v, (cellsOf l0)[j]? = some v → w.cell? (ad.add j) = some v) ∧ o + (cellsOf l0).length ≤ (cellsOf (flat cnt h)).length := by
  have e1 : (cellsOf l0).length = sl := by rw [cellsOf_len, hS.len]
  have e2 : sl ≤ T - o := by omega
  refine ⟨hb, by rw [e1]; exact (Nat.min_eq_left e2).symm, fun h0 => ?_, by rw [e1, cellsOf_len, flat_len hg]; omega⟩
  obtain ⟨b, off, e, _⟩ := hS.bts.at_ (by rw [cellsOf_len] at h0; exact h0)
  subst e
  exact ⟨_, rfl, hS.bts.read⟩

set_option maxRecDepth 10000 in
set_option maxHeartbeats 1600000 in
theorem bytes_any {w : World} {d cnt : Nat} {f : Nat → List Int} {p : List Wr} {dead : Bool} (h : Disk X N w d cnt f p dead) :
    Calls Try.prog 17 #[.pointer (some ⟨d, 0, none⟩)] w fun e w' => ∃ g, e = .returned (.slice (some ⟨g, 0, none⟩) (cnt * 128) (cnt * 128)) ∧ w.heap.size ≤ g ∧ Box w' g 5 (cellsOf (flat cnt (after f p))).toArray ∧ Below w.heap.size w w' := by
  obtain ⟨m, J, n, v, q, hd, hm, hn, hs, hg, hJ, hq, hp, hpl, hc⟩ := h
  have hlen : p.length = q.length := by rw [← hq]; simp
  obtain ⟨np, hnp⟩ : ∃ np, np = p.length := ⟨_, rfl⟩
  rw [← hnp] at hd hpl
  obtain ⟨T, hT⟩ : ∃ T, T = cnt * 128 := ⟨_, rfl⟩
  have hT1 : (cnt : Int) * 128 = (T : Int) := by omega
  have hT2 : T ≤ 524288 := by omega
  rw [← hT]
  have c0 := cellD0 hd
  have c1 := cellD1 hd
  have ld := hd.lt
  have hmk := run_make_row' (P := Try.prog) 22 5 (.int .u8 0) 1 Try.underlying22 byte_info rfl .i64 .i64 T (by omega) (by omega)
  obtain ⟨M, hM⟩ : ∃ M, M = madeCells #[.int .u8 0] T := ⟨_, rfl⟩
  rw [← hM] at hmk
  have HH := Lib.hid (And.intro hd (And.intro hm (And.intro hn (And.intro hs (And.intro hg (And.intro hJ (And.intro hq (And.intro hp (And.intro hlen (And.intro hnp (And.intro hT hM)))))))))))
  clear hd hm hn hs hg hJ hq hp hlen hnp hT hM
  go_enter Try.func17, Try.ntmps17
  go_wp2
  obtain ⟨g, hg0⟩ : ∃ g, g = w.heap.size := ⟨_, rfl⟩
  have hst : BytesAt w (w.alloc (.cells M 5)) g T cnt (part f 0) := by
    obtain ⟨hd, hm, hn, hs, hg, hJ, hq, hp, hlen, hnp, hT, hM⟩ := HH.out
    refine ⟨on_alloc _ _, by omega, ?_⟩
    have := Box.made w 5 M
    have e : M = (cellsOf (flat cnt (part f 0))).toArray := by
      rw [hM]
      apply Array.toList_inj.1
      rw [toList_madeCells_one, part_zero, flat_zeros, hT]
      simp [cellsOf]
    rw [← e, hg0]
    exact this
  rw [← hg0]
  have HS := Lib.hid (And.intro hst hg0)
  clear hst hg0 hmk
  go_loopw [19] (fun i wr => ∃ k : Nat, k ≤ cnt ∧ i = .int .i64 k ∧ BytesAt w wr g T cnt (part f k)) (fun i _ => cnt - (intOf i).toNat)
  case atStart => exact ⟨0, Nat.zero_le _, rfl, HS.out.1⟩
  case round =>
    obtain ⟨k, hkn, rfl, hB⟩ := hrel
    by_cases hlt : k < cnt
    · obtain ⟨sp, sl, l0, hv, hsl, hS, hcase⟩ := ((HH.out.2.2.2.1 k hlt).keep fun _ _ hb _ => hb.on hB.bel).sl (HH.out.2.2.2.2.1 k hlt).1 (HH.out.2.2.2.2.1 k hlt).2
      have hmw : Mp wr m n v := HH.out.2.1.block (hB.bel.block m HH.out.2.1.lt)
      have hlook := Mp.look (w := wr.drew) hmw k (by omega)
      rw [hv] at hlook
      have c1r := cellD1 (HH.out.1.on hB.bel)
      obtain ⟨o, ho⟩ : ∃ o, o = k * 128 := ⟨_, rfl⟩
      have ho1 : (k : Int) * 128 = (o : Int) := by omega
      have ho2 : o < T := by have := HH.out.2.2.2.2.2.2.2.2.2.2.1; omega
      have ho3 : (0 : Int) ≤ (o : Int) := by omega
      have ho4 : (o : Int) ≤ (T : Int) := by omega
      have ho5 : IntKind.i64.wrap (o : Int) = (o : Int) := by simp [IntKind.wrap, IntKind.bits, IntKind.signed]; omega
      have ho6 : ¬ T = o := by omega
      have HF := Lib.hid (bytes_step (w := wr.drew) (g := g) (o := o) (T := T) (sl := sl) (l0 := l0) (sp := sp) hS.drew hB.box (show Good cnt (part f k) from good_part HH.out.2.2.2.2.1 k) HH.out.2.2.2.2.2.2.2.2.2.2.1 ho hlt hsl)
      have HR := Lib.hid (And.intro hB (And.intro hS (And.intro hcase ho)))
      clear hB hS hcase ho hmw hv
      go_wp2
      go_region_law
        ((refine step_copy_splice rfl (.tmp 25) (.tmp 31) 22 22 rfl 5 Try.underlying22 byte_size (some ⟨g, o, none⟩) sp (T - o) (T - o) sl sl rfl rfl g o (cellsOf (flat cnt (part f k))) 5 HF.out.1 (cellsOf l0) HF.out.2.1 (fun h0 => ⟨rfl, HF.out.2.2.1 h0⟩) HF.out.2.2.2 (cellsOf_one _) w.heap.size w HR.out.1.bel.drew HR.out.1.new ?_; intro w4 hg4 hb4))
      have HG := Lib.hid (And.intro hg4 hb4)
      clear hg4 hb4
      go_wp2
      go_roundw
      case rel =>
        refine ⟨k + 1, by omega, by go_num, HG.out.2, HR.out.1.new, ?_⟩
        have := HG.out.1.out
        rw [HR.out.2.2.2, copied (good_part HH.out.2.2.2.2.1 k) hlt (HH.out.2.2.2.2.1 k hlt).1 HR.out.2.2.1 (fun _ => by simp [part]), ← part_succ] at this
        exact this
      case measure => simp [intOf]; omega
    · have ek : k = cnt := by omega
      obtain ⟨hd, hm, hn, hs, hg, hJ, hq, hp, hlen, hnp, hT, hM⟩ := HH.out
      obtain ⟨rv, hrow, hcall⟩ := writes_told hJ
      have hdr := hd.on hB.bel
      have hw1 := hcall wr d hB.bel (cellD2 hdr) (by rw [← hlen, ← hnp]; exact cellD3 hdr)
      have hB0 : BytesAt w wr g T cnt (runTo (fun _ => true) f p 0) := by
        refine ⟨hB.bel, hB.new, ?_⟩
        have := hB.box
        rw [ek, flat_part] at this
        exact this
      obtain ⟨A, c, rfl, hAc⟩ : ∃ A c, rv = .slice A q.length c ∧ True := by
        obtain ⟨A, c, e, _⟩ := hrow
        exact ⟨A, c, e, trivial⟩
      rw [← hlen, ← hnp] at hw1 hrow
      have HW := Lib.hid (And.intro hw1 (And.intro hB0 hrow))
      clear hd hm hn hs hg hJ hq hp hlen hnp hT hM hdr hcall hB hw1 hB0 hrow hAc ek HS
      go_wp2_with fail
      refine HW.out.1.mono ?_
      rintro e w1 ⟨rfl, hw1⟩
      have HW1 := Lib.hid hw1
      clear hw1
      go_wp2
      go_loopw [37] (fun i wr => ∃ k : Nat, k ≤ np ∧ i = .int .i64 k ∧ BytesAt w wr g T cnt (runTo (fun _ => true) f p k)) (fun i _ => np - (intOf i).toNat)
      case atStart => exact ⟨0, Nat.zero_le _, rfl, on_trans HW.out.2.1.bel HW1.out, HW.out.2.1.new, HW.out.2.1.box.on HW1.out⟩
      case round =>
        obtain ⟨k2, hkn2, rfl, hB⟩ := hrel
        by_cases hlt2 : k2 < np
        · obtain ⟨hd, hm, hn, hs, hg, hJ, hq, hp, hlen, hnp, hT, hM⟩ := HH.out
          have hkq : k2 < q.length := by omega
          obtain ⟨e, he⟩ : ∃ e, e = q[k2] := ⟨_, rfl⟩
          have hmem : e ∈ q := by rw [he]; exact List.getElem_mem hkq
          obtain ⟨gr, c2, e2, hc2, hget⟩ := HW.out.2.2.get (by omega)
          simp at e2
          obtain ⟨rfl, hx, rfl⟩ := e2
          clear hx
          rw [← hlen, ← hnp] at hc2
          obtain ⟨ce0, ce1⟩ := hget k2 hkq
          rw [← he] at ce0 ce1
          have cr0 := (hB.bel.cell (p := ⟨gr, k2 * 2, none⟩) (World.block_lt_of_cell? w _ ce0)).trans ce0
          have cr1 := (hB.bel.cell (p := ⟨gr, k2 * 2 + 1, none⟩) (World.block_lt_of_cell? w _ ce1)).trans ce1
          have hgw := hp e.w (by rw [← hq]; exact List.mem_map_of_mem hmem)
          have hei : e.i < cnt := hgw.1
          have hel : e.l.length = 128 := hgw.2.1
          have hef : Fit e.l := hgw.2.2
          obtain ⟨wa, hwa⟩ : ∃ wa, wa = wr.alloc (.cells #[.int .i64 (e.i : Int), .slice (some ⟨e.g, 0, none⟩) 128 128] 64) := ⟨_, rfl⟩
          obtain ⟨b, hb0⟩ : ∃ b, b = wr.heap.size := ⟨_, rfl⟩
          have hba := Box.made wr 64 #[.int .i64 (e.i : Int), .slice (some ⟨e.g, 0, none⟩) 128 128]
          have bra : Below wr.heap.size wr wa := by rw [hwa]; exact on_alloc _ _
          rw [← hwa, ← hb0] at hba
          have cb0 : wa.cell? ⟨b, 0, none⟩ = some (.int .i64 (e.i : Int)) := hba.cell 0
          have cb1 : wa.cell? ⟨b, 1, none⟩ = some (.slice (some ⟨e.g, 0, none⟩) 128 128) := hba.cell 1
          have hS : Sl wa (fun _ => True) (some ⟨e.g, 0, none⟩) 128 128 e.l := sl_of_box (((hJ.1 e hmem).1.on hB.bel).on bra) hef hel (by unfold maxLen; omega) trivial
          have hgd : Good cnt (runTo (fun _ => true) f p k2) := good_runTo hg hp k2 (by omega)
          obtain ⟨o, ho⟩ : ∃ o, o = e.i * 128 := ⟨_, rfl⟩
          obtain ⟨i, hi⟩ : ∃ i, i = e.i := ⟨_, rfl⟩
          rw [← hi] at ho hei cb0 cr0
          have ho1 : (i : Int) * 128 = (o : Int) := by omega
          have ho2 : o < T := by omega
          have ho3 : (0 : Int) ≤ (o : Int) := by omega
          have ho4 : (o : Int) ≤ (T : Int) := by omega
          have ho5 : IntKind.i64.wrap (o : Int) = (o : Int) := by simp [IntKind.wrap, IntKind.bits, IntKind.signed]; omega
          have ho6 : ¬ T = o := by omega
          have hpk : p.getD k2 (0, []) = (i, e.l) := by
            rw [hi, ← hq, List.getD_eq_getElem?_getD, List.getElem?_map, List.getElem?_eq_getElem hkq, ← he]
            rfl
          have bwa : Below w.heap.size w wa := on_trans hB.bel bra
          have HF := Lib.hid (And.intro (bytes_step (w := wa.drew) (g := g) (o := o) (T := T) (sl := 128) (l0 := e.l) (sp := some ⟨e.g, 0, none⟩) hS.drew (show Box wa g 5 _ from hB.box.on bra) hgd hT ho hei (Nat.le_refl _)) (And.intro bwa (And.intro hB.new (And.intro hgd (And.intro hei (And.intro hel (And.intro hpk ho)))))))
          rw [← hi] at hwa
          clear hd hm hn hs hg hJ hq hp hlen hnp hT hM hkq he hmem hget ce0 ce1 hgw hei hel hef hba bra hS hgd ho hi hpk bwa hB
          go_wp2
          rw [← hwa, ← hb0]
          clear hwa hb0
          go_region_law
            ((refine step_copy_splice rfl (.tmp 45) (.tmp 47) 22 22 rfl 5 Try.underlying22 byte_size (some ⟨g, o, none⟩) (some ⟨e.g, 0, none⟩) (T - o) (T - o) 128 128 rfl rfl g o (cellsOf (flat cnt (runTo (fun _ => true) f p k2))) 5 HF.out.1.1 (cellsOf e.l) HF.out.1.2.1 (fun h0 => ⟨rfl, HF.out.1.2.2.1 h0⟩) HF.out.1.2.2.2 (cellsOf_one _) w.heap.size w HF.out.2.1.drew HF.out.2.2.1 ?_; intro w4 hg4 hb4))
          all_goals
            (have HG := Lib.hid (And.intro hg4 hb4)
             clear hg4 hb4
             go_wp2
             go_roundw
             case rel =>
               obtain ⟨_, _, hnew, hgd, hei, hel, hpk, ho⟩ := HF.out
               refine ⟨k2 + 1, by omega, by go_num, HG.out.2, hnew, ?_⟩
               have := HG.out.1.out
               rw [ho, splice_cells, splice_flat hgd hei hel] at this
               rw [runTo_succ, if_pos rfl, hpk]
               exact this
             case measure => simp [intOf]; omega)
        · have ek : k2 = p.length := by have := HH.out.2.2.2.2.2.2.2.2.2.1; omega
          have HB := Lib.hid (And.intro hB ek)
          clear hB ek
          go_wp2
          go_ret
          obtain ⟨hB, ek⟩ := HB.out
          refine ⟨g, rfl, hB.new, ?_, hB.bel⟩
          have := hB.box
          rw [ek] at this
          exact this

end Go.Proofs.Ytghnhabpcikhgaa
