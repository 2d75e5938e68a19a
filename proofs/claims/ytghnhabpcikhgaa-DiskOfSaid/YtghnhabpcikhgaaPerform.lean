/-
  The contract of perform.
-/
import Derived.Test.YtghnhabpcikhgaaClone
namespace Go.Proofs.Ytghnhabpcikhgaa
open Go.RowKit Go.Maps
variable {X : Nat → Prop} {N : Nat}

theorem row_cell {q : List Ent} {cur : Array Value} (h : cur.toList.take (q.length * 2) = cellsQ q) {k : Nat} (hk : k < q.length) : cur[k * 2]? = some (.int .i64 ((q[k]'hk).i : Int)) ∧ cur[k * 2 + 1]? = some (.slice (some ⟨(q[k]'hk).g, 0, none⟩) 128 128) := by
  have key : ∀ (q : List Ent) (k : Nat) (hk : k < q.length), (cellsQ q)[k * 2]? = some (.int .i64 ((q[k]'hk).i : Int)) ∧ (cellsQ q)[k * 2 + 1]? = some (.slice (some ⟨(q[k]'hk).g, 0, none⟩) 128 128) := by
    intro q
    induction q with
    | nil => intro k hk; cases hk
    | cons e r ih =>
      intro k hk
      cases k with
      | zero => exact ⟨rfl, rfl⟩
      | succ k =>
        have := ih k (by simpa using hk)
        have e1 : (k + 1) * 2 = k * 2 + 1 + 1 := by omega
        rw [e1]
        exact this
  have h1 : cur[k * 2]? = (cellsQ q)[k * 2]? := by rw [← h, List.getElem?_take_of_lt (by omega), Array.getElem?_toList]
  have h2 : cur[k * 2 + 1]? = (cellsQ q)[k * 2 + 1]? := by rw [← h, List.getElem?_take_of_lt (by omega), Array.getElem?_toList]
  rw [h1, h2]
  exact key q k hk
/-- the writes are read one by one -/
theorem Row.get {w : World} {v : Value} {q : List Ent} (h : Row w v q) (h0 : 0 < q.length) : ∃ g c, v = .slice (some ⟨g, 0, none⟩) q.length c ∧ q.length ≤ c ∧ ∀ k (hk : k < q.length), w.cell? ⟨g, k * 2, none⟩ = some (.int .i64 ((q[k]'hk).i : Int)) ∧ w.cell? ⟨g, k * 2 + 1, none⟩ = some (.slice (some ⟨(q[k]'hk).g, 0, none⟩) 128 128) := by
  obtain ⟨A, c, rfl, h1, h2, h3, h4⟩ := h
  cases A with
  | none => have := h3 rfl; omega
  | some a =>
    obtain ⟨g, cur, rfl, hb, ht⟩ := h4 a rfl
    refine ⟨g, c, rfl, h1, fun k hk => ?_⟩
    rw [hb.cell, hb.cell]
    exact row_cell ht hk

/-- what perform stands on behind k rounds -/
structure PerfAt (X : Nat → Prop) (w wr : World) (d cnt m n : Nat) (J : Value) (f : Nat → List Int) (keep : Nat) (p : List Wr) (q : List Ent) (dead : Bool) (rv : Value) (k : Nat) : Prop where
  only : Only d w wr
  box : Box wr d 59 (cellsD cnt m J p.length dead)
  new : w.heap.size ≤ m
  row : Row wr rv q
  lie : Lie X wr q
  map : ∃ v, Mp wr m (n + k) v ∧ ∀ i, i < cnt → Sec X wr (v i) (runTo (bitOf keep) f p k i)

theorem PerfAt.on {w wr w2 : World} {d cnt m n : Nat} {J : Value} {f : Nat → List Int} {keep : Nat} {p : List Wr} {q : List Ent} {dead : Bool} {rv : Value} {k : Nat} (h : PerfAt X w wr d cnt m n J f keep p q dead rv k) (b : Below wr.heap.size wr w2) : PerfAt X w w2 d cnt m n J f keep p q dead rv k := by
  obtain ⟨v, hm, hs⟩ := h.map
  exact ⟨h.only.trans (Only.of_on b), h.box.on b, h.new, h.row.keep fun g cs _ hb => hb.on b, h.lie.keep fun g cs hb _ => hb.on b, v, hm.block (b.block m hm.lt), fun i hi => (hs i hi).keep fun g cs hb _ => hb.on b⟩
/-- a write is passed by -/
theorem PerfAt.pass {w wr : World} {d cnt m n : Nat} {J : Value} {f : Nat → List Int} {keep : Nat} {p : List Wr} {q : List Ent} {dead : Bool} {rv : Value} {k : Nat} (h : PerfAt X w wr d cnt m n J f keep p q dead rv k) (hb : bitOf keep k = false) : PerfAt X w wr d cnt m n J f keep p q dead rv (k + 1) := by
  obtain ⟨v, ⟨D, hD, hv⟩, hs⟩ := h.map
  refine ⟨h.only, h.box, h.new, h.row, h.lie, v, ⟨D, hD.mono (by omega), hv⟩, fun i hi => ?_⟩
  rw [runTo_succ, if_neg (by rw [hb]; decide)]
  exact hs i hi
/-- a write is done -/
theorem PerfAt.done {w wr w2 : World} {d cnt m n : Nat} {J : Value} {f : Nat → List Int} {keep : Nat} {p : List Wr} {q : List Ent} {dead : Bool} {rv : Value} {k : Nat} {e : Ent} (h : PerfAt X w wr d cnt m n J f keep p q dead rv k) (hb : bitOf keep k = true) (he : q[k]? = some e) (hp : q.map Ent.w = p)
    {v : Nat → Value} (hv : Mp wr m (n + k) v) (hs : ∀ i, i < cnt → Sec X wr (v i) (runTo (bitOf keep) f p k i)) (hm : Mp w2 m (n + k + 1) (fun x => if x = e.i then .slice (some ⟨e.g, 0, none⟩) 128 128 else v x)) (hg : wr.drew.grownBy w2 (some m)) : PerfAt X w w2 d cnt m n J f keep p q dead rv (k + 1) := by
  obtain ⟨es, c, hes⟩ := hv.is
  have hcell : ∀ (i : Nat) (cs : Array Value) (t : TypeId) (fr : Nat × Nat), wr.heap[i]? = some (Obj.cells cs t fr) → w2.heap[i]? = wr.heap[i]? := fun i cs t fr hi => hg.block i (Array.getElem?_eq_some_iff.1 hi).1 fun e => by
    cases e
    rw [hes] at hi
    cases hi
  have hbox : ∀ g t cs, Box wr g t cs → Box w2 g t cs := fun g t cs hb => (hcell g cs t _ hb).trans hb
  have hk : Kept (fun x => x = m) wr w2 := ⟨hg.os, hg.tape, hg.output, hg.size, fun i hi hn => hg.block i hi fun e => hn (Option.some.inj e)⟩
  refine ⟨Kept.trans h.only hk (fun i hi e => absurd h.new (by omega)), hbox _ _ _ h.box, h.new, h.row.keep fun g cs _ hb => hbox _ _ _ hb, h.lie.keep fun g cs hb _ => hbox _ _ _ hb, _, hm, fun i hi => ?_⟩
  · rw [runTo_succ, if_pos hb]
    have e1 : p.getD k (0, []) = (e.i, e.l) := by
      rw [← hp, List.getD_eq_getElem?_getD, List.getElem?_map, he]
      rfl
    rw [e1]
    show Sec X w2 (if i = e.i then _ else _) (upd _ e.i e.l i)
    unfold upd
    split
    · exact .inr ⟨e.g, rfl, hbox _ _ _ (h.lie e (List.mem_of_getElem? he)).1, (h.lie e (List.mem_of_getElem? he)).2⟩
    · exact (hs i hi).keep fun g cs hb _ => hbox _ _ _ hb

theorem bit_and (keep r : Nat) (hk : keep < 18446744073709551616) : bits .and .u64 ((keep : Int) / 2 ^ r) 1 = ((keep / 2 ^ r % 2 : Nat) : Int) := by
  have e : ((keep : Int) / 2 ^ r) = ((keep / 2 ^ r : Nat) : Int) := by simp
  obtain ⟨y, hy⟩ : ∃ y, y = keep / 2 ^ r := ⟨_, rfl⟩
  have h2 : y ≤ keep := by rw [hy]; exact Nat.div_le_self _ _
  rw [e, ← hy, and_one_u64 _ (by omega) (by omega)]
  omega

set_option maxRecDepth 10000 in
set_option maxHeartbeats 1600000 in
theorem perform_some (w : World) (d cnt : Nat) (f : Nat → List Int) (p : List Wr) (dead : Bool) (keep : Nat) (h : Disk X N w d cnt f p dead) (hp0 : 0 < p.length) (hk : keep < 18446744073709551616) (hN : N ≤ 100000) :
    Calls Try.prog 31 #[.pointer (some ⟨d, 0, none⟩), .int .u64 (keep : Int)] w fun e w' => e = .returned (.tuple #[]) ∧ Clean X (N + 1000) w' d cnt (keeps keep f p) dead ∧ Only d w w' := by
  obtain ⟨m0, J, n, v, q, hd, hm, hn, hs, hg, hJ, hq, hp, hpl, hc⟩ := h
  have hlen : p.length = q.length := by rw [← hq]; simp
  obtain ⟨np, hnp⟩ : ∃ np, np = p.length := ⟨_, rfl⟩
  rw [← hnp] at hd hp0 hpl
  have c1 := cellD1 hd
  have c3 := cellD3 hd
  have ld := hd.lt
  have hne : ((np : Int) == 0) = false := by
    rw [beq_eq_false_iff_ne]
    omega
  have HC := Lib.hid (clone_mp m0 n v w hm)
  have HH := Lib.hid (And.intro hd (And.intro hm (And.intro hn (And.intro hs (And.intro hg (And.intro hJ (And.intro hq (And.intro hp (And.intro hlen hnp)))))))))
  clear hd hm hn hs hg hJ hq hp hlen hnp
  go_enter Try.func31, Try.ntmps31
  go_wp2_with fail
  refine HC.out.mono ?_
  rintro e w1 ⟨rfl, hm1, hw1⟩
  obtain ⟨m, hm0⟩ : ∃ m, m = w.heap.size := ⟨_, rfl⟩
  rw [← hm0] at hm1 ⊢
  have l1 : d < w1.heap.size := Nat.lt_of_lt_of_le ld hw1.size
  have d1 := HH.out.1.on hw1
  have c11 := cellD1 d1
  have f11 := d1.free 1
  have H1 := Lib.hid (And.intro hm1 (And.intro hw1 (And.intro d1 hm0)))
  clear hm1 hw1 d1 hm0 c1 c3 HC
  go_wp2_with fail
  obtain ⟨w2, hw2⟩ : ∃ w2, w2 = w1.setCell ⟨d, 1, none⟩ (.map (some m)) := ⟨_, rfl⟩
  rw [← hw2]
  obtain ⟨hd, hm, hn, hs, hg, hJ, hq, hp, hlen, hnp⟩ := HH.out
  obtain ⟨hm1, hw1, hd1, hm0⟩ := H1.out
  have o2 : Only d w1 w2 := by rw [hw2]; exact Only.put _
  have d2 : Box w2 d 59 (cellsD cnt m J np dead) := by rw [hw2]; exact hd1.put 1 (.map (some m))
  have m2 := o2.mp hd1 hm1
  have j2 := o2.jn hd1 (hJ.on hw1)
  have s2 : ∀ i, i < cnt → Sec X w2 (v i) (f i) := fun i hi => o2.sec hd1 ((hs i hi).keep fun _ _ hb _ => hb.on hw1)
  have a2 : Only d w w2 := (Only.of_on hw1).trans o2
  refine (writes_any w2 d J q (cellD2 d2) (by rw [← hlen, ← hnp]; exact cellD3 d2) j2).mono ?_
  rintro e w3 ⟨rv, rfl, hrow, hw3⟩
  have hP : PerfAt X w w3 d cnt m n J f keep p q dead rv 0 := ⟨a2.trans (Only.of_on hw3), by rw [← hnp]; exact d2.on hw3, by omega, hrow, j2.1.keep fun _ _ hb _ => hb.on hw3, v, m2.block (hw3.block m m2.lt), fun i hi => (s2 i hi).keep fun _ _ hb _ => hb.on hw3⟩
  obtain ⟨g, c, rfl, hc2, hget⟩ := hrow.get (by omega)
  rw [← hlen, ← hnp] at hc2 hP ⊢
  have HP := Lib.hid hP
  clear hd hm hn hs hg hJ hq hp hlen hnp hm1 hw1 hd1 hm0 o2 d2 m2 j2 s2 a2 hw2 hrow hw3 hP hget c11 f11 l1 ld
  go_wp2
  go_loopw [22] (fun i wr => ∃ k : Nat, k ≤ np ∧ i = .int .i64 k ∧ PerfAt X w wr d cnt m n J f keep p q dead (.slice (some ⟨g, 0, none⟩) np c) k) (fun i _ => np - (intOf i).toNat)
  case atStart => exact ⟨0, Nat.zero_le _, rfl, HP.out⟩
  case round =>
    obtain ⟨k, hkn, rfl, hP⟩ := hrel
    by_cases hlt : k < np
    · have hkq : k < q.length := by have := HH.out.2.2.2.2.2.2.2.2; omega
      obtain ⟨e, he⟩ : ∃ e, e = q[k] := ⟨_, rfl⟩
      have ce : wr.cell? ⟨g, k * 2, none⟩ = some (.int .i64 (e.i : Int)) ∧ wr.cell? ⟨g, k * 2 + 1, none⟩ = some (.slice (some ⟨e.g, 0, none⟩) 128 128) := by
        obtain ⟨g2, c2, e2, _, hget⟩ := hP.row.get (by omega)
        simp at e2
        obtain ⟨rfl, _, rfl⟩ := e2
        rw [he]
        exact hget k hkq
      obtain ⟨ce0, ce1⟩ := ce
      obtain ⟨r, hr⟩ : ∃ r, r = k % 64 := ⟨_, rfl⟩
      have hr1 : (k : Int) % 64 = (r : Int) := by omega
      have hr2 : (k : Int).tmod 64 = (r : Int) := by rw [Int.tmod_eq_emod_of_nonneg (by omega)]; exact hr1
      have hr3 : r < 64 := by omega
      have hq := bit_and keep r hk
      by_cases hb : keep / 2 ^ r % 2 = 1
      · rw [hb] at hq
        have hbit : bitOf keep k = true := by simp [bitOf, ← hr, hb]
        have hei : e.i < 4611686018427387904 := by
          have := HH.out.2.2.2.2.2.2.2.1 e.w (by rw [← HH.out.2.2.2.2.2.2.1, he]; exact List.mem_map_of_mem (List.getElem_mem hkq))
          have : e.i < cnt := this.1
          omega
        obtain ⟨wa, hwa⟩ : ∃ wa, wa = wr.alloc (.cells #[.int .i64 (e.i : Int), .slice (some ⟨e.g, 0, none⟩) 128 128] 64) := ⟨_, rfl⟩
        obtain ⟨b, hb0⟩ : ∃ b, b = wr.heap.size := ⟨_, rfl⟩
        have hba := Box.made wr 64 #[.int .i64 (e.i : Int), .slice (some ⟨e.g, 0, none⟩) 128 128]
        have hPa : PerfAt X w wa d cnt m n J f keep p q dead (.slice (some ⟨g, 0, none⟩) np c) k := by rw [hwa]; exact hP.on (on_alloc _ _)
        rw [← hwa, ← hb0] at hba
        have ca1 := cellD1 hPa.box
        have cb0 : wa.cell? ⟨b, 0, none⟩ = some (.int .i64 (e.i : Int)) := hba.cell 0
        have cb1 : wa.cell? ⟨b, 1, none⟩ = some (.slice (some ⟨e.g, 0, none⟩) 128 128) := hba.cell 1
        obtain ⟨u, hu, hsec⟩ := hPa.map
        obtain ⟨wz, hrun, hmz, hgz⟩ := Mp.store (w := wa.drew) hu (by have := HH.out.2.2.1; omega) e.i hei (.slice (some ⟨e.g, 0, none⟩) 128 128)
        have hqe : q[k]? = some e := by rw [he]; exact List.getElem?_eq_getElem hkq
        have HD := Lib.hid (hPa.done hbit hqe HH.out.2.2.2.2.2.2.1 (w2 := wz) hu hsec hmz hgz)
        clear hPa hba hmz hgz hsec hu hqe he hr hb hP hbit
        go_wp2
        rw [← hwa, ← hb0]
        clear hwa hb0
        go_region
        go_wp2
        go_roundw
        case rel => exact ⟨k + 1, by omega, by go_num, HD.out⟩
        case measure => simp [intOf]; omega
      · have hb0 : keep / 2 ^ r % 2 = 0 := by omega
        rw [hb0] at hq
        have hbit : bitOf keep k = false := by simp [bitOf, ← hr, hb]
        have HR := Lib.hid (And.intro hP hbit)
        clear hP hbit hb hb0 he hr
        go_wp2
        go_roundw
        case rel =>
          refine ⟨k + 1, by omega, by go_num, ?_⟩
          exact (HR.out.1.pass HR.out.2).on (on_alloc _ _)
        case measure => simp [intOf]; omega
    · have c2 := cellD2 hP.box
      have c3 := cellD3 hP.box
      have f2 := hP.box.free 2
      have f3 := hP.box.free 3
      have ek : k = p.length := by have := HH.out.2.2.2.2.2.2.2.2; omega
      have HR := Lib.hid (And.intro hP ek)
      clear hP ek
      go_wp2
      go_end0
      obtain ⟨hP, ek⟩ := HR.out
      obtain ⟨hd, hm, hn, hs, hg, hJ, hq, hp, hlen, hnp⟩ := HH.out
      obtain ⟨u, hu, hsec⟩ := hP.map
      have o1 : Only d wr ((wr.setCell ⟨d, 2, none⟩ (.pointer none)).setCell ⟨d, 3, none⟩ (.int .i64 0)) := (Only.put _).trans (Only.put _)
      refine ⟨rfl, ⟨m, .pointer none, n + k, u, [], (hP.box.put 2 (.pointer none)).put 3 (.int .i64 0), o1.mp hP.box hu, ?_, fun i hi => ?_, good_keeps hg hp, ⟨rfl, rfl⟩, rfl, (fun x hx => by cases hx), Nat.zero_le _, hc⟩, hP.only.trans o1⟩
      · omega
      · have := hsec i hi
        rw [ek] at this
        exact o1.sec hP.box this

end Go.Proofs.Ytghnhabpcikhgaa
