/-
  What DiskKeeps stands on.
-/
import Derived.Test.YtghnhabpcikhgaaWritesOff
namespace Go.Proofs.Ytghnhabpcikhgaa
open Go.RowKit Go.Maps
variable {X : Nat → Prop} {N : Nat}

theorem info38 : (Try.prog.info? 38).map (fun i => (i.zero, i.size, i.bytes)) = some (some (.agg #[.int .i64 0, .int .i64 0, .int .u8 0, .bool false, .int .u64 0]), 5, 32) := by kernel_rfl

/-- only blocks of steps have turned -/
structure K38 (w w' : World) : Prop where
  size : w.heap.size ≤ w'.heap.size
  box : ∀ b t cs, Box w b t cs → t ≠ 38 → Box w' b t cs
  map : ∀ m n v, Mp w m n v → Mp w' m n v
theorem k38_of_grown {lo n : Nat} {w w' : World} {v : Value} {xs : List Value} (hr : w.ownsRow lo 38 5 v n xs) (hg : w.grownBy w' v.ownBlock) : K38 w w' := by
  refine ⟨hg.size, fun b t cs hb ht => (hg.block b hb.lt fun e => ?_).trans hb, fun m n v hm => hm.block (hg.block m hm.lt fun e => ?_)⟩
  · rcases hr.2 with ⟨rfl, _⟩ | ⟨g, cap, cur, rfl, _, hh, _⟩
    · cases e
    · simp [Value.ownBlock] at e
      subst e
      exact absurd rfl ((show Box w b 38 cur from hh).apart hb fun h => ht h.symm)
  · rcases hr.2 with ⟨rfl, _⟩ | ⟨g, cap, cur, rfl, _, hh, _⟩
    · cases e
    · simp [Value.ownBlock] at e
      subst e
      obtain ⟨es, c, he⟩ := hm.is
      rw [he] at hh
      cases hh
theorem Own.k38 {lo : Nat} {w w' : World} {d cnt : Nat} {f : Nat → List Int} {p : List Wr} {dead : Bool} (h : Own X N lo w d cnt f p dead) (k : K38 w w') : Own X N lo w' d cnt f p dead := by
  obtain ⟨m, J, n, v, q, h1, h2, h3, h4, h5, h6, h7⟩ := h
  refine ⟨m, J, n, v, q, k.box _ _ _ h1 (by decide), k.map _ _ _ h2, h3, fun i hi => (h4 i hi).keep fun b cs hb _ => k.box _ _ _ hb (by decide), h5, ⟨h6.1.keep fun b cs hb _ => k.box _ _ _ hb (by decide), h6.2.imp id ?_⟩, h7⟩
  rintro ⟨j, v, hne, e, hl, hb, hr⟩
  exact ⟨j, v, hne, e, hl, k.box _ _ _ hb (by decide), ownsRow_block hr fun b cs _ hb => (k.box b 64 cs hb (by decide)).trans (show w.heap[b]? = _ from hb).symm⟩

/-- only disk d, and what is lo and beyond, has turned -/
def Fr2 (lo d : Nat) (w w' : World) : Prop := Kept (fun k => k = d ∨ lo ≤ k) w w'
theorem Fr2.trans {lo d : Nat} {a b c : World} (h : Fr2 lo d a b) (k : Fr2 lo d b c) : Fr2 lo d a c := Kept.trans h k fun _ _ e => e
theorem Fr.fr2 {lo d : Nat} {w w' : World} (h : Fr lo d w w') : Fr2 lo d w w' := Kept.mono h fun _ _ e => e.imp id fun e => e.1
theorem Fr2.of_on {lo d : Nat} {w w' : World} (h : Below w.heap.size w w') : Fr2 lo d w w' := Kept.of_below h _
theorem fr2_of_grown {lo d n : Nat} {w w' : World} {v : Value} {xs : List Value} (hr : w.ownsRow lo 38 5 v n xs) (hg : w.grownBy w' v.ownBlock) : Fr2 lo d w w' :=
  ⟨hg.os, hg.tape, hg.output, hg.size, fun k hk hn => hg.block k hk fun e => hn (.inr (hr.lt k e.symm).1)⟩
theorem Fr2.below {lo d B : Nat} {w w' : World} (h : Fr2 lo d w w') (hB : B ≤ w.heap.size) (h1 : B ≤ lo) (h2 : B ≤ d) : Below B w w' := Kept.below h hB fun i hi => by
  rintro (rfl | h3) <;> omega
/-- another disk, all of whose blocks are below lo, is what it was -/
theorem Disk.beside2 {lo d d2 cnt : Nat} {w w' : World} {f : Nat → List Int} {p : List Wr} {dead : Bool} {cd : Array Value} (h : Disk X N w d2 cnt f p dead) (k : Fr2 lo d w w') (hd : Box w d 59 cd) (hne : d2 ≠ d) (hlo : w.heap.size ≤ lo) : Disk X N w' d2 cnt f p dead := by
  obtain ⟨m, J, n, v, q, h1, h2, h3, h4, h5, h6, h7⟩ := h
  have hn : ∀ i, i < w.heap.size → i ≠ d → w'.heap[i]? = w.heap[i]? := fun i hi h0 => k.block i hi (by rintro (h | h); exact h0 h; omega)
  have hbx : ∀ b t cs, Box w b t cs → t ≠ 59 → Box w' b t cs := fun b t cs hb ht => (hn b hb.lt (hb.apart hd ht)).trans hb
  refine ⟨m, J, n, v, q, (hn d2 h1.lt hne).trans h1, h2.block (hn m h2.lt ?_), h3, fun i hi => (h4 i hi).keep fun b cs hb _ => hbx _ _ _ hb (by decide), h5, ⟨h6.1.keep fun b cs hb _ => hbx _ _ _ hb (by decide), h6.2.imp id ?_⟩, h7⟩
  · rintro rfl
    obtain ⟨es, c, he⟩ := h2.is
    unfold Box at hd
    rw [he] at hd
    cases hd
  · rintro ⟨j, v, e, hb, hr⟩
    exact ⟨j, v, e, hbx _ _ _ hb (by decide), hr.keep fun _ _ _ hb => hbx _ _ _ hb (by decide)⟩
/-- .. where only d has turned -/
theorem Disk.aside {d d2 cnt : Nat} {w w' : World} {f : Nat → List Int} {p : List Wr} {dead : Bool} {cd : Array Value} (h : Disk X N w d2 cnt f p dead) (k : Only d w w') (hd : Box w d 59 cd) (hne : d2 ≠ d) : Disk X N w' d2 cnt f p dead :=
  h.beside2 (lo := w.heap.size) (Kept.mono k fun _ _ e => .inl e) hd hne (Nat.le_refl _)

/-- the cells of steps -/
def cellsS (vs : List Step) : List Value := vs.flatMap Step.cells
theorem cellsS_snoc (vs : List Step) (s : Step) : cellsS (vs ++ [s]) = cellsS vs ++ s.cells := by simp [cellsS]
theorem cellsS_get : ∀ (vs : List Step) (k : Nat) (s : Step), vs[k]? = some s → ∀ j, j < 5 → (cellsS vs)[k * 5 + j]? = s.cells[j]?
  | [], k, s, h, j, hj => by simp at h
  | t :: r, 0, s, h, j, hj => by
    simp at h
    subst h
    show (t.cells ++ cellsS r)[0 * 5 + j]? = _
    rw [List.getElem?_append_left (by simp [Step.cells]; omega)]
    simp
  | t :: r, k + 1, s, h, j, hj => by
    have := cellsS_get r k s (by simpa using h) j hj
    show (t.cells ++ cellsS r)[(k + 1) * 5 + j]? = _
    rw [List.getElem?_append_right (by simp [Step.cells]; omega)]
    rw [← this]
    congr 1
    simp [Step.cells]
    omega
/-- a slice of steps in a row of one's own -/
def SRow (w : World) (v : Value) (vs : List Step) : Prop :=
  ∃ A c, v = .slice A vs.length c ∧ (0 < vs.length → ∃ g cur, A = some ⟨g, 0, none⟩ ∧ Box w g 38 cur ∧ cur.toList.take (vs.length * 5) = cellsS vs)
theorem srow_of_own {w : World} {lo : Nat} {v : Value} {vs : List Step} (h : w.ownsRow lo 38 5 v vs.length (cellsS vs)) : SRow w v vs := by
  rcases h.2 with ⟨rfl, h0⟩ | ⟨g, cap, cur, rfl, _, hh, hn, hm, _, ht⟩
  · exact ⟨none, 0, by rw [h0], fun h1 => absurd h1 (by omega)⟩
  · exact ⟨_, cap, rfl, fun _ => ⟨g, cur, rfl, hh, ht⟩⟩
theorem SRow.keep {w w' : World} {v : Value} {vs : List Step} (h : SRow w v vs) (k : ∀ g cs, Box w g 38 cs → Box w' g 38 cs) : SRow w' v vs := by
  obtain ⟨A, c, e, h1⟩ := h
  refine ⟨A, c, e, fun h0 => ?_⟩
  obtain ⟨g, cur, e2, hb, ht⟩ := h1 h0
  exact ⟨g, cur, e2, k _ _ hb, ht⟩
theorem SRow.get {w : World} {v : Value} {vs : List Step} (h : SRow w v vs) {k : Nat} {s : Step} (hs : vs[k]? = some s) : ∃ g c, v = .slice (some ⟨g, 0, none⟩) vs.length c ∧ w.cell? ⟨g, k * 5, none⟩ = some (.int .i64 s.vb) ∧ w.cell? ⟨g, k * 5 + 1, none⟩ = some (.int .i64 s.i) ∧
    w.cell? ⟨g, k * 5 + 2, none⟩ = some (.int .u8 s.x) ∧ w.cell? ⟨g, k * 5 + 3, none⟩ = some (.bool s.sh) ∧ w.cell? ⟨g, k * 5 + 4, none⟩ = some (.int .u64 s.kp) := by
  obtain ⟨A, c, e, h1⟩ := h
  have hk := (List.getElem?_eq_some_iff.1 hs).1
  obtain ⟨g, cur, rfl, hb, ht⟩ := h1 (by omega)
  have key : ∀ j, j < 5 → w.cell? ⟨g, k * 5 + j, none⟩ = s.cells[j]? := fun j hj => by
    rw [hb.cell, ← cellsS_get vs k s hs j hj, ← ht, List.getElem?_take_of_lt (by omega), Array.getElem?_toList]
  exact ⟨g, c, e, key 0 (by omega), key 1 (by omega), key 2 (by omega), key 3 (by omega), key 4 (by omega)⟩

/-- a step's write -/
def Step.wr (s : Step) : Wr := (s.i.toNat, ful s.x)
/-- what DiskKeeps stands on in its second loop -/
structure Keep2 (w3 wr : World) (d cnt : Nat) (F : Nat → List Int) (v : Value) (vs : List Step) : Prop where
  own : Own (fun _ => False) 1000 w3.heap.size wr d cnt F (vs.map Step.wr) false
  fr : Fr2 w3.heap.size d w3 wr
  row : wr.ownsRow w3.heap.size 38 5 v vs.length (cellsS vs)
  ok : ∀ s ∈ vs, 0 ≤ s.i ∧ s.i < (cnt : Int) ∧ 0 ≤ s.x ∧ s.x ≤ 255
  few : vs.length ≤ 100
theorem Keep2.on {w3 wr w' : World} {d cnt : Nat} {F : Nat → List Int} {v : Value} {vs : List Step} (h : Keep2 w3 wr d cnt F v vs) (b : Below wr.heap.size wr w') : Keep2 w3 w' d cnt F v vs :=
  ⟨h.own.on b, h.fr.trans (Fr2.of_on b), ownsRow_block h.row fun g _ _ hb => b.block g (Array.getElem?_eq_some_iff.1 hb).1, h.ok, h.few⟩
theorem own_row_fr {lo d n : Nat} {w w' : World} {v : Value} {xs : List Value} {cd : Array Value} (hr : w.ownsRow lo 38 5 v n xs) (k : Fr lo d w w') (hd : Box w d 59 cd) : w'.ownsRow lo 38 5 v n xs :=
  ownsRow_block hr fun g cs _ hb => (k.boxT hd (show Box w g 38 cs from hb) (by decide) (by decide) (by decide)).trans hb.symm

/-- behind a step's write, the row of those that were kept is as it was -/
theorem Keep2.wrote {w3 wr wa w4 w5 : World} {d cnt b : Nat} {F : Nat → List Int} {v : Value} {vs : List Step} {q : List Wr} {s : Step} (h : Keep2 w3 wr d cnt F v vs) (ba : Below wr.heap.size wr wa) (b4 : Below wa.heap.size wa w4) (o5 : Own (fun _ => False) 1000 w3.heap.size w5 d cnt F q false) (f5 : Fr w3.heap.size d w4 w5)
    (hb : Box wa b 38 s.cells.toArray) : Own (fun _ => False) 1000 w3.heap.size w5 d cnt F q false ∧ Fr2 w3.heap.size d w3 w5 ∧ w5.ownsRow w3.heap.size 38 5 v vs.length (cellsS vs) ∧ Box w5 b 38 s.cells.toArray := by
  have h4 := (h.on ba).on b4
  obtain ⟨cd, hd⟩ := h4.own.box
  exact ⟨o5, h4.fr.trans f5.fr2, own_row_fr h4.row f5 hd, f5.boxT hd (hb.on b4) (by decide) (by decide) (by decide)⟩
theorem Keep2.asks {w3 w5 : World} {d cnt b : Nat} {F : Nat → List Int} {v : Value} {vs : List Step} {q : List Wr} {s : Step} (h : Own (fun _ => False) 1000 w3.heap.size w5 d cnt F q false ∧ Fr2 w3.heap.size d w3 w5 ∧ w5.ownsRow w3.heap.size 38 5 v vs.length (cellsS vs) ∧ Box w5 b 38 s.cells.toArray) : Asks b s.i s.x w5 := ⟨h.2.2.2.cell 1, h.2.2.2.cell 2⟩
theorem Keep2.appended {w3 w5 w6 : World} {d cnt : Nat} {F : Nat → List Int} {v v6 : Value} {vs : List Step} {s : Step} {o : Obj} (hf : ∀ t ∈ vs, 0 ≤ t.i ∧ t.i < (cnt : Int) ∧ 0 ≤ t.x ∧ t.x ≤ 255) (hl : vs.length + 1 ≤ 100) (hs : 0 ≤ s.i ∧ s.i < (cnt : Int)) (hx : 0 ≤ s.x ∧ s.x ≤ 255)
    (own : Own (fun _ => False) 1000 w3.heap.size w5 d cnt F (vs.map Step.wr ++ [s.wr]) false) (fr : Fr2 w3.heap.size d w3 w5) (row : w5.ownsRow w3.heap.size 38 5 v vs.length (cellsS vs)) (row6 : w6.ownsRow w3.heap.size 38 5 v6 (vs.length + 1) (cellsS vs ++ s.cells)) (hg : (w5.alloc o).grownBy w6 v.ownBlock) :
    Keep2 w3 w6 d cnt F v6 (vs ++ [s]) := by
  have ra : (w5.alloc o).ownsRow w3.heap.size 38 5 v vs.length (cellsS vs) := row.alloc o
  refine ⟨?_, (fr.trans (Fr2.of_on (on_alloc _ _))).trans (fr2_of_grown ra hg), ?_, ?_, ?_⟩
  · rw [List.map_append]
    exact (own.on (on_alloc _ _)).k38 (k38_of_grown ra hg)
  · rw [List.length_append, cellsS_snoc]
    exact row6
  · intro t ht
    rcases List.mem_append.1 ht with ht | ht
    · exact hf t ht
    · rw [List.mem_singleton.1 ht]
      exact ⟨hs.1, hs.2, hx.1, hx.2⟩
  · rw [List.length_append]
    exact hl

theorem Disk.up {w : World} {d cnt : Nat} {f : Nat → List Int} {p : List Wr} {dead : Bool} (h : Disk X N w d cnt f p dead) : Disk X (N + 1000) w d cnt f p dead := DiskG.more h (by omega)
/-- the law's four disks -/
structure D4 (X : Nat → Prop) (N : Nat) (w : World) (d da dn od cnt : Nat) (fd fa fn fo : Nat → List Int) (pd pa pn : List Wr) (dd dda ddn : Bool) : Prop where
  kd : Disk X N w d cnt fd pd dd
  ka : Disk X N w da cnt fa pa dda
  kn : Disk X N w dn cnt fn pn ddn
  ko : Disk X N w od cnt fo [] false
  ne : d ≠ da ∧ d ≠ dn ∧ d ≠ od ∧ da ≠ dn ∧ da ≠ od ∧ dn ≠ od
section
variable {w w' : World} {d da dn od cnt : Nat} {fd fa fn fo f' : Nat → List Int} {pd pa pn p' : List Wr} {dd dda ddn dead : Bool}
theorem D4.on (h : D4 X N w d da dn od cnt fd fa fn fo pd pa pn dd dda ddn) (b : Below w.heap.size w w') : D4 X N w' d da dn od cnt fd fa fn fo pd pa pn dd dda ddn := ⟨h.kd.on b, h.ka.on b, h.kn.on b, h.ko.on b, h.ne⟩
theorem D4.crashD (h : D4 X N w d da dn od cnt fd fa fn fo pd pa pn dd dda ddn) (k : Disk X (N + 1000) w' d cnt f' p' dead) (o : Only d w w') : D4 X (N + 1000) w' d da dn od cnt f' fa fn fo p' pa pn dead dda ddn := by
  obtain ⟨cd, hd⟩ := h.kd.box
  exact ⟨k, (Disk.up h.ka).aside o hd h.ne.1.symm, (Disk.up h.kn).aside o hd h.ne.2.1.symm, (Disk.up h.ko).aside o hd h.ne.2.2.1.symm, h.ne⟩
theorem D4.crashA (h : D4 X N w d da dn od cnt fd fa fn fo pd pa pn dd dda ddn) (k : Disk X (N + 1000) w' da cnt f' p' dead) (o : Only da w w') : D4 X (N + 1000) w' d da dn od cnt fd f' fn fo pd p' pn dd dead ddn := by
  obtain ⟨cd, hd⟩ := h.ka.box
  exact ⟨(Disk.up h.kd).aside o hd h.ne.1, k, (Disk.up h.kn).aside o hd h.ne.2.2.2.1.symm, (Disk.up h.ko).aside o hd h.ne.2.2.2.2.1.symm, h.ne⟩
theorem D4.crashN (h : D4 X N w d da dn od cnt fd fa fn fo pd pa pn dd dda ddn) (k : Disk X (N + 1000) w' dn cnt f' p' dead) (o : Only dn w w') : D4 X (N + 1000) w' d da dn od cnt fd fa f' fo pd pa p' dd dda dead := by
  obtain ⟨cd, hd⟩ := h.kn.box
  exact ⟨(Disk.up h.kd).aside o hd h.ne.2.1, (Disk.up h.ka).aside o hd h.ne.2.2.2.1, k, (Disk.up h.ko).aside o hd h.ne.2.2.2.2.2.symm, h.ne⟩
theorem D4.avoid {g : Nat} (h : D4 (fun _ => False) N w d da dn od cnt fd fa fn fo pd pa pn dd dda ddn) (hg : w.heap.size ≤ g) : D4 (fun k => k = g) N w d da dn od cnt fd fa fn fo pd pa pn dd dda ddn :=
  ⟨DiskG.avoid h.kd hg fun _ _ h => h, DiskG.avoid h.ka hg fun _ _ h => h, DiskG.avoid h.kn hg fun _ _ h => h, DiskG.avoid h.ko hg fun _ _ h => h, h.ne⟩
theorem D4.spared {g : Nat} {cg : Array Value} (h : D4 (fun k => k = g) N w d da dn od cnt fd fa fn fo pd pa pn dd dda ddn) (k : Kept (fun i => i = g) w w') (hg : Box w g 5 cg) : D4 (fun k => k = g) N w' d da dn od cnt fd fa fn fo pd pa pn dd dda ddn :=
  ⟨h.kd.spared k hg, h.ka.spared k hg, h.kn.spared k hg, h.ko.spared k hg, h.ne⟩
end

/-- what DiskKeeps stands on in its third loop -/
structure Keep3 (w wr : World) (d da dn od cnt g gn : Nat) (fd fa F G W : Nat → List Int) (v : Value) (vs : List Step) : Prop where
  four : D4 (fun k => k = g) 4000 wr d da dn od cnt fd fa F F [] [] [] true true true
  bel : Below w.heap.size w wr
  want : Box wr g 5 (cellsOf (flat cnt W)).toArray
  was : Box wr gn 5 (cellsOf (flat cnt G)).toArray
  ne : gn ≠ g
  new : w.heap.size ≤ g
  row : SRow wr v vs
section
variable {w wr w' : World} {d da dn od cnt g gn : Nat} {fd fa F G W W' : Nat → List Int} {v : Value} {vs : List Step}
theorem Keep3.on (h : Keep3 w wr d da dn od cnt g gn fd fa F G W v vs) (b : Below wr.heap.size wr w') : Keep3 w w' d da dn od cnt g gn fd fa F G W v vs :=
  ⟨h.four.on b, on_trans h.bel b, h.want.on b, h.was.on b, h.ne, h.new, h.row.keep fun _ _ hb => hb.on b⟩
theorem Keep3.copied (h : Keep3 w wr d da dn od cnt g gn fd fa F G W v vs) (hb : Box w' g 5 (cellsOf (flat cnt W')).toArray) (k : Kept (fun i => i = g) wr w') : Keep3 w w' d da dn od cnt g gn fd fa F G W' v vs :=
  ⟨h.four.spared k h.want, h.bel.trans (k.below h.bel.size fun i hi e => by have := h.new; omega), hb, (keep_other k h.want).2.1 _ _ h.was h.ne, h.ne, h.new, h.row.keep fun _ _ hb => (keep_other k h.want).1 _ _ _ hb (by decide)⟩
end

end Go.Proofs.Ytghnhabpcikhgaa
