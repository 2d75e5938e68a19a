/-
  What a disk is in memory, and what becomes of it when other memory turns.
-/
import Derived.Test.YtghnhabpcikhgaaMath
import Derived.Maps.OwnOps
import Derived.Maps.Views
import Derived.Maps.OwnSet
namespace Go.Proofs.Ytghnhabpcikhgaa
open Go.RowKit Go.Maps

/-- an element of a map as itself -/
def RV (v : Value) : Option (DataW Value × List MemPlace) := some (.held v, [])
/-- block m is a map of at most n entries that tells v -/
def Mp (w : World) (m n : Nat) (v : Nat → Value) : Prop :=
  ∃ D : DataW Value, w.ownsMap Try.prog 3 RV m n D ∧ ∀ i : Nat, i < 4611686018427387904 → D.atKey (.int .i64 i) (.held (.slice none 0 0)) = .held (v i)

theorem law3 : Keyed Try.prog 3 := int_keyed Try.underlying3
theorem zero22 (w : World) : (zeroValue 22).run Try.prog w = .ok (.slice none 0 0) w := by kernel_rfl
theorem wf_nat {i : Nat} (h : i < 4611686018427387904) : (Lit.int .i64 (i : Int)).wf = true := by
  simp [Lit.wf, IntKind.min, IntKind.max, IntKind.signed, IntKind.bits]
  omega

theorem Mp.lt {w : World} {m n : Nat} {v : Nat → Value} (h : Mp w m n v) : m < w.heap.size := by
  obtain ⟨D, h, _⟩ := h
  exact h.lt
theorem Mp.made (w : World) : Mp (w.alloc (.map #[] 0)) w.heap.size 0 (fun _ => .slice none 0 0) :=
  ⟨_, World.ownsMap_made w Try.prog 3 RV, fun _ _ => rfl⟩
theorem Mp.look {w : World} {m n : Nat} {v : Nat → Value} (h : Mp w m n v) (i : Nat) (hi : i < 4611686018427387904) : (Instr.lookup 54 (.map (some m)) (.int .i64 i) false).run Try.prog w = .ok (v i) w := by
  obtain ⟨D, h, hv⟩ := h
  obtain ⟨x, ps, hrun, hx⟩ := h.lookup law3 Try.underlying54 (zero22 w) (zd := .held (.slice none 0 0)) (zp := []) rfl (keyOf_int_mk Try.underlying3 (wf_nat hi))
  rw [hv i hi] at hx
  simp [RV] at hx
  rw [hrun, hx.1]
theorem Mp.block {w w' : World} {m n : Nat} {v : Nat → Value} (h : Mp w m n v) (k : w'.heap[m]? = w.heap[m]?) : Mp w' m n v := by
  obtain ⟨D, ⟨es, clock, hb, F, hs, hD⟩, hv⟩ := h
  exact ⟨D, ⟨es, clock, k.trans hb, F, hs, hD⟩, hv⟩
theorem Mp.is {w : World} {m n : Nat} {v : Nat → Value} (h : Mp w m n v) : ∃ es c, w.heap[m]? = some (.map es c) := by
  obtain ⟨D, ⟨es, clock, hb, F, hs, hD⟩, hv⟩ := h
  exact ⟨es, clock, hb⟩
theorem Mp.store {w : World} {m n : Nat} {v : Nat → Value} (h : Mp w m n v) (hn : n < 1000000) (i : Nat) (hi : i < 4611686018427387904) (x : Value) :
    ∃ w', (Instr.mapUpdate 54 (.map (some m)) (.int .i64 i) x).run Try.prog w = .ok () w' ∧ Mp w' m (n + 1) (fun k => if k = i then x else v k) ∧ w.grownBy w' (some m) := by
  obtain ⟨D, h, hv⟩ := h
  obtain ⟨w', hrun, ho, hg⟩ := h.update law3 Try.underlying54 (by unfold maxLen; omega) (keyOf_int_mk Try.underlying3 (wf_nat hi)) (val := x) (d := .held x) (ps := []) rfl
  refine ⟨w', hrun, ⟨_, ho, fun k hk => ?_⟩, hg⟩
  show DataW.atKey _ _ _ = .held (if k = i then x else v k)
  by_cases e : k = i
  · subst e
    rw [if_pos rfl]
    exact atKey_put_same (k := .int .i64 (k : Int)) h.isMap trivial _ _
  · rw [if_neg e, atKey_put_other (by intro h; simp at h; omega)]
    exact hv k hk

/-- a value is a slice of the bytes l, alone in a block; or (if it may) nil, and these are noughts -/
def Sec (X : Nat → Prop) (w : World) (v : Value) (l : List Int) : Prop := (v = .slice none 0 0 ∧ l = zeros) ∨ ∃ g, v = .slice (some ⟨g, 0, none⟩) 128 128 ∧ Box w g 5 (cellsOf l).toArray ∧ ¬ X g
variable {X : Nat → Prop}
theorem Sec.keep {w w' : World} {v : Value} {l : List Int} (h : Sec X w v l) (k : ∀ g cs, Box w g 5 cs → ¬ X g → Box w' g 5 cs) : Sec X w' v l := by
  rcases h with h | ⟨g, rfl, hb, hx⟩
  · exact .inl h
  · exact .inr ⟨g, rfl, k _ _ hb hx, hx⟩
/-- the cells of writes -/
def cellsQ (q : List Ent) : List Value := q.flatMap fun e => [.int .i64 (e.i : Int), .slice (some ⟨e.g, 0, none⟩) 128 128]
/-- the bytes of writes lie where they say -/
def Lie (X : Nat → Prop) (w : World) (q : List Ent) : Prop := ∀ e ∈ q, Box w e.g 5 (cellsOf e.l).toArray ∧ ¬ X e.g
theorem Lie.keep {w w' : World} {q : List Ent} (h : Lie X w q) (k : ∀ g cs, Box w g 5 cs → ¬ X g → Box w' g 5 cs) : Lie X w' q := fun e he => ⟨k _ _ (h e he).1 (h e he).2, (h e he).2⟩
/-- a value is a slice of writes -/
def Row (w : World) (v : Value) (q : List Ent) : Prop :=
  ∃ A c, v = .slice A q.length c ∧ q.length ≤ c ∧ c ≤ maxLen ∧ (A = none → c = 0) ∧
    ∀ a, A = some a → ∃ g cur, a = ⟨g, 0, none⟩ ∧ Box w g 64 cur ∧ cur.toList.take (q.length * 2) = cellsQ q
theorem Row.keep {w w' : World} {v : Value} {q : List Ent} (h : Row w v q) (k : ∀ g cs, v.ownBlock = some g → Box w g 64 cs → Box w' g 64 cs) : Row w' v q := by
  obtain ⟨A, c, rfl, h1, h2, h3, h4⟩ := h
  refine ⟨A, c, rfl, h1, h2, h3, fun a ha => ?_⟩
  obtain ⟨g, cur, rfl, hb, ht⟩ := h4 a ha
  subst ha
  exact ⟨g, cur, rfl, k _ _ rfl hb, ht⟩
/-- a value is no journal, or one with these writes -/
def Jn (X : Nat → Prop) (w : World) (J : Value) (q : List Ent) : Prop :=
  Lie X w q ∧ ((J = .pointer none ∧ q = []) ∨ ∃ j v, J = .pointer (some ⟨j, 0, none⟩) ∧ Box w j 68 #[v] ∧ Row w v q)
/-- the same, and it may be written in: its blocks are lo and beyond -/
def Jo (X : Nat → Prop) (lo : Nat) (w : World) (J : Value) (q : List Ent) : Prop :=
  Lie X w q ∧ ((J = .pointer none ∧ q = []) ∨ ∃ j v, q ≠ [] ∧ J = .pointer (some ⟨j, 0, none⟩) ∧ lo ≤ j ∧ Box w j 68 #[v] ∧ w.ownsRow lo 64 2 v q.length (cellsQ q))
theorem row_of_own {w : World} {lo : Nat} {v : Value} {q : List Ent} (h : w.ownsRow lo 64 2 v q.length (cellsQ q)) : Row w v q := by
  rcases h.2 with ⟨rfl, h0⟩ | ⟨g, cap, cur, rfl, _, hh, hn, hm, _, ht⟩
  · exact ⟨none, 0, by rw [h0], by omega, by omega, (fun _ => rfl), (fun a ha => by cases ha)⟩
  · exact ⟨_, cap, rfl, hn, hm, (fun e => by cases e), (fun a ha => by cases ha; exact ⟨g, cur, rfl, hh, ht⟩)⟩
theorem Jo.jn {w : World} {lo : Nat} {J : Value} {q : List Ent} (h : Jo X lo w J q) : Jn X w J q := by
  refine ⟨h.1, h.2.imp id ?_⟩
  rintro ⟨j, v, _, e, _, hb, ho⟩
  exact ⟨j, v, e, hb, row_of_own ho⟩

/-- the cells of a disk -/
def cellsD (cnt m : Nat) (J : Value) (np : Nat) (dead : Bool) : Array Value := #[.int .i64 (cnt : Int), .map (some m), J, .int .i64 (np : Int), .bool false, .int .i64 0, .int .u64 0, .bool dead]
/-- block d is a disk of cnt sectors; f is what was synced, p is pending; Jp: how its journal lies -/
def DiskG (X : Nat → Prop) (N : Nat) (Jp : World → Value → List Ent → Prop) (w : World) (d cnt : Nat) (f : Nat → List Int) (p : List Wr) (dead : Bool) : Prop :=
  ∃ m J n v q, Box w d 59 (cellsD cnt m J p.length dead) ∧ Mp w m n v ∧ n ≤ N ∧ (∀ i, i < cnt → Sec X w (v i) (f i)) ∧ Good cnt f ∧ Jp w J q ∧ q.map Ent.w = p ∧ GoodW cnt p ∧ p.length ≤ 1000 ∧ cnt ≤ 4096
/-- it is read -/
abbrev Disk (X : Nat → Prop) (N : Nat) := DiskG X N (Jn X)
/-- it is written -/
abbrev Own (X : Nat → Prop) (N lo : Nat) := DiskG X N (Jo X lo)
/-- nothing is pending -/
abbrev Clean (X : Nat → Prop) (N : Nat) (w : World) (d cnt : Nat) (f : Nat → List Int) (dead : Bool) : Prop := DiskG X N (fun _ J q => J = .pointer none ∧ q = []) w d cnt f [] dead

variable {N : Nat}
theorem DiskG.map {Jp Jp' : World → Value → List Ent → Prop} {w : World} {d cnt : Nat} {f : Nat → List Int} {p : List Wr} {dead : Bool} (h : DiskG X N Jp w d cnt f p dead) (k : ∀ J q, Jp w J q → Jp' w J q) : DiskG X N Jp' w d cnt f p dead := by
  obtain ⟨m, J, n, v, q, h1, h2, h3, h4, h5, h6, h7⟩ := h
  exact ⟨m, J, n, v, q, h1, h2, h3, h4, h5, k J q h6, h7⟩
theorem Own.disk {lo : Nat} {w : World} {d cnt : Nat} {f : Nat → List Int} {p : List Wr} {dead : Bool} (h : Own X N lo w d cnt f p dead) : Disk X N w d cnt f p dead := h.map fun _ _ h => h.jn
theorem Clean.own {w : World} {d cnt : Nat} {f : Nat → List Int} {dead : Bool} (h : Clean X N w d cnt f dead) (lo : Nat) : Own X N lo w d cnt f [] dead := h.map fun J q ⟨e, e2⟩ => by
  subst e2
  exact ⟨(fun e he => by cases he), .inl ⟨e, rfl⟩⟩
theorem Clean.disk {w : World} {d cnt : Nat} {f : Nat → List Int} {dead : Bool} (h : Clean X N w d cnt f dead) : Disk X N w d cnt f [] dead := (h.own 0).disk
theorem Own.clean {lo : Nat} {w : World} {d cnt : Nat} {f : Nat → List Int} {dead : Bool} (h : Own X N lo w d cnt f [] dead) : Clean X N w d cnt f dead := by
  obtain ⟨m, J, n, v, q, h1, h2, h3, h4, h5, h6, h7, h8⟩ := h
  have hq : q = [] := List.map_eq_nil_iff.1 h7
  refine ⟨m, J, n, v, q, h1, h2, h3, h4, h5, ⟨?_, hq⟩, h7, h8⟩
  rcases h6.2 with ⟨e, _⟩ | ⟨j, v, hne, _⟩
  · exact e
  · exact absurd hq hne
theorem DiskG.lt {Jp : World → Value → List Ent → Prop} {w : World} {d cnt : Nat} {f : Nat → List Int} {p : List Wr} {dead : Bool} (h : DiskG X N Jp w d cnt f p dead) : d < w.heap.size := by
  obtain ⟨m, J, n, v, q, h1, _⟩ := h
  exact h1.lt
theorem DiskG.box {Jp : World → Value → List Ent → Prop} {w : World} {d cnt : Nat} {f : Nat → List Int} {p : List Wr} {dead : Bool} (h : DiskG X N Jp w d cnt f p dead) : ∃ cs, Box w d 59 cs := by
  obtain ⟨m, J, n, v, q, h1, _⟩ := h
  exact ⟨_, h1⟩
theorem DiskG.good {Jp : World → Value → List Ent → Prop} {w : World} {d cnt : Nat} {f : Nat → List Int} {p : List Wr} {dead : Bool} (h : DiskG X N Jp w d cnt f p dead) : Good cnt f ∧ GoodW cnt p ∧ p.length ≤ 1000 ∧ cnt ≤ 4096 := by
  obtain ⟨m, J, n, v, q, h1, _, _, _, h5, _, _, h8, h9⟩ := h
  exact ⟨h5, h8, h9⟩

theorem Box.on {w w' : World} {g : Nat} {t : TypeId} {cs : Array Value} (h : Box w g t cs) (k : Below w.heap.size w w') : Box w' g t cs := (k.block g h.lt).trans h
theorem ownsRow_block {w w' : World} {lo : Nat} {e size : Nat} {v : Value} {n : Nat} {xs : List Value} (h : w.ownsRow lo e size v n xs) (k : ∀ g cs, v.ownBlock = some g → w.heap[g]? = some (.cells cs e (0, 0)) → w'.heap[g]? = w.heap[g]?) : w'.ownsRow lo e size v n xs := by
  refine ⟨h.1, h.2.imp id ?_⟩
  rintro ⟨g, cap, cur, rfl, h1, hh, h2⟩
  exact ⟨g, cap, cur, rfl, h1, (k g cur rfl hh).trans hh, h2⟩
theorem Jn.on {w w' : World} {J : Value} {q : List Ent} (h : Jn X w J q) (k : Below w.heap.size w w') : Jn X w' J q := by
  refine ⟨h.1.keep fun g cs hb _ => hb.on k, h.2.imp id ?_⟩
  rintro ⟨j, v, e, hb, hr⟩
  exact ⟨j, v, e, hb.on k, hr.keep fun g cs _ hb => hb.on k⟩
theorem Jo.on {lo : Nat} {w w' : World} {J : Value} {q : List Ent} (h : Jo X lo w J q) (k : Below w.heap.size w w') : Jo X lo w' J q := by
  refine ⟨h.1.keep fun g cs hb _ => hb.on k, h.2.imp id ?_⟩
  rintro ⟨j, v, hne, e, hl, hb, hr⟩
  exact ⟨j, v, hne, e, hl, hb.on k, ownsRow_block hr fun g cs _ hb => k.block g (Array.getElem?_eq_some_iff.1 hb).1⟩
/-- a disk is what it was when only new memory has come -/
theorem DiskG.on {Jp : World → Value → List Ent → Prop} {w w' : World} {d cnt : Nat} {f : Nat → List Int} {p : List Wr} {dead : Bool} (h : DiskG X N Jp w d cnt f p dead) (k : Below w.heap.size w w') (hJ : ∀ J q, Jp w J q → Jp w' J q) : DiskG X N Jp w' d cnt f p dead := by
  obtain ⟨m, J, n, v, q, h1, h2, h3, h4, h5, h6, h7⟩ := h
  exact ⟨m, J, n, v, q, h1.on k, h2.block (k.block m h2.lt), h3, fun i hi => (h4 i hi).keep fun g cs hb _ => hb.on k, h5, hJ J q h6, h7⟩
theorem Disk.on {w w' : World} {d cnt : Nat} {f : Nat → List Int} {p : List Wr} {dead : Bool} (h : Disk X N w d cnt f p dead) (k : Below w.heap.size w w') : Disk X N w' d cnt f p dead := DiskG.on h k fun _ _ h => h.on k
theorem Own.on {lo : Nat} {w w' : World} {d cnt : Nat} {f : Nat → List Int} {p : List Wr} {dead : Bool} (h : Own X N lo w d cnt f p dead) (k : Below w.heap.size w w') : Own X N lo w' d cnt f p dead := DiskG.on h k fun _ _ h => h.on k
theorem Clean.on {w w' : World} {d cnt : Nat} {f : Nat → List Int} {dead : Bool} (h : Clean X N w d cnt f dead) (k : Below w.heap.size w w') : Clean X N w' d cnt f dead := DiskG.on h k fun _ _ h => h

/-- block k is a journal, or a row of writes -/
def Jk (w : World) (k : Nat) : Prop := ∃ cs fr, w.heap[k]? = some (.cells cs 68 fr) ∨ w.heap[k]? = some (.cells cs 64 fr)
/-- only disk d, and journals of lo and beyond, have turned -/
def Fr (lo d : Nat) (w w' : World) : Prop := Kept (fun k => k = d ∨ (lo ≤ k ∧ Jk w k)) w w'
theorem Fr.trans {lo d : Nat} {a b c : World} (h : Fr lo d a b) (k : Fr lo d b c) : Fr lo d a c := by
  refine ⟨k.os.trans h.os, k.tape.trans h.tape, k.output.trans h.output, Nat.le_trans h.size k.size, fun i hi hn => ?_⟩
  have e := h.block i hi hn
  refine (k.block i (Nat.lt_of_lt_of_le hi h.size) (fun hs => hn ?_)).trans e
  refine hs.imp id fun ⟨h1, cs, fr, h2⟩ => ⟨h1, cs, fr, ?_⟩
  rwa [e] at h2
theorem Fr.of_on {lo d : Nat} {w w' : World} (h : Below w.heap.size w w') : Fr lo d w w' := Kept.of_below h _
theorem Fr.of_kept {lo d : Nat} {w w' : World} (h : Kept (fun k => k = d) w w') : Fr lo d w w' := h.mono fun _ _ e => .inl e
theorem Fr.below {lo d B : Nat} {w w' : World} (h : Fr lo d w w') (hB : B ≤ w.heap.size) (h1 : B ≤ lo) (h2 : B ≤ d) : Below B w w' := Kept.below h hB fun i hi => by
  rintro (rfl | ⟨h3, _⟩) <;> omega
theorem Fr.box5 {lo d g : Nat} {w w' : World} {cs cd : Array Value} (h : Fr lo d w w') (hd : Box w d 59 cd) (hb : Box w g 5 cs) : Box w' g 5 cs := by
  refine Kept.box h hb ?_
  rintro (rfl | ⟨_, c2, fr, h2⟩)
  · exact absurd rfl (hb.apart hd (by decide))
  · unfold Box at hb
    rw [hb] at h2
    rcases h2 with h2 | h2 <;> simp at h2
/-- another disk, all of whose blocks are below lo, is what it was -/
theorem Disk.beside {lo d d2 cnt : Nat} {w w' : World} {f : Nat → List Int} {p : List Wr} {dead : Bool} {cd : Array Value} (h : Disk X N w d2 cnt f p dead) (k : Fr lo d w w') (hd : Box w d 59 cd) (hne : d2 ≠ d) (hlo : w.heap.size ≤ lo) : Disk X N w' d2 cnt f p dead := by
  obtain ⟨m, J, n, v, q, h1, h2, h3, h4, h5, h6, h7⟩ := h
  have hn : ∀ i, i < w.heap.size → i ≠ d → w'.heap[i]? = w.heap[i]? := fun i hi h0 => k.block i hi (by rintro (h | ⟨h, _⟩); exact h0 h; omega)
  have hb5 : ∀ g cs, Box w g 5 cs → ¬ X g → Box w' g 5 cs := fun g cs hb _ => k.box5 hd hb
  refine ⟨m, J, n, v, q, (hn d2 h1.lt hne).trans h1, h2.block (hn m h2.lt ?_), h3, fun i hi => (h4 i hi).keep hb5, h5, ⟨h6.1.keep hb5, h6.2.imp id ?_⟩, h7⟩
  · rintro rfl
    obtain ⟨es, c, he⟩ := h2.is
    unfold Box at hd
    rw [he] at hd
    cases hd
  · rintro ⟨j, v, e, hb, hr⟩
    exact ⟨j, v, e, (hn j hb.lt (hb.apart hd (by decide))).trans hb, hr.keep fun g cs _ hb => (hn g hb.lt (hb.apart hd (by decide))).trans hb⟩

end Go.Proofs.Ytghnhabpcikhgaa
