/-
  A specification in memory; the contracts of own and copied.
-/
import Derived.Test.YthfpdebpepbejaaDoorHMath
import Derived.Deep.MidRow
import Derived.Deep.RegionHeld3
import Derived.Laws.Rows
namespace Go.Proofs.YthfpdebpepbejaaDoor
open Go.RowKit

/-- a specification's cells -/
def specC (B : List Int) (v : Value) : Array Value := (cellsI B ++ [v]).toArray
/-- a specification as a value -/
def specV (B : List Int) (v : Value) : Value := .agg (specC B v)

section
variable {B : List Int} {v : Value}
theorem specC_size (h : B.length = 16) : (specC B v).size = 17 := by simp [specC, cellsI_len, h]
theorem specC_last (h : B.length = 16) : (specC B v)[16]? = some v := by
  simp only [specC, List.getElem?_toArray]
  rw [List.getElem?_append_right (by rw [cellsI_len, h]; omega), cellsI_len, h]
  rfl
theorem specC_at (h : B.length = 16) {i : Nat} (hi : i < 16) : (specC B v)[i]? = some (.int .i64 (B.getD i 0)) := by
  simp only [specC, List.getElem?_toArray]
  rw [List.getElem?_append_left (by rw [cellsI_len, h]; omega)]
  simp [cellsI, List.getD_eq_getElem?_getD, List.getElem?_eq_getElem (show i < B.length by omega)]
theorem specC_one (hv : v.oneCell' = true) : (specC B v).all (·.oneCell') = true :=
  all_oneCell_toArray fun u hu => by
    rcases List.mem_append.1 hu with hu | hu
    · exact cellsI_one B u hu
    · simp at hu; subst hu; exact hv
end
theorem spec_size : (Tryd.prog.info? 42).map (·.size) = some 17 := by kernel_rfl
theorem arr_size : (Tryd.prog.info? 40).map (·.size) = some 16 := by kernel_rfl

theorem Box.spec_range {w : World} {g : Nat} {B : List Int} {v : Value} (h : Box w g 42 (specC B v)) (hB : B.length = 16) : w.rangeAt g 0 (cellsI B) := by
  intro j u hu
  have hj : j < (cellsI B).length := (List.getElem?_eq_some_iff.1 hu).1
  rw [cellsI_len, hB] at hj
  rw [Nat.zero_add, h.cell j, specC_at hB hj, ← hu]
  simp [cellsI, List.getD_eq_getElem?_getD, List.getElem?_eq_getElem (show j < B.length by omega)]
/-- the array of a specification is read -/
theorem load_bits {w : World} {g : Nat} {B : List Int} {v : Value} (h : Box w g 42 (specC B v)) (hB : B.length = 16) :
    (Instr.loadAt 40 (.pointer (some ⟨g, 0, none⟩))).run Tryd.prog w = .ok (.agg (cellsI B).toArray) w :=
  run_loadAt_mid w g 0 40 (cellsI B) _ (h.spec_range hB) Tryd.underlying40 rfl (by rw [arr_size, cellsI_len, hB])
/-- a specification is read whole -/
theorem load_spec {w : World} {g : Nat} {B : List Int} {v : Value} (h : Box w g 42 (specC B v)) (hB : B.length = 16) :
    (Instr.loadAt 42 (.pointer (some ⟨g, 0, none⟩))).run Tryd.prog w = .ok (specV B v) w := by
  refine run_loadAt_mid w g 0 42 (cellsI B ++ [v]) _ ?_ Tryd.underlying42 rfl (by rw [spec_size]; simp [cellsI_len, hB])
  intro j u hu
  rw [Nat.zero_add, h.cell j]
  simpa [specC] using hu
/-- a specification is written whole -/
theorem store_spec {w : World} {g : Nat} {cs : Array Value} {B : List Int} {v : Value} (h : Box w g 42 cs) (hcs : cs.size = 17) (hB : B.length = 16) (hv : v.oneCell' = true) :
    ∃ w', (Instr.storeAt 42 (.pointer (some ⟨g, 0, none⟩)) (specV B v)).run Tryd.prog w = .ok () w' ∧ Box w' g 42 (specC B v) ∧ Kept (fun i => i = g) w w' := by
  refine ⟨w.setRow g (specC B v), ?_, setRow_heap w g cs _ 42 _ h, ⟨rfl, rfl, rfl, by simp, fun k _ hk => setRow_other w g k _ hk⟩⟩
  have := run_storeVar_row (P := Tryd.prog) w g 42 42 cs (specC B v) h (by rw [spec_size, specC_size hB]) (by rw [hcs, specC_size hB]) (specC_one hv)
  simp only [Instr.storeAt, Instr.sureAddr, Sem.run_bind, Sem.run_pure, Result.andThen_ok, specV, this]
/-- a specification is built -/
theorem build_spec (w : World) {B : List Int} (A : Option Addr) (n c : Nat) (hB : B.length = 16) : (Instr.build 42 #[(0, .agg (cellsI B).toArray), (1, .slice A n c)]).run Tryd.prog w = .ok (specV B (.slice A n c)) w := by
  refine run_build w 42 _ _ ?_
  match B, hB with
  | [b0, b1, b2, b3, b4, b5, b6, b7, b8, b9, b10, b11, b12, b13, b14, b15], _ =>
    show Program.built _ _ _ = _
    kernel_rfl

theorem Il.alloc {w : World} {A : Option Addr} {n c : Nat} {xs : List Int} (h : Il w A n c xs) (o : Obj) : Il (w.alloc o) A n c xs := h.on (on_alloc w o)
theorem Il.drew {w : World} {A : Option Addr} {n c : Nat} {xs : List Int} (h : Il w A n c xs) : Il w.drew A n c xs := h.on (on_drew w)
theorem Box.bel {B : Nat} {w w' : World} {g : Nat} {t : TypeId} {cs : Array Value} (h : Box w g t cs) (k : Below B w w') (hg : g < B) : Box w' g t cs := (k.block g hg).trans h
/-- a slice of numbers that reads as xs, in whatever block -/
structure Ia (w : World) (A : Option Addr) (n c : Nat) (xs : List Int) : Prop where
  len : xs.length = n
  cap : n ≤ c
  max : c ≤ maxLen
  nil : A = none → c = 0
  at_ : 0 < n → ∃ b off, A = some ⟨b, off, none⟩ ∧ b < w.heap.size ∧ ∀ i, i < n → w.cell? ⟨b, off + i, none⟩ = some (.int .i64 (xs.getD i 0))
theorem Il.ia {w : World} {A : Option Addr} {n c : Nat} {xs : List Int} (h : Il w A n c xs) : Ia w A n c xs := ⟨h.len, h.cap, h.max, h.nil, h.at_⟩
theorem Ia.on {w w' : World} {A : Option Addr} {n c : Nat} {xs : List Int} (h : Ia w A n c xs) (k : Below w.heap.size w w') : Ia w' A n c xs :=
  ⟨h.len, h.cap, h.max, h.nil, fun h0 => by
    obtain ⟨b, off, e, hb, hc⟩ := h.at_ h0
    exact ⟨b, off, e, Nat.lt_of_lt_of_le hb k.size, fun i hi => (k.cell (p := ⟨b, off + i, none⟩) hb).trans (hc i hi)⟩⟩
theorem Ia.alloc {w : World} {A : Option Addr} {n c : Nat} {xs : List Int} (h : Ia w A n c xs) (o : Obj) : Ia (w.alloc o) A n c xs := h.on (on_alloc w o)
theorem Ia.drew {w : World} {A : Option Addr} {n c : Nat} {xs : List Int} (h : Ia w A n c xs) : Ia w.drew A n c xs := h.on (on_drew w)
theorem Ia.read {w : World} {ad : Addr} {n c : Nat} {l : List Int} (h : Ia w (some ad) n c l) : ∀ j u, (cellsI l)[j]? = some u → w.cell? (ad.add j) = some u := by
  intro j u hu
  have hj : j < l.length := by
    have := (List.getElem?_eq_some_iff.1 hu).1
    simpa [cellsI] using this
  have hl := h.len
  obtain ⟨b, off, e, _, hc⟩ := h.at_ (by omega)
  injection e with e
  subst e
  rw [plain_add, hc j (by omega)]
  simp only [cellsI, List.getElem?_map, List.getElem?_eq_getElem hj, Option.map_some, Option.some.injEq] at hu
  subst hu
  simp [List.getD_eq_getElem?_getD, List.getElem?_eq_getElem hj]
/-- what is appended to a row of one's own -/
theorem run_append_il (w : World) (ty : TypeId) (base : Nat) (v : Value) (n : Nat) (l : List Int) (hown : w.ownsRow base 3 1 v n (cellsI l)) (A : Option Addr) (m c : Nat) (r : List Int) (hr : Ia w A m c r) (h63 : n + m ≤ 1000000) (hbase : base ≤ w.heap.size) :
    ∃ v' w', (Builtin.append_ #[24, 24] ty #[v, .slice A m c]).run Tryd.prog w = .ok v' w' ∧ w'.ownsRow base 3 1 v' (n + m) (cellsI (l ++ r)) ∧ Below base w w' := by
  obtain ⟨i0, hi0, hz0, hz1, hz2⟩ := info_parts int_info
  cases A with
  | none =>
    obtain rfl : c = 0 := hr.nil rfl
    obtain rfl : m = 0 := by have := hr.cap; omega
    have hl : r = [] := List.eq_nil_of_length_eq_zero hr.len
    subst hl
    exact ⟨v, w, run_append_owned_none (P := Tryd.prog) (w := w) base 24 ty 3 i0 1 Tryd.underlying24 hi0 v n (cellsI l) hown, by simpa using hown, Below.refl _ _⟩
  | some ad =>
    obtain ⟨v', w', h0, h1, h2, _⟩ := run_append_own (P := Tryd.prog) w base 24 ty 3 i0 (.int .i64 0) 1 8 Tryd.underlying24 hi0 hz0 hz1 hz2 rfl (by omega) v n (cellsI l) hown ad m c (cellsI r) (by rw [cellsI_len, hr.len, Nat.mul_one]) hr.read (cellsI_one r) (by simp only [maxLen]; omega) (by omega) hbase
    have e : cellsI l ++ cellsI r = cellsI (l ++ r) := by simp [cellsI]
    rw [e] at h1
    exact ⟨v', w', h0, h1, (Below.refl base w).grown h2 hbase (fun j hj => (hown.lt j hj).1)⟩
theorem step_append_il {ops : Array Oper} {o : Oper} {a : Act} {w : World} {K : Act → World → Prop} {Q : Exit → Act → World → Prop} {E : Prop} (hgd : o.guard = none) (s x : Operand)
    (ho : o.op = .call { callee := .builtin .append, args := #[s, x], argTypes := #[24, 24] })
    (base : Nat) (v : Value) (n : Nat) (l : List Int) (hs : a.eval s = v) (hown : w.ownsRow base 3 1 v n (cellsI l))
    (A : Option Addr) (m c : Nat) (r : List Int) (hx : a.eval x = .slice A m c) (hr : Ia w A m c r) (h63 : n + m ≤ 1000000) (hbase : base ≤ w.heap.size) (d : Option Tmp) (hd : o.dst = d)
    (h : ∀ v' w', w'.ownsRow base 3 1 v' (n + m) (cellsI (l ++ r)) → Below base w w' → K (a.put d v') w') :
    if Region.wanted o (yielded ops a.tmps) = true then Oper.wp Tryd.prog o a w K Q else E := by
  have hw : Region.wanted o (yielded ops a.tmps) = true := by simp [Region.wanted, hgd]
  rw [if_pos hw]
  subst hd
  obtain ⟨v', w', h0, h1, h2⟩ := run_append_il w o.type base v n l hown A m c r hr h63 hbase
  unfold Oper.wp
  simp [execOp, ho, resolve, invoke, builtin, hs, hx, h0, Result.andThen]
  exact h v' w' h1 h2

def zeroC : Array Value := #[.int .i64 0, .int .i64 0, .int .i64 0, .int .i64 0, .int .i64 0, .int .i64 0, .int .i64 0, .int .i64 0, .int .i64 0, .int .i64 0, .int .i64 0, .int .i64 0, .int .i64 0, .int .i64 0, .int .i64 0, .int .i64 0, .slice none 0 0]
theorem zero25 (w : World) : (zeroValue 42).run Tryd.prog w = .ok (.agg #[.int .i64 0, .int .i64 0, .int .i64 0, .int .i64 0, .int .i64 0, .int .i64 0, .int .i64 0, .int .i64 0, .int .i64 0, .int .i64 0, .int .i64 0, .int .i64 0, .int .i64 0, .int .i64 0, .int .i64 0, .int .i64 0, .slice none 0 0]) w := by kernel_rfl
theorem zeroC_spec : zeroC = specC (List.replicate 16 0) (.slice none 0 0) := rfl

theorem Kept.frozen {S : Nat → Prop} {w w' : World} (h : Kept S w w') {b o : Nat} (hb : b < w.heap.size) (hS : ¬ S b) : w'.frozen? ⟨b, o, none⟩ = w.frozen? ⟨b, o, none⟩ := by
  unfold World.frozen?
  rw [show (⟨b, o, none⟩ : Addr).block = b from rfl, h.block b hb hS]
/-- the numbers of a row of one's own, and that they may be written -/
theorem il_of_own2 {w : World} {base : Nat} {v : Value} {n : Nat} {l : List Int} (h : w.ownsRow base 3 1 v n (cellsI l)) : ∃ A c, v = .slice A n c ∧ Il w A n c l ∧ ∀ b off, A = some ⟨b, off, none⟩ → base ≤ b ∧ b < w.heap.size ∧ ∀ i, w.frozen? ⟨b, off + i, none⟩ = false := by
  obtain ⟨A, c, hv, hi, hlo⟩ := il_of_own h
  refine ⟨A, c, hv, hi, fun b off e => ⟨hlo b off e, ?_⟩⟩
  rcases h.2 with ⟨e0, _⟩ | ⟨g, cap, cur, e0, _, hh, _⟩
  · rw [hv] at e0
    cases e0
    cases e
  · rw [hv] at e0
    cases e0
    cases e
    exact ⟨(Array.getElem?_eq_some_iff.1 hh).1, fun i => by simp [World.frozen?, hh]⟩
/-- a specification of one's own: its values lie in new memory -/
def OwnSpec (w : World) (B : List Int) (n : Nat) (V : List Int) (e : Ending) (w' : World) : Prop :=
  ∃ A c, e = .returned (specV B (.slice A n c)) ∧ Il w' A n c V ∧ (∀ b off, A = some ⟨b, off, none⟩ → w.heap.size ≤ b ∧ ∀ i, w'.frozen? ⟨b, off + i, none⟩ = false) ∧ Below w.heap.size w w'

/-- an operation is taken first, and its slot is named -/
theorem take_to {ops : Array Oper} {Q : Exit → Act → World → Prop} {md : Region.Mode} {S : World → Prop} {i : Nat} {oi : Oper} {v : Value} {fuel : Nat} {listed : Array Bool} {a : Act} {w : World} (hi : ops[i]? = some oi)
    (hs : Region.noSelect ops = true) (hf : Region.free md ops listed i = true) (hr : (Region.ready md ops listed).contains i = true)
    (hQ : ∀ c a w, Q (.panic c) (a.put oi.dst v) w → Q (.panic c) a w) (hy : YieldsIf Tryd.prog ops S oi v a) (hS : S w) (d : Option Tmp) (hd : oi.dst = d)
    (h : wpAnyH Tryd.prog md ops Q S fuel (listed.setIfInBounds i true) (a.put d v) w) : wpAnyH Tryd.prog md ops Q S (fuel + 1) listed a w :=
  wpAnyH_take hi hs hf hr hQ hy hS (by rw [hd]; exact h)
/-- a specification is stored whole -/
theorem wp_store_spec {o : Oper} {a : Act} {w : World} {K : Act → World → Prop} {Q : Exit → Act → World → Prop} (x y : Operand) (ho : o.op = .store 42 x y) (hd : o.dst = none)
    (g : Nat) (B : List Int) (v : Value) (hx : a.eval x = .pointer (some ⟨g, 0, none⟩)) (hy : a.eval y = specV B v) (old : Array Value) (hg : Box w g 42 old) (hold : old.size = 17) (hB : B.length = 16) (hv : v.oneCell' = true)
    (h : ∀ w', Box w' g 42 (specC B v) → Kept (fun i => i = g) w w' → K a w') : o.wp Tryd.prog a w K Q := by
  refine wp_store_row 42 x y ho g (specC B v) hx hy 42 old hg (by rw [spec_size, specC_size hB]) (by rw [hold, specC_size hB]) (specC_one hv) ?_
  rw [hd]
  exact h _ (setRow_heap w g old _ 42 _ hg) ⟨rfl, rfl, rfl, by simp, fun k _ hk => setRow_other w g k _ hk⟩
theorem wpList_store_spec {ops : Array Oper} {rest : List Oper} {o : Oper} {a : Act} {w : World} {Q : Exit → Act → World → Prop} (hgd : o.guard = none) (x y : Operand) (ho : o.op = .store 42 x y) (hd : o.dst = none)
    (g : Nat) (B : List Int) (v : Value) (hx : a.eval x = .pointer (some ⟨g, 0, none⟩)) (hy : a.eval y = specV B v) (old : Array Value) (hg : Box w g 42 old) (hold : old.size = 17) (hB : B.length = 16) (hv : v.oneCell' = true)
    (h : ∀ w', Box w' g 42 (specC B v) → Kept (fun i => i = g) w w' → wpList Tryd.prog ops Q rest a w') : wpList Tryd.prog ops Q (o :: rest) a w :=
  wpList_plain hgd fun _ hK => wp_store_spec x y ho hd g B v hx hy old hg hold hB hv (fun w' h1 h2 => hK _ _ (h w' h1 h2))

/-- an operation that builds may be taken first -/
theorem yieldsIf_build {ops : Array Oper} {S : World → Prop} {op : Oper} {a : Act} (hw : Region.wanted op (yielded ops a.tmps) = true) (t : TypeId) (parts : Array (Nat × Operand)) (ho : op.op = .build t parts)
    (v : Value) (ps : Array (Nat × Value)) (hps : (parts.map fun (i, x) => (i, a.eval x)) = ps) (h : ∀ w, (Instr.build t ps).run Tryd.prog w = .ok v w) : YieldsIf Tryd.prog ops S op v a :=
  .inl ⟨hw, fun w _ => by
    unfold execOp
    simp only [ho, hps, Sem.run_bind, h w, Result.andThen_ok, Sem.run_pure]⟩

end Go.Proofs.YthfpdebpepbejaaDoor
