/-
  What the laws on writes have in common: lists of steps, a write of a step, a copy into bytes of one's own.
-/
import Derived.Test.YtghnhabpcikhgaaFrame
namespace Go.Proofs.Ytghnhabpcikhgaa
open Go.RowKit Go.Maps
variable {X : Nat → Prop} {N : Nat}

theorem Fr.boxT {lo d g t : Nat} {w w' : World} {cs cd : Array Value} (h : Fr lo d w w') (hd : Box w d 59 cd) (hb : Box w g t cs) (h1 : t ≠ 59) (h2 : t ≠ 68) (h3 : t ≠ 64) : Box w' g t cs := by
  refine Kept.box h hb ?_
  rintro (rfl | ⟨_, c2, fr, e⟩)
  · exact absurd rfl (hb.apart hd h1)
  · unfold Box at hb
    rw [hb] at e
    rcases e with e | e
    · simp at e; exact h2 e.2.1
    · simp at e; exact h3 e.2.1

/-- a slice of steps -/
structure Dos (w : World) (A : Option Addr) (n : Nat) (ks : List Step) : Prop where
  len : ks.length = n
  fit : ∀ s ∈ ks, 0 ≤ s.x ∧ s.x ≤ 255
  at_ : 0 < n → ∃ b off, A = some ⟨b, off, none⟩ ∧ b < w.heap.size ∧ ∀ k (hk : k < ks.length), w.cell? ⟨b, off + k * 5, none⟩ = some (.int .i64 ks[k].vb) ∧ w.cell? ⟨b, off + k * 5 + 1, none⟩ = some (.int .i64 ks[k].i) ∧
    w.cell? ⟨b, off + k * 5 + 2, none⟩ = some (.int .u8 ks[k].x) ∧ w.cell? ⟨b, off + k * 5 + 3, none⟩ = some (.bool ks[k].sh) ∧ w.cell? ⟨b, off + k * 5 + 4, none⟩ = some (.int .u64 ks[k].kp)

/-- the write of a step, if it is one -/
def wrOf (cnt : Nat) (s : Step) : List Wr := if 0 ≤ s.i ∧ s.i < (cnt : Int) then [(s.i.toNat, ful s.x)] else []
/-- the writes of steps -/
def wrs (cnt : Nat) (ks : List Step) : List Wr := ks.flatMap (wrOf cnt)
theorem wrOf_len (cnt : Nat) (s : Step) : (wrOf cnt s).length ≤ 1 := by unfold wrOf; split <;> simp
theorem wrs_len (cnt : Nat) (ks : List Step) : (wrs cnt ks).length ≤ ks.length := by
  induction ks with
  | nil => exact Nat.le_refl _
  | cons s r ih =>
    have := wrOf_len cnt s
    simp only [wrs, List.flatMap_cons, List.length_append, List.length_cons] at ih ⊢
    omega
theorem wrs_more (cnt : Nat) (ks : List Step) (k : Nat) (h : k < ks.length) : wrs cnt (ks.take (k + 1)) = wrs cnt (ks.take k) ++ wrOf cnt ks[k] := by
  unfold wrs
  rw [List.take_succ_eq_append_getElem h, List.flatMap_append]
  simp
/-- what is told of a step's write -/
def wrE (cnt : Nat) (s : Step) : Int := if 0 ≤ s.i ∧ s.i < (cnt : Int) then 0 else 11

theorem write_step {lo : Nat} {w : World} {d cnt g : Nat} {f : Nat → List Int} {p : List Wr} {s : Step} (h : Own X N lo w d cnt f p false) (hlo : lo ≤ w.heap.size) (hpl : p.length < 1000) (hb : Box w g 5 (cellsOf (ful s.x)).toArray) (hx0 : 0 ≤ s.x) (hx1 : s.x ≤ 255) (hX : ∀ k, w.heap.size ≤ k → ¬ X k) :
    Calls Try.prog 13 #[.pointer (some ⟨d, 0, none⟩), .int .i64 s.i, .slice (some ⟨g, 0, none⟩) 128 128] w fun e w' => e = .returned (.int .i64 (wrE cnt s)) ∧ Own X N lo w' d cnt f (p ++ wrOf cnt s) false ∧ Fr lo d w w' := by
  by_cases hi : 0 ≤ s.i ∧ s.i < (cnt : Int)
  · obtain ⟨i, hi2⟩ : ∃ i : Nat, s.i = (i : Int) := ⟨s.i.toNat, by omega⟩
    have e1 : wrE cnt s = 0 := by simp [wrE, hi]
    have e2 : wrOf cnt s = [(i, ful s.x)] := by
      unfold wrOf
      rw [if_pos hi, hi2]
      rfl
    rw [e1, e2, hi2]
    exact write_ok h hlo hpl (ful_str (K := fun _ => True) hb (ful_len _) (ful_fit hx0 hx1) trivial) (by omega) hX
  · have e1 : wrE cnt s = 11 := by simp only [wrE, if_neg hi]
    have e2 : wrOf cnt s = [] := by simp only [wrOf, if_neg hi]
    rw [e1, e2, List.append_nil]
    refine (write_off h (by omega)).mono ?_
    rintro e w' ⟨rfl, rfl⟩
    exact ⟨rfl, h, Fr.of_on (Below.refl _ _)⟩

/-- a disk that has no bytes in block g has none there when other memory has come, or when that block is written -/
theorem DiskG.avoid {Jp : World → Value → List Ent → Prop} {w : World} {d cnt g : Nat} {f : Nat → List Int} {p : List Wr} {dead : Bool} (h : DiskG (fun _ => False) N Jp w d cnt f p dead) (hg : w.heap.size ≤ g) (hJ : ∀ J q, Jp w J q → Jn (fun _ => False) w J q) : Disk (fun k => k = g) N w d cnt f p dead := by
  obtain ⟨m, J, n, v, q, h1, h2, h3, h4, h5, h6, h7⟩ := h
  refine ⟨m, J, n, v, q, h1, h2, h3, fun i hi => ?_, h5, ⟨fun e he => ?_, (hJ J q h6).2⟩, h7⟩
  · rcases h4 i hi with h | ⟨b, e, hb, _⟩
    · exact .inl h
    · exact .inr ⟨b, e, hb, by have := hb.lt; omega⟩
  · have hb := ((hJ J q h6).1 e he).1
    exact ⟨hb, by have := hb.lt; omega⟩
theorem Own.avoid {lo : Nat} {w : World} {d cnt g : Nat} {f : Nat → List Int} {p : List Wr} {dead : Bool} (h : Own (fun _ => False) N lo w d cnt f p dead) (hg : w.heap.size ≤ g) : Own (fun k => k = g) N lo w d cnt f p dead := by
  obtain ⟨m, J, n, v, q, h1, h2, h3, h4, h5, h6, h7⟩ := h
  refine ⟨m, J, n, v, q, h1, h2, h3, fun i hi => ?_, h5, ⟨fun e he => ?_, h6.2⟩, h7⟩
  · rcases h4 i hi with h | ⟨b, e, hb, _⟩
    · exact .inl h
    · exact .inr ⟨b, e, hb, by have := hb.lt; omega⟩
  · have hb := (h6.1 e he).1
    exact ⟨hb, by have := hb.lt; omega⟩
/-- only bytes have turned that are no disk's -/
theorem keep_other {g : Nat} {w w' : World} {cg : Array Value} (k : Kept (fun i => i = g) w w') (hg : Box w g 5 cg) : (∀ b t cs, Box w b t cs → t ≠ 5 → Box w' b t cs) ∧ (∀ b cs, Box w b 5 cs → ¬ b = g → Box w' b 5 cs) ∧ ∀ m n v, Mp w m n v → Mp w' m n v := by
  refine ⟨fun b t cs hb ht => Kept.box k hb fun e => ?_, fun b cs hb hn => Kept.box k hb hn, fun m n v hm => hm.block (k.block m hm.lt fun e => ?_)⟩
  · subst e
    exact absurd rfl (hb.apart hg ht)
  · subst e
    obtain ⟨es, c, he⟩ := hm.is
    unfold Box at hg
    rw [he] at hg
    cases hg
theorem Disk.spared {g : Nat} {w w' : World} {d cnt : Nat} {f : Nat → List Int} {p : List Wr} {dead : Bool} {cg : Array Value} (h : Disk (fun i => i = g) N w d cnt f p dead) (k : Kept (fun i => i = g) w w') (hg : Box w g 5 cg) : Disk (fun i => i = g) N w' d cnt f p dead := by
  obtain ⟨m, J, n, v, q, h1, h2, h3, h4, h5, h6, h7⟩ := h
  obtain ⟨k1, k2, k3⟩ := keep_other k hg
  refine ⟨m, J, n, v, q, k1 _ _ _ h1 (by decide), k3 _ _ _ h2, h3, fun i hi => (h4 i hi).keep fun b cs hb hx => k2 _ _ hb hx, h5, ⟨h6.1.keep fun b cs hb hx => k2 _ _ hb hx, h6.2.imp id ?_⟩, h7⟩
  rintro ⟨j, v, e, hb, hr⟩
  exact ⟨j, v, e, k1 _ _ _ hb (by decide), hr.keep fun _ _ _ hb => k1 _ _ _ hb (by decide)⟩
theorem Own.spared {lo g : Nat} {w w' : World} {d cnt : Nat} {f : Nat → List Int} {p : List Wr} {dead : Bool} {cg : Array Value} (h : Own (fun i => i = g) N lo w d cnt f p dead) (k : Kept (fun i => i = g) w w') (hg : Box w g 5 cg) : Own (fun i => i = g) N lo w' d cnt f p dead := by
  obtain ⟨m, J, n, v, q, h1, h2, h3, h4, h5, h6, h7⟩ := h
  obtain ⟨k1, k2, k3⟩ := keep_other k hg
  refine ⟨m, J, n, v, q, k1 _ _ _ h1 (by decide), k3 _ _ _ h2, h3, fun i hi => (h4 i hi).keep fun b cs hb hx => k2 _ _ hb hx, h5, ⟨h6.1.keep fun b cs hb hx => k2 _ _ hb hx, h6.2.imp id ?_⟩, h7⟩
  rintro ⟨j, v, hne, e, hl, hb, hr⟩
  exact ⟨j, v, hne, e, hl, k1 _ _ _ hb (by decide), ownsRow_block hr fun b cs _ hb => (k1 b 64 cs hb (by decide)).trans (show w.heap[b]? = _ from hb).symm⟩

/-- a copy into a block that is known whole: only that block turns -/
theorem step_copy_only {ops : Array Oper} {o : Oper} {a : Act} {w : World} {K : Act → World → Prop} {Q : Exit → Act → World → Prop} {E : Prop} (hgd : o.guard = none) (d s : Operand)
    (ho : o.op = .call { callee := .builtin .copy, args := #[d, s], argTypes := #[22, 22] })
    (g off dLen dCap sLen sCap : Nat) (ad : Addr) (hd : a.eval d = .slice (some ⟨g, off, none⟩) dLen dCap) (hs : a.eval s = .slice (some ad) sLen sCap)
    (l cs : List Int) (hg : Box w g 5 (cellsOf l).toArray) (hn : cs.length = Nat.min sLen dLen) (hsrc : ∀ j v, (cellsOf cs)[j]? = some v → w.cell? (ad.add j) = some v) (hfit : off + cs.length ≤ l.length)
    (h : ∀ w', Box w' g 5 (cellsOf (splice l off cs)).toArray → Kept (fun k => k = g) w w' → K (a.put o.dst (goInt cs.length)) w') :
    if Region.wanted o (yielded ops a.tmps) = true then Oper.wp Try.prog o a w K Q else E := by
  have hw : Region.wanted o (yielded ops a.tmps) = true := by simp [Region.wanted, hgd]
  rw [if_pos hw]
  have hrun := run_copy_row (P := Try.prog) w 22 22 o.type 5 g off dLen dCap ad sLen sCap (cellsOf l).toArray 5 (cellsOf cs) Try.underlying22 byte_size hg (by rw [cellsOf_len]; exact hn) hsrc (by simpa [cellsOf_len] using hfit) (cellsOf_one _)
  unfold Oper.wp
  simp [execOp, ho, resolve, invoke, builtin, hd, hs, hrun, Result.andThen]
  have e := setRow_heap w g _ (cellsOf (splice l off cs)).toArray 5 _ hg
  rw [← splice_cells] at e
  rw [cellsOf_len]
  refine h _ ?_ ⟨rfl, rfl, rfl, by simp [World.setRow], fun k hk hne => setRow_other w g k _ hne⟩
  rw [← splice_cells]
  unfold Box
  simpa [splice, cellsOf_len] using e

end Go.Proofs.Ytghnhabpcikhgaa
