/-
  The contract of add, where the disk has a journal, and where it has none.
-/
import Derived.Test.YtghnhabpcikhgaaNew
import Derived.Deep.RegionHeld3
import Derived.Deep.AppendLies
namespace Go.Proofs.Ytghnhabpcikhgaa
open Go.RowKit

theorem info64 : (Try.prog.info? 64).map (fun i => (i.zero, i.size, i.bytes)) = some (some (.agg #[.int .i64 0, .slice none 0 0]), 2, 32) := by kernel_rfl

/-- R behind a region that comes to its end -/
def AtNormal (R : Act → World → Prop) : Exit → Act → World → Prop
  | .normal, a, w => R a w
  | _, _, _ => False
theorem AtNormal.imp {R : Act → World → Prop} {Q : Exit → Act → World → Prop} (h : ∀ a w, R a w → Q .normal a w) : ∀ e a w, AtNormal R e a w → Q e a w := fun e a w k => by
  cases e <;> first | exact h a w k | exact (k : False).elim

/-- a slice lies in block k -/
def Owns (A : Option Addr) (k : Nat) : Prop := A.map (·.block) = some k

/-- what add leaves -/
def Added (lo : Nat) (w : World) (d cnt m j np : Nat) (own : Nat → Prop) (xs : List Value) (i g : Nat) (e : Ending) (w' : World) : Prop :=
  e = .returned (.tuple #[]) ∧ ∃ v, Box w' d 59 (cellsD cnt m (.pointer (some ⟨j, 0, none⟩)) (np + 1) false) ∧ Box w' j 68 #[v] ∧ w'.ownsRow lo 64 2 v (np + 1) (xs ++ [.int .i64 (i : Int), .slice (some ⟨g, 0, none⟩) 128 128]) ∧ Kept (fun k => k = d ∨ k = j ∨ own k) w w'

/-- a row's block is no block of another type -/
theorem own_apart {w : World} {lo d t n : Nat} {v : Value} {xs : List Value} {cs : Array Value} (ho : w.ownsRow lo 64 2 v n xs) (hd : Box w d t cs) (ht : t ≠ 64) : v.ownBlock ≠ some d := by
  intro e
  rcases ho.2 with ⟨rfl, _⟩ | ⟨g2, cap, cur, rfl, _, hh, _⟩
  · cases e
  · simp [Value.ownBlock] at e
    subst e
    exact absurd rfl ((show Box w g2 64 cur from hh).apart hd (fun h => ht h.symm))

/-- what the last statements of add stand on -/
structure AddAt (lo : Nat) (w0 : World) (d cnt m j np c : Nat) (A : Option Addr) (xs : List Value) (i g b : Nat) : Prop where
  hd : Box w0 d 59 (cellsD cnt m (.pointer (some ⟨j, 0, none⟩)) np false)
  hj : Box w0 j 68 #[.slice A np c]
  ho : w0.ownsRow lo 64 2 (.slice A np c) np xs
  hb : Box w0 b 64 #[.int .i64 (i : Int), .slice (some ⟨g, 0, none⟩) 128 128]
  hlo : lo ≤ w0.heap.size
  hnb : (Value.slice A np c).ownBlock ≠ some b

/-- the row has grown -/
def Grown (lo : Nat) (w0 w1 : World) (np c : Nat) (A : Option Addr) (xs : List Value) (i g gg cap : Nat) : Prop :=
  w1.ownsRow lo 64 2 (.slice (some ⟨gg, 0, none⟩) (np + 1) cap) (np + 1) (xs ++ [.int .i64 (i : Int), .slice (some ⟨g, 0, none⟩) 128 128]) ∧ ∃ o, (w0.alloc o).drew.grownBy w1 (Value.slice A np c).ownBlock

/-- the row has grown, the journal and the count are told so -/
theorem add_end {lo : Nat} {w0 w1 : World} {d cnt m j np c : Nat} {A : Option Addr} {xs : List Value} {i g b : Nat} {o : Obj} {v1 : Value} (h : AddAt lo w0 d cnt m j np c A xs i g b)
    (hown : w1.ownsRow lo 64 2 v1 (np + 1) (xs ++ [.int .i64 (i : Int), .slice (some ⟨g, 0, none⟩) 128 128])) (hg : (w0.alloc o).drew.grownBy w1 (Value.slice A np c).ownBlock) :
    let w' := (w1.setCell ⟨j, 0, none⟩ v1).setCell ⟨d, 3, none⟩ (.int .i64 ((np + 1 : Nat) : Int))
    Box w' d 59 (cellsD cnt m (.pointer (some ⟨j, 0, none⟩)) (np + 1) false) ∧ Box w' j 68 #[v1] ∧ w'.ownsRow lo 64 2 v1 (np + 1) (xs ++ [.int .i64 (i : Int), .slice (some ⟨g, 0, none⟩) 128 128]) ∧ Kept (fun k => k = d ∨ k = j ∨ Owns A k) w0 w' := by
  intro w'
  have hdj : d ≠ j := h.hd.apart h.hj (by decide)
  have nd := own_apart h.ho h.hd (by decide)
  have nj := own_apart h.ho h.hj (by decide)
  have hd1 : Box w1 d 59 (cellsD cnt m (.pointer (some ⟨j, 0, none⟩)) np false) := (hg.block d (Nat.lt_of_lt_of_le h.hd.lt (by simp)) (Ne.symm nd)).trans (h.hd.alloc o)
  have hj1 : Box w1 j 68 #[.slice A np c] := (hg.block j (Nat.lt_of_lt_of_le h.hj.lt (by simp)) (Ne.symm nj)).trans (h.hj.alloc o)
  have e1 : (cellsD cnt m (.pointer (some ⟨j, 0, none⟩)) np false).setIfInBounds 3 (.int .i64 ((np + 1 : Nat) : Int)) = cellsD cnt m (.pointer (some ⟨j, 0, none⟩)) (np + 1) false := rfl
  have hd2 : Box w' d 59 (cellsD cnt m (.pointer (some ⟨j, 0, none⟩)) (np + 1) false) := by
    rw [← e1]
    exact (hd1.beside (p := ⟨j, 0, none⟩) hdj v1).put 3 _
  have hj2 : Box w' j 68 #[v1] := (hj1.put 0 v1).beside (p := ⟨d, 3, none⟩) (fun e => hdj e.symm) _
  refine ⟨hd2, hj2, ownsRow_block hown fun g2 cs _ hb => ?_, ?_⟩
  · have a1 : g2 ≠ d := (show Box w1 g2 64 cs from hb).apart hd1 (by decide)
    have a2 : g2 ≠ j := (show Box w1 g2 64 cs from hb).apart hj1 (by decide)
    exact (Below.heap_setCell _ ⟨d, 3, none⟩ _ g2 a1).trans (Below.heap_setCell _ ⟨j, 0, none⟩ _ g2 a2)
  · have k0 : Kept (fun k => k = d ∨ k = j ∨ Owns A k) w0 w1 := by
      refine ⟨hg.os, hg.tape, hg.output, Nat.le_trans (by simp) hg.size, fun k hk hn => ?_⟩
      refine (hg.block k (Nat.lt_of_lt_of_le hk (by simp)) (fun e => hn (.inr (.inr ?_)))).trans (Below.heap_alloc w0 o k hk)
      cases A with
      | none => cases e
      | some a => exact e.symm
    exact (k0.setCell (p := ⟨j, 0, none⟩) (fun _ => .inr (.inl rfl)) v1).setCell (p := ⟨d, 3, none⟩) (fun _ => .inl rfl) _

set_option maxRecDepth 10000 in
set_option maxHeartbeats 1600000 in
theorem add_more (lo : Nat) (w : World) (d cnt m j np c : Nat) (A : Option Addr) (xs : List Value) (i g : Nat) (hd : Box w d 59 (cellsD cnt m (.pointer (some ⟨j, 0, none⟩)) np false)) (hj : Box w j 68 #[.slice A np c])
    (ho : w.ownsRow lo 64 2 (.slice A np c) np xs) (hlo : lo ≤ w.heap.size) (hnp : np ≤ 1000) :
    Calls Try.prog 29 #[.pointer (some ⟨d, 0, none⟩), .agg #[.int .i64 (i : Int), .slice (some ⟨g, 0, none⟩) 128 128]] w (Added lo w d cnt m j np (Owns A) xs i g) := by
  obtain ⟨i0, hi0, hz0, hz1, hz2⟩ := info_parts info64
  have c2 := cellD2 hd
  have c3 := cellD3 hd
  have cj : w.cell? ⟨j, 0, none⟩ = some (.slice A np c) := hj.cell 0
  have ld := hd.lt
  have lj := hj.lt
  have HH := Lib.hid (And.intro hd (And.intro hj (And.intro ho hlo)))
  clear hd hj ho hlo
  go_enter Try.func29, Try.ntmps29
  go_wp2
  go_quiet (fail)
  go_wp2
  obtain ⟨w0, hw0⟩ : ∃ w0, w0 = (w.alloc (.cells #[.int .i64 (i : Int), .slice (some ⟨g, 0, none⟩) 128 128] 64)).drewN nq := ⟨_, rfl⟩
  have hat : AddAt lo w0 d cnt m j np c A xs i g w.heap.size := by
    obtain ⟨hd, hj, ho, hlo⟩ := HH.out
    rw [hw0]
    refine ⟨(hd.alloc _).drewN _, (hj.alloc _).drewN _, (ho.alloc _), (Box.made w 64 _).drewN _, Nat.le_trans hlo (by simp), fun e => ?_⟩
    have := (ho.lt _ e).2
    omega
  have hk0 : Below w.heap.size w w0 := by rw [hw0]; exact on_trans (on_alloc _ _) (below_drewN_refl _ _)
  rw [← hw0]
  have HK := Lib.hid hk0
  clear hw0 hk0 HH c2 c3 cj ld lj
  have c2 := cellD2 hat.hd
  have c3 := cellD3 hat.hd
  have cj : w0.cell? ⟨j, 0, none⟩ = some (.slice A np c) := hat.hj.cell 0
  have cb0 : w0.cell? ⟨w.heap.size, 0, none⟩ = some (.int .i64 (i : Int)) := hat.hb.cell 0
  have cb1 : w0.cell? ⟨w.heap.size, 1, none⟩ = some (.slice (some ⟨g, 0, none⟩) 128 128) := hat.hb.cell 1
  have fd := hat.hd.free 3
  have fj := hat.hj.free 0
  have ld := hat.hd.lt
  have lj := hat.hj.lt
  have lb := hat.hb.lt
  have hdj : d ≠ j := hat.hd.apart hat.hj (by decide)
  have hjd : j ≠ d := fun e => hdj e.symm
  have nd := own_apart hat.ho hat.hd (by decide)
  have nj := own_apart hat.ho hat.hj (by decide)
  have nb := hat.hnb
  have hlo := hat.hlo
  have HA := Lib.hid hat
  have fja : ∀ o, (w0.alloc o).drew.frozen? ⟨j, 0, none⟩ = false := fun o => ((on_alloc w0 o).frozen (p := ⟨j, 0, none⟩) lj).trans fj
  have fda : ∀ o, (w0.alloc o).drew.frozen? ⟨d, 3, none⟩ = false := fun o => ((on_alloc w0 o).frozen (p := ⟨d, 3, none⟩) ld).trans fd
  have ca3 : ∀ o, (w0.alloc o).drew.cell? ⟨d, 3, none⟩ = some (.int .i64 (np : Int)) := fun o => ((on_alloc w0 o).cell (p := ⟨d, 3, none⟩) ld).trans c3
  have ca2 : ∀ o, (w0.alloc o).drew.cell? ⟨d, 2, none⟩ = some (.pointer (some ⟨j, 0, none⟩)) := fun o => ((on_alloc w0 o).cell (p := ⟨d, 2, none⟩) ld).trans c2
  have caj : ∀ o, (w0.alloc o).drew.cell? ⟨j, 0, none⟩ = some (.slice A np c) := fun o => ((on_alloc w0 o).cell (p := ⟨j, 0, none⟩) lj).trans cj
  have cab0 : ∀ o, (w0.alloc o).drew.cell? ⟨w.heap.size, 0, none⟩ = some (.int .i64 (i : Int)) := fun o => ((on_alloc w0 o).cell (p := ⟨w.heap.size, 0, none⟩) lb).trans cb0
  have cab1 : ∀ o, (w0.alloc o).drew.cell? ⟨w.heap.size, 1, none⟩ = some (.slice (some ⟨g, 0, none⟩) 128 128) := fun o => ((on_alloc w0 o).cell (p := ⟨w.heap.size, 1, none⟩) lb).trans cb1
  clear hat
  refine Code.wp_mono (Q := AtNormal fun a' w' => ∃ gg cap w1, Grown lo w0 w1 np c A xs i g gg cap ∧ a' = ( { tmps := #[.pointer (some ⟨d, 0, none⟩), .agg #[.int .i64 (i : Int), .slice (some ⟨g, 0, none⟩) 128 128], undef, .pointer (some ⟨w.heap.size, 0, none⟩), .pointer (some ⟨d, 0, none⟩), .pointer (some ⟨d, 0, none⟩), .pointer (some ⟨d, 2, none⟩), .pointer (some ⟨j, 0, none⟩), .bool false, .bool false, .pointer (some ⟨d, 0, none⟩), .pointer (some ⟨d, 0, none⟩), .pointer (some ⟨d, 2, none⟩), .pointer (some ⟨j, 0, none⟩), .pointer (some ⟨j, 0, none⟩), .pointer (some ⟨j, 0, none⟩), .slice A np c, .int .i64 (np : Int), .pointer (some ⟨d, 0, none⟩), .pointer (some ⟨d, 0, none⟩), .pointer (some ⟨d, 3, none⟩), .int .i64 (np : Int), .bool false, .bool false, undef, undef, undef, undef, undef, undef, undef, .pointer (some ⟨d, 0, none⟩), .pointer (some ⟨d, 0, none⟩), .pointer (some ⟨d, 2, none⟩), .pointer (some ⟨j, 0, none⟩), .pointer (some ⟨d, 0, none⟩), .pointer (some ⟨d, 0, none⟩), .pointer (some ⟨d, 2, none⟩), .pointer (some ⟨j, 0, none⟩), .pointer (some ⟨j, 0, none⟩), .pointer (some ⟨j, 0, none⟩), .slice A np c, .agg #[.int .i64 (i : Int), .slice (some ⟨g, 0, none⟩) 128 128], .slice (some ⟨w0.heap.size, 0, none⟩) 1 1, .slice (some ⟨gg, 0, none⟩) (np + 1) cap, .pointer (some ⟨j, 0, none⟩), .pointer (some ⟨j, 0, none⟩), undef, undef, undef, undef, undef, undef, undef], defers := [] } : Act) ∧ w' = w1.setCell ⟨j, 0, none⟩ (.slice (some ⟨gg, 0, none⟩) (np + 1) cap)) ?imp ?reg
  case reg =>
    go_region_law
      ((refine step_append_lies _ (by rfl) _ _ _ (by rfl) lo 64 i0 _ 2 32 Try.underlying65 hi0 hz0 hz1 hz2 rfl (by omega) (.slice A np c) np xs (by rfl) ((HA.out.ho.alloc _).drew)
          ⟨w0.heap.size, 0, none⟩ 1 1 [.int .i64 (i : Int), .slice (some ⟨g, 0, none⟩) 128 128] (by rfl) (by rfl) (World.news_of_block (cs := #[.int .i64 (i : Int), .slice (some ⟨g, 0, none⟩) 128 128]) (t := 64) (fr := (0, 0)) (heap_alloc_new w0 _)) (by simp [Value.oneCell'])
          (by omega) (by unfold maxLen; omega) (by omega) (by simp; omega) (w0.heap.size + 1) (by simp) ?_; intro gg cap w1 hown1 hgrow hat hlt; have q1 := (hgrow.cell_far ⟨j, 0, none⟩ (Nat.lt_of_lt_of_le lj (by simp)) (Ne.symm nj)).trans (caj _); have q2 := (hgrow.frozen_far ⟨j, 0, none⟩ (Nat.lt_of_lt_of_le lj (by simp)) (Ne.symm nj)).trans (fja _); have q3 := (hgrow.cell_far ⟨d, 2, none⟩ (Nat.lt_of_lt_of_le ld (by simp)) (Ne.symm nd)).trans (ca2 _)))
    all_goals exact ⟨gg, cap, w1, ⟨hown1, _, hgrow⟩, rfl, rfl⟩
  case imp =>
    refine AtNormal.imp ?_
    rintro a' w' ⟨gg, cap, w1, hG, rfl, rfl⟩
    obtain ⟨hown1, o, hgrow⟩ := hG
    have q4 := (hgrow.cell_far ⟨d, 3, none⟩ (Nat.lt_of_lt_of_le ld (by simp)) (Ne.symm nd)).trans (ca3 _)
    have q5 := (hgrow.frozen_far ⟨d, 3, none⟩ (Nat.lt_of_lt_of_le ld (by simp)) (Ne.symm nd)).trans (fda _)
    have HE := Lib.hid (add_end HA.out hown1 hgrow)
    clear hown1 hgrow
    go_wp2
    go_end0
    obtain ⟨r1, r2, r3, r4⟩ := HE.out
    refine ⟨rfl, _, r1, r2, r3, ?_⟩
    exact Kept.trans (Kept.of_below HK.out _) r4 (fun _ _ h => h)

end Go.Proofs.Ytghnhabpcikhgaa
