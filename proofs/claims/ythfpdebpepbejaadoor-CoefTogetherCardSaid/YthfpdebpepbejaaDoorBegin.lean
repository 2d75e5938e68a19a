/-
  A reader in memory; the contracts of NewReader, At, Skip and begin.
-/
import Derived.Test.YthfpdebpepbejaaDoorReadMath
import Derived.Test.YthfpdebpepbejaaDoorAwake
namespace Go.Proofs.YthfpdebpepbejaaDoor
open Go.RowKit

/-- a reader's cells -/
def cellsR (s : St) (g n : Nat) : Array Value := #[.int .i64 (s.v : Int), .int .i64 (s.c : Int), .int .i64 (s.at_ : Int), .slice (some ⟨g, 0, none⟩) n n]
/-- a place's cells -/
def cellsP (s : St) : Array Value := #[.int .i64 (s.v : Int), .int .i64 (s.c : Int), .int .i64 (s.at_ : Int)]

/-- a reader of bytes l that stands at s; the bytes lie in block g -/
structure Rd (w : World) (r g : Nat) (l : List Int) (s : St) : Prop where
  box : Box w r 104 (cellsR s g l.length)
  own : Box w g 5 (cellsOf l).toArray
  fit : Fit l
  ok : s.ok l.length
  len : l.length ≤ 5000

theorem Rd.on {w w' : World} {r g : Nat} {l : List Int} {s : St} (h : Rd w r g l s) (k : Below w.heap.size w w') : Rd w' r g l s := ⟨h.box.on k, h.own.on k, h.fit, h.ok, h.len⟩
theorem Rd.kept {S : Nat → Prop} {w w' : World} {r g : Nat} {l : List Int} {s : St} (h : Rd w r g l s) (k : Kept S w w') (hr : ¬ S r) (hg : ¬ S g) : Rd w' r g l s := ⟨k.box h.box hr, k.box h.own hg, h.fit, h.ok, h.len⟩
theorem Rd.apart {w : World} {r g : Nat} {l : List Int} {s : St} (h : Rd w r g l s) : r ≠ g := h.box.apart h.own (by decide)
theorem Rd.sl {w : World} {r g : Nat} {l : List Int} {s : St} (h : Rd w r g l s) : Sl w (fun _ => True) (some ⟨g, 0, none⟩) l.length l.length l := sl_of_box h.own h.fit rfl (by have := h.len; unfold maxLen; omega) trivial
theorem Rd.byte {w : World} {r g : Nat} {l : List Int} {s : St} (h : Rd w r g l s) (i : Nat) (hi : i < l.length) : w.cell? ⟨g, i, none⟩ = some (.int .u8 (l.getD i 0)) := by
  obtain ⟨b, off, e, hc⟩ := h.sl.get hi
  cases e
  rw [Nat.zero_add] at hc
  exact hc

set_option maxHeartbeats 400000 in
theorem at_any (w : World) (r g : Nat) (l : List Int) (s : St) (h : Rd w r g l s) : Calls Tryd.prog 31 #[.pointer (some ⟨r, 0, none⟩)] w fun e w' => e = .returned (.int .i64 (s.at_ : Int)) ∧ Below w.heap.size w w' := by
  have c2 : w.cell? ⟨r, 2, none⟩ = some (.int .i64 (s.at_ : Int)) := h.box.cell 2
  clear h
  go_enter Tryd.func31, Tryd.ntmps31
  go_wp2
  go_ret
  exact ⟨rfl, Below.refl _ _⟩

/-- a reader at its beginning -/
def st0 : St := ⟨0, 0, 0⟩

theorem newReader_facts {w w1 : World} {g n : Nat} {A : Option Addr} {c : Nat} {l : List Int} {K : Nat → Prop} (h : Sl w K A n c l) (hg : g = w.heap.size) (hw : w1 = w.alloc (.cells (cellsOf (List.replicate n 0)).toArray 5)) :
    w1.heap[g]? = some (.cells (cellsOf (List.replicate n 0)).toArray 5 (0, 0)) ∧ (cellsOf l).length = Nat.min n n ∧ (0 < (cellsOf l).length → some (⟨g, 0, none⟩ : Addr) = some ⟨g, 0, none⟩ ∧ ∃ ad, A = some ad ∧ ∀ j v, (cellsOf l)[j]? = some v → w1.cell? (ad.add j) = some v) ∧ 0 + (cellsOf l).length ≤ (cellsOf (List.replicate n (0 : Int))).length ∧ Below w.heap.size w w1 := by
  subst hg hw
  refine ⟨Box.made w 5 _, by rw [cellsOf_len, h.len]; exact (Nat.min_self n).symm, fun h0 => ⟨rfl, sl_copy h _ h0⟩, by rw [cellsOf_len, cellsOf_len, List.length_replicate, h.len]; omega, on_alloc _ _⟩

/-- what NewReader leaves -/
def NewRd (w : World) (l : List Int) (e : Ending) (w' : World) : Prop := ∃ r g, e = .returned (.pointer (some ⟨r, 0, none⟩)) ∧ w.heap.size ≤ r ∧ w.heap.size ≤ g ∧ Rd w' r g l st0 ∧ Below w.heap.size w w'

set_option maxRecDepth 10000 in
set_option maxHeartbeats 800000 in
theorem newReader_any (w : World) (K : Nat → Prop) (A : Option Addr) (n c : Nat) (l : List Int) (h : Sl w K A n c l) (hn : n ≤ 5000) :
    Calls Tryd.prog 28 #[.slice A n c] w (NewRd w l) := by
  have hmk := run_make_row' (P := Tryd.prog) 54 5 (.int .u8 0) 1 Tryd.underlying54 byte_info rfl .i64 .i64 n (by omega) (by omega)
  obtain ⟨M, hM⟩ : ∃ M, M = madeCells #[.int .u8 0] n := ⟨_, rfl⟩
  rw [← hM] at hmk
  have hM2 : M = (cellsOf (List.replicate n 0)).toArray := by
    apply Array.toList_inj.1
    rw [hM, toList_madeCells_one]
    simp [cellsOf]
  rw [hM2] at hmk
  clear hM hM2
  obtain ⟨g, hg⟩ : ∃ g, g = w.heap.size := ⟨_, rfl⟩
  obtain ⟨w1, hw1⟩ : ∃ w1, w1 = w.alloc (.cells (cellsOf (List.replicate n 0)).toArray 5) := ⟨_, rfl⟩
  have HF := Lib.hid (newReader_facts h hg hw1)
  have hmw := hmk w
  rw [← hw1, ← hg] at hmw
  have hz : ∀ w, (zeroValue 104).run Tryd.prog w = .ok (.agg #[.int .i64 0, .int .i64 0, .int .i64 0, .slice none 0 0]) w := fun w => by kernel_rfl
  obtain ⟨Z, hZ⟩ : ∃ Z, Z = List.replicate n (0 : Int) := ⟨_, rfl⟩
  rw [← hZ] at HF
  have hzl : Z.length = n := by rw [hZ, List.length_replicate]
  have HH := Lib.hid (And.intro h (And.intro hg hzl))
  clear h hmk hw1 hg hZ hzl
  go_enter Tryd.func28, Tryd.ntmps28
  go_wp2_with (first
    | ((with_reducible refine wpList_copy_splice (o := ⟨some 9, _, _, _, _, _⟩) rfl (.tmp 7) (.tmp 8) 54 54 rfl 5 Tryd.underlying54 byte_size (some ⟨g, 0, none⟩) A n n n c rfl rfl g 0 (cellsOf Z) 5 ?hg (cellsOf l) ?hn ?hpos ?hfit (cellsOf_one _) w.heap.size w ?hb ?hgg ?_)
       case hg => exact HF.out.1
       case hn => exact HF.out.2.1
       case hpos => exact HF.out.2.2.1
       case hfit => exact HF.out.2.2.2.1
       case hb => exact HF.out.2.2.2.2
       case hgg => exact Nat.le_of_eq HH.out.2.1.symm
       intro w2 hb2 hbel
       have H2 := Lib.hid (And.intro hb2 hbel)
       clear hb2 hbel)
    | fail)
  go_ret
  have hl := HH.out.1.len
  have hb := H2.out.1.out
  rw [splice_all _ _ (by rw [cellsOf_len, cellsOf_len, hl, HH.out.2.2]; exact Nat.le_refl _)] at hb
  have hbx : Box w2 g 5 (cellsOf l).toArray := hb
  refine ⟨w2.heap.size, g, rfl, H2.out.2.size, Nat.le_of_eq HH.out.2.1.symm, ⟨?_, hbx.alloc _, HH.out.1.bts.fit, ⟨Nat.zero_le _, Nat.zero_le _, by show 0 < 2 ^ 0; omega⟩, by omega⟩, ?_⟩
  · rw [hl]
    exact Box.made w2 104 _
  · have := H2.out.2.alloc (o := .cells #[.int .i64 0, .int .i64 0, .int .i64 0, .slice (some ⟨g, 0, none⟩) n n] 104) (H2.out.2.size)
    exact this

/-- what begin leaves -/
def Began (w : World) (t : Nat) (l : List Int) (s : St) (e : Ending) (w' : World) : Prop :=
  e = .returned (.int .i64 (beginE l s.at_)) ∧ Box w' t 102 (cellsP (if beginE l s.at_ = 0 then begun l s.at_ else s)) ∧ Kept (fun i => i = t) w w'

theorem began_not {w : World} {t : Nat} {l : List Int} {s : St} {E : Int} (hb : Box w t 102 (cellsP s)) (hE : beginE l s.at_ = E) (h0 : E ≠ 0) (k : Nat) : Began w t l s (.returned (.int .i64 E)) (w.drewN k) := by
  refine ⟨by rw [hE], ?_, (Kept.refl _ _).drewN _⟩
  rw [if_neg (by rw [hE]; exact h0)]
  exact hb.drewN k

set_option maxHeartbeats 800000 in
theorem begin_over (w : World) (t g : Nat) (l : List Int) (s : St) (hb : Box w t 102 (cellsP s)) (ha : s.at_ = l.length) :
    Calls Tryd.prog 67 #[.pointer (some ⟨t, 0, none⟩), .slice (some ⟨g, 0, none⟩) l.length l.length] w (Began w t l s) := by
  have c2 : w.cell? ⟨t, 2, none⟩ = some (.int .i64 (s.at_ : Int)) := hb.cell 2
  have hE : beginE l s.at_ = 3 := by rw [beginE, if_neg (by omega)]
  obtain ⟨n, hn⟩ : ∃ n, n = l.length := ⟨_, rfl⟩
  rw [ha, ← hn] at c2
  rw [← hn]
  have HH := Lib.hid (And.intro hb hE)
  clear hb hE hn ha
  go_enter Tryd.func67, Tryd.ntmps67
  go_wp2
  go_ret
  exact began_not HH.out.1 HH.out.2 (by decide) 0

theorem began_done {w : World} {t a S z : Nat} {l : List Int} {s : St} (hb : Box w t 102 (cellsP s)) (hE : beginE l s.at_ = 0) (hS : beginS l s.at_ = S) (ha : a = s.at_) (hz : z = (l.getD s.at_ 0).toNat) {x : Int} (hx : x = ((a + S : Nat) : Int)) :
    Began w t l s (.returned (.int .i64 0)) (((w.setCell ⟨t, 2, none⟩ (.int .i64 x)).setCell ⟨t, 0, none⟩ (.int .i64 (z : Int))).setCell ⟨t, 1, none⟩ (.int .i64 8)) := by
  subst hx
  refine ⟨by rw [hE], ?_, (((Kept.refl (fun i => i = t) w).setCell (p := ⟨t, 2, none⟩) (fun _ => rfl) _).setCell (p := ⟨t, 0, none⟩) (fun _ => rfl) _).setCell (p := ⟨t, 1, none⟩) (fun _ => rfl) _⟩
  rw [if_pos hE]
  have := ((hb.put 2 (.int .i64 ((a + S : Nat) : Int))).put 0 (.int .i64 (z : Int))).put 1 (.int .i64 8)
  have e : cellsP (begun l s.at_) = ((cellsP s).setIfInBounds 2 (.int .i64 ((a + S : Nat) : Int)) |>.setIfInBounds 0 (.int .i64 (z : Int)) |>.setIfInBounds 1 (.int .i64 8)) := by
    unfold begun cellsP
    rw [← hz, hS, ← ha]
    rfl
  rw [e]
  exact this

theorem zero62 (w : World) : (zeroValue 86).run Tryd.prog w = .ok (.agg #[.int .i64 0, .int .i64 0]) w := by kernel_rfl

set_option maxHeartbeats 800000 in
theorem begin_plain (w : World) (t g : Nat) (l : List Int) (s : St) (hb : Box w t 102 (cellsP s)) (hgt : g ≠ t) (ha : s.at_ < l.length) (hl : l.length ≤ 5000) (hc : w.cell? ⟨g, s.at_, none⟩ = some (.int .u8 (l.getD s.at_ 0))) (hf : Fit l) (hz : l.getD s.at_ 0 ≠ 255) :
    Calls Tryd.prog 67 #[.pointer (some ⟨t, 0, none⟩), .slice (some ⟨g, 0, none⟩) l.length l.length] w (Began w t l s) := by
  have c2 : w.cell? ⟨t, 2, none⟩ = some (.int .i64 (s.at_ : Int)) := hb.cell 2
  have c0 : w.cell? ⟨t, 0, none⟩ = some (.int .i64 (s.v : Int)) := hb.cell 0
  have c1 : w.cell? ⟨t, 1, none⟩ = some (.int .i64 (s.c : Int)) := hb.cell 1
  have f0 := hb.free 0
  have f1 := hb.free 1
  have f2 := hb.free 2
  have hE : beginE l s.at_ = 0 := by rw [beginE, if_pos ha, if_neg hz]
  have hS : beginS l s.at_ = 1 := by rw [beginS, if_neg hz]
  obtain ⟨n, hn⟩ : ∃ n, n = l.length := ⟨_, rfl⟩
  obtain ⟨a, haa⟩ : ∃ a, a = s.at_ := ⟨_, rfl⟩
  obtain ⟨z, hzz⟩ : ∃ z : Nat, z = (l.getD s.at_ 0).toNat := ⟨_, rfl⟩
  have hzi : l.getD s.at_ 0 = (z : Int) := by have := hf.getD s.at_; omega
  have hz8 : z < 255 := by have := hf.getD s.at_; omega
  rw [hzi] at hc
  rw [← hn] at hl ha ⊢
  rw [← haa] at c2 hc ha
  have hcs : ∀ u, (w.setCell ⟨t, 2, none⟩ u).cell? ⟨g, a, none⟩ = some (.int .u8 (z : Int)) := fun u => (World.cell?_setCell_other w ⟨t, 2, none⟩ ⟨g, a, none⟩ u (fun e => hgt (congrArg Addr.block e).symm)).trans hc
  have ha2 : (a : Int) ≤ n := by omega
  have ha3 : ¬ n = a := by omega
  have ha4 : ¬ (n - a = 0) := by omega
  have ha5 : ¬ (n - a < 1) := by omega
  have hz62 := zero62
  have HH := Lib.hid (And.intro hb (And.intro hE (And.intro hS (And.intro haa hzz))))
  clear hb hE hS hn haa hzz hzi hz hf
  go_enter Tryd.func67, Tryd.ntmps67
  go_wp2
  all_goals go_ret
  all_goals exact began_done HH.out.1 HH.out.2.1 HH.out.2.2.1 HH.out.2.2.2.1 HH.out.2.2.2.2 rfl

set_option maxHeartbeats 800000 in
theorem begin_last (w : World) (t g : Nat) (l : List Int) (s : St) (hb : Box w t 102 (cellsP s)) (ha : s.at_ + 1 = l.length) (hc : w.cell? ⟨g, s.at_, none⟩ = some (.int .u8 (l.getD s.at_ 0))) (hz : l.getD s.at_ 0 = 255) :
    Calls Tryd.prog 67 #[.pointer (some ⟨t, 0, none⟩), .slice (some ⟨g, 0, none⟩) l.length l.length] w (Began w t l s) := by
  have c2 : w.cell? ⟨t, 2, none⟩ = some (.int .i64 (s.at_ : Int)) := hb.cell 2
  have hE : beginE l s.at_ = 3 := by rw [beginE, if_pos (by omega), if_pos hz, if_neg (by omega)]
  obtain ⟨n, hn⟩ : ∃ n, n = l.length := ⟨_, rfl⟩
  obtain ⟨a, haa⟩ : ∃ a, a = s.at_ := ⟨_, rfl⟩
  rw [hz] at hc
  rw [← hn] at ha ⊢
  rw [← haa] at c2 hc ha
  have ha2 : (a : Int) ≤ n := by omega
  have ha3 : ¬ n = a := by omega
  have ha4 : n - a = 1 := by omega
  have HH := Lib.hid (And.intro hb hE)
  clear hb hE hn haa hz ha
  go_enter Tryd.func67, Tryd.ntmps67
  go_wp2
  all_goals go_ret
  all_goals exact began_not HH.out.1 HH.out.2 (by decide) 0

set_option maxHeartbeats 800000 in
theorem begin_mark (w : World) (t g : Nat) (l : List Int) (s : St) (hb : Box w t 102 (cellsP s)) (ha : s.at_ + 1 < l.length) (hc : w.cell? ⟨g, s.at_, none⟩ = some (.int .u8 (l.getD s.at_ 0))) (hc1 : w.cell? ⟨g, s.at_ + 1, none⟩ = some (.int .u8 (l.getD (s.at_ + 1) 0))) (hz : l.getD s.at_ 0 = 255) (hz1 : l.getD (s.at_ + 1) 0 ≠ 0) :
    Calls Tryd.prog 67 #[.pointer (some ⟨t, 0, none⟩), .slice (some ⟨g, 0, none⟩) l.length l.length] w (Began w t l s) := by
  have c2 : w.cell? ⟨t, 2, none⟩ = some (.int .i64 (s.at_ : Int)) := hb.cell 2
  have hE : beginE l s.at_ = 7 := by rw [beginE, if_pos (by omega), if_pos hz, if_pos ha, if_neg hz1]
  obtain ⟨n, hn⟩ : ∃ n, n = l.length := ⟨_, rfl⟩
  obtain ⟨a, haa⟩ : ∃ a, a = s.at_ := ⟨_, rfl⟩
  obtain ⟨y, hy⟩ : ∃ y, y = l.getD (s.at_ + 1) 0 := ⟨_, rfl⟩
  rw [hz] at hc
  rw [← hn] at ha ⊢
  rw [← hy] at hc1 hz1
  rw [← haa] at c2 hc ha hc1
  have ha2 : (a : Int) ≤ n := by omega
  have ha3 : ¬ n = a := by omega
  have ha4 : ¬ (n - a = 0) := by omega
  have ha5 : ¬ (n - a < 2) := by omega
  have ha6 : 1 < n - a := by omega
  have HH := Lib.hid (And.intro hb hE)
  clear hb hE hn haa hz ha hy
  go_enter Tryd.func67, Tryd.ntmps67
  go_wp2
  all_goals go_ret
  all_goals exact began_not HH.out.1 HH.out.2 (by decide) 0

set_option maxHeartbeats 800000 in
theorem begin_two (w : World) (t g : Nat) (l : List Int) (s : St) (hb : Box w t 102 (cellsP s)) (hgt : g ≠ t) (ha : s.at_ + 1 < l.length) (hl : l.length ≤ 5000) (hc : w.cell? ⟨g, s.at_, none⟩ = some (.int .u8 (l.getD s.at_ 0))) (hc1 : w.cell? ⟨g, s.at_ + 1, none⟩ = some (.int .u8 (l.getD (s.at_ + 1) 0))) (hz : l.getD s.at_ 0 = 255) (hz1 : l.getD (s.at_ + 1) 0 = 0) :
    Calls Tryd.prog 67 #[.pointer (some ⟨t, 0, none⟩), .slice (some ⟨g, 0, none⟩) l.length l.length] w (Began w t l s) := by
  have c2 : w.cell? ⟨t, 2, none⟩ = some (.int .i64 (s.at_ : Int)) := hb.cell 2
  have c0 : w.cell? ⟨t, 0, none⟩ = some (.int .i64 (s.v : Int)) := hb.cell 0
  have c1 : w.cell? ⟨t, 1, none⟩ = some (.int .i64 (s.c : Int)) := hb.cell 1
  have f0 := hb.free 0
  have f1 := hb.free 1
  have f2 := hb.free 2
  have hE : beginE l s.at_ = 0 := by rw [beginE, if_pos (by omega), if_pos hz, if_pos ha, if_pos hz1]
  have hS : beginS l s.at_ = 2 := by rw [beginS, if_pos hz]
  obtain ⟨n, hn⟩ : ∃ n, n = l.length := ⟨_, rfl⟩
  obtain ⟨a, haa⟩ : ∃ a, a = s.at_ := ⟨_, rfl⟩
  have hzz : 255 = (l.getD s.at_ 0).toNat := by rw [hz]; rfl
  rw [hz] at hc
  rw [hz1] at hc1
  rw [← hn] at hl ha ⊢
  rw [← haa] at c2 hc ha hc1
  have hcs : ∀ u, (w.setCell ⟨t, 2, none⟩ u).cell? ⟨g, a, none⟩ = some (.int .u8 255) := fun u => (World.cell?_setCell_other w ⟨t, 2, none⟩ ⟨g, a, none⟩ u (fun e => hgt (congrArg Addr.block e).symm)).trans hc
  have ha2 : (a : Int) ≤ n := by omega
  have ha3 : ¬ n = a := by omega
  have ha4 : ¬ (n - a = 0) := by omega
  have ha5 : ¬ (n - a < 2) := by omega
  have ha6 : 1 < n - a := by omega
  have hz62 := zero62
  have HH := Lib.hid (And.intro hb (And.intro hE (And.intro hS (And.intro haa hzz))))
  clear hb hE hS hn haa hzz hz hz1
  go_enter Tryd.func67, Tryd.ntmps67
  go_wp2
  all_goals go_ret
  all_goals exact began_done (z := 255) HH.out.1 HH.out.2.1 HH.out.2.2.1 HH.out.2.2.2.1 HH.out.2.2.2.2 rfl

theorem begin_any (w : World) (t r g : Nat) (l : List Int) (s s' : St) (hb : Box w t 102 (cellsP s)) (h : Rd w r g l s') (ha : s.at_ ≤ l.length) :
    Calls Tryd.prog 67 #[.pointer (some ⟨t, 0, none⟩), .slice (some ⟨g, 0, none⟩) l.length l.length] w (Began w t l s) := by
  have hgt : g ≠ t := h.own.apart hb (by decide)
  by_cases h0 : s.at_ = l.length
  · exact begin_over w t g l s hb h0
  have hc := h.byte s.at_ (by omega)
  by_cases hz : l.getD s.at_ 0 = 255
  · by_cases h1 : s.at_ + 1 = l.length
    · exact begin_last w t g l s hb h1 hc hz
    have hc1 := h.byte (s.at_ + 1) (by omega)
    by_cases hz1 : l.getD (s.at_ + 1) 0 = 0
    · exact begin_two w t g l s hb hgt (by omega) h.len hc hc1 hz hz1
    · exact begin_mark w t g l s hb (by omega) hc hc1 hz hz1
  · exact begin_plain w t g l s hb hgt (by omega) h.len hc h.fit hz
end Go.Proofs.YthfpdebpepbejaaDoor
