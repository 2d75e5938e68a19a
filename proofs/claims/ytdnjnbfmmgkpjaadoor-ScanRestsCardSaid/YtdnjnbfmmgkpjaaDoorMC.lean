/-
  A reader in memory; the contracts of NewReader, At, Skip and begin. The contract of Get. The contracts of Bit and Marker. The contract of the table's Get. HuffBack: values, their bits; no code is the beginning of another one. HuffAgain: the walk. HuffRises: the walk. The reference's list of codes in memory. The contract of the reference's Find. The contract of the reference's Codes. The contract of the table's Put. HuffBack: the walk.
-/
import Derived.Test.YtdnjnbfmmgkpjaaDoorMB
import Derived.Deep.LoopGhost
import Derived.WalkMore
import Derived.Test.YtdnjnbfmmgkpjaaDoorMA
namespace Go.Proofs.YtdnjnbfmmgkpjaaDoor
open Go.RowKit

/-- a reader's cells -/
def cellsR (s : St) (g n : Nat) : Array Value := #[.int .i64 (s.v : Int), .int .i64 (s.c : Int), .int .i64 (s.at_ : Int), .slice (some ⟨g, 0, none⟩) n n]
/-- a place's cells -/
def cellsP (s : St) : Array Value := #[.int .i64 (s.v : Int), .int .i64 (s.c : Int), .int .i64 (s.at_ : Int)]

/-- a reader of bytes l that stands at s; the bytes lie in block g -/
structure Rd (w : World) (r g : Nat) (l : List Int) (s : St) : Prop where
  box : Box w r 147 (cellsR s g l.length)
  own : Box w g 5 (cellsOf l).toArray
  fit : Fit l
  ok : s.ok l.length
  len : l.length ≤ 60000

theorem Rd.on {w w' : World} {r g : Nat} {l : List Int} {s : St} (h : Rd w r g l s) (k : Below w.heap.size w w') : Rd w' r g l s := ⟨h.box.on k, h.own.on k, h.fit, h.ok, h.len⟩
theorem Rd.kept {S : Nat → Prop} {w w' : World} {r g : Nat} {l : List Int} {s : St} (h : Rd w r g l s) (k : Kept S w w') (hr : ¬ S r) (hg : ¬ S g) : Rd w' r g l s := ⟨k.box h.box hr, k.box h.own hg, h.fit, h.ok, h.len⟩
theorem Rd.apart {w : World} {r g : Nat} {l : List Int} {s : St} (h : Rd w r g l s) : r ≠ g := h.box.apart h.own (by decide)
theorem Rd.sl {w : World} {r g : Nat} {l : List Int} {s : St} (h : Rd w r g l s) : Sl w (fun _ => True) (some ⟨g, 0, none⟩) l.length l.length l := sl_of_box h.own h.fit rfl (by have := h.len; unfold maxLen; omega) trivial
theorem Rd.byte {w : World} {r g : Nat} {l : List Int} {s : St} (h : Rd w r g l s) (i : Nat) (hi : i < l.length) : w.cell? ⟨g, i, none⟩ = some (.int .u8 (l.getD i 0)) := by
  obtain ⟨b, off, e, hc⟩ := h.sl.get hi
  cases e
  rw [Nat.zero_add] at hc
  exact hc

set_option maxHeartbeats 400000 in
theorem at_any (w : World) (r g : Nat) (l : List Int) (s : St) (h : Rd w r g l s) : Calls Tryd.prog 43 #[.pointer (some ⟨r, 0, none⟩)] w fun e w' => e = .returned (.int .i64 (s.at_ : Int)) ∧ Below w.heap.size w w' := by
  have c2 : w.cell? ⟨r, 2, none⟩ = some (.int .i64 (s.at_ : Int)) := h.box.cell 2
  clear h
  go_enter Tryd.func43, Tryd.ntmps43
  go_wp2
  go_ret
  exact ⟨rfl, Below.refl _ _⟩

/-- a reader at its beginning -/
def st0 : St := ⟨0, 0, 0⟩

theorem newReader_facts {w w1 : World} {g n : Nat} {A : Option Addr} {c : Nat} {l : List Int} {K : Nat → Prop} (h : Sl w K A n c l) (hg : g = w.heap.size) (hw : w1 = w.alloc (.cells (cellsOf (List.replicate n 0)).toArray 5)) :
    w1.heap[g]? = some (.cells (cellsOf (List.replicate n 0)).toArray 5 (0, 0)) ∧ (cellsOf l).length = Nat.min n n ∧ (0 < (cellsOf l).length → some (⟨g, 0, none⟩ : Addr) = some ⟨g, 0, none⟩ ∧ ∃ ad, A = some ad ∧ ∀ j v, (cellsOf l)[j]? = some v → w1.cell? (ad.add j) = some v) ∧ 0 + (cellsOf l).length ≤ (cellsOf (List.replicate n (0 : Int))).length ∧ Below w.heap.size w w1 := by
  subst hg hw
  refine ⟨Box.made w 5 _, by rw [cellsOf_len, h.len]; exact (Nat.min_self n).symm, fun h0 => ⟨rfl, sl_copy h _ h0⟩, by rw [cellsOf_len, cellsOf_len, List.length_replicate, h.len]; omega, on_alloc _ _⟩

/-- what NewReader leaves -/
def NewRd (w : World) (l : List Int) (e : Ending) (w' : World) : Prop := ∃ r g, e = .returned (.pointer (some ⟨r, 0, none⟩)) ∧ w.heap.size ≤ r ∧ w.heap.size ≤ g ∧ Rd w' r g l st0 ∧ Below w.heap.size w w'

set_option maxRecDepth 10000 in
set_option maxHeartbeats 800000 in
theorem newReader_any (w : World) (K : Nat → Prop) (A : Option Addr) (n c : Nat) (l : List Int) (h : Sl w K A n c l) (hn : n ≤ 60000) :
    Calls Tryd.prog 38 #[.slice A n c] w (NewRd w l) := by
  have hmk := run_make_row' (P := Tryd.prog) 41 5 (.int .u8 0) 1 Tryd.underlying41 byte_info rfl .i64 .i64 n (by omega) (by omega)
  obtain ⟨M, hM⟩ : ∃ M, M = madeCells #[.int .u8 0] n := ⟨_, rfl⟩
  rw [← hM] at hmk
  have hM2 : M = (cellsOf (List.replicate n 0)).toArray := by
    apply Array.toList_inj.1
    rw [hM, toList_madeCells_one]
    simp [cellsOf]
  rw [hM2] at hmk
  clear hM hM2
  obtain ⟨g, hg⟩ : ∃ g, g = w.heap.size := ⟨_, rfl⟩
  obtain ⟨w1, hw1⟩ : ∃ w1, w1 = w.alloc (.cells (cellsOf (List.replicate n 0)).toArray 5) := ⟨_, rfl⟩
  have HF := Lib.hid (newReader_facts h hg hw1)
  have hmw := hmk w
  rw [← hw1, ← hg] at hmw
  have hz : ∀ w, (zeroValue 147).run Tryd.prog w = .ok (.agg #[.int .i64 0, .int .i64 0, .int .i64 0, .slice none 0 0]) w := fun w => by kernel_rfl
  obtain ⟨Z, hZ⟩ : ∃ Z, Z = List.replicate n (0 : Int) := ⟨_, rfl⟩
  rw [← hZ] at HF
  have hzl : Z.length = n := by rw [hZ, List.length_replicate]
  have HH := Lib.hid (And.intro h (And.intro hg hzl))
  clear h hmk hw1 hg hZ hzl
  go_enter Tryd.func38, Tryd.ntmps38
  go_wp2_with (first
    | ((with_reducible refine wpList_copy_splice (o := ⟨some 9, _, _, _, _, _⟩) rfl (.tmp 7) (.tmp 8) 41 41 rfl 5 Tryd.underlying41 byte_size (some ⟨g, 0, none⟩) A n n n c rfl rfl g 0 (cellsOf Z) 5 ?hg (cellsOf l) ?hn ?hpos ?hfit (cellsOf_one _) w.heap.size w ?hb ?hgg ?_)
       case hg => exact HF.out.1
       case hn => exact HF.out.2.1
       case hpos => exact HF.out.2.2.1
       case hfit => exact HF.out.2.2.2.1
       case hb => exact HF.out.2.2.2.2
       case hgg => exact Nat.le_of_eq HH.out.2.1.symm
       intro w2 hb2 hbel
       have H2 := Lib.hid (And.intro hb2 hbel)
       clear hb2 hbel)
    | fail)
  go_ret
  have hl := HH.out.1.len
  have hb := H2.out.1.out
  rw [splice_all _ _ (by rw [cellsOf_len, cellsOf_len, hl, HH.out.2.2]; exact Nat.le_refl _)] at hb
  have hbx : Box w2 g 5 (cellsOf l).toArray := hb
  refine ⟨w2.heap.size, g, rfl, H2.out.2.size, Nat.le_of_eq HH.out.2.1.symm, ⟨?_, hbx.alloc _, HH.out.1.bts.fit, ⟨Nat.zero_le _, Nat.zero_le _, by show 0 < 2 ^ 0; omega⟩, by omega⟩, ?_⟩
  · rw [hl]
    exact Box.made w2 147 _
  · have := H2.out.2.alloc (o := .cells #[.int .i64 0, .int .i64 0, .int .i64 0, .slice (some ⟨g, 0, none⟩) n n] 147) (H2.out.2.size)
    exact this

/-- what begin leaves -/
def Began (w : World) (t : Nat) (l : List Int) (s : St) (e : Ending) (w' : World) : Prop :=
  e = .returned (.int .i64 (beginE l s.at_)) ∧ Box w' t 145 (cellsP (if beginE l s.at_ = 0 then begun l s.at_ else s)) ∧ Kept (fun i => i = t) w w'

theorem began_not {w : World} {t : Nat} {l : List Int} {s : St} {E : Int} (hb : Box w t 145 (cellsP s)) (hE : beginE l s.at_ = E) (h0 : E ≠ 0) (k : Nat) : Began w t l s (.returned (.int .i64 E)) (w.drewN k) := by
  refine ⟨by rw [hE], ?_, (Kept.refl _ _).drewN _⟩
  rw [if_neg (by rw [hE]; exact h0)]
  exact hb.drewN k

set_option maxHeartbeats 800000 in
theorem begin_over (w : World) (t g : Nat) (l : List Int) (s : St) (hb : Box w t 145 (cellsP s)) (ha : s.at_ = l.length) :
    Calls Tryd.prog 101 #[.pointer (some ⟨t, 0, none⟩), .slice (some ⟨g, 0, none⟩) l.length l.length] w (Began w t l s) := by
  have c2 : w.cell? ⟨t, 2, none⟩ = some (.int .i64 (s.at_ : Int)) := hb.cell 2
  have hE : beginE l s.at_ = 3 := by rw [beginE, if_neg (by omega)]
  obtain ⟨n, hn⟩ : ∃ n, n = l.length := ⟨_, rfl⟩
  rw [ha, ← hn] at c2
  rw [← hn]
  have HH := Lib.hid (And.intro hb hE)
  clear hb hE hn ha
  go_enter Tryd.func101, Tryd.ntmps101
  go_wp2
  go_ret
  exact began_not HH.out.1 HH.out.2 (by decide) 0

theorem began_done {w : World} {t a S z : Nat} {l : List Int} {s : St} (hb : Box w t 145 (cellsP s)) (hE : beginE l s.at_ = 0) (hS : beginS l s.at_ = S) (ha : a = s.at_) (hz : z = (l.getD s.at_ 0).toNat) {x : Int} (hx : x = ((a + S : Nat) : Int)) :
    Began w t l s (.returned (.int .i64 0)) (((w.setCell ⟨t, 2, none⟩ (.int .i64 x)).setCell ⟨t, 0, none⟩ (.int .i64 (z : Int))).setCell ⟨t, 1, none⟩ (.int .i64 8)) := by
  subst hx
  refine ⟨by rw [hE], ?_, (((Kept.refl (fun i => i = t) w).setCell (p := ⟨t, 2, none⟩) (fun _ => rfl) _).setCell (p := ⟨t, 0, none⟩) (fun _ => rfl) _).setCell (p := ⟨t, 1, none⟩) (fun _ => rfl) _⟩
  rw [if_pos hE]
  have := ((hb.put 2 (.int .i64 ((a + S : Nat) : Int))).put 0 (.int .i64 (z : Int))).put 1 (.int .i64 8)
  have e : cellsP (begun l s.at_) = ((cellsP s).setIfInBounds 2 (.int .i64 ((a + S : Nat) : Int)) |>.setIfInBounds 0 (.int .i64 (z : Int)) |>.setIfInBounds 1 (.int .i64 8)) := by
    unfold begun cellsP
    rw [← hz, hS, ← ha]
    rfl
  rw [e]
  exact this

theorem zero62 (w : World) : (zeroValue 115).run Tryd.prog w = .ok (.agg #[.int .i64 0, .int .i64 0]) w := by kernel_rfl

set_option maxHeartbeats 800000 in
theorem begin_plain (w : World) (t g : Nat) (l : List Int) (s : St) (hb : Box w t 145 (cellsP s)) (hgt : g ≠ t) (ha : s.at_ < l.length) (hl : l.length ≤ 60000) (hc : w.cell? ⟨g, s.at_, none⟩ = some (.int .u8 (l.getD s.at_ 0))) (hf : Fit l) (hz : l.getD s.at_ 0 ≠ 255) :
    Calls Tryd.prog 101 #[.pointer (some ⟨t, 0, none⟩), .slice (some ⟨g, 0, none⟩) l.length l.length] w (Began w t l s) := by
  have c2 : w.cell? ⟨t, 2, none⟩ = some (.int .i64 (s.at_ : Int)) := hb.cell 2
  have c0 : w.cell? ⟨t, 0, none⟩ = some (.int .i64 (s.v : Int)) := hb.cell 0
  have c1 : w.cell? ⟨t, 1, none⟩ = some (.int .i64 (s.c : Int)) := hb.cell 1
  have f0 := hb.free 0
  have f1 := hb.free 1
  have f2 := hb.free 2
  have hE : beginE l s.at_ = 0 := by rw [beginE, if_pos ha, if_neg hz]
  have hS : beginS l s.at_ = 1 := by rw [beginS, if_neg hz]
  obtain ⟨n, hn⟩ : ∃ n, n = l.length := ⟨_, rfl⟩
  obtain ⟨a, haa⟩ : ∃ a, a = s.at_ := ⟨_, rfl⟩
  obtain ⟨z, hzz⟩ : ∃ z : Nat, z = (l.getD s.at_ 0).toNat := ⟨_, rfl⟩
  have hzi : l.getD s.at_ 0 = (z : Int) := by have := hf.getD s.at_; omega
  have hz8 : z < 255 := by have := hf.getD s.at_; omega
  rw [hzi] at hc
  rw [← hn] at hl ha ⊢
  rw [← haa] at c2 hc ha
  have hcs : ∀ u, (w.setCell ⟨t, 2, none⟩ u).cell? ⟨g, a, none⟩ = some (.int .u8 (z : Int)) := fun u => (World.cell?_setCell_other w ⟨t, 2, none⟩ ⟨g, a, none⟩ u (fun e => hgt (congrArg Addr.block e).symm)).trans hc
  have ha2 : (a : Int) ≤ n := by omega
  have ha3 : ¬ n = a := by omega
  have ha4 : ¬ (n - a = 0) := by omega
  have ha5 : ¬ (n - a < 1) := by omega
  have hz62 := zero62
  have HH := Lib.hid (And.intro hb (And.intro hE (And.intro hS (And.intro haa hzz))))
  clear hb hE hS hn haa hzz hzi hz hf
  go_enter Tryd.func101, Tryd.ntmps101
  go_wp2
  all_goals go_ret
  all_goals exact began_done HH.out.1 HH.out.2.1 HH.out.2.2.1 HH.out.2.2.2.1 HH.out.2.2.2.2 rfl

set_option maxHeartbeats 800000 in
theorem begin_last (w : World) (t g : Nat) (l : List Int) (s : St) (hb : Box w t 145 (cellsP s)) (ha : s.at_ + 1 = l.length) (hc : w.cell? ⟨g, s.at_, none⟩ = some (.int .u8 (l.getD s.at_ 0))) (hz : l.getD s.at_ 0 = 255) :
    Calls Tryd.prog 101 #[.pointer (some ⟨t, 0, none⟩), .slice (some ⟨g, 0, none⟩) l.length l.length] w (Began w t l s) := by
  have c2 : w.cell? ⟨t, 2, none⟩ = some (.int .i64 (s.at_ : Int)) := hb.cell 2
  have hE : beginE l s.at_ = 3 := by rw [beginE, if_pos (by omega), if_pos hz, if_neg (by omega)]
  obtain ⟨n, hn⟩ : ∃ n, n = l.length := ⟨_, rfl⟩
  obtain ⟨a, haa⟩ : ∃ a, a = s.at_ := ⟨_, rfl⟩
  rw [hz] at hc
  rw [← hn] at ha ⊢
  rw [← haa] at c2 hc ha
  have ha2 : (a : Int) ≤ n := by omega
  have ha3 : ¬ n = a := by omega
  have ha4 : n - a = 1 := by omega
  have HH := Lib.hid (And.intro hb hE)
  clear hb hE hn haa hz ha
  go_enter Tryd.func101, Tryd.ntmps101
  go_wp2
  all_goals go_ret
  all_goals exact began_not HH.out.1 HH.out.2 (by decide) 0

set_option maxHeartbeats 800000 in
theorem begin_mark (w : World) (t g : Nat) (l : List Int) (s : St) (hb : Box w t 145 (cellsP s)) (ha : s.at_ + 1 < l.length) (hc : w.cell? ⟨g, s.at_, none⟩ = some (.int .u8 (l.getD s.at_ 0))) (hc1 : w.cell? ⟨g, s.at_ + 1, none⟩ = some (.int .u8 (l.getD (s.at_ + 1) 0))) (hz : l.getD s.at_ 0 = 255) (hz1 : l.getD (s.at_ + 1) 0 ≠ 0) :
    Calls Tryd.prog 101 #[.pointer (some ⟨t, 0, none⟩), .slice (some ⟨g, 0, none⟩) l.length l.length] w (Began w t l s) := by
  have c2 : w.cell? ⟨t, 2, none⟩ = some (.int .i64 (s.at_ : Int)) := hb.cell 2
  have hE : beginE l s.at_ = 7 := by rw [beginE, if_pos (by omega), if_pos hz, if_pos ha, if_neg hz1]
  obtain ⟨n, hn⟩ : ∃ n, n = l.length := ⟨_, rfl⟩
  obtain ⟨a, haa⟩ : ∃ a, a = s.at_ := ⟨_, rfl⟩
  obtain ⟨y, hy⟩ : ∃ y, y = l.getD (s.at_ + 1) 0 := ⟨_, rfl⟩
  rw [hz] at hc
  rw [← hn] at ha ⊢
  rw [← hy] at hc1 hz1
  rw [← haa] at c2 hc ha hc1
  have ha2 : (a : Int) ≤ n := by omega
  have ha3 : ¬ n = a := by omega
  have ha4 : ¬ (n - a = 0) := by omega
  have ha5 : ¬ (n - a < 2) := by omega
  have ha6 : 1 < n - a := by omega
  have HH := Lib.hid (And.intro hb hE)
  clear hb hE hn haa hz ha hy
  go_enter Tryd.func101, Tryd.ntmps101
  go_wp2
  all_goals go_ret
  all_goals exact began_not HH.out.1 HH.out.2 (by decide) 0

set_option maxHeartbeats 800000 in
theorem begin_two (w : World) (t g : Nat) (l : List Int) (s : St) (hb : Box w t 145 (cellsP s)) (hgt : g ≠ t) (ha : s.at_ + 1 < l.length) (hl : l.length ≤ 60000) (hc : w.cell? ⟨g, s.at_, none⟩ = some (.int .u8 (l.getD s.at_ 0))) (hc1 : w.cell? ⟨g, s.at_ + 1, none⟩ = some (.int .u8 (l.getD (s.at_ + 1) 0))) (hz : l.getD s.at_ 0 = 255) (hz1 : l.getD (s.at_ + 1) 0 = 0) :
    Calls Tryd.prog 101 #[.pointer (some ⟨t, 0, none⟩), .slice (some ⟨g, 0, none⟩) l.length l.length] w (Began w t l s) := by
  have c2 : w.cell? ⟨t, 2, none⟩ = some (.int .i64 (s.at_ : Int)) := hb.cell 2
  have c0 : w.cell? ⟨t, 0, none⟩ = some (.int .i64 (s.v : Int)) := hb.cell 0
  have c1 : w.cell? ⟨t, 1, none⟩ = some (.int .i64 (s.c : Int)) := hb.cell 1
  have f0 := hb.free 0
  have f1 := hb.free 1
  have f2 := hb.free 2
  have hE : beginE l s.at_ = 0 := by rw [beginE, if_pos (by omega), if_pos hz, if_pos ha, if_pos hz1]
  have hS : beginS l s.at_ = 2 := by rw [beginS, if_pos hz]
  obtain ⟨n, hn⟩ : ∃ n, n = l.length := ⟨_, rfl⟩
  obtain ⟨a, haa⟩ : ∃ a, a = s.at_ := ⟨_, rfl⟩
  have hzz : 255 = (l.getD s.at_ 0).toNat := by rw [hz]; rfl
  rw [hz] at hc
  rw [hz1] at hc1
  rw [← hn] at hl ha ⊢
  rw [← haa] at c2 hc ha hc1
  have hcs : ∀ u, (w.setCell ⟨t, 2, none⟩ u).cell? ⟨g, a, none⟩ = some (.int .u8 255) := fun u => (World.cell?_setCell_other w ⟨t, 2, none⟩ ⟨g, a, none⟩ u (fun e => hgt (congrArg Addr.block e).symm)).trans hc
  have ha2 : (a : Int) ≤ n := by omega
  have ha3 : ¬ n = a := by omega
  have ha4 : ¬ (n - a = 0) := by omega
  have ha5 : ¬ (n - a < 2) := by omega
  have ha6 : 1 < n - a := by omega
  have hz62 := zero62
  have HH := Lib.hid (And.intro hb (And.intro hE (And.intro hS (And.intro haa hzz))))
  clear hb hE hS hn haa hzz hz hz1
  go_enter Tryd.func101, Tryd.ntmps101
  go_wp2
  all_goals go_ret
  all_goals exact began_done (z := 255) HH.out.1 HH.out.2.1 HH.out.2.2.1 HH.out.2.2.2.1 HH.out.2.2.2.2 rfl

theorem begin_any (w : World) (t r g : Nat) (l : List Int) (s s' : St) (hb : Box w t 145 (cellsP s)) (h : Rd w r g l s') (ha : s.at_ ≤ l.length) :
    Calls Tryd.prog 101 #[.pointer (some ⟨t, 0, none⟩), .slice (some ⟨g, 0, none⟩) l.length l.length] w (Began w t l s) := by
  have hgt : g ≠ t := h.own.apart hb (by decide)
  by_cases h0 : s.at_ = l.length
  · exact begin_over w t g l s hb h0
  have hc := h.byte s.at_ (by omega)
  by_cases hz : l.getD s.at_ 0 = 255
  · by_cases h1 : s.at_ + 1 = l.length
    · exact begin_last w t g l s hb h1 hc hz
    have hc1 := h.byte (s.at_ + 1) (by omega)
    by_cases hz1 : l.getD (s.at_ + 1) 0 = 0
    · exact begin_two w t g l s hb hgt (by omega) h.len hc hc1 hz hz1
    · exact begin_mark w t g l s hb (by omega) hc hc1 hz hz1
  · exact begin_plain w t g l s hb hgt (by omega) h.len hc h.fit hz
end Go.Proofs.YtdnjnbfmmgkpjaaDoor

namespace Go.Proofs.YtdnjnbfmmgkpjaaDoor
open Go.RowKit

/-- what Get leaves -/
def Got (w : World) (r g : Nat) (l : List Int) (R : St × Nat × Int) (e : Ending) (w' : World) : Prop :=
  e = .returned (.tuple #[.int .i64 (R.2.1 : Int), .int .i64 R.2.2]) ∧ Rd w' r g l R.1 ∧ Kept (fun i => i = r) w w'

set_option maxHeartbeats 400000 in
theorem get_range (w : World) (r g : Nat) (l : List Int) (s : St) (k : Int) (h : Rd w r g l s) (hk : k < 0 ∨ (¬ k < 0 ∧ 24 < k)) : Calls Tryd.prog 99 #[.pointer (some ⟨r, 0, none⟩), .int .i64 k] w (Got w r g l (s, 0, 2)) := by
  have HH := Lib.hid h
  clear h
  rcases hk with hk | ⟨hk0, hk⟩
  · go_enter Tryd.func99, Tryd.ntmps99
    go_wp2
    go_step3
    go_wp2
    try rw [Exit.noGoto_ret]
    go_ret2
    exact ⟨rfl, HH.out, Kept.refl _ _⟩
  · go_enter Tryd.func99, Tryd.ntmps99
    go_wp2
    go_step3
    go_wp2
    try rw [Exit.noGoto_ret]
    go_ret2
    exact ⟨rfl, HH.out, Kept.refl _ _⟩

/-- how Get stands: k bits are still to come, the number so far is m -/
structure Getting (w wr : World) (t r g : Nat) (l : List Int) (s : St) (R : St × Nat × Int) (k m : Nat) (s' : St) : Prop where
  place : Box wr t 145 (cellsP s')
  rd : Rd wr r g l s
  ok : s'.ok l.length
  bel : Below w.heap.size w wr
  new : w.heap.size ≤ t
  res : goF l s k s' m = R
  fits : m < 2 ^ (24 - k)
  few : k ≤ 24
  old : r < w.heap.size ∧ g < w.heap.size

section
variable {w wr : World} {t r g : Nat} {l : List Int} {s : St} {R : St × Nat × Int} {k m : Nat} {s' : St}
theorem Getting.kept (h : Getting w wr t r g l s R k m s') {w' : World} (b : Kept (fun i => i = t) wr w') : Rd w' r g l s ∧ Below w.heap.size w w' := by
  have := h.old
  have := h.new
  exact ⟨h.rd.kept b (fun e => by omega) (fun e => by omega), h.bel.trans (b.below h.bel.size (fun i hi e => by omega))⟩
/-- the reader goes to where the place is -/
theorem Getting.ends (h : Getting w wr t r g l s R 0 m s') : Got w r g l R (.returned (.tuple #[.int .i64 (m : Int), .int .i64 0])) (((wr.setCell ⟨r, 0, none⟩ (.int .i64 (s'.v : Int))).setCell ⟨r, 1, none⟩ (.int .i64 (s'.c : Int))).setCell ⟨r, 2, none⟩ (.int .i64 (s'.at_ : Int))) := by
  have k1 : Kept (fun i => i = r) wr (((wr.setCell ⟨r, 0, none⟩ (.int .i64 (s'.v : Int))).setCell ⟨r, 1, none⟩ (.int .i64 (s'.c : Int))).setCell ⟨r, 2, none⟩ (.int .i64 (s'.at_ : Int))) :=
    (((Kept.refl (fun i => i = r) wr).setCell (p := ⟨r, 0, none⟩) (fun _ => rfl) _).setCell (p := ⟨r, 1, none⟩) (fun _ => rfl) _).setCell (p := ⟨r, 2, none⟩) (fun _ => rfl) _
  have hb := ((h.rd.box.put 0 (.int .i64 (s'.v : Int))).put 1 (.int .i64 (s'.c : Int))).put 2 (.int .i64 (s'.at_ : Int))
  rw [← h.res]
  exact ⟨rfl, ⟨hb, k1.box h.rd.own (fun e => h.rd.apart e.symm), h.rd.fit, h.ok, h.rd.len⟩, (Kept.of_below h.bel (fun i => i = r)).trans k1 (fun _ _ e => e)⟩
theorem Getting.fails (h : Getting w wr t r g l s R (k + 1) m s') (hc : s'.c = 0) {E : Int} (hE : beginE l s'.at_ = E) (h0 : E ≠ 0) {w' : World} (b : Kept (fun i => i = t) wr w') : Got w r g l R (.returned (.tuple #[.int .i64 0, .int .i64 E])) w' := by
  obtain ⟨h1, h2⟩ := h.kept b
  have hr := h.res
  rw [goF_none k m hc (by rw [hE]; exact h0), hE] at hr
  rw [← hr]
  exact ⟨rfl, h1, Kept.of_below h2 _⟩
theorem Getting.begins (h : Getting w wr t r g l s R (k + 1) m s') (hc : s'.c = 0) (hE : beginE l s'.at_ = 0) {w' : World} (b : Kept (fun i => i = t) wr w') (hb : Box w' t 145 (cellsP (begun l s'.at_))) : Getting w w' t r g l s R (k + 1) m (begun l s'.at_) := by
  obtain ⟨h1, h2⟩ := h.kept b
  refine ⟨hb, h1, begun_ok h.rd.fit hE, h2, h.new, ?_, h.fits, h.few, h.old⟩
  rw [← goF_begun k m hc hE]
  exact h.res
theorem Getting.takes (h : Getting w wr t r g l s R (k + 1) m s') (hc : 0 < s'.c) {w' : World} (b : Kept (fun i => i = t) wr w') (hb : Box w' t 145 (((cellsP s').setIfInBounds 1 (.int .i64 ((s'.c - 1 : Nat) : Int))).setIfInBounds 0 (.int .i64 ((s'.v % 2 ^ (s'.c - 1) : Nat) : Int)))) :
    Getting w w' t r g l s R k (2 * m + s'.v / 2 ^ (s'.c - 1)) ⟨s'.at_, s'.v % 2 ^ (s'.c - 1), s'.c - 1⟩ := by
  obtain ⟨h1, h2⟩ := h.kept b
  have hok := bitF_ok h.rd.fit h.ok
  have hbit := bitF_bit h.rd.fit h.ok
  rw [bitF_full hc] at hok hbit
  refine ⟨hb, h1, hok, h2, h.new, ?_, ?_, by have := h.few; omega, h.old⟩
  · rw [← goF_full k m hc]
    exact h.res
  · have := h.fits
    have := h.few
    rw [show 24 - k = (24 - (k + 1)) + 1 by omega, Nat.pow_succ]
    have hb2 : s'.v / 2 ^ (s'.c - 1) < 2 := hbit
    omega
end

set_option maxRecDepth 10000 in
set_option maxHeartbeats 3200000 in
theorem getBits_some (w : World) (r g : Nat) (l : List Int) (s : St) (k : Nat) (h : Rd w r g l s) (hk : k ≤ 24) : Calls Tryd.prog 99 #[.pointer (some ⟨r, 0, none⟩), .int .i64 (k : Int)] w (Got w r g l (goF l s k s 0)) := by
  have c0 : w.cell? ⟨r, 0, none⟩ = some (.int .i64 (s.v : Int)) := h.box.cell 0
  have c1 : w.cell? ⟨r, 1, none⟩ = some (.int .i64 (s.c : Int)) := h.box.cell 1
  have c2 : w.cell? ⟨r, 2, none⟩ = some (.int .i64 (s.at_ : Int)) := h.box.cell 2
  obtain ⟨R, hR⟩ : ∃ R, R = goF l s k s 0 := ⟨_, rfl⟩
  obtain ⟨w1, hw1⟩ : ∃ w1, w1 = w.alloc (.cells (cellsP s) 145) := ⟨_, rfl⟩
  obtain ⟨t, ht⟩ : ∃ t, t = w.heap.size := ⟨_, rfl⟩
  have hG : Getting w w1 t r g l s R k 0 s := by
    subst hw1 ht
    exact ⟨Box.made _ _ _, h.on (on_alloc _ _), h.ok, on_alloc _ _, Nat.le_refl _, hR.symm, pow_pos' _, hk, h.box.lt, h.own.lt⟩
  rw [← hR]
  have HG := Lib.hid (And.intro hG (And.intro hw1 ht))
  clear hG hw1 ht h hR
  go_enter Tryd.func99, Tryd.ntmps99
  go_wp2
  go_step3
  go_wp2
  go_step3
  go_wp2
  rw [show w.alloc (.cells #[.int .i64 (s.v : Int), .int .i64 (s.c : Int), .int .i64 (s.at_ : Int)] 145) = w1 from HG.out.2.1.symm, ← HG.out.2.2]
  clear c0 c1 c2
  go_loopg [1, 7] (2 * k + (if s.c = 0 then 1 else 0)) (fun q u1 u7 wr => ∃ k1 m1 s1, u1 = .int .i64 ((k1 : Nat) : Int) ∧ u7 = .int .i64 ((m1 : Nat) : Int) ∧ Getting w wr t r g l s R k1 m1 s1 ∧ q = 2 * k1 + (if s1.c = 0 then 1 else 0))
  case atStart => exact ⟨k, 0, s, rfl, rfl, HG.out.1, rfl⟩
  case round =>
    obtain ⟨k1, m1, s1, rfl, rfl, hG, hq⟩ := hrel
    have d0 : wr.cell? ⟨t, 0, none⟩ = some (.int .i64 (s1.v : Int)) := hG.place.cell 0
    have d1 : wr.cell? ⟨t, 1, none⟩ = some (.int .i64 (s1.c : Int)) := hG.place.cell 1
    have d2 : wr.cell? ⟨t, 2, none⟩ = some (.int .i64 (s1.at_ : Int)) := hG.place.cell 2
    have hrd := hG.rd
    have hk1 := hG.few
    have HR := Lib.hid (And.intro hG hq)
    clear hG hq
    by_cases h0 : k1 = 0
    · subst h0
      have e0 : wr.cell? ⟨r, 0, none⟩ = some (.int .i64 (s.v : Int)) := hrd.box.cell 0
      have e1 : wr.cell? ⟨r, 1, none⟩ = some (.int .i64 (s.c : Int)) := hrd.box.cell 1
      have e2 : wr.cell? ⟨r, 2, none⟩ = some (.int .i64 (s.at_ : Int)) := hrd.box.cell 2
      have f0 := hrd.box.free 0
      have f1 := hrd.box.free 1
      have f2 := hrd.box.free 2
      clear hrd
      go_wp2
      try rw [Exit.noGoto_ret]
      go_ret2
      exact HR.out.1.ends
    · have hk0 : 0 < k1 := by omega
      clear hrd
      go_wp2_with fail
      obtain ⟨w2, hw2⟩ : ∃ w2, wr = w2 := ⟨_, rfl⟩
      rw [hw2] at HR ⊢
      clear d0 d1 d2 hw2
      go_loopg [1, 7, 26] s1.c (fun q u1 u7 u26 wr => ∃ k2 m2 s2 j, u1 = .int .i64 ((k2 : Nat) : Int) ∧ u7 = .int .i64 ((m2 : Nat) : Int) ∧ u26 = .int .i64 ((j : Nat) : Int) ∧ Getting w wr t r g l s R k2 m2 s2 ∧ 0 < k2 ∧ q = s2.c ∧ s2.c + j = s1.c ∧ k2 + j = k1)
      case atStart => exact ⟨k1, m1, s1, 0, rfl, rfl, rfl, HR.out.1, hk0, rfl, rfl, rfl⟩
      case round =>
        obtain ⟨k2, m2, s2, j, rfl, rfl, rfl, hG, hk20, hq2, hj, hkj⟩ := hrel
        obtain ⟨k3, rfl⟩ : ∃ k3, k2 = k3 + 1 := ⟨k2 - 1, by omega⟩
        have hk24 := hG.few
        have hat := hG.ok.at_
        have hc8 := hG.ok.c
        have hv8 := hG.ok.v
        by_cases hc : s2.c = 0
        · have hj1 : ¬ (j : Int) < (s1.c : Int) := by omega
          have e3 : wr.cell? ⟨r, 3, none⟩ = some (.slice (some ⟨g, 0, none⟩) l.length l.length) := hG.rd.box.cell 3
          have HT := Lib.hid (begin_any wr t r g l s2 s hG.place hG.rd hat)
          have HI := Lib.hid (And.intro hG (And.intro hq2 (And.intro hj hkj)))
          clear hG hq2 hj hkj
          by_cases hE : beginE l s2.at_ = 0
          · go_wp2_with fail
            refine HT.out.mono ?_
            rintro e w3 ⟨rfl, hb3, b3⟩
            rw [if_pos hE] at hb3
            rw [hE]
            have H3 := Lib.hid (HI.out.1.begins hc hE b3 hb3)
            clear hb3 b3
            go_wp2
            go_roundg (2 * (k3 + 1))
            case rel => exact ⟨k3 + 1, m2, _, rfl, rfl, H3.out, rfl⟩
            case measure =>
              have := HI.out.2.2
              have h2 := HR.out.2
              rw [h2]
              split <;> omega
          · obtain ⟨E, hEE⟩ : ∃ E, E = beginE l s2.at_ := ⟨_, rfl⟩
            have hE0 : ¬ E = 0 := by rw [hEE]; exact hE
            have HE := Lib.hid (And.intro hEE hE)
            clear hE
            go_wp2_with fail
            refine HT.out.mono ?_
            rintro e w3 ⟨rfl, hb3, b3⟩
            rw [← HE.out.1]
            have H3 := Lib.hid (HI.out.1.fails hc HE.out.1.symm hE0 b3)
            clear hb3 b3 hEE
            go_wp2
            try rw [Exit.noGoto_ret]
            go_ret2
            exact H3.out
        · have hj1 : (j : Int) < (s1.c : Int) := by omega
          have hc0 : 0 < s2.c := by omega
          have hj9 : j ≤ 8 := by have := HR.out.1.ok.c; omega
          obtain ⟨c2, hc2⟩ : ∃ c2, c2 = s2.c - 1 := ⟨_, rfl⟩
          obtain ⟨b, hb⟩ : ∃ b, b = s2.v / 2 ^ c2 := ⟨_, rfl⟩
          have hb2 : b < 2 := by
            have := bitF_bit hG.rd.fit hG.ok
            rw [bitF_full hc0] at this
            rw [hb, hc2]
            exact this
          have hm2 : m2 < 16777216 := Nat.lt_of_lt_of_le hG.fits (Nat.le_trans (Nat.pow_le_pow_right (by omega) (show 24 - (k3 + 1) ≤ 24 by omega)) (by decide))
          have hor : bits .or .i64 ((m2 : Int) * 2) (b : Int) = ((2 * m2 + b : Nat) : Int) := by
            have h1 := or_i64 (m2 * 2) b (by omega) (by omega)
            have h2 := or_join m2 b 1 (by omega)
            rw [Nat.pow_one] at h2
            rw [h2] at h1
            rw [show (2 * m2 + b : Nat) = m2 * 2 + b by omega, ← h1]
            simp
          have hv40 : s2.v < 1099511627776 := Nat.lt_of_lt_of_le hv8 (Nat.le_trans (Nat.pow_le_pow_right (by omega) hc8) (by decide))
          have HT := Lib.hid (take_at wr t 0 145 (cellsP s2) s2.v s2.c c2 1 hG.place rfl rfl (by omega) (by omega) (by omega) hv40)
          have HI := Lib.hid (And.intro hG (And.intro hq2 (And.intro hj (And.intro hkj (And.intro hc2 hb)))))
          clear hG hq2 hj hkj hc2 hb hv8 hv40
          go_wp2_with fail
          refine HT.out.mono ?_
          rintro e w3 ⟨rfl, hb3, b3⟩
          rw [← HI.out.2.2.2.2.2]
          have hG3 := HI.out.1.takes hc0 b3 (by rw [← HI.out.2.2.2.2.1]; exact hb3)
          rw [← HI.out.2.2.2.2.1, ← HI.out.2.2.2.2.2] at hG3
          have hrd := hG3.rd
          have H3 := Lib.hid hG3
          clear hb3 b3 hG3
          by_cases hz : k3 = 0
          · subst hz
            have d0 : w3.cell? ⟨t, 0, none⟩ = some (.int .i64 ((s2.v % 2 ^ c2 : Nat) : Int)) := H3.out.place.cell 0
            have d1 : w3.cell? ⟨t, 1, none⟩ = some (.int .i64 (c2 : Int)) := H3.out.place.cell 1
            have d2 : w3.cell? ⟨t, 2, none⟩ = some (.int .i64 (s2.at_ : Int)) := H3.out.place.cell 2
            have e0 : w3.cell? ⟨r, 0, none⟩ = some (.int .i64 (s.v : Int)) := hrd.box.cell 0
            have e1 : w3.cell? ⟨r, 1, none⟩ = some (.int .i64 (s.c : Int)) := hrd.box.cell 1
            have e2 : w3.cell? ⟨r, 2, none⟩ = some (.int .i64 (s.at_ : Int)) := hrd.box.cell 2
            have f0 := hrd.box.free 0
            have f1 := hrd.box.free 1
            have f2 := hrd.box.free 2
            have HQ := Lib.hid H3.out.ends
            obtain ⟨vq, hvq⟩ : ∃ vq, vq = s2.v % 2 ^ c2 := ⟨_, rfl⟩
            rw [← hvq] at d0 HQ
            clear hrd hvq
            go_wp2
            try rw [Exit.noGoto_ret]
            go_ret2
            exact HQ.out
          · clear hrd
            go_wp2
            go_roundg c2
            case rel => exact ⟨k3, _, _, j + 1, by go_num, rfl, by go_num, H3.out, by omega, rfl, by have := HI.out; show c2 + (j + 1) = s1.c; omega, by have := HI.out; omega⟩
            case measure =>
              have := HI.out
              omega

theorem get_any (w : World) (r g : Nat) (l : List Int) (s : St) (k : Int) (h : Rd w r g l s) : Calls Tryd.prog 99 #[.pointer (some ⟨r, 0, none⟩), .int .i64 k] w (Got w r g l (getF l s k)) := by
  by_cases hk : k < 0 ∨ 24 < k
  · rw [getF, if_pos hk]
    exact get_range w r g l s k h (by omega)
  · rw [getF, if_neg hk]
    obtain ⟨n, rfl⟩ := Int.eq_ofNat_of_zero_le (show 0 ≤ k by omega)
    rw [Int.toNat_natCast]
    exact getBits_some w r g l s n h (by omega)
end Go.Proofs.YtdnjnbfmmgkpjaaDoor

namespace Go.Proofs.YtdnjnbfmmgkpjaaDoor
open Go.RowKit

theorem getF_one (l : List Int) (s : St) : getF l s 1 = bitF l s := by
  rw [getF, if_neg (by omega), show (1 : Int).toNat = 0 + 1 from rfl, goF]
  by_cases hc : 0 < s.c
  · rw [bitF_full hc, if_pos rfl, goF]
    simp
  · by_cases h0 : beginE l s.at_ = 0
    · rw [bitF_begun (by omega) h0, bitF_full (by show 0 < 8; omega), if_pos rfl, goF]
      simp
    · rw [bitF_none (by omega) h0, if_neg h0]

set_option maxHeartbeats 400000 in
theorem bit_any (w : World) (r g : Nat) (l : List Int) (s : St) (h : Rd w r g l s) : Calls Tryd.prog 98 #[.pointer (some ⟨r, 0, none⟩)] w (Got w r g l (bitF l s)) := by
  have HT := Lib.hid (get_any w r g l s 1 h)
  rw [getF_one] at HT
  clear h
  go_enter Tryd.func98, Tryd.ntmps98
  go_wp2_with fail
  refine HT.out.mono ?_
  rintro e w1 ⟨rfl, h1, k1⟩
  have H1 := Lib.hid (And.intro h1 k1)
  clear h1 k1
  go_wp2
  go_ret2
  exact ⟨rfl, H1.out.1, H1.out.2⟩

theorem marked_not {w : World} {r g : Nat} {l : List Int} {s : St} {E : Int} (h : Rd w r g l s) (hE : markE l s.at_ = E) (h0 : E ≠ 0) {w' : World} (hb : Below w.heap.size w w') : Got w r g l (markF l s) (.returned (.tuple #[.int .i64 0, .int .i64 E])) w' := by
  rw [markF, if_neg (by rw [hE]; exact h0), hE]
  exact ⟨rfl, h.on hb, Kept.of_below hb _⟩

theorem marked_done {w w1 : World} {r g a z : Nat} {l : List Int} {s : St} (h : Rd w r g l s) (hE : markE l s.at_ = 0) (ha : a = s.at_) (hz : z = (l.getD (s.at_ + 1) 0).toNat) (hl : s.at_ + 2 ≤ l.length) (hb : Below w.heap.size w w1) {x : Int} (hx : x = ((a + 2 : Nat) : Int)) :
    Got w r g l (markF l s) (.returned (.tuple #[.int .i64 (z : Int), .int .i64 0])) (((w1.setCell ⟨r, 0, none⟩ (.int .i64 0)).setCell ⟨r, 1, none⟩ (.int .i64 0)).setCell ⟨r, 2, none⟩ (.int .i64 x)) := by
  subst hx ha hz
  have h1 := h.on hb
  have k1 : Kept (fun i => i = r) w1 (((w1.setCell ⟨r, 0, none⟩ (.int .i64 0)).setCell ⟨r, 1, none⟩ (.int .i64 0)).setCell ⟨r, 2, none⟩ (.int .i64 ((s.at_ + 2 : Nat) : Int))) :=
    (((Kept.refl (fun i => i = r) w1).setCell (p := ⟨r, 0, none⟩) (fun _ => rfl) _).setCell (p := ⟨r, 1, none⟩) (fun _ => rfl) _).setCell (p := ⟨r, 2, none⟩) (fun _ => rfl) _
  have hbx := ((h1.box.put 0 (.int .i64 0)).put 1 (.int .i64 0)).put 2 (.int .i64 ((s.at_ + 2 : Nat) : Int))
  rw [markF, if_pos hE]
  exact ⟨rfl, ⟨hbx, k1.box h1.own (fun e => h1.apart e.symm), h1.fit, ⟨hl, Nat.zero_le _, by show 0 < 2 ^ 0; omega⟩, h1.len⟩, (Kept.of_below hb (fun i => i = r)).trans k1 (fun _ _ e => e)⟩

end Go.Proofs.YtdnjnbfmmgkpjaaDoor

namespace Go.Proofs.YtdnjnbfmmgkpjaaDoor
open Go.RowKit

/-- k bits more at most, behind the z bits of m: where the reader stands then, the value, the error -/
def getsF (L : List En) (l : List Int) : Nat → St → Nat → Nat → St × Int × Int
  | 0, s, _, _ => (s, 0, 6)
  | k + 1, s, m, z => if (bitF l s).2.2 = 0 then
      (match get L (2 * m + (bitF l s).2.1, z + 1) with
        | some e => ((bitF l s).1, e.1, 0)
        | none => getsF L l k (bitF l s).1 (2 * m + (bitF l s).2.1) (z + 1))
    else (s, 0, (bitF l s).2.2)
theorem getsF_err {L : List En} {l : List Int} {k m z : Nat} {s : St} (h : (bitF l s).2.2 ≠ 0) : getsF L l (k + 1) s m z = (s, 0, (bitF l s).2.2) := by rw [getsF, if_neg h]
theorem getsF_hit {L : List En} {l : List Int} {k m z : Nat} {s : St} {e : En} (h : (bitF l s).2.2 = 0) (hg : get L (2 * m + (bitF l s).2.1, z + 1) = some e) : getsF L l (k + 1) s m z = ((bitF l s).1, e.1, 0) := by rw [getsF, if_pos h, hg]
theorem getsF_miss {L : List En} {l : List Int} {k m z : Nat} {s : St} (h : (bitF l s).2.2 = 0) (hg : get L (2 * m + (bitF l s).2.1, z + 1) = none) : getsF L l (k + 1) s m z = getsF L l k (bitF l s).1 (2 * m + (bitF l s).2.1) (z + 1) := by rw [getsF, if_pos h, hg]

/-- what Get tells -/
def GotT (w : World) (r g : Nat) (l : List Int) (R : St × Int × Int) (e : Ending) (w' : World) : Prop :=
  e = .returned (.tuple #[.int .i64 R.2.1, .int .i64 R.2.2]) ∧ Rd w' r g l R.1 ∧ Kept (fun i => i = r) w w'

structure GettingT (w wr : World) (lo hi t r g q : Nat) (B V : List Int) (L : List En) (l : List Int) (R : St × Int × Int) (k : Nat) (s : St) (m : Nat) : Prop where
  tab : Tb wr lo hi t B V L
  rd : Rd wr r g l s
  nxt : Box wr q 154 #[.int .i64 (m : Int), .int .i64 (k : Int)]
  kept : Kept (fun i => i = r) w wr
  res : getsF L l (16 - k) s m k = R
  fits : m < 2 ^ k
  out : r < lo ∨ hi ≤ r
  qnew : w.heap.size ≤ q ∧ r ≠ q ∧ g ≠ q ∧ (q < lo ∨ hi ≤ q)

set_option maxRecDepth 20000 in
set_option maxHeartbeats 1600000 in
theorem getT_any (w : World) (lo hi t r g : Nat) (B V : List Int) (L : List En) (l : List Int) (s : St) (h : Tb w lo hi t B V L) (hr : Rd w r g l s) (hout : r < lo ∨ hi ≤ r) (hhi : hi ≤ w.heap.size) :
    Calls Tryd.prog 90 #[.pointer (some ⟨t, 0, none⟩), .pointer (some ⟨r, 0, none⟩)] w (GotT w r g l (getsF L l 16 s 0 0)) := by
  obtain ⟨R, hR⟩ : ∃ R, R = getsF L l 16 s 0 0 := ⟨_, rfl⟩
  rw [← hR]
  have hz63 : ∀ w, (zeroValue 154).run Tryd.prog w = .ok (.agg #[.int .i64 0, .int .i64 0]) w := fun w => by kernel_rfl
  obtain ⟨q, hq⟩ : ∃ q, q = w.heap.size := ⟨_, rfl⟩
  obtain ⟨w1, hw1⟩ : ∃ w1, w1 = w.alloc (.cells #[.int .i64 0, .int .i64 0] 154) := ⟨_, rfl⟩
  have bel : Below w.heap.size w w1 := by rw [hw1]; exact on_alloc _ _
  have hG : GettingT w w1 lo hi t r g q B V L l R 0 s 0 := by
    refine ⟨h.on bel, hr.on bel, by rw [hw1, hq]; exact Box.made _ _ _, Kept.of_below bel _, hR.symm, by omega, hout, by omega, ?_, ?_, by omega⟩
    · have := hr.box.lt; omega
    · have := hr.own.lt; omega
  have HG := Lib.hid (And.intro hG (And.intro hw1 hq))
  clear hG hw1 hq bel h hr hout hhi hR
  go_enter Tryd.func90, Tryd.ntmps90
  go_wp2
  rw [← HG.out.2.1, ← HG.out.2.2]
  go_loopw [13] (fun i wr => ∃ k s' m, k ≤ 16 ∧ i = .int .i64 ((k : Nat) : Int) ∧ GettingT w wr lo hi t r g q B V L l R k s' m) (fun i _ => 16 - (intOf i).toNat)
  case atStart => exact ⟨0, s, 0, by omega, rfl, HG.out.1⟩
  case round =>
    obtain ⟨k, s', m, hk, rfl, hT⟩ := hrel
    have HT := Lib.hid hT
    by_cases hlt : k < 16
    · have HBit := Lib.hid (bit_any wr r g l s' hT.rd)
      have hbit := bitF_bit hT.rd.fit hT.rd.ok
      have hres := hT.res
      obtain ⟨j, hj⟩ : ∃ j, 16 - k = j + 1 := ⟨16 - k - 1, by omega⟩
      rw [hj] at hres
      obtain ⟨x, hx⟩ : ∃ x, x = bitF l s' := ⟨_, rfl⟩
      have hm16 : m < 65536 := Nat.lt_of_lt_of_le hT.fits (pow16 (by omega))
      rw [← hx] at HBit hbit
      have HX := Lib.hid (And.intro hx (And.intro hres hj))
      clear hx hres hT hj
      obtain ⟨s2, b, E⟩ := x
      dsimp only at hbit
      go_wp2_with fail
      refine HBit.out.mono ?_
      rintro e w2 ⟨rfl, hrd2, k2⟩
      dsimp only at hrd2 ⊢
      have H2 := Lib.hid (And.intro hrd2 k2)
      clear hrd2 k2
      by_cases hE : E = 0
      · subst hE
        have hT2 := HT.out.tab.kept H2.out.2 (fun b' h1 h2 e => by have := HT.out.out; omega)
        have hb2 := H2.out.2.box HT.out.nxt (fun e => HT.out.qnew.2.1 e.symm)
        have HA := Lib.hid (codeAdd_any w2 q m k b hb2 hbit (by omega) (by omega))
        clear hb2
        go_wp2_with fail
        refine HA.out.mono ?_
        rintro e w3 ⟨rfl, hb3, k3⟩
        obtain ⟨m', hm'⟩ : ∃ m', m' = 2 * m + b := ⟨_, rfl⟩
        obtain ⟨z', hz'⟩ : ∃ z', z' = k + 1 := ⟨_, rfl⟩
        rw [← hm', ← hz'] at hb3
        have hT3 := hT2.kept k3 (fun b' h1 h2 e => by have := HT.out.qnew; omega)
        have hr3 := H2.out.1.kept k3 HT.out.qnew.2.1 HT.out.qnew.2.2.1
        have kk : Kept (fun i => i = r) w w3 := (HT.out.kept.trans H2.out.2 (fun _ _ e => e)).trans k3 (fun i hi e => by have := HT.out.qnew.1; omega)
        have c0 : w3.cell? ⟨q, 0, none⟩ = some (.int .i64 (m' : Int)) := hb3.cell 0
        have c1 : w3.cell? ⟨q, 1, none⟩ = some (.int .i64 (z' : Int)) := hb3.cell 1
        have H3 := Lib.hid (And.intro hT3 (And.intro hr3 (And.intro hb3 (And.intro kk (And.intro hm' hz')))))
        obtain ⟨A, n, c, mm, hTA⟩ := hT3
        have c2 := (hTA.box.cell 529).trans (tabC_map hTA.len)
        have hm17 : m' < 200000 := by omega
        have hz17 : z' < 20 := by omega
        have hlook := Mq.look (w := w3.drew) (hTA.map.block rfl) (b := m') (s := z') (by omega) (by omega)
        unfold codeV at hlook
        clear hT2 k3 hr3 kk hb3 hTA hm' hz'
        obtain ⟨o, ho⟩ : ∃ o, o = get L (m', z') := ⟨_, rfl⟩
        rw [← ho] at hlook
        have HO := Lib.hid ho
        clear ho
        rcases o with _ | en
        · simp only [Option.map_none, Option.getD_none, Option.isSome_none] at hlook
          go_wp2_with fail
          go_region
          all_goals
            (clear c0 c1 c2 hlook
             go_wp2
             go_roundw
             case rel =>
               obtain ⟨hT3, hr3, hb3, kk, hm', hz'⟩ := H3.out
               have hres := HX.out.2.1
               refine ⟨k + 1, s2, m', by omega, by go_num, hT3.kept ((Kept.refl (fun _ => False) w3).drewN _) (fun _ _ _ h => h), hr3.kept ((Kept.refl (fun _ => False) w3).drewN _) (fun h => h) (fun h => h), ?_, kk.drewN _, ?_, ?_, HT.out.out, HT.out.qnew⟩
               · rw [← hz']; exact hb3.drewN _
               · have ho := HO.out
                 have hx := HX.out.1
                 rw [getsF_miss (by rw [← hx]) (by rw [← hx]; dsimp only; rw [← hm', ← hz']; exact ho.symm)] at hres
                 rw [← hx] at hres
                 dsimp only at hres
                 rw [← hm'] at hres
                 have hj := HX.out.2.2
                 rw [show 16 - (k + 1) = j by omega]
                 exact hres
               · have := HT.out.fits
                 rw [Nat.pow_succ]
                 omega
             case measure => simp [intOf]; omega)
        · simp only [Option.map_some, Option.getD_some, Option.isSome_some] at hlook
          go_wp2_with fail
          go_region
          all_goals
            (clear c0 c1 c2 hlook
             go_wp2
             go_ret2
             obtain ⟨hT3, hr3, hb3, kk, hm', hz'⟩ := H3.out
             have hres := HX.out.2.1
             have ho := HO.out
             have hx := HX.out.1
             rw [getsF_hit (by rw [← hx]) (by rw [← hx]; dsimp only; rw [← hm', ← hz']; exact ho.symm)] at hres
             rw [← hx] at hres
             rw [← hres]
             exact ⟨rfl, hr3.kept ((Kept.refl (fun _ => False) w3).drewN _) (fun h => h) (fun h => h), kk.drewN _⟩)
      · have hEi : ¬ E = 0 := hE
        have hEb : (E == 0) = false := by simpa using hE
        go_wp2
        go_ret2
        have hres := HX.out.2.1
        have hx := HX.out.1
        rw [getsF_err (by rw [← hx]; exact hE)] at hres
        rw [← hx] at hres
        rw [← hres]
        have hs : s2 = s' := by
          have h1 : (bitF l s').2.2 = 0 ∨ (bitF l s').1 = s' := by
            unfold bitF
            split
            · exact .inl rfl
            · split
              · exact .inl rfl
              · exact .inr rfl
          rw [← hx] at h1
          rcases h1 with h1 | h1
          · exact absurd h1 hE
          · exact h1
        rw [hs] at H2
        exact ⟨rfl, H2.out.1, HT.out.kept.trans H2.out.2 (fun _ _ e => e)⟩
    · have ek : k = 16 := by omega
      clear hT
      go_wp2
      go_ret2
      have hres := HT.out.res
      rw [ek, Nat.sub_self, getsF] at hres
      rw [← hres]
      exact ⟨rfl, HT.out.rd, HT.out.kept⟩
end Go.Proofs.YtdnjnbfmmgkpjaaDoor

namespace Go.Proofs.YtdnjnbfmmgkpjaaDoor
open Go.RowKit

/-- the bits of values -/
def bitsV (L : List En) (vs : List Int) : List Int := vs.flatMap fun v => dig (codeOf L v).1 (codeOf L v).2
theorem bitsV_app (L : List En) (a b : List Int) : bitsV L (a ++ b) = bitsV L a ++ bitsV L b := by simp [bitsV]
theorem bitsV_one (L : List En) (v : Int) : bitsV L [v] = dig (codeOf L v).1 (codeOf L v).2 := by simp [bitsV]
theorem bitsV_at (L : List En) (ps : List Int) (j : Nat) (hj : j < ps.length) : ∃ R, bitsV L ps = bitsV L (ps.take j) ++ (dig (codeOf L (ps.getD j 0)).1 (codeOf L (ps.getD j 0)).2 ++ R) ∧ (bitsV L (ps.take (j + 1))).length = (bitsV L (ps.take j)).length + (codeOf L (ps.getD j 0)).2 := by
  have e1 : ps.take (j + 1) = ps.take j ++ [ps.getD j 0] := by
    rw [List.take_succ_eq_append_getElem hj, List.getD_eq_getElem?_getD, List.getElem?_eq_getElem hj]
    rfl
  refine ⟨bitsV L (ps.drop (j + 1)), ?_, ?_⟩
  · conv => lhs; rw [← List.take_append_drop (j + 1) ps]
    rw [bitsV_app, e1, bitsV_app, bitsV_one, List.append_assoc]
  · rw [e1, bitsV_app, List.length_append, bitsV_one, dig_len]

/-- of two codes one is later -/
theorem codes_apart {B V : List Int} {d e : En} (hd : d ∈ codes B V) (he : e ∈ codes B V) : d = e ∨ Later d.2 e.2 ∨ Later e.2 d.2 := by
  obtain ⟨i, hi, hi2⟩ := List.getElem_of_mem hd
  obtain ⟨j, hj, hj2⟩ := List.getElem_of_mem he
  have hi3 : (codes B V)[i]? = some d := by rw [List.getElem?_eq_getElem hi, hi2]
  have hj3 : (codes B V)[j]? = some e := by rw [List.getElem?_eq_getElem hj, hj2]
  have gi := (ents_at.1 hi3).2
  have gj := (ents_at.1 hj3).2
  obtain ⟨ki, hki⟩ := List.getElem?_eq_some_iff.1 gi
  obtain ⟨kj, hkj⟩ := List.getElem?_eq_some_iff.1 gj
  have hp := List.pairwise_iff_getElem.1 (pre_later (c := cnt B) 16)
  rcases Nat.lt_trichotomy i j with h | h | h
  · right; left
    have := hp i j ki kj h
    rw [hki, hkj] at this
    exact this
  · left
    subst h
    rw [hi3] at hj3
    exact Option.some.inj hj3
  · right; right
    have := hp j i kj ki h
    rw [hki, hkj] at this
    exact this
theorem later_self {x : Nat × Nat} (h : Later x x) : False := by
  unfold Later at h
  rw [Nat.sub_self, Nat.pow_zero] at h
  omega
theorem get_self {B V : List Int} {en : En} (he : en ∈ codes B V) : get (codes B V) en.2 = some en := by
  cases hg : get (codes B V) en.2 with
  | none =>
    unfold get at hg
    have := (List.find?_eq_none.1 hg) en he
    simp at this
  | some d =>
    obtain ⟨h1, h2⟩ := get_some hg
    rcases codes_apart h1 he with h | h | h
    · rw [h]
    · rw [h2] at h
      exact (later_self h).elim
    · rw [h2] at h
      exact (later_self h).elim
theorem get_before {B V : List Int} {en : En} (he : en ∈ codes B V) {t : Nat} (ht : t < en.2.2) : get (codes B V) (en.2.1 / 2 ^ (en.2.2 - t), t) = none := by
  cases hg : get (codes B V) (en.2.1 / 2 ^ (en.2.2 - t), t) with
  | none => rfl
  | some d =>
    exfalso
    obtain ⟨h1, h2⟩ := get_some hg
    obtain ⟨z, x, y⟩ := en
    obtain ⟨u, v⟩ := d
    dsimp only at h2 ht he hg
    subst h2
    rcases codes_apart h1 he with h | h | h
    · have := congrArg (fun e : En => e.2.2) h
      dsimp only at this
      omega
    · obtain ⟨_, h4⟩ := h
      dsimp only at h4
      have := Nat.lt_div_mul_add (a := x) (b := 2 ^ (y - t)) (pow_pos' (y - t))
      rw [Nat.add_mul, Nat.one_mul] at h4
      omega
    · obtain ⟨h4, _⟩ := h
      dsimp only at h4
      omega

theorem half_step (b z t : Nat) (h : t < z) : 2 * (b / 2 ^ (z - t)) + b / 2 ^ (z - 1 - t) % 2 = b / 2 ^ (z - (t + 1)) := by
  obtain ⟨d, hd⟩ : ∃ d, z - t = d + 1 := ⟨z - t - 1, by omega⟩
  rw [hd, show z - 1 - t = d by omega, show z - (t + 1) = d by omega, Nat.pow_succ, ← Nat.div_div_eq_div_mul]
  omega

/-- bit by bit, until the code is there -/
theorem gets_go {L : List En} {F T : List Int} {p b z : Nat} {en : En} (hf : Fit F) (hb : ∀ i, i < z → (by8 F).getD (p + i) 0 = ((b / 2 ^ (z - 1 - i) % 2 : Nat) : Int)) (hlen : p + z ≤ 8 * F.length)
    (hnone : ∀ t, t < z → get L (b / 2 ^ (z - t), t) = none) (hself : get L (b, z) = some en) : ∀ (k t fuel : Nat), t + (k + 1) = z → k + 1 ≤ fuel → getsF L (stuff F ++ T) fuel (stAt F (p + t)) (b / 2 ^ (z - t)) t = (stAt F (p + z), en.1, 0)
  | k, t, 0, _, h => absurd h (by omega)
  | k, t, fuel + 1, h1, h2 => by
    obtain ⟨x, hx, he, hs⟩ := stAt_step F T hf (p + t) (by omega)
    rw [hb t (by omega)] at he
    have hx2 : x = b / 2 ^ (z - 1 - t) % 2 := by omega
    have hst := half_step b z t (by omega)
    rw [← hx2] at hst
    cases k with
    | zero =>
      have ht : z - (t + 1) = 0 := by omega
      rw [ht, Nat.pow_zero, Nat.div_one] at hst
      rw [getsF_hit (e := en) (by rw [hs]) (by rw [hs]; dsimp only; rw [hst, show t + 1 = z by omega]; exact hself), hs, show p + t + 1 = p + z by omega]
    | succ k =>
      rw [getsF_miss (by rw [hs]) (by rw [hs]; dsimp only; rw [hst]; exact hnone (t + 1) (by omega)), hs]
      dsimp only
      rw [hst, Nat.add_assoc]
      exact gets_go hf hb hlen hnone hself k (t + 1) fuel (by omega) (by omega)

/-- what was put is what is got -/
theorem back_got {B V F ps : List Int} {j i : Nat} {en : En} (hv : Valid B V) (hF : by8 F = bitsV (codes B V) ps ++ List.replicate i 1) (hj : j < ps.length) (hf : Fit F) (hen : fnd (codes B V) (ps.getD j 0) = some en) :
    getsF (codes B V) (stuff F) 16 (stAt F (bitsV (codes B V) (ps.take j)).length) 0 0 = (stAt F (bitsV (codes B V) (ps.take (j + 1))).length, ps.getD j 0, 0) := by
  obtain ⟨R, h1, h2⟩ := bitsV_at (codes B V) ps j hj
  have hc : codeOf (codes B V) (ps.getD j 0) = en.2 := by unfold codeOf; rw [hen]; rfl
  obtain ⟨hm, hn⟩ := fnd_some hen
  obtain ⟨hz1, hz16, hlt, _⟩ := hv.code hm
  rw [hc] at h1 h2
  have hl := congrArg List.length hF
  rw [by8_len, List.length_append, h1, List.length_append, List.length_append, dig_len] at hl
  obtain ⟨p, hp⟩ : ∃ p, p = (bitsV (codes B V) (ps.take j)).length := ⟨_, rfl⟩
  have hb : ∀ i, i < en.2.2 → (by8 F).getD (p + i) 0 = ((en.2.1 / 2 ^ (en.2.2 - 1 - i) % 2 : Nat) : Int) := by
    intro i hi
    rw [hF, h1, List.append_assoc, List.getD_eq_getElem?_getD, List.getElem?_append_right (by omega), hp, Nat.add_sub_cancel_left, List.append_assoc, List.getElem?_append_left (by rw [dig_len]; omega), ← List.getD_eq_getElem?_getD, dig_at _ _ _ hi]
  have hgo := gets_go (L := codes B V) (F := F) (T := []) (p := p) (b := en.2.1) (z := en.2.2) (en := en) hf hb (by omega) (fun t ht => get_before hm ht) (get_self hm) (en.2.2 - 1) 0 16 (by omega) (by omega)
  rw [List.append_nil, Nat.add_zero, Nat.sub_zero, Nat.div_eq_of_lt (by omega)] at hgo
  rw [h2, ← hp, hgo, hn]
end Go.Proofs.YtdnjnbfmmgkpjaaDoor

namespace Go.Proofs.YtdnjnbfmmgkpjaaDoor
open Go.RowKit

/-- a law's specification in memory -/
structure Boxed (w w1 : World) (g : Nat) (B V : List Int) (A : Option Addr) (n c : Nat) : Prop where
  box : Box w1 g 30 (specC B (.slice A n c))
  vals : Ia w1 A n c V
  bel : Below w.heap.size w w1
  len : B.length = 16
theorem Boxed.on {w w1 w2 : World} {g : Nat} {B V : List Int} {A : Option Addr} {n c : Nat} (h : Boxed w w1 g B V A n c) (k : Below w1.heap.size w1 w2) : Boxed w w2 g B V A n c :=
  ⟨h.box.on k, h.vals.on k, on_trans h.bel k, h.len⟩
theorem boxed_made {w w1 : World} {g : Nat} {B V : List Int} {A : Option Addr} {n c : Nat} (hB : B.length = 16) (h : Ia w A n c V) (hw : w1 = w.alloc (.cells (specC B (.slice A n c)) 30)) (hg : g = w.heap.size) : Boxed w w1 g B V A n c := by
  subst hw hg
  exact ⟨Box.made _ _ _, h.alloc _, on_alloc _ _, hB⟩
theorem Boxed.slice {w w1 : World} {g : Nat} {B V : List Int} {A : Option Addr} {n c : Nat} (h : Boxed w w1 g B V A n c) : w1.cell? ⟨g, 16, none⟩ = some (.slice A n c) := (h.box.cell 16).trans (specC_last h.len)
end Go.Proofs.YtdnjnbfmmgkpjaaDoor

namespace Go.Proofs.YtdnjnbfmmgkpjaaDoor
open Go.RowKit

theorem nodup_inj {V : List Int} (h : V.Nodup) {i j : Nat} (hi : i < V.length) (hj : j < V.length) (e : V[i] = V[j]) : i = j := by
  rcases Nat.lt_trichotomy i j with h1 | h1 | h1
  · exact absurd e (List.pairwise_iff_getElem.1 h i j hi hj h1)
  · exact h1
  · exact absurd e.symm (List.pairwise_iff_getElem.1 h j i hj hi h1)
/-- a value's code is the one in its place -/
theorem code_at {B V : List Int} (h : Valid B V) {p : Nat} (hp : p < V.length) : ∃ x, (pre (cnt B) 16)[p]? = some x ∧ codeOf (codes B V) (V.getD p 0) = x := by
  have hl := h.lens
  have hx : (pre (cnt B) 16)[p]? = some ((pre (cnt B) 16)[p]'(by omega)) := List.getElem?_eq_getElem (by omega)
  generalize (pre (cnt B) 16)[p]'(by omega) = x at hx
  refine ⟨x, hx, ?_⟩
  have hv : V[p]? = some (V.getD p 0) := by rw [List.getD_eq_getElem?_getD, List.getElem?_eq_getElem hp]; rfl
  have he : (codes B V)[p]? = some (V.getD p 0, x) := ents_at.2 ⟨hv, hx⟩
  have hs : (fnd (codes B V) (V.getD p 0)).isSome = true := by
    unfold fnd
    rw [List.find?_isSome]
    exact ⟨_, List.mem_of_getElem? he, by simp⟩
  obtain ⟨e, hf⟩ := Option.isSome_iff_exists.1 hs
  obtain ⟨h1, h2⟩ := fnd_some hf
  obtain ⟨j, hj⟩ := List.getElem?_of_mem h1
  obtain ⟨h3, h4⟩ := ents_at.1 hj
  obtain ⟨hjl, h3'⟩ := List.getElem?_eq_some_iff.1 h3
  have ej : j = p := nodup_inj h.dif hjl hp (by
    rw [h3', h2, List.getD_eq_getElem?_getD, List.getElem?_eq_getElem hp]
    rfl)
  subst ej
  rw [hx] at h4
  unfold codeOf
  rw [hf]
  exact (Option.some.inj h4).symm

/-- what the laws that look at codes hold on to -/
structure Looking (w wr : World) (g lo hi t : Nat) (B V : List Int) (A : Option Addr) (n c : Nat) : Prop where
  box : Boxed w wr g B V A n c
  tab : Tb wr lo hi t B V (codes B V)
theorem Looking.on {w w1 w2 : World} {g lo hi t : Nat} {B V : List Int} {A : Option Addr} {n c : Nat} (h : Looking w w1 g lo hi t B V A n c) (k : Below w1.heap.size w1 w2) : Looking w w2 g lo hi t B V A n c := ⟨h.box.on k, h.tab.on k⟩

theorem Ia.get {w : World} {b off n c k : Nat} {V : List Int} (h : Ia w (some ⟨b, off, none⟩) n c V) (hk : k < n) : w.cell? ⟨b, off + k, none⟩ = some (.int .i64 (V.getD k 0)) := by
  obtain ⟨b', off', e, _, hc⟩ := h.at_ (by omega)
  cases e
  exact hc k hk
/-- Code tells a value's code -/
def CodedIn (w : World) (x : Nat × Nat) (e : Ending) (w' : World) : Prop := e = .returned (.tuple #[.int .i64 (x.1 : Int), .int .i64 (x.2 : Int), .bool true]) ∧ Below w.heap.size w w'
theorem code_in (w : World) (lo hi t : Nat) (B V : List Int) (p : Nat) (x : Nat × Nat) (v : Int) (h : Tb w lo hi t B V (codes B V)) (hv : Valid B V) (hx : (pre (cnt B) 16)[p]? = some x) (hc : codeOf (codes B V) v = x) :
    Calls Tryd.prog 54 #[.pointer (some ⟨t, 0, none⟩), .int .i64 v] w (CodedIn w x) := by
  refine (code_any w lo hi t B V _ v h (valid_vals hv)).mono ?_
  rintro e w' ⟨rfl, b⟩
  rw [hc]
  have := (mem_pre (List.mem_of_getElem? hx)).1
  exact ⟨by rw [show decide (0 < x.2) = true from decide_eq_true (by omega)], b⟩

end Go.Proofs.YtdnjnbfmmgkpjaaDoor

namespace Go.Proofs.YtdnjnbfmmgkpjaaDoor
open Go.RowKit

/-- the cells of an entry, and of a list of them -/
def cellsEn (e : En) : List Value := [.int .i64 e.1, .int .i64 (e.2.1 : Int), .int .i64 (e.2.2 : Int)]
def cellsE (L : List En) : List Value := L.flatMap cellsEn
theorem cellsE_len : ∀ L : List En, (cellsE L).length = L.length * 3
  | [] => rfl
  | e :: L => by
    have := cellsE_len L
    simp only [cellsE] at this
    simp [cellsE, cellsEn, this]
    omega
theorem cellsE_app (L M : List En) : cellsE (L ++ M) = cellsE L ++ cellsE M := by simp [cellsE]
theorem cellsE_at : ∀ (L : List En) (i : Nat) (e : En), L[i]? = some e → (cellsE L)[i * 3]? = some (.int .i64 e.1) ∧ (cellsE L)[i * 3 + 1]? = some (.int .i64 (e.2.1 : Int)) ∧ (cellsE L)[i * 3 + 2]? = some (.int .i64 (e.2.2 : Int))
  | [], i, e, h => by cases h
  | a :: L, 0, e, h => by
    simp at h
    subst h
    exact ⟨rfl, rfl, rfl⟩
  | a :: L, i + 1, e, h => by
    have := cellsE_at L i e (by simpa using h)
    have e1 : cellsE (a :: L) = cellsEn a ++ cellsE L := by simp [cellsE]
    have hl : (cellsEn a).length = 3 := rfl
    rw [e1]
    refine ⟨?_, ?_, ?_⟩
    · rw [List.getElem?_append_right (by omega), hl, show (i + 1) * 3 - 3 = i * 3 by omega]; exact this.1
    · rw [List.getElem?_append_right (by omega), hl, show (i + 1) * 3 + 1 - 3 = i * 3 + 1 by omega]; exact this.2.1
    · rw [List.getElem?_append_right (by omega), hl, show (i + 1) * 3 + 2 - 3 = i * 3 + 2 by omega]; exact this.2.2

/-- a slice that reads as a list of entries -/
structure Te (w : World) (A : Option Addr) (n : Nat) (L : List En) : Prop where
  len : L.length = n
  at_ : 0 < n → ∃ b off, A = some ⟨b, off, none⟩ ∧ b < w.heap.size ∧ ∀ (i : Nat) (e : En), L[i]? = some e →
    w.cell? ⟨b, off + i * 3, none⟩ = some (.int .i64 e.1) ∧ w.cell? ⟨b, off + i * 3 + 1, none⟩ = some (.int .i64 (e.2.1 : Int)) ∧ w.cell? ⟨b, off + i * 3 + 2, none⟩ = some (.int .i64 (e.2.2 : Int))
theorem Te.on {w w' : World} {A : Option Addr} {n : Nat} {L : List En} (h : Te w A n L) (k : Below w.heap.size w w') : Te w' A n L :=
  ⟨h.len, fun h0 => by
    obtain ⟨b, off, e, hb, hc⟩ := h.at_ h0
    exact ⟨b, off, e, Nat.lt_of_lt_of_le hb k.size, fun i e he => ⟨(k.cell (p := ⟨b, off + i * 3, none⟩) hb).trans (hc i e he).1, (k.cell (p := ⟨b, off + i * 3 + 1, none⟩) hb).trans (hc i e he).2.1, (k.cell (p := ⟨b, off + i * 3 + 2, none⟩) hb).trans (hc i e he).2.2⟩⟩⟩
theorem Te.kept {w w' : World} {S : Nat → Prop} {A : Option Addr} {n : Nat} {L : List En} (h : Te w A n L) (k : Kept S w w') (hS : ∀ b, b < w.heap.size → ¬ S b) : Te w' A n L :=
  ⟨h.len, fun h0 => by
    obtain ⟨b, off, e, hb, hc⟩ := h.at_ h0
    exact ⟨b, off, e, Nat.lt_of_lt_of_le hb k.size, fun i e he => ⟨(k.cell (p := ⟨b, off + i * 3, none⟩) hb (hS b hb)).trans (hc i e he).1, (k.cell (p := ⟨b, off + i * 3 + 1, none⟩) hb (hS b hb)).trans (hc i e he).2.1, (k.cell (p := ⟨b, off + i * 3 + 2, none⟩) hb (hS b hb)).trans (hc i e he).2.2⟩⟩⟩
theorem te_of_own {w : World} {base : Nat} {v : Value} {n : Nat} {L : List En} (h : w.ownsRow base 135 3 v n (cellsE L)) : ∃ A c, v = .slice A n c ∧ Te w A n L ∧ ∀ b off, A = some ⟨b, off, none⟩ → base ≤ b := by
  have hl : L.length = n := by have := h.1; rw [cellsE_len] at this; omega
  have hown := h
  rcases h.2 with ⟨rfl, rfl⟩ | ⟨g, cap, cur, rfl, hg, hh, hn, hm, _, _⟩
  · exact ⟨_, 0, rfl, ⟨hl, fun h0 => by omega⟩, fun b off e => by cases e⟩
  · refine ⟨some ⟨g, 0, none⟩, cap, rfl, ⟨hl, fun _ => ⟨g, 0, rfl, (Array.getElem?_eq_some_iff.1 hh).1, fun i e he => ?_⟩⟩, fun b off e => by cases e; exact hg⟩
    have hi : i < n := by have := (List.getElem?_eq_some_iff.1 he).1; omega
    obtain ⟨h1, h2, h3⟩ := cellsE_at L i e he
    refine ⟨?_, ?_, ?_⟩
    · rw [Nat.zero_add, hown.cellAt (i * 3) (by omega), h1]
    · rw [Nat.zero_add, hown.cellAt (i * 3 + 1) (by omega), h2]
    · rw [Nat.zero_add, hown.cellAt (i * 3 + 2) (by omega), h3]

theorem en_info : (Tryd.prog.info? 135).map (fun i => (i.zero, i.size, i.bytes)) = some (some (.agg #[.int .i64 0, .int .i64 0, .int .i64 0]), 3, 24) := by kernel_rfl
theorem info_parts3 : ∃ i, Tryd.prog.info? 135 = some i ∧ i.zero = some (.agg #[.int .i64 0, .int .i64 0, .int .i64 0]) ∧ i.size = 3 ∧ i.bytes = 24 := by
  obtain ⟨i, h1, h2⟩ := Option.map_eq_some_iff.1 en_info
  simp only [Prod.mk.injEq] at h2
  exact ⟨i, h1, h2.1, h2.2.1, h2.2.2⟩
/-- an append of one entry to a row of one's own -/
theorem wpList_append_en {w : World} {ops : Array Oper} {rest : List Oper} {o : Oper} {a : Act} {Q : Exit → Act → World → Prop} (hgd : o.guard = none) (s x : Operand)
    (ho : o.op = .call { callee := .builtin .append, args := #[s, x], argTypes := #[87, 87] })
    (base : Nat) (v : Value) (n : Nat) (L : List En) (e : En) (hs : a.eval s = v) (hown : w.ownsRow base 135 3 v n (cellsE L)) (g : Nat)
    (hx : a.eval x = .slice (some ⟨g, 0, none⟩) 1 1) (hb : Box w g 135 (cellsEn e).toArray) (hn : n ≤ 1000) (hbase : base ≤ w.heap.size)
    (h : ∀ v' w', w'.ownsRow base 135 3 v' (n + 1) (cellsE (L ++ [e])) → Below base w w' → wpList Tryd.prog ops Q rest (a.put o.dst v') w') : wpList Tryd.prog ops Q (o :: rest) a w := by
  obtain ⟨i0, hi0, hz0, hz1, hz2⟩ := info_parts3
  refine wpList_append_own _ hgd s x 87 ho base 135 i0 _ 3 24 Tryd.underlying87 hi0 hz0 hz1 hz2 rfl (by omega) v n (cellsE L) hs hown ⟨g, 0, none⟩ 1 1 (cellsEn e) hx rfl ?_ ?_ (by unfold maxLen; omega) (by omega) hbase ?_
  · intro j u hu
    rw [plain_add, Nat.zero_add, hb.cell j]
    simpa using hu
  · intro u hu
    simp [cellsEn] at hu
    rcases hu with rfl | rfl | rfl <;> rfl
  · intro v' w' h1 h2 _
    have e1 : cellsE (L ++ [e]) = cellsE L ++ cellsEn e := by rw [cellsE_app]; simp [cellsE]
    rw [← e1] at h1
    exact h v' w' h1 ((Below.refl base w).grown h2 hbase (fun j hj => (hown.lt j hj).1))
theorem ents_nil_own (w : World) (base : Nat) : w.ownsRow base 135 3 (.slice none 0 0) 0 (cellsE []) := ⟨rfl, .inl ⟨rfl, rfl⟩⟩
end Go.Proofs.YtdnjnbfmmgkpjaaDoor

namespace Go.Proofs.YtdnjnbfmmgkpjaaDoor
open Go.RowKit

/-- an entry, or none, as a value -/
def enV : Option En → Value
  | some e => .agg #[.int .i64 e.1, .int .i64 (e.2.1 : Int), .int .i64 (e.2.2 : Int)]
  | none => .agg #[.int .i64 0, .int .i64 0, .int .i64 0]
/-- what Find tells -/
def Found (w : World) (o : Option En) (e : Ending) (w' : World) : Prop := e = .returned (.tuple #[enV o, .bool o.isSome]) ∧ Below w.heap.size w w'

theorem find_at {p : En → Bool} {L : List En} {i : Nat} {e : En} (h : L[i]? = some e) (hp : p e = true) (hb : ∀ (q : Nat) (y : En), q < i → L[q]? = some y → p y = false) : L.find? p = some e := by
  obtain ⟨hi, he⟩ := List.getElem?_eq_some_iff.1 h
  have e1 : L = L.take i ++ e :: L.drop (i + 1) := by
    rw [← he, List.getElem_cons_drop, List.take_append_drop]
  have hn : (L.take i).find? p = none := List.find?_eq_none.2 (fun y hy => by
    obtain ⟨q, hq⟩ := List.getElem?_of_mem hy
    have hql : q < i := by
      have := (List.getElem?_eq_some_iff.1 hq).1
      rw [List.length_take] at this
      omega
    rw [List.getElem?_take_of_lt hql] at hq
    simp [hb q y hql hq])
  rw [e1, List.find?_append, hn]
  simp [hp]
theorem find_none {p : En → Bool} {L : List En} (hb : ∀ (q : Nat) (y : En), L[q]? = some y → p y = false) : L.find? p = none :=
  List.find?_eq_none.2 (fun y hy => by
    obtain ⟨q, hq⟩ := List.getElem?_of_mem hy
    simp [hb q y hq])

theorem Te.get {w : World} {A : Option Addr} {n : Nat} {L : List En} (h : Te w A n L) {i : Nat} (hi : i < n) : ∃ e b off, L[i]? = some e ∧ A = some ⟨b, off, none⟩ ∧ b < w.heap.size ∧
    w.cell? ⟨b, off + i * 3, none⟩ = some (.int .i64 e.1) ∧ w.cell? ⟨b, off + i * 3 + 1, none⟩ = some (.int .i64 (e.2.1 : Int)) ∧ w.cell? ⟨b, off + i * 3 + 2, none⟩ = some (.int .i64 (e.2.2 : Int)) := by
  obtain ⟨b, off, hA, hb, hc⟩ := h.at_ (by omega)
  have he : L[i]? = some (L[i]'(by have := h.len; omega)) := List.getElem?_eq_getElem _
  obtain ⟨c1, c2, c3⟩ := hc i _ he
  exact ⟨_, b, off, he, hA, hb, c1, c2, c3⟩

set_option maxHeartbeats 1600000 in
theorem find_any (w : World) (A : Option Addr) (n c : Nat) (L : List En) (v : Int) (h : Te w A n L) (hn : n ≤ 1000) : Calls Tryd.prog 64 #[.slice A n c, .int .i64 v] w (Found w (fnd L v)) := by
  have hz39 : ∀ w, (zeroValue 135).run Tryd.prog w = .ok (.agg #[.int .i64 0, .int .i64 0, .int .i64 0]) w := fun w => by kernel_rfl
  obtain ⟨g, hg⟩ : ∃ g, g = w.heap.size := ⟨_, rfl⟩
  obtain ⟨w1, hw1⟩ : ∃ w1, w1 = w.alloc (.cells #[.int .i64 0, .int .i64 0, .int .i64 0] 135) := ⟨_, rfl⟩
  have hb : Box w1 g 135 #[.int .i64 0, .int .i64 0, .int .i64 0] := by rw [hw1, hg]; exact Box.made _ _ _
  have bel : Below w.heap.size w w1 := by rw [hw1]; exact on_alloc _ _
  have hT := h.on bel
  have hlow : ∀ b off, A = some ⟨b, off, none⟩ → 0 < n → b ≠ g := by
    intro b off e h0
    obtain ⟨b', off', e', hb', _⟩ := h.at_ h0
    rw [e] at e'
    cases e'
    omega
  have HH := Lib.hid (And.intro hb (And.intro bel (And.intro hT (And.intro hw1 (And.intro hg hlow)))))
  clear hb bel hT hw1 hg h hlow
  go_enter Tryd.func64, Tryd.ntmps64
  go_wp2
  rw [← HH.out.2.2.2.1, ← HH.out.2.2.2.2.1]
  go_loopw [6] (fun i wr => ∃ k : Nat, k ≤ n ∧ i = .int .i64 k ∧ (∀ (q : Nat) (y : En), q < k → L[q]? = some y → (y.1 == v) = false) ∧ wr = w1) (fun i _ => n - (intOf i).toNat)
  case atStart => exact ⟨0, Nat.zero_le _, rfl, fun q _ hq => absurd hq (by omega), rfl⟩
  case round =>
    obtain ⟨k, hk, rfl, hQ, rfl⟩ := hrel
    have HQ := Lib.hid hQ
    clear hQ
    have d0 := HH.out.1.cell 0
    have d1 := HH.out.1.cell 1
    have d2 := HH.out.1.cell 2
    have f0 := HH.out.1.free 0
    have f1 := HH.out.1.free 1
    have f2 := HH.out.1.free 2
    by_cases hlt : k < n
    · obtain ⟨e, b, off, he, hA, _, c0, c1, c2⟩ := HH.out.2.2.1.get hlt
      have hne := HH.out.2.2.2.2.2 b off hA (by omega)
      obtain ⟨e1, e2, e3⟩ := e
      dsimp only at c0 c1 c2
      have HE := Lib.hid he
      subst hA
      clear he
      by_cases hv : e1 = v
      · subst hv
        go_wp2
        refine bodyPost_ret (v := .tuple #[enV (some (e1, e2, e3)), .bool true]) (by simp [enV, results, Tryd.results64, go_sem, d0, d1, d2]) rfl ?_
        have hf : fnd L e1 = some (e1, e2, e3) := find_at HE.out (by simp) HQ.out
        rw [hf]
        refine ⟨rfl, ?_⟩
        have hg := HH.out.2.2.2.2.1
        exact ((HH.out.2.1.setCell (p := ⟨g, 0, none⟩) (by show w.heap.size ≤ g; omega) _).setCell (p := ⟨g, 1, none⟩) (by show w.heap.size ≤ g; omega) _).setCell (p := ⟨g, 2, none⟩) (by show w.heap.size ≤ g; omega) _
      · have g1 : (e1 == v) = false := by simpa using hv
        go_wp2
        go_roundw
        case rel =>
          refine ⟨k + 1, by omega, by go_num, fun q y hq hy => ?_, trivial⟩
          rcases Nat.lt_or_ge q k with h' | h'
          · exact HQ.out q y h' hy
          · obtain rfl : q = k := by omega
            rw [HE.out] at hy
            cases hy
            simpa using hv
        case measure => simp [intOf]; omega
    · have hbz : ∀ w, (Instr.build 135 #[]).run Tryd.prog w = .ok (.agg #[.int .i64 0, .int .i64 0, .int .i64 0]) w := fun w => run_build w 135 _ _ (by kernel_rfl)
      go_wp2
      refine bodyPost_ret (v := .tuple #[enV none, .bool false]) (by simp [enV, results, Tryd.results64, go_sem, d0, d1, d2]) rfl ?_
      have hf : fnd L v = none := find_none (fun q y hy => HQ.out q y (by
        have h1 := (List.getElem?_eq_some_iff.1 hy).1
        have h2 := HH.out.2.2.1.len
        omega) hy)
      rw [hf]
      refine ⟨rfl, ?_⟩
      have hg := HH.out.2.2.2.2.1
      exact ((HH.out.2.1.setCell (p := ⟨g, 0, none⟩) (by show w.heap.size ≤ g; omega) _).setCell (p := ⟨g, 1, none⟩) (by show w.heap.size ≤ g; omega) _).setCell (p := ⟨g, 2, none⟩) (by show w.heap.size ≤ g; omega) _
end Go.Proofs.YtdnjnbfmmgkpjaaDoor

namespace Go.Proofs.YtdnjnbfmmgkpjaaDoor
open Go.RowKit

/-- what the reference's Codes tells -/
def RefCodes (w : World) (B V : List Int) (e : Ending) (w' : World) : Prop := Below w.heap.size w w' ∧
  ((¬ Valid B V ∧ e = .returned (.tuple #[.slice none 0 0, .bool false])) ∨ (Valid B V ∧ ∃ A n c, e = .returned (.tuple #[.slice A n c, .bool true]) ∧ Te w' A n (codes B V) ∧ n ≤ 256 ∧ ∀ b off, A = some ⟨b, off, none⟩ → w.heap.size ≤ b))

theorem Boxed.bit {w w1 : World} {g : Nat} {B V : List Int} {A : Option Addr} {n c : Nat} (h : Boxed w w1 g B V A n c) {i : Nat} (hi : i < 16) : w1.cell? ⟨g, i, none⟩ = some (.int .i64 (B.getD i 0)) := (h.box.cell i).trans (specC_at h.len hi)
/-- the counts so far may be -/
def Small (B : List Int) (k : Nat) : Prop := ∀ i, i < k → 0 ≤ B.getD i 0 ∧ B.getD i 0 ≤ 256
theorem small_more {B : List Int} {k : Nat} (h : Small B k) (h0 : 0 ≤ B.getD k 0) (h1 : B.getD k 0 ≤ 256) : Small B (k + 1) := fun i hi => by
  rcases Nat.lt_or_ge i k with h' | h'
  · exact h i h'
  · obtain rfl : i = k := by omega
    exact ⟨h0, h1⟩
theorem sm_small {B : List Int} : ∀ {k : Nat}, Small B k → sm (cnt B) k ≤ 256 * k
  | 0, _ => Nat.le_refl _
  | k + 1, h => by
    have h1 := sm_small (k := k) (fun i hi => h i (by omega))
    have h2 := h k (by omega)
    rw [sm]
    unfold cnt at *
    omega
theorem Valid.small {B V : List Int} (h : Valid B V) : Small B 16 := fun i hi => by
  refine ⟨h.nn i hi, ?_⟩
  have h1 := sm_mono (c := cnt B) (show i + 1 ≤ 16 by omega)
  rw [sm, h.sum] at h1
  have := h.few
  unfold cnt at h1
  omega

/-- how the list of codes grows: v is the slice of the codes cs -/
structure Gen (w0 wr : World) (V : List Int) (v : Value) (cs : List (Nat × Nat)) : Prop where
  own : wr.ownsRow w0.heap.size 135 3 v cs.length (cellsE (ents V cs))
  bel : Below w0.heap.size w0 wr
theorem pow_sub2 (k : Nat) : ((2 ^ (k + 1) : Nat) : Int) - 2 = ((2 ^ (k + 1) - 2 : Nat) : Int) := by
  have : 2 ≤ 2 ^ (k + 1) := by rw [Nat.pow_succ]; have := pow_pos' k; omega
  omega

set_option maxRecDepth 20000 in
set_option maxHeartbeats 4000000 in
theorem refCodes_any (w : World) (B V : List Int) (A : Option Addr) (n c : Nat) (hB : B.length = 16) (h : Ia w A n c V) : Calls Tryd.prog 61 #[specV B (.slice A n c)] w (RefCodes w B V) := by
  obtain ⟨C, hC⟩ : ∃ C, C = specC B (.slice A n c) := ⟨_, rfl⟩
  have eV : specV B (.slice A n c) = .agg C := by rw [hC]; rfl
  rw [eV]
  obtain ⟨g, hg⟩ : ∃ g, g = w.heap.size := ⟨_, rfl⟩
  obtain ⟨w1, hw1⟩ : ∃ w1, w1 = w.alloc (.cells C 30) := ⟨_, rfl⟩
  have hb := boxed_made (w1 := w1) (g := g) hB h (by rw [hw1, hC]) hg
  have HB := Lib.hid (And.intro hb (And.intro hw1 (And.intro hg h.len)))
  clear hb hw1 hg hC eV h hB
  go_enter Tryd.func61, Tryd.ntmps61
  go_wp2
  rw [← HB.out.2.1, ← HB.out.2.2.1]
  go_loopw [4, 5] (fun s i wr => ∃ k : Nat, k ≤ 16 ∧ i = .int .i64 k ∧ s = .int .i64 ((sm (cnt B) k : Nat) : Int) ∧ Small B k ∧ wr = w1) (fun _ i _ => 16 - (intOf i).toNat)
  case atStart => exact ⟨0, Nat.zero_le _, rfl, rfl, fun i hi => absurd hi (by omega), rfl⟩
  case round =>
    obtain ⟨k, hk, rfl, rfl, hS, rfl⟩ := hrel
    have HS := Lib.hid hS
    by_cases hlt : k < 16
    · have c0 := HB.out.1.bit hlt
      obtain ⟨S, hSm⟩ : ∃ S, S = sm (cnt B) k := ⟨_, rfl⟩
      have hS4 : S ≤ 4096 := by have := sm_small hS; omega
      obtain ⟨v, hv⟩ : ∃ v, v = B.getD k 0 := ⟨_, rfl⟩
      rw [← hv] at c0
      rw [← hSm]
      have HV := Lib.hid (And.intro hv hSm)
      clear hS hv hSm
      by_cases h0 : v < 0
      · go_wp2
        go_ret2
        refine ⟨HB.out.1.bel, .inl ⟨fun hval => ?_, rfl⟩⟩
        have := hval.nn k hlt
        rw [← HV.out.1] at this
        omega
      by_cases h1 : 256 < v
      · go_wp2
        go_ret2
        refine ⟨HB.out.1.bel, .inl ⟨fun hval => ?_, rfl⟩⟩
        have := (hval.small k hlt).2
        rw [← HV.out.1] at this
        omega
      go_wp2
      go_roundw
      case rel =>
        refine ⟨k + 1, by omega, by go_num, ?_, small_more HS.out (by rw [← HV.out.1]; omega) (by rw [← HV.out.1]; omega), trivial⟩
        have : sm (cnt B) (k + 1) = S + v.toNat := by rw [sm, ← HV.out.2, HV.out.1]; rfl
        rw [this]
        go_num
      case measure => simp [intOf]; omega
    · have ek : k = 16 := by omega
      subst ek
      have c16 := HB.out.1.slice
      obtain ⟨S, hSm⟩ : ∃ S, S = sm (cnt B) 16 := ⟨_, rfl⟩
      have hS4 : S ≤ 4096 := by have := sm_small hS; omega
      rw [← hSm]
      have HM := Lib.hid hSm
      have hVn := HB.out.2.2.2
      clear hS hSm
      by_cases h0 : S = n
      case neg =>
        have g1 : ¬ (S : Int) = (n : Int) := by omega
        have g2 : ((S : Int) == (n : Int)) = false := by simp; omega
        go_wp2
        go_ret2
        refine ⟨HB.out.1.bel, .inl ⟨fun hval => ?_, rfl⟩⟩
        have := hval.sum
        rw [← HM.out] at this
        omega
      subst h0
      by_cases h1 : S < 1
      · go_wp2
        go_ret2
        refine ⟨HB.out.1.bel, .inl ⟨fun hval => ?_, rfl⟩⟩
        have := hval.pos
        omega
      by_cases h2 : 256 < S
      · go_wp2
        go_ret2
        refine ⟨HB.out.1.bel, .inl ⟨fun hval => ?_, rfl⟩⟩
        have := hval.few
        omega
      obtain ⟨b, off, hA, _, _⟩ := HB.out.1.vals.at_ (by omega)
      subst hA
      have hcap := HB.out.1.vals.cap
      obtain ⟨w2, hw2⟩ : ∃ w2, wr = w2 := ⟨_, rfl⟩
      rw [hw2] at HB c16 ⊢
      clear hw2
      go_wp2
      clear c16
      go_loopw [6] (fun i w5 => ∃ k : Nat, k ≤ S ∧ i = .int .i64 k ∧ Diff (V.take k) ∧ Boxed w w5 g B V (some ⟨b, off, none⟩) S c) (fun i _ => S - (intOf i).toNat)
      case atStart => exact ⟨0, Nat.zero_le _, rfl, ⟨(fun v hv => by cases hv), List.Pairwise.nil⟩, HB.out.1⟩
      case round =>
        obtain ⟨k, hk, rfl, hD, hX⟩ := hrel
        have c16 := hX.slice
        have HD := Lib.hid (And.intro hD hX)
        clear hD
        by_cases hlt : k < S
        · have hmore := diff_more (V := V) (k := k) (by omega)
          have c0 := hX.vals.get hlt
          obtain ⟨v, hv⟩ : ∃ v, v = V.getD k 0 := ⟨_, rfl⟩
          rw [← hv] at c0 hmore
          have HV := Lib.hid (And.intro hmore hv)
          clear hmore hv hX
          by_cases hv0 : v < 0
          · go_wp2
            go_ret2
            refine ⟨HD.out.2.bel, .inl ⟨fun hval => ?_, rfl⟩⟩
            have := (HV.out.1.1 (diff_take hval.diff _)).2.1
            omega
          by_cases hv1 : 255 < v
          · go_wp2
            go_ret2
            refine ⟨HD.out.2.bel, .inl ⟨fun hval => ?_, rfl⟩⟩
            have := (HV.out.1.1 (diff_take hval.diff _)).2.1
            omega
          go_wp2
          clear c16 c0
          go_loopw [7] (fun j w6 => ∃ i : Nat, i ≤ k ∧ j = .int .i64 i ∧ (∀ q, q < i → V.getD q 0 ≠ v) ∧ Boxed w w6 g B V (some ⟨b, off, none⟩) S c) (fun j _ => k - (intOf j).toNat)
          case atStart => exact ⟨0, Nat.zero_le _, rfl, fun q hq => absurd hq (by omega), HD.out.2⟩
          case round =>
            obtain ⟨i, hi, rfl, hN, hX⟩ := hrel
            have c16 := hX.slice
            have HN := Lib.hid (And.intro hN hX)
            clear hN
            by_cases hil : i < k
            · have c0 := hX.vals.get hlt
              rw [← HV.out.2] at c0
              have c1 := hX.vals.get (show i < S by omega)
              obtain ⟨u, hu⟩ : ∃ u, u = V.getD i 0 := ⟨_, rfl⟩
              rw [← hu] at c1
              have HU := Lib.hid hu
              clear hu hX
              by_cases huv : u = v
              · subst huv
                go_wp2_with fail
                go_quiet (fail)
                go_wp2
                go_ret2
                refine ⟨on_trans HN.out.2.bel (below_drewN_refl _ _), .inl ⟨fun hval => ?_, rfl⟩⟩
                have h3 := (HV.out.1.1 (diff_take hval.diff _)).2.2
                refine h3 ?_
                rw [HU.out]
                refine List.mem_of_getElem? (i := i) ?_
                rw [List.getElem?_take_of_lt hil, List.getD_eq_getElem?_getD, List.getElem?_eq_getElem (by omega)]
                rfl
              · have g1 : (u == v) = false := by simpa using huv
                go_wp2_with fail
                go_quiet (fail)
                go_wp2
                go_roundw
                case rel =>
                  refine ⟨i + 1, by omega, by go_num, fun q hq => ?_, HN.out.2.on (below_drewN_refl _ _)⟩
                  rcases Nat.lt_or_ge q i with h' | h'
                  · exact HN.out.1 q h'
                  · obtain rfl : q = i := by omega
                    rw [← HU.out]
                    exact huv
                case measure => simp [intOf]; omega
            · have ei : i = k := by omega
              have HE := Lib.hid ei
              clear ei hX c16
              go_wp2
              go_roundw
              case rel =>
                refine ⟨k + 1, by omega, by go_num, HV.out.1.2 ⟨HD.out.1, by omega, fun hm => ?_⟩, HN.out.2⟩
                obtain ⟨q, hq⟩ := List.getElem?_of_mem hm
                obtain ⟨hql, hq2⟩ := List.getElem?_eq_some_iff.1 hq
                rw [List.length_take] at hql
                rw [List.getElem_take] at hq2
                refine HN.out.1 q (by have := HE.out; omega) ?_
                rw [List.getD_eq_getElem?_getD, List.getElem?_eq_getElem (by omega)]
                exact hq2
              case measure => simp [intOf]; omega
        · have ek : k = S := by omega
          have HE := Lib.hid ek
          clear ek
          have HX := Lib.hid hX
          clear hX
          obtain ⟨w3, hw3⟩ : ∃ w3, wr = w3 := ⟨_, rfl⟩
          rw [hw3] at HX c16 ⊢
          clear hw3
          have hdiff : Diff V := by
            have h := HD.out.1
            rw [HE.out, List.take_of_length_le (by omega)] at h
            exact h
          have HDF := Lib.hid hdiff
          clear hdiff
          go_wp2
          clear c16
          go_loopw [8, 9, 10] (fun o x s w5 => ∃ k z : Nat, k ≤ 16 ∧ z = k + 1 ∧ s = .int .i64 (z : Int) ∧ x = .int .i64 ((nx (cnt B) k : Nat) : Int) ∧ (∀ i, i < k → nx (cnt B) (i + 1) < 2 ^ (i + 1)) ∧ Gen w3 w5 V o (pre (cnt B) k)) (fun _ _ s _ => 17 - (intOf s).toNat)
          case atStart => exact ⟨0, 1, Nat.zero_le _, rfl, rfl, rfl, fun i hi => absurd hi (by omega), by rw [show ents V (pre (cnt B) 0) = [] by simp [ents, pre]]; exact ents_nil_own w3 _, Below.refl _ _⟩
          case round =>
            obtain ⟨k, z, hk, hz, rfl, rfl, hF, hG⟩ := hrel
            have HG := Lib.hid (And.intro hF hG)
            by_cases hlt : k < 16
            · obtain ⟨X, hX⟩ : ∃ X, X = nx (cnt B) k := ⟨_, rfl⟩
              obtain ⟨Q, hQ⟩ : ∃ Q, Q = sm (cnt B) k := ⟨_, rfl⟩
              obtain ⟨cK, hcK⟩ : ∃ cK, cK = cnt B k := ⟨_, rfl⟩
              obtain ⟨P, hP⟩ : ∃ P : Nat, P = 2 ^ (k + 1) := ⟨_, rfl⟩
              have hP1 : P ≤ 65536 := by rw [hP]; exact pow16 (by omega)
              have hXP : 2 * X < P := by
                have h1 : nx (cnt B) k < 2 ^ k := by
                  cases k with
                  | zero => show 0 < 1; omega
                  | succ k => exact hF k (by omega)
                rw [hP, Nat.pow_succ, hX]
                omega
              have hQc : Q + cK ≤ S := by
                have h1 := sm_mono (c := cnt B) (show k + 1 ≤ 16 by omega)
                rw [sm, ← HM.out, ← hQ, ← hcK] at h1
                exact h1
              have hv : B.getD k 0 = (cK : Int) := by
                have := HS.out k hlt
                rw [hcK]
                unfold cnt
                omega
              rw [← hX]
              have hz17 : z ≤ 16 := by omega
              have hz17i : (z : Int) ≤ 16 := by omega
              have hk1 : (z : Int) - 1 = (k : Int) := by omega
              have HK := Lib.hid (And.intro hX (And.intro hQ (And.intro hcK (And.intro hP (And.intro hv hz)))))
              clear hF hG hX hQ hcK hP hv hz
              go_wp2
              go_loopw [8, 9, 11] (fun o x i w6 => ∃ j : Nat, j ≤ cK ∧ i = .int .i64 j ∧ x = .int .i64 ((2 * X + j : Nat) : Int) ∧ 2 * X + j < P ∧ Gen w3 w6 V o (pre (cnt B) k ++ row (cnt B) k j)) (fun _ _ i _ => cK - (intOf i).toNat)
              case atStart =>
                refine ⟨0, Nat.zero_le _, rfl, by go_num, hXP, ?_⟩
                rw [show row (cnt B) k 0 = [] from rfl, List.append_nil]
                exact HG.out.2
              case round =>
                obtain ⟨j, hj, rfl, rfl, hlim, hG⟩ := hrel
                have hbx := HX.out.box.bel hG.bel HX.out.box.lt
                have cB := (hbx.cell k).trans (specC_at HX.out.len hlt)
                rw [HK.out.2.2.2.2.1] at cB
                have c16 := (hbx.cell 16).trans (specC_last HX.out.len)
                by_cases hjl : j < cK
                · have hlen : (pre (cnt B) k ++ row (cnt B) k j).length = Q + j := by rw [List.length_append, pre_len, row_len, ← HK.out.2.1]
                  obtain ⟨hown, hbel⟩ := hG
                  rw [hlen] at hown
                  obtain ⟨Ao, co, ho⟩ := own_slice hown
                  have hI := (HX.out.vals.on (Below.refl _ _))
                  have hbl : b < w3.heap.size := by
                    obtain ⟨b', off', e', hb', _⟩ := hI.at_ (by omega)
                    cases e'
                    exact hb'
                  have c1 := (hbel.cell (p := ⟨b, off + (Q + j), none⟩) hbl).trans (hI.get (show Q + j < S by omega))
                  obtain ⟨v, hv⟩ : ∃ v, v = V.getD (Q + j) 0 := ⟨_, rfl⟩
                  rw [← hv] at c1
                  obtain ⟨xx, hxx⟩ : ∃ xx, xx = 2 * X + j := ⟨_, rfl⟩
                  rw [← hxx] at hlim ⊢
                  have HO := Lib.hid (And.intro hown (And.intro hbel (And.intro hlen (And.intro hv hxx))))
                  clear hown hbel hlen hv hxx hI hbx hbl
                  subst ho
                  have HP := Lib.hid (power_any wr z (by omega))
                  go_wp2_with fail
                  refine HP.out.mono ?_
                  rintro e w4 ⟨rfl, rfl⟩
                  have hPz : 2 ^ z = P := by rw [HK.out.2.2.2.2.2, ← HK.out.2.2.2.1]
                  rw [hPz]
                  clear hPz cB
                  by_cases hxp : P ≤ xx + 1
                  · have g1 : (P : Int) - 2 < (xx : Int) := by omega
                    go_wp2
                    go_ret2
                    refine ⟨HX.out.bel.trans (HO.out.2.1.mono HX.out.bel.size), .inl ⟨fun hval => ?_, rfl⟩⟩
                    have h1 := hval.fits k hlt
                    rw [nx, ← HK.out.1, ← HK.out.2.2.1, ← HK.out.2.2.2.1] at h1
                    have := HO.out.2.2.2.2
                    omega
                  · have g1 : ¬ (P : Int) - 2 < (xx : Int) := by omega
                    have hz39 : ∀ w, (zeroValue 135).run Tryd.prog w = .ok (.agg #[.int .i64 0, .int .i64 0, .int .i64 0]) w := fun w => by kernel_rfl
                    have hQj : Q + j ≤ 256 := by omega
                    go_wp2_with (first
                      | (at_builtin; refine wpList_append_en rfl (.tmp 104) (.tmp 114) rfl w3.heap.size _ (Q + j) (ents V (pre (cnt B) k ++ row (cnt B) k j)) (v, xx, z) rfl (HO.out.1.alloc _) wr.heap.size rfl (Box.made _ _ _) (by omega) (by have := HO.out.2.1.size; simp; omega) ?_; intro v6 w6 hown6 b6; have H6 := Lib.hid (And.intro hown6 ((HO.out.2.1.trans ((on_alloc _ _).mono HO.out.2.1.size)).trans b6)); clear hown6 b6)
                      | fail)
                    go_roundw
                    case rel =>
                      obtain ⟨hown6, hb6⟩ := H6.out
                      have hxx := HO.out.2.2.2.2
                      have hl := HO.out.2.2.1
                      have e1 : row (cnt B) k (j + 1) = row (cnt B) k j ++ [(xx, z)] := by rw [row_more, hxx, HK.out.2.2.2.2.2, ← HK.out.1]
                      refine ⟨j + 1, by omega, by go_num, ?_, by omega, ?_⟩
                      · rw [show 2 * X + (j + 1) = xx + 1 by omega]
                        rfl
                      · rw [e1, ← List.append_assoc]
                        refine ⟨?_, hb6⟩
                        rw [ents_more _ V (xx, z) (by rw [hl]; omega), hl, ← HO.out.2.2.2.1, List.length_append, hl]
                        exact hown6
                    case measure => simp [intOf]; omega
                · have ej : j = cK := by omega
                  have HE2 := Lib.hid (And.intro hlim (And.intro hG ej))
                  clear hlim hG ej hbx
                  go_wp2
                  go_roundw
                  case rel =>
                    obtain ⟨hlim, hG, ej⟩ := HE2.out
                    rw [ej] at hlim hG
                    refine ⟨k + 1, z + 1, by omega, by have := HK.out.2.2.2.2.2; omega, by go_num, ?_, fun i hi => ?_, ?_⟩
                    · rw [nx, ← HK.out.1, ← HK.out.2.2.1, ← ej]
                    · rcases Nat.lt_or_ge i k with h' | h'
                      · exact HG.out.1 i h'
                      · obtain rfl : i = k := by omega
                        rw [nx, ← HK.out.1, ← HK.out.2.2.1, ← HK.out.2.2.2.1]
                        exact hlim
                    · rw [pre, ← HK.out.2.2.1]
                      exact hG
                  case measure => simp [intOf]; omega
            · have ek : k = 16 := by omega
              have HE2 := Lib.hid (And.intro hz ek)
              obtain ⟨hown, hbel⟩ := hG
              obtain ⟨A', c', ho, hT, hlow⟩ := te_of_own hown
              have HT := Lib.hid (And.intro hT (And.intro hbel hlow))
              have hz16 : (16 : Int) < (z : Int) := by omega
              subst ho
              clear hF hown hbel hT hlow hz ek
              go_wp2
              go_ret2
              obtain ⟨hz, ek⟩ := HE2.out
              subst ek
              refine ⟨HX.out.bel.trans (HT.out.2.1.mono HX.out.bel.size), .inr ⟨⟨fun i hi => (HS.out i hi).1, ?_, by omega, by omega, HDF.out.1, HDF.out.2, HG.out.1⟩, A', _, c', rfl, HT.out.1, ?_, fun b2 off2 e2 => Nat.le_trans HX.out.bel.size (HT.out.2.2 b2 off2 e2)⟩⟩
              · rw [← HM.out, hVn]
              · rw [pre_len, ← HM.out]; omega
end Go.Proofs.YtdnjnbfmmgkpjaaDoor

namespace Go.Proofs.YtdnjnbfmmgkpjaaDoor
open Go.RowKit

/-- what Put tells -/
def PutT (w : World) (d : Nat) (L : List En) (v : Int) (bs : List Int) (e : Ending) (w' : World) : Prop :=
  e = .returned (.int .i64 (if (fnd L v).isSome then 0 else 6)) ∧ Wr w' d (bs ++ dig (codeOf L v).1 (codeOf L v).2) ∧ Kept (fun i => i = d) w w'

theorem may_code {B V : List Int} (hv : Valid B V) {en : En} (he : en ∈ codes B V) : mayPut (en.2.1 : Int) (en.2.2 : Int) := by
  obtain ⟨h1, h2, h3, _⟩ := hv.code he
  unfold mayPut
  rw [Int.toNat_natCast]
  have e : ((2 : Int) ^ en.2.2) = ((2 ^ en.2.2 : Nat) : Int) := by simp
  rw [e]
  omega

set_option maxHeartbeats 800000 in
theorem putT_any (w : World) (lo hi t d : Nat) (B V bs : List Int) (v : Int) (h : Tb w lo hi t B V (codes B V)) (hv : Valid B V) (hw : Wr w d bs) (hl : bs.length ≤ 1976) :
    Calls Tryd.prog 77 #[.pointer (some ⟨t, 0, none⟩), .pointer (some ⟨d, 0, none⟩), .int .i64 v] w (PutT w d (codes B V) v bs) := by
  unfold PutT
  obtain ⟨L, hL⟩ : ∃ L, L = codes B V := ⟨_, rfl⟩
  have hcode := code_any w lo hi t B V L v (by rw [hL]; exact h) (by rw [hL]; exact valid_vals hv)
  rw [← hL]
  cases ho : fnd L v with
  | none =>
    have hc : codeOf L v = (0, 0) := by unfold codeOf; rw [ho]; rfl
    rw [hc] at hcode ⊢
    have HC := Lib.hid hcode
    have HW := Lib.hid hw
    clear h hL hcode hw hl hv ho hc
    go_enter Tryd.func77, Tryd.ntmps77
    go_wp2_with fail
    refine HC.out.mono ?_
    rintro e w1 ⟨rfl, b1⟩
    have H1 := Lib.hid b1
    clear b1
    go_wp2
    go_ret
    exact ⟨rfl, by simpa [dig] using HW.out.on H1.out, Kept.of_below H1.out _⟩
  | some en =>
    have hc : codeOf L v = en.2 := by unfold codeOf; rw [ho]; rfl
    have hm := may_code hv (en := en) (by rw [← hL]; exact (fnd_some ho).1)
    have hz : 1 ≤ en.2.2 := (hv.code (by rw [← hL]; exact (fnd_some ho).1)).1
    rw [hc] at hcode ⊢
    have HC := Lib.hid hcode
    have HW := Lib.hid hw
    have HM := Lib.hid (And.intro hm hl)
    obtain ⟨z, x, y⟩ := en
    dsimp only at hz
    have hpos : 0 < y := hz
    clear h hL hcode hw hl hv ho hc hm hz
    go_enter Tryd.func77, Tryd.ntmps77
    go_wp2_with fail
    refine HC.out.mono ?_
    rintro e w1 ⟨rfl, b1⟩
    have H1 := Lib.hid b1
    clear b1
    go_wp2_with fail
    refine (put_any w1 d bs (x : Int) (y : Int) (HW.out.on H1.out) HM.out.2).mono ?_
    rintro e w2 ⟨rfl, hw2, k2⟩
    have H2 := Lib.hid (And.intro hw2 k2)
    clear hw2 k2
    go_wp2
    go_ret
    have h2 := H2.out.1
    rw [putL, if_pos HM.out.1, Int.toNat_natCast, Int.toNat_natCast] at h2
    refine ⟨?_, h2, (Kept.of_below H1.out _).trans H2.out.2 (fun _ _ e => e)⟩
    rw [putE, if_pos HM.out.1]
    rfl
end Go.Proofs.YtdnjnbfmmgkpjaaDoor

namespace Go.Proofs.YtdnjnbfmmgkpjaaDoor
open Go.RowKit

theorem Scan.full {L l : List Int} (h : Scan L l) : ∃ F : List Int, Fit F ∧ l = stuff F ∧ ∃ j, j < 8 ∧ by8 F = L ++ List.replicate j 1 ∧ 8 * F.length = L.length + j := by
  obtain ⟨B, v, c, h1, h2, h3, h4, h5⟩ := h
  have e := by8_filledUp B (v := v) h2
  rw [← h4] at e
  have hl := congrArg List.length e
  rw [by8_len, List.length_append, List.length_replicate] at hl
  exact ⟨filledUp B v c, fit_filledUp h1 h2 h3, h5, (8 - c) % 8, by omega, e, hl⟩

/-- what the loops stand on: the table, the list, the values offered, at w -/
structure Base6 (w0 w : World) (lo t : Nat) (B V : List Int) (Ac : Option Addr) (nc : Nat) (A : Option Addr) (n c : Nat) (l : List Int) : Prop where
  tab : Tb w lo w.heap.size t B V (codes B V)
  te : Te w Ac nc (codes B V)
  few : nc ≤ 256
  arg : Ia w A n c l
  bel : Below w0.heap.size w0 w
  val : Valid B V

/-- how things stand when k values have been offered: those of ps were put -/
structure BackV (w wr : World) (base d k : Nat) (L : List En) (v : Value) (ps : List Int) : Prop where
  wri : Wr wr d (bitsV L ps)
  row : wr.ownsRow base 3 1 v ps.length (cellsI ps)
  may : ∀ p ∈ ps, ∃ en, fnd L p = some en
  ord : w.heap.size ≤ d ∧ d < base ∧ base ≤ wr.heap.size
  bel : Below w.heap.size w wr
  few : ps.length ≤ k
  bits : (bitsV L ps).length ≤ 16 * k
section
variable {w wr w' : World} {base d k : Nat} {L : List En} {v : Value} {ps : List Int}
theorem BackV.on (h : BackV w wr base d k L v ps) (b : Below wr.heap.size wr w') : BackV w w' base d k L v ps :=
  ⟨h.wri.on b, ownsRow_block h.row fun g _ _ hb => b.block g (Array.getElem?_eq_some_iff.1 hb).1, h.may, ⟨h.ord.1, h.ord.2.1, Nat.le_trans h.ord.2.2 b.size⟩, on_trans h.bel b, h.few, h.bits⟩
theorem BackV.more (h : BackV w wr base d k L v ps) : BackV w wr base d (k + 1) L v ps :=
  ⟨h.wri, h.row, h.may, h.ord, h.bel, by have := h.few; omega, by have := h.bits; omega⟩
theorem BackV.put (h : BackV w wr base d k L v ps) (b : Kept (fun i => i = d) wr w') : w'.ownsRow base 3 1 v ps.length (cellsI ps) ∧ Below w.heap.size w w' ∧ base ≤ w'.heap.size :=
  ⟨ownsRow_block h.row fun g cs hg hb => b.block g (Array.getElem?_eq_some_iff.1 hb).1 (fun e => by have := (h.row.lt g hg).1; have := h.ord; omega), h.bel.trans (b.below h.bel.size (fun i hi e => by have := h.ord; omega)), Nat.le_trans h.ord.2.2 b.size⟩
end
/-- how things stand while the values are got -/
structure Backing (w wr : World) (r g : Nat) (l : List Int) (s : St) : Prop where
  rd : Rd wr r g l s
  new : w.heap.size ≤ r
  bel : Below w.heap.size w wr

end Go.Proofs.YtdnjnbfmmgkpjaaDoor
