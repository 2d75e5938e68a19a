/-
  What is cut and joined, grown and halved: the whole answers; a known plane that is stored over another one.
-/
import Derived.Test.YtadlaljohlpabaaPInc
import Derived.Test.YtadlaljohlpabaaPBSame
namespace Go.Proofs.Ytadlaljohlpabaa
open Go.RowKit

theorem Ia.kept {S : Nat → Prop} {w w' : World} {A : Option Addr} {n c : Nat} {xs : List Int} (h : Ia w A n c xs) (k : Kept S w w') (hS : 0 < n → ∀ b off, A = some ⟨b, off, none⟩ → ¬ S b) : Ia w' A n c xs :=
  ⟨h.len, h.cap, h.max, h.nil, fun h0 => by
    obtain ⟨b, off, e, hb, hc⟩ := h.at_ h0
    exact ⟨b, off, e, Nat.lt_of_lt_of_le hb k.size, fun i hi => (k.cell (p := ⟨b, off + i, none⟩) hb (hS h0 b off e)).trans (hc i hi)⟩⟩
/-- a plane is stored over another one -/
theorem Kn.store {w w0 wr w' : World} {p : PlK} {g B n c : Nat} {W H : Int} {A : Option Addr} {xs : List Int} (hp : Pb wr p.g p.W p.H p.A p.n p.c p.xs) (hbel : Below w.heap.size w wr) (hg : w.heap.size < g) (h1 : p.g < g) (h2 : Ia w0 p.A p.n p.c p.xs) (h3 : w0.heap.size ≤ g)
    (ho : Os wr B A n c xs) (old : Array Value) (hb0 : Box wr g 24 old) (hb : Box w' g 24 #[.int .i64 W, .int .i64 H, .slice A n c]) (k : Kept (fun i => i = g) wr w') : Kn w w' [⟨g, W, H, A, n, c, xs⟩, p] := by
  refine ⟨fun q hq => ?_, hbel.trans (k.below hbel.size (fun i hi e => by omega))⟩
  rcases List.mem_cons.1 hq with rfl | hq
  · refine ⟨hb, (ho.kept k (fun b off e hbg => ?_)).ia⟩
    obtain ⟨cs, fr, hh⟩ := ho.il.typ b off e
    rw [hbg] at hh
    unfold Box at hb0
    rw [hb0] at hh
    simp at hh
  · rw [List.mem_singleton] at hq
    subst hq
    refine ⟨k.box hp.box (fun e => by omega), hp.sl.kept k (fun h0 b off e hbg => ?_)⟩
    obtain ⟨b2, off2, e2, hb2, _⟩ := h2.at_ h0
    rw [e] at e2
    cases e2
    omega
theorem joinF_cut {xs : List Int} {W H : Nat} (hp : RightP xs W H) : joinF (cutL xs W H) (W : Int) (H : Int) = ((W : Int), (H : Int), xs, 0) := by
  have h0 := hp.w0
  have h1 := hp.w1
  have h2 := hp.h0
  have h3 := hp.h1
  unfold joinF
  rw [if_pos (by omega), Int.toNat_natCast, Int.toNat_natCast, if_pos (by unfold cutL; rw [cutK_len]), join_cut hp]
theorem cutF_right {xs : List Int} {W H : Nat} (hp : RightP xs W H) : cutF (W : Int) (H : Int) xs = (cutL xs W H, 0) := by
  unfold cutF
  rw [if_pos hp.int, Int.toNat_natCast, Int.toNat_natCast]
theorem growF_right {xs : List Int} {W H w h : Nat} (hp : RightP xs W H) (a d : Bool) (hw : 1 ≤ w ∧ w ≤ 128) (hh : 1 ≤ h ∧ h ≤ 128) : growF (W : Int) (H : Int) xs a d (w : Int) (h : Int) = ((w : Int), (h : Int), growL xs W H a d w h, 0) := by
  unfold growF
  rw [if_pos hp.int, if_pos (by omega)]
  simp only [Int.toNat_natCast]
theorem halveF_right {xs : List Int} {W H : Nat} {a d : Bool} (hp : RightP xs W H) : halveF (W : Int) (H : Int) xs a d = (((halfN a W : Nat) : Int), ((halfN d H : Nat) : Int), halveL xs W H a d, 0) := by
  unfold halveF
  rw [if_pos hp.int, Int.toNat_natCast, Int.toNat_natCast]
theorem twice_pos {a : Bool} {n : Nat} (h : 1 ≤ n) : 1 ≤ twiceN a n := by unfold twiceN; split <;> omega
theorem halveF_grow {xs : List Int} {W H : Nat} (hp : RightP xs W H) (a d : Bool) (hw : twiceN a W ≤ 128) (hh : twiceN d H ≤ 128) : halveF ((twiceN a W : Nat) : Int) ((twiceN d H : Nat) : Int) (growL xs W H a d (twiceN a W) (twiceN d H)) a d = ((W : Int), (H : Int), xs, 0) := by
  have hq := grow_right hp a d (twice_pos hp.w0) hw (twice_pos hp.h0) hh
  unfold halveF
  rw [if_pos hq.int, Int.toNat_natCast, Int.toNat_natCast, half_twice, half_twice, halve_grow hp]
end Go.Proofs.Ytadlaljohlpabaa
