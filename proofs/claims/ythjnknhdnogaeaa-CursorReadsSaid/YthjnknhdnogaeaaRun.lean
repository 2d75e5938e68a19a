/-
  CursorReads: the function that reads.
-/
import Derived.Test.YthjnknhdnogaeaaLive
import Derived.Deep.RegionHeld
namespace Go.Proofs.Ythjnknhdnogaeaa
open Go.RowKit

/-- how many of the first k questions are asked, and how a cursor stands behind them -/
def runTo (big : Bool) (l : List Int) (n : Nat) (ks : List (Int × Int)) : Nat → Nat × Nat × Int
  | 0 => (0, 0, 0)
  | k + 1 => if (runTo big l n ks k).2.2 = 0 then ((runTo big l n ks k).1 + 1, nextOf big l n (runTo big l n ks k).2.1 (ks.getD k (0, 0)).1 (ks.getD k (0, 0)).2) else runTo big l n ks k

section
variable (big : Bool) (l : List Int) (n : Nat) (ks : List (Int × Int))
theorem run_count (k : Nat) (h : (runTo big l n ks k).2.2 = 0) : (runTo big l n ks k).1 = k := by
  induction k with
  | zero => rfl
  | succ k ih =>
    unfold runTo at h ⊢
    by_cases e : (runTo big l n ks k).2.2 = 0
    · rw [if_pos e]
      show (runTo big l n ks k).1 + 1 = k + 1
      rw [ih e]
    · rw [if_neg e] at h
      exact absurd h e
theorem run_le (k : Nat) : (runTo big l n ks k).2.1 ≤ n := by
  induction k with
  | zero => exact Nat.zero_le _
  | succ k ih =>
    unfold runTo
    split
    · exact nextOf_le ih
    · exact ih
theorem run_before (k : Nat) (h : (runTo big l n ks (k + 1)).2.2 = 0) : (runTo big l n ks k).2.2 = 0 := by
  unfold runTo at h
  by_cases e : (runTo big l n ks k).2.2 = 0
  · exact e
  · rw [if_neg e] at h; exact absurd h e
theorem run_zero (k m : Nat) (hk : k ≤ m) (h : (runTo big l n ks m).2.2 = 0) : (runTo big l n ks k).2.2 = 0 := by
  induction m with
  | zero => obtain rfl : k = 0 := by omega
            exact h
  | succ m ih =>
    by_cases e : k = m + 1
    · subst e; exact h
    · exact ih (by omega) (run_before big l n ks m h)
theorem run_stays (k m : Nat) (hk : k ≤ m) (h : (runTo big l n ks k).2.2 ≠ 0) : runTo big l n ks m = runTo big l n ks k := by
  induction m with
  | zero => obtain rfl : k = 0 := by omega
            rfl
  | succ m ih =>
    by_cases e : k = m + 1
    · subst e; rfl
    · have h1 := ih (by omega)
      rw [runTo, if_neg (by rw [h1]; exact h), h1]
end

/-- a slice of questions that reads as ks; its block is one of K's -/
structure Pl (w : World) (K : Nat → Prop) (A : Option Addr) (n : Nat) (ks : List (Int × Int)) : Prop where
  len : ks.length = n
  at_ : 0 < n → ∃ b off, A = some ⟨b, off, none⟩ ∧ b < w.heap.size ∧ K b ∧ ∀ i, i < n → w.cell? ⟨b, off + i * 2, none⟩ = some (.int .i64 (ks.getD i (0, 0)).1) ∧ w.cell? ⟨b, off + i * 2 + 1, none⟩ = some (.int .i64 (ks.getD i (0, 0)).2)

theorem Pl.kept {S : Nat → Prop} {w w' : World} {K : Nat → Prop} {A : Option Addr} {n : Nat} {ks : List (Int × Int)} (h : Pl w K A n ks) (k : Kept S w w') (hS : ∀ b, K b → ¬ S b) : Pl w' K A n ks :=
  ⟨h.len, fun h0 => by
    obtain ⟨b, off, e, hb, hk, hc⟩ := h.at_ h0
    exact ⟨b, off, e, Nat.lt_of_lt_of_le hb k.size, hk, fun i hi => ⟨(k.cell (p := ⟨b, off + i * 2, none⟩) hb (hS b hk)).trans (hc i hi).1, (k.cell (p := ⟨b, off + i * 2 + 1, none⟩) hb (hS b hk)).trans (hc i hi).2⟩⟩⟩
theorem Pl.get {w : World} {K : Nat → Prop} {A : Option Addr} {n : Nat} {ks : List (Int × Int)} (h : Pl w K A n ks) {k : Nat} (hk : k < n) : ∃ b off, A = some ⟨b, off, none⟩ ∧ w.cell? ⟨b, off + k * 2, none⟩ = some (.int .i64 (ks.getD k (0, 0)).1) ∧ w.cell? ⟨b, off + k * 2 + 1, none⟩ = some (.int .i64 (ks.getD k (0, 0)).2) := by
  obtain ⟨b, off, e, _, _, hc⟩ := h.at_ (by omega)
  exact ⟨b, off, e, hc k hk⟩

/-- how things stand when k questions have been asked, and all were answered -/
structure RunAt (w : World) (g s : Nat) (Ax A : Option Addr) (n cx c : Nat) (big : Bool) (vb va vr vo : Nat) (at_ k : Nat) (wr : World) : Prop where
  cur : Cur wr g s Ax n cx big at_
  r : Box wr vr 30 #[.slice A n c, .int .i64 at_, .bool big, .int .i64 0]
  ok : Box wr vo 4 #[.bool true]
  asked : Box wr va 3 #[.int .i64 k]
  begun : Box wr vb 3 #[.int .i64 1]
  kept : Kept (fun i => (i = vb ∨ i = va ∨ i = vr ∨ i = vo) ∨ i = g) w wr

/-- how the function that reads ends -/
def RunEnds (w : World) (g s : Nat) (vb va vr vo : Nat) (F : Nat × Nat × Int) (e : Ending) (w' : World) : Prop :=
  ((F.2.2 = 0 ∧ e = .returned (.tuple #[])) ∨ (F.2.2 ≠ 0 ∧ e = .panicked (gaveUp s F.2.2))) ∧ Kept (fun i => (i = vb ∨ i = va ∨ i = vr ∨ i = vo) ∨ i = g) w w' ∧ Box w' vo 4 #[.bool true] ∧ Box w' va 3 #[.int .i64 F.1] ∧ Box w' vb 3 #[.int .i64 1]

theorem keepS {W : World} {vo nx vbb : Nat} {A : Option Addr} {n c at1 : Nat} (h : W.cell? ⟨vo, 0, none⟩ = some (.bool true) ∧ W.cell? ⟨nx, 1, none⟩ = some (.int .i64 at1) ∧ W.cell? ⟨nx, 3, none⟩ = some (.int .i64 0) ∧ W.cell? ⟨vbb, 0, none⟩ = some (.slice A n c)) (h2 : vbb ≠ vo) :
    (W.setCell ⟨vo, 0, none⟩ (.bool true)).cell? ⟨vo, 0, none⟩ = some (.bool true) ∧ (W.setCell ⟨vo, 0, none⟩ (.bool true)).cell? ⟨nx, 1, none⟩ = some (.int .i64 at1) ∧ (W.setCell ⟨vo, 0, none⟩ (.bool true)).cell? ⟨nx, 3, none⟩ = some (.int .i64 0) ∧ (W.setCell ⟨vo, 0, none⟩ (.bool true)).cell? ⟨vbb, 0, none⟩ = some (.slice A n c) := by
  obtain ⟨a, b, c', d⟩ := h
  refine ⟨?_, ?_, ?_, ?_⟩
  · simp [go_sem, a]
  · exact (World.cell?_setCell_other W ⟨vo, 0, none⟩ ⟨nx, 1, none⟩ (.bool true) (fun e => by cases e)).trans b
  · exact (World.cell?_setCell_other W ⟨vo, 0, none⟩ ⟨nx, 3, none⟩ (.bool true) (fun e => by cases e)).trans c'
  · exact (World.cell?_setCell_other W ⟨vo, 0, none⟩ ⟨vbb, 0, none⟩ (.bool true) (fun e => h2 (congrArg Addr.block e).symm)).trans d

theorem fourBeside {w : World} {g : Nat} {t : TypeId} {cs : Array Value} (h : Box w g t cs) {v : Nat} (hv : g ≠ v) (x0 x1 x2 x3 : Value) : Box ((((w.setCell ⟨v, 0, none⟩ x0).setCell ⟨v, 1, none⟩ x1).setCell ⟨v, 2, none⟩ x2).setCell ⟨v, 3, none⟩ x3) g t cs :=
  (((h.beside (p := ⟨v, 0, none⟩) hv x0).beside (p := ⟨v, 1, none⟩) hv x1).beside (p := ⟨v, 2, none⟩) hv x2).beside (p := ⟨v, 3, none⟩) hv x3

set_option maxHeartbeats 2000000 in
theorem run_fun (w : World) (g s : Nat) (Ax A : Option Addr) (n cx c : Nat) (big : Bool) (vb va vr vo vl vbb : Nat) (K : Nat → Prop) (l : List Int) (ks : List (Int × Int)) (Al : Option Addr) (nl cl : Nat)
    (hcur : Cur w g s Ax n cx big 0) (hr : Box w vr 30 #[.slice A n c, .int .i64 0, .bool big, .int .i64 0]) (hok : Box w vo 4 #[.bool true]) (hask : Box w va 3 #[.int .i64 0]) (hbeg : Box w vb 3 #[.int .i64 0]) (hab : va ≠ vb)
    (hvl : Box w vl 27 #[.slice Al nl cl]) (hvb : Box w vbb 22 #[.slice A n c]) (hx : Sl w K Ax n cx l) (hl : Sl w K A n c l) (hks : Pl w K Al nl ks) (hK : ∀ b, K b → ¬ ((b = vb ∨ b = va ∨ b = vr ∨ b = vo) ∨ b = g)) (hn : n ≤ 4000) (hnl : nl ≤ 100) :
    Calls Try.prog 15 #[.pointer (some ⟨g, 0, none⟩), .pointer (some ⟨vb, 0, none⟩), .pointer (some ⟨vl, 0, none⟩), .pointer (some ⟨va, 0, none⟩), .pointer (some ⟨vr, 0, none⟩), .pointer (some ⟨vo, 0, none⟩), .pointer (some ⟨vbb, 0, none⟩)] w
      (RunEnds w g s vb va vr vo (runTo big l n ks nl)) := by
  have n1 : vl ≠ vb := hvl.apart hbeg (by decide)
  have cb : w.cell? ⟨vb, 0, none⟩ = some (.int .i64 0) := hbeg.cell 0
  have fb := hbeg.free 0
  have hvl2 := hvl.beside (p := ⟨vb, 0, none⟩) n1 (.int .i64 1)
  have cl0 : (w.setCell ⟨vb, 0, none⟩ (.int .i64 1)).cell? ⟨vl, 0, none⟩ = some (.slice Al nl cl) := hvl2.cell 0
  have k0 : Kept (fun i => (i = vb ∨ i = va ∨ i = vr ∨ i = vo) ∨ i = g) w (w.setCell ⟨vb, 0, none⟩ (.int .i64 1)) := (Kept.refl _ w).setCell (p := ⟨vb, 0, none⟩) (fun _ => .inl (.inl rfl)) _
  have hst : RunAt w g s Ax A n cx c big vb va vr vo 0 0 (w.setCell ⟨vb, 0, none⟩ (.int .i64 1)) := by
    refine ⟨⟨hcur.own.beside (p := ⟨vb, 0, none⟩) (hcur.own.apart hbeg (by decide)) _, hcur.src.beside (p := ⟨vb, 0, none⟩) (hcur.src.apart hbeg (by decide)) _⟩, hr.beside (p := ⟨vb, 0, none⟩) (hr.apart hbeg (by decide)) _,
      hok.beside (p := ⟨vb, 0, none⟩) (hok.apart hbeg (by decide)) _, hask.beside (p := ⟨vb, 0, none⟩) hab _, by simpa using hbeg.put 0 (.int .i64 1), k0⟩
  have nbb : ¬ ((vbb = vb ∨ vbb = va ∨ vbb = vr ∨ vbb = vo) ∨ vbb = g) := by
    rintro ((e | e | e | e) | e)
    · exact hvb.apart hbeg (by decide) e
    · exact hvb.apart hask (by decide) e
    · exact hvb.apart hr (by decide) e
    · exact hvb.apart hok (by decide) e
    · exact hvb.apart hcur.own (by decide) e
  have H := Lib.hid (And.intro hx (And.intro hl (And.intro hks (And.intro hK (And.intro hvb (And.intro nbb hab))))))
  have HST := Lib.hid hst
  clear hcur hr hok hask hbeg hvl hvb hx hl hks hK k0 hst hvl2 nbb hab
  go_enter Try.func15, Try.ntmps15
  go_wp2_with fail
  clear cl0 cb fb
  go_loopw [16] (fun i wr => ∃ k : Nat, k ≤ nl ∧ i = .int .i64 k ∧ (runTo big l n ks k).2.2 = 0 ∧ RunAt w g s Ax A n cx c big vb va vr vo (runTo big l n ks k).2.1 k wr) (fun i _ => nl - (intOf i).toNat)
  case atStart => exact ⟨0, Nat.zero_le _, rfl, rfl, HST.out⟩
  case round =>
    obtain ⟨k, hk, rfl, he, hat⟩ := hrel
    obtain ⟨hx, hl, hks, hK, hvb, nbb, hab⟩ := H.out
    by_cases hlt : k < nl
    · obtain ⟨bl, ol, rfl, hc1, hc2⟩ := (hks.kept hat.kept hK).get hlt
      obtain ⟨kd, hkd⟩ : ∃ kd, kd = (ks.getD k (0, 0)).1 := ⟨_, rfl⟩
      obtain ⟨m, hm⟩ : ∃ m, m = (ks.getD k (0, 0)).2 := ⟨_, rfl⟩
      obtain ⟨at_, hat0⟩ : ∃ at_, at_ = (runTo big l n ks k).2.1 := ⟨_, rfl⟩
      have hle := run_le big l n ks k
      rw [← hat0] at hat hle
      rw [← hkd] at hc1
      rw [← hm] at hc2
      have ba := hat.asked.alloc (.cells #[.int .i64 kd, .int .i64 m] 34)
      have br := hat.r.alloc (.cells #[.int .i64 kd, .int .i64 m] 34)
      have bk := Box.made wr 34 #[.int .i64 kd, .int .i64 m]
      have ca : (wr.alloc (.cells #[.int .i64 kd, .int .i64 m] 34)).cell? ⟨va, 0, none⟩ = some (.int .i64 k) := ba.cell 0
      have fa := ba.free 0
      have br2 := br.beside (p := ⟨va, 0, none⟩) (br.apart ba (by decide)) (.int .i64 ((k : Int) + 1))
      have bk2 := bk.beside (p := ⟨va, 0, none⟩) (bk.apart ba (by decide)) (.int .i64 ((k : Int) + 1))
      have r0 : ((wr.alloc (.cells #[.int .i64 kd, .int .i64 m] 34)).setCell ⟨va, 0, none⟩ (.int .i64 ((k : Int) + 1))).cell? ⟨vr, 0, none⟩ = some (.slice A n c) := br2.cell 0
      have r1 : ((wr.alloc (.cells #[.int .i64 kd, .int .i64 m] 34)).setCell ⟨va, 0, none⟩ (.int .i64 ((k : Int) + 1))).cell? ⟨vr, 1, none⟩ = some (.int .i64 at_) := br2.cell 1
      have r2 : ((wr.alloc (.cells #[.int .i64 kd, .int .i64 m] 34)).setCell ⟨va, 0, none⟩ (.int .i64 ((k : Int) + 1))).cell? ⟨vr, 2, none⟩ = some (.bool big) := br2.cell 2
      have r3 : ((wr.alloc (.cells #[.int .i64 kd, .int .i64 m] 34)).setCell ⟨va, 0, none⟩ (.int .i64 ((k : Int) + 1))).cell? ⟨vr, 3, none⟩ = some (.int .i64 0) := br2.cell 3
      have x0 : ((wr.alloc (.cells #[.int .i64 kd, .int .i64 m] 34)).setCell ⟨va, 0, none⟩ (.int .i64 ((k : Int) + 1))).cell? ⟨wr.heap.size, 0, none⟩ = some (.int .i64 kd) := bk2.cell 0
      have x1 : ((wr.alloc (.cells #[.int .i64 kd, .int .i64 m] 34)).setCell ⟨va, 0, none⟩ (.int .i64 ((k : Int) + 1))).cell? ⟨wr.heap.size, 1, none⟩ = some (.int .i64 m) := bk2.cell 1
      clear ba br bk br2 bk2
      have hstep : runTo big l n ks (k + 1) = (k + 1, nextOf big l n at_ kd m) := by
        rw [runTo, if_pos he, run_count big l n ks k he, ← hat0, ← hkd, ← hm]
      have HH := Lib.hid (And.intro hat (And.intro hstep he))
      clear hx hl hks hK hvb nbb hab hat hstep he hkd hm hat0
      go_wp2_with fail
      clear r0 r1 r2 r3 x0 x1 ca fa hc1 hc2
      obtain ⟨W2, hW2⟩ : ∃ W2, W2 = (wr.alloc (.cells #[.int .i64 kd, .int .i64 m] 34)).setCell ⟨va, 0, none⟩ (.int .i64 ((k : Int) + 1)) := ⟨_, rfl⟩
      rw [← hW2]
      obtain ⟨hat, hstep, he⟩ := HH.out
      obtain ⟨hx, hl, hks, hK, hvb, nbb, hab⟩ := H.out
      have kW : Kept (fun i => i = va) wr W2 := by rw [hW2]; exact ((Kept.refl (fun i => i = va) wr).alloc _).setCell (p := ⟨va, 0, none⟩) (fun _ => rfl) _
      have ng : ¬ g = va := hat.cur.own.apart hat.asked (by decide)
      have ns : ¬ s = va := hat.cur.src.apart hat.asked (by decide)
      have cur2 := hat.cur.kept kW ng ns
      have hx2 := (hx.kept hat.kept hK).kept kW (fun b hb e => hK b hb (.inl (.inr (.inl e))))
      have hl2 := (hl.kept hat.kept hK).kept kW (fun b hb e => hK b hb (.inl (.inr (.inl e))))
      have hK2 : ∀ b, K b → ¬ b = g := fun b hb e => hK b hb (.inr e)
      have ask2 : Box W2 va 3 #[.int .i64 ((k : Int) + 1)] := by rw [hW2]; simpa using (hat.asked.alloc (.cells #[.int .i64 kd, .int .i64 m] 34)).put 0 (.int .i64 ((k : Int) + 1))
      have kS : Kept (fun i => (i = vb ∨ i = va ∨ i = vr ∨ i = vo) ∨ i = g) w W2 := hat.kept.trans kW (fun i _ e => .inl (.inr (.inl e)))
      have nag : ¬ va = g := fun e => ng e.symm
      have nog : ¬ vo = g := hat.ok.apart hat.cur.own (by decide)
      have nbg : ¬ vb = g := hat.begun.apart hat.cur.own (by decide)
      have nrg : ¬ vr = g := hat.r.apart hat.cur.own (by decide)
      have noa : ¬ vo = va := hat.ok.apart hat.asked (by decide)
      have nra : ¬ vr = va := hat.r.apart hat.asked (by decide)
      by_cases he2 : (nextOf big l n at_ kd m).2 = 0
      · refine (step_live W2 g s Ax A n cx c big at_ K l kd m cur2 hx2 hl2 hK2 hle hn he2).mono ?_
        rintro e w3 ⟨rfl, k3, cur3⟩
        obtain ⟨at1, hat1⟩ : ∃ at1, at1 = (nextOf big l n at_ kd m).1 := ⟨_, rfl⟩
        rw [← hat1] at cur3 ⊢
        have hle1 : at1 ≤ n := by rw [hat1]; exact nextOf_le hle
        have hrun : runTo big l n ks (k + 1) = (k + 1, at1, 0) := by rw [hstep, hat1, ← he2]
        have o3 := k3.box (kW.box hat.ok noa) nog
        have r3 := k3.box (kW.box hat.r nra) nrg
        have a3 := k3.box ask2 nag
        have b3 := k3.box (kW.box hat.begun (fun e => hab e.symm)) nbg
        have v3 := k3.box (kW.box (hat.kept.box hvb nbb) (fun e => nbb (.inl (.inr (.inl e))))) (fun e => nbb (.inr e))
        have kS3 := kS.trans k3 (fun i _ e => .inr e)
        have o4 := o3.alloc (.cells #[.slice A n c, .int .i64 at1, .bool big, .int .i64 0] 30)
        have r4 := r3.alloc (.cells #[.slice A n c, .int .i64 at1, .bool big, .int .i64 0] 30)
        have a4 := a3.alloc (.cells #[.slice A n c, .int .i64 at1, .bool big, .int .i64 0] 30)
        have b4 := b3.alloc (.cells #[.slice A n c, .int .i64 at1, .bool big, .int .i64 0] 30)
        have v4 := v3.alloc (.cells #[.slice A n c, .int .i64 at1, .bool big, .int .i64 0] 30)
        have x4 := Box.made w3 30 #[.slice A n c, .int .i64 at1, .bool big, .int .i64 0]
        have c4 : Cur (w3.alloc (.cells #[.slice A n c, .int .i64 at1, .bool big, .int .i64 0] 30)) g s Ax n cx big at1 := ⟨cur3.own.alloc _, cur3.src.alloc _⟩
        have k4 := kS3.alloc (.cells #[.slice A n c, .int .i64 at1, .bool big, .int .i64 0] 30)
        have hrx : vr ≠ w3.heap.size := by have := r3.lt; omega
        obtain ⟨W4, hW4⟩ : ∃ W4, W4 = w3.alloc (.cells #[.slice A n c, .int .i64 at1, .bool big, .int .i64 0] 30) := ⟨_, rfl⟩
        obtain ⟨nx, hnx⟩ : ∃ nx, nx = w3.heap.size := ⟨_, rfl⟩
        rw [← hW4] at o4 r4 a4 b4 v4 x4 c4 k4
        rw [← hnx] at x4 hrx
        have HZ := Lib.hid (And.intro o4 (And.intro r4 (And.intro a4 (And.intro b4 (And.intro x4 (And.intro c4 (And.intro k4 hrun)))))))
        have HW4 := Lib.hid (And.intro hW4 hnx)
        have co : W4.cell? ⟨vo, 0, none⟩ = some (.bool true) := o4.cell 0
        have fo := o4.free 0
        have e1 : W4.cell? ⟨nx, 1, none⟩ = some (.int .i64 at1) := x4.cell 1
        have e3 : W4.cell? ⟨nx, 3, none⟩ = some (.int .i64 0) := x4.cell 3
        have ev : W4.cell? ⟨vbb, 0, none⟩ = some (.slice A n c) := v4.cell 0
        have nxo : nx ≠ vo := x4.apart o4 (by decide)
        have nvo : vbb ≠ vo := v4.apart o4 (by decide)
        clear hat hstep he hx hl hks hK hvb nbb hab kW ng ns cur2 hx2 hl2 hK2 ask2 kS nag nog nbg nrg noa nra k3 cur3 hat1 hrun o3 r3 a3 b3 v3 kS3 o4 r4 a4 b4 v4 x4 c4 k4 hW4 hnx he2 hW2
        unfold refCur
        go_wp2_with fail
        rw [← HW4.out.1, ← HW4.out.2]
        have hwrap : IntKind.i64.wrap ((n : Int) - (at1 : Int)) = ((n - at1 : Nat) : Int) := by rw [IntKind.wrap_i64]; omega
        have K4 := Lib.hid (And.intro co (And.intro e1 (And.intro e3 ev)))
        go_region_held (fun w' => w'.cell? ⟨vo, 0, none⟩ = some (.bool true) ∧ w'.cell? ⟨nx, 1, none⟩ = some (.int .i64 at1) ∧ w'.cell? ⟨nx, 3, none⟩ = some (.int .i64 0) ∧ w'.cell? ⟨vbb, 0, none⟩ = some (.slice A n c))
          (first
            | exact K4.out
            | exact keepS K4.out nvo
            | go_keep)
          (first
            | (go_at_call 17
               refine (at_is _ g s Ax n cx big at1 ?_).mono ?_
               exact ⟨HZ.out.2.2.2.2.2.1.own, HZ.out.2.2.2.2.2.1.src⟩
               rintro r w5 ⟨rfl, rfl⟩)
            | (go_at_call 18
               refine (left_is _ g s Ax n cx big at1 ?_ hle1 (by omega)).mono ?_
               exact ⟨HZ.out.2.2.2.2.2.1.own, HZ.out.2.2.2.2.2.1.src⟩
               rintro r w5 ⟨rfl, j, rfl⟩))
        obtain ⟨o4, r4, a4, b4, x4, c4, k4, hrun⟩ := HZ.out
        have o5 : Box ((W4.drewN (1 + j)).setCell ⟨vo, 0, none⟩ (.bool true)) vo 4 #[.bool true] := by simpa using (o4.drewN (1 + j)).put 0 (.bool true)
        have r5 := (r4.drewN (1 + j)).beside (p := ⟨vo, 0, none⟩) (r4.apart o4 (by decide)) (.bool true)
        have a5 := (a4.drewN (1 + j)).beside (p := ⟨vo, 0, none⟩) (a4.apart o4 (by decide)) (.bool true)
        have b5 := (b4.drewN (1 + j)).beside (p := ⟨vo, 0, none⟩) (b4.apart o4 (by decide)) (.bool true)
        have x5 := (x4.drewN (1 + j)).beside (p := ⟨vo, 0, none⟩) (x4.apart o4 (by decide)) (.bool true)
        have c5 : Cur ((W4.drewN (1 + j)).setCell ⟨vo, 0, none⟩ (.bool true)) g s Ax n cx big at1 :=
          ⟨(c4.own.drewN (1 + j)).beside (p := ⟨vo, 0, none⟩) (c4.own.apart o4 (by decide)) (.bool true), (c4.src.drewN (1 + j)).beside (p := ⟨vo, 0, none⟩) (c4.src.apart o4 (by decide)) (.bool true)⟩
        have k5 := (k4.drewN (1 + j)).setCell (p := ⟨vo, 0, none⟩) (fun _ => .inl (.inr (.inr (.inr rfl)))) (.bool true)
        obtain ⟨W5, hW5⟩ : ∃ W5, W5 = (W4.drewN (1 + j)).setCell ⟨vo, 0, none⟩ (.bool true) := ⟨_, rfl⟩
        rw [← hW5] at o5 r5 a5 b5 x5 c5 k5 ⊢
        have HY := Lib.hid (And.intro o5 (And.intro r5 (And.intro a5 (And.intro b5 (And.intro x5 (And.intro c5 (And.intro k5 hrun)))))))
        have q0 : W5.cell? ⟨nx, 0, none⟩ = some (.slice A n c) := x5.cell 0
        have q1 : W5.cell? ⟨nx, 1, none⟩ = some (.int .i64 at1) := x5.cell 1
        have q2 : W5.cell? ⟨nx, 2, none⟩ = some (.bool big) := x5.cell 2
        have q3 : W5.cell? ⟨nx, 3, none⟩ = some (.int .i64 0) := x5.cell 3
        have s0 : W5.cell? ⟨vr, 0, none⟩ = some (.slice A n c) := r5.cell 0
        have s1 : W5.cell? ⟨vr, 1, none⟩ = some (.int .i64 at_) := r5.cell 1
        have s2 : W5.cell? ⟨vr, 2, none⟩ = some (.bool big) := r5.cell 2
        have s3 : W5.cell? ⟨vr, 3, none⟩ = some (.int .i64 0) := r5.cell 3
        have f0 := r5.free 0
        have f1 := r5.free 1
        have f2 := r5.free 2
        have f3 := r5.free 3
        clear o4 r4 a4 b4 x4 c4 k4 hrun o5 r5 a5 b5 x5 c5 k5 hW5 HZ HW4 K4 co fo e1 e3 ev nxo nvo hwrap HST HH
        rename_i hHeld
        clear hHeld
        go_wp2
        go_roundw
        case rel =>
          obtain ⟨o5, r5, a5, b5, x5, c5, k5, hrun⟩ := HY.out
          refine ⟨k + 1, by omega, by simp, by rw [hrun], ?_⟩
          rw [hrun]
          have na : va ≠ vr := a5.apart r5 (by decide)
          have nb : vb ≠ vr := b5.apart r5 (by decide)
          have no : vo ≠ vr := o5.apart r5 (by decide)
          have ng : g ≠ vr := c5.own.apart r5 (by decide)
          have ns : s ≠ vr := c5.src.apart r5 (by decide)
          refine ⟨⟨fourBeside c5.own ng _ _ _ _, fourBeside c5.src ns _ _ _ _⟩, ?_, fourBeside o5 no _ _ _ _, ?_, fourBeside b5 nb _ _ _ _, ?_⟩
          · simpa using (((r5.put 0 (.slice A n c)).put 1 (.int .i64 at1)).put 2 (.bool big)).put 3 (.int .i64 0)
          · simpa using fourBeside a5 na _ _ _ _
          · exact (((k5.setCell (p := ⟨vr, 0, none⟩) (fun _ => .inl (.inr (.inr (.inl rfl)))) _).setCell (p := ⟨vr, 1, none⟩) (fun _ => .inl (.inr (.inr (.inl rfl)))) _).setCell (p := ⟨vr, 2, none⟩) (fun _ => .inl (.inr (.inr (.inl rfl)))) _).setCell (p := ⟨vr, 3, none⟩) (fun _ => .inl (.inr (.inr (.inl rfl)))) _
        case measure => simp [intOf]; omega
      · refine (step_up W2 g s Ax A n cx c big at_ K l kd m cur2 hx2 hl2 hle hn he2).mono ?_
        rintro e w3 ⟨rfl, k3⟩
        have hF : runTo big l n ks nl = (k + 1, nextOf big l n at_ kd m) := by
          rw [run_stays big l n ks (k + 1) nl (by omega) (by rw [hstep]; exact he2), hstep]
        have hend : RunEnds w g s vb va vr vo (runTo big l n ks nl) (.panicked (gaveUp s (nextOf big l n at_ kd m).2)) w3 := by
          rw [hF]
          exact ⟨.inr ⟨he2, rfl⟩, kS.trans k3 (fun i _ e => .inr e), k3.box (kW.box hat.ok noa) nog, k3.box ask2 nag, k3.box (kW.box hat.begun (fun e => hab e.symm)) nbg⟩
        exact ⟨rfl, hend⟩
    · have ek : k = nl := by omega
      have HC := Lib.hid (And.intro hat (And.intro he ek))
      clear hx hl hks hK hvb nbb hab hat he ek
      go_wp2
      go_end0
      obtain ⟨hat, he, ek⟩ := HC.out
      subst ek
      refine ⟨.inl ⟨he, rfl⟩, hat.kept, hat.ok, ?_, hat.begun⟩
      rw [run_count big l n ks k he]
      exact hat.asked

end Go.Proofs.Ythjnknhdnogaeaa
