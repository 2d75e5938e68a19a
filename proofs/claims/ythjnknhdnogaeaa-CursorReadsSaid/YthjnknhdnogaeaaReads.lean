/-
  CursorReads: the walk.
-/
import Derived.Test.YthjnknhdnogaeaaRun
import Derived.Test.YthjnknhdnogaeaaPuts
namespace Go.Proofs.Ythjnknhdnogaeaa
open Go.RowKit

theorem calls15 (args : Array Value) (w : World) : (callFunc 15 args).run Try.prog w = .ok (.enter 15 args) w := by kernel_rfl

/-- what the Try of the function that reads answers -/
def ReadsTry (w : World) (vb va vr vo : Nat) (F : Nat × Nat × Int) (e : Ending) (w' : World) : Prop :=
  e = .returned (.int .i64 F.2.2) ∧ Kept (fun i => i = vb ∨ i = va ∨ i = vr ∨ i = vo) w w' ∧ Box w' vo 4 #[.bool true] ∧ Box w' va 3 #[.int .i64 F.1] ∧ Box w' vb 3 #[.int .i64 1]

theorem reads_try (w : World) (Ax A : Option Addr) (n cx c : Nat) (big : Bool) (vb va vr vo vl vbb : Nat) (K : Nat → Prop) (l : List Int) (ks : List (Int × Int)) (Al : Option Addr) (nl cl : Nat)
    (hr : Box w vr 30 #[.slice A n c, .int .i64 0, .bool big, .int .i64 0]) (hok : Box w vo 4 #[.bool true]) (hask : Box w va 3 #[.int .i64 0]) (hbeg : Box w vb 3 #[.int .i64 0]) (hab : va ≠ vb)
    (hvl : Box w vl 27 #[.slice Al nl cl]) (hvb : Box w vbb 22 #[.slice A n c]) (hx : Sl w K Ax n cx l) (hl : Sl w K A n c l) (hks : Pl w K Al nl ks) (hK : ∀ b, K b → b < w.heap.size ∧ ¬ (b = vb ∨ b = va ∨ b = vr ∨ b = vo)) (hn : n ≤ 4000) (hnl : nl ≤ 100) :
    Calls Try.prog 14 #[.slice Ax n cx, .bool big, .func (.func 15) #[] #[.pointer (some ⟨vb, 0, none⟩), .pointer (some ⟨vl, 0, none⟩), .pointer (some ⟨va, 0, none⟩), .pointer (some ⟨vr, 0, none⟩), .pointer (some ⟨vo, 0, none⟩), .pointer (some ⟨vbb, 0, none⟩)]] w
      (ReadsTry w vb va vr vo (runTo big l n ks nl)) := by
  have ko := opened_kept w Ax n cx big (fun _ => False)
  have hc := opened_cur w Ax n cx big
  have l1 := hr.lt
  have l2 := hok.lt
  have l3 := hask.lt
  have l4 := hbeg.lt
  have hS : ∀ i, (i = vb ∨ i = va ∨ i = vr ∨ i = vo) → i < w.heap.size := fun i e => by rcases e with e | e | e | e <;> omega
  have hrun := run_fun (opened w Ax n cx big) (w.heap.size + 1 + 1 + 1) (w.heap.size + 1) Ax A n cx c big vb va vr vo vl vbb K l ks Al nl cl hc (ko.box hr (fun h => h)) (ko.box hok (fun h => h)) (ko.box hask (fun h => h)) (ko.box hbeg (fun h => h)) hab
    (ko.box hvl (fun h => h)) (ko.box hvb (fun h => h)) (hx.kept ko (fun _ _ h => h)) (hl.kept ko (fun _ _ h => h)) (hks.kept ko (fun _ _ h => h)) (fun b hb h => by
      rcases h with h | h
      · exact (hK b hb).2 h
      · have := (hK b hb).1; omega) hn hnl
  by_cases h0 : (runTo big l n ks nl).2.2 = 0
  · have h := try_ret_kept w Ax n cx big 15 #[.pointer (some ⟨vb, 0, none⟩), .pointer (some ⟨vl, 0, none⟩), .pointer (some ⟨va, 0, none⟩), .pointer (some ⟨vr, 0, none⟩), .pointer (some ⟨vo, 0, none⟩), .pointer (some ⟨vbb, 0, none⟩)] calls15 _ hS
      (fun w1 => Box w1 vo 4 #[.bool true] ∧ Box w1 va 3 #[.int .i64 (runTo big l n ks nl).1] ∧ Box w1 vb 3 #[.int .i64 1])
      (hrun.mono (by
        rintro e w1 ⟨(⟨_, rfl⟩ | ⟨h1, _⟩), hk, ho, ha, hb⟩
        · exact ⟨rfl, hk, ho, ha, hb⟩
        · exact absurd h0 h1))
    refine h.mono ?_
    rintro e w' ⟨rfl, hk, w1, ⟨ho, ha, hb⟩, k1⟩
    exact ⟨by rw [h0], hk, k1.box ho (by omega), k1.box ha (by omega), k1.box hb (by omega)⟩
  · have h := try_up_kept w Ax n cx big 15 #[.pointer (some ⟨vb, 0, none⟩), .pointer (some ⟨vl, 0, none⟩), .pointer (some ⟨va, 0, none⟩), .pointer (some ⟨vr, 0, none⟩), .pointer (some ⟨vo, 0, none⟩), .pointer (some ⟨vbb, 0, none⟩)] calls15 _ hS
      (fun w1 => Box w1 vo 4 #[.bool true] ∧ Box w1 va 3 #[.int .i64 (runTo big l n ks nl).1] ∧ Box w1 vb 3 #[.int .i64 1]) (runTo big l n ks nl).2.2
      (hrun.mono (by
        rintro e w1 ⟨(⟨h1, _⟩ | ⟨_, rfl⟩), hk, ho, ha, hb⟩
        · exact absurd h1 h0
        · exact ⟨rfl, hk, ho, ha, hb⟩))
    refine h.mono ?_
    rintro e w' ⟨rfl, hk, w1, ⟨ho, ha, hb⟩, k1⟩
    exact ⟨rfl, hk, k1.box ho (by omega), k1.box ha (by omega), k1.box hb (by omega)⟩

/-- the two arguments that the function keeps in boxes -/
theorem two (w : World) (A : Option Addr) (n c : Nat) (Al : Option Addr) (nl cl : Nat) (W0 : World) (hW : W0 = (w.alloc (.cells #[.slice A n c] 22)).alloc (.cells #[.slice Al nl cl] 27)) :
    Box W0 w.heap.size 22 #[.slice A n c] ∧ Box W0 (w.heap.size + 1) 27 #[.slice Al nl cl] ∧ Below w.heap.size w W0 := by
  subst hW
  have h1 := Box.made (w.alloc (.cells #[.slice A n c] 22)) 27 #[.slice Al nl cl]
  simp only [World.size_alloc] at h1
  exact ⟨(Box.made w 22 _).alloc _, h1, ((Kept.refl (fun _ => False) w).alloc _).alloc _ |>.below (Nat.le_refl _) (fun _ _ h => h)⟩

theorem four (w : World) (A : Option Addr) (n c : Nat) (big : Bool) :
    let W := (((w.alloc (.cells #[.bool true] 4)).alloc (.cells #[.int .i64 0] 3)).alloc (.cells #[.int .i64 0] 3)).alloc (.cells #[.slice A n c, .int .i64 0, .bool big, .int .i64 0] 30)
    Box W w.heap.size 4 #[.bool true] ∧ Box W (w.heap.size + 1) 3 #[.int .i64 0] ∧ Box W (w.heap.size + 1 + 1) 3 #[.int .i64 0] ∧ Box W (w.heap.size + 1 + 1 + 1) 30 #[.slice A n c, .int .i64 0, .bool big, .int .i64 0] ∧ Kept (fun _ => False) w W := by
  have h1 := Box.made (w.alloc (.cells #[.bool true] 4)) 3 #[.int .i64 0]
  have h2 := Box.made ((w.alloc (.cells #[.bool true] 4)).alloc (.cells #[.int .i64 0] 3)) 3 #[.int .i64 0]
  have h3 := Box.made (((w.alloc (.cells #[.bool true] 4)).alloc (.cells #[.int .i64 0] 3)).alloc (.cells #[.int .i64 0] 3)) 30 #[.slice A n c, .int .i64 0, .bool big, .int .i64 0]
  simp only [World.size_alloc] at h1 h2 h3
  exact ⟨(((Box.made w 4 _).alloc _).alloc _).alloc _, (h1.alloc _).alloc _, h2.alloc _, h3, ((((Kept.refl (fun _ => False) w).alloc _).alloc _).alloc _).alloc _⟩

theorem Pl.mono {w : World} {K K' : Nat → Prop} {A : Option Addr} {n : Nat} {ks : List (Int × Int)} (h : Pl w K A n ks) (hK : ∀ b, b < w.heap.size → K b → K' b) : Pl w K' A n ks :=
  ⟨h.len, fun h0 => by
    obtain ⟨b, off, e, hb, hk, hc⟩ := h.at_ h0
    exact ⟨b, off, e, hb, hK b hb hk, hc⟩⟩

set_option maxHeartbeats 1000000 in
theorem reads_any (w : World) (A : Option Addr) (n c : Nat) (l : List Int) (big : Bool) (Al : Option Addr) (nl cl : Nat) (ks : List (Int × Int)) (h : Sl w (fun b => b < w.heap.size) A n c l) (hks : Pl w (fun b => b < w.heap.size) Al nl ks) :
    Calls Try.prog 4 #[.slice A n c, .bool big, .slice Al nl cl] w fun e w' => e = .returned (.bool true) ∧ Below w.heap.size w w' := by
  by_cases hnl : nl ≤ 100
  · by_cases hn : n ≤ 4000
    · have hmf : ∀ (fn : Fn) (first cap : Array Value) (w : World), (Instr.makeFunc fn first cap).run Try.prog w = .ok (.func fn first cap) w := fun _ _ _ _ => rfl
      have H := Lib.hid (And.intro h hks)
      have hn2 : ¬ (4000 : Int) < (n : Int) := by omega
      have hn3 : ¬ (100 : Int) < (nl : Int) := by omega
      clear h hks
      go_enter Try.func4, Try.ntmps4
      go_wp2_with fail
      obtain ⟨W0, hW0⟩ : ∃ W0, W0 = (w.alloc (.cells #[.slice A n c] 22)).alloc (.cells #[.slice Al nl cl] 27) := ⟨_, rfl⟩
      obtain ⟨a0, a1, bw⟩ := two w A n c Al nl cl W0 hW0
      rw [← hW0]
      have kw : Kept (fun _ => False) w W0 := by rw [hW0]; exact ((Kept.refl (fun _ => False) w).alloc _).alloc _
      have HA := Lib.hid (And.intro a0 (And.intro a1 (And.intro bw kw)))
      have hs0 := H.out.1.kept kw (fun _ _ h => h)
      clear a0 a1 bw kw hW0
      refine (own_any W0 _ A n c l hs0 (by omega)).mono ?_
      rintro e w1 ⟨Ax, cx, rfl, s1, b1⟩
      have HS := Lib.hid (And.intro s1 b1)
      have cb : (((w1.alloc (.cells #[.bool true] 4)).alloc (.cells #[.int .i64 0] 3)).alloc (.cells #[.int .i64 0] 3)).cell? ⟨w.heap.size, 0, none⟩ = some (.slice A n c) :=
        (((((Kept.of_below b1 (fun _ => False)).box HA.out.1 (fun h => h)).alloc _).alloc _).alloc _).cell 0
      clear s1 b1 hs0
      go_wp2_with fail
      obtain ⟨a0, a1, bw, kw⟩ := HA.out
      obtain ⟨s1, b1⟩ := HS.out
      have k1 := Kept.of_below b1 (fun _ => False)
      have hz : w.heap.size + 1 + 1 ≤ w1.heap.size := by have := (k1.box a1 (fun h => h)).lt; omega
      obtain ⟨p1, p2, p3, p4, k2⟩ := four w1 A n c big
      have hsize : w1.heap.size + 1 + 1 + 1 < ((((w1.alloc (.cells #[.bool true] 4)).alloc (.cells #[.int .i64 0] 3)).alloc (.cells #[.int .i64 0] 3)).alloc (.cells #[.slice A n c, .int .i64 0, .bool big, .int .i64 0] 30)).heap.size := p4.lt
      obtain ⟨W2, hW2⟩ : ∃ W2, W2 = (((w1.alloc (.cells #[.bool true] 4)).alloc (.cells #[.int .i64 0] 3)).alloc (.cells #[.int .i64 0] 3)).alloc (.cells #[.slice A n c, .int .i64 0, .bool big, .int .i64 0] 30) := ⟨_, rfl⟩
      rw [← hW2] at p1 p2 p3 p4 k2 hsize ⊢
      obtain ⟨z, hzz⟩ : ∃ z, z = w1.heap.size := ⟨_, rfl⟩
      have k12 : Kept (fun _ => False) w w1 := kw.trans k1 (fun _ _ h => h)
      have ex1 : Sl w1 (fun b => b < z) Ax n cx l := s1.mono (fun b hb _ => by omega)
      have e1 : Sl w1 (fun b => b < z) A n c l := (H.out.1.kept k12 (fun _ _ h => h)).mono (fun b hb _ => by omega)
      have q1 : Pl w1 (fun b => b < z) Al nl ks := (H.out.2.kept k12 (fun _ _ h => h)).mono (fun b hb _ => by omega)
      have v0 := k2.box (k1.box a0 (fun h => h)) (fun h => h)
      have v1 := k2.box (k1.box a1 (fun h => h)) (fun h => h)
      have ex2 := ex1.kept k2 (fun _ _ h => h)
      have e2 := e1.kept k2 (fun _ _ h => h)
      have q2 := q1.kept k2 (fun _ _ h => h)
      have kk2 : Kept (fun _ => False) w W2 := k12.trans k2 (fun _ _ h => h)
      rw [← hzz] at p1 p2 p3 p4 hz hsize ⊢
      clear k1 k12 s1 b1 bw kw a0 a1 ex1 e1 q1 k2 hW2 hzz HS HA cb
      refine (reads_try W2 Ax A n cx c big (z + 1 + 1) (z + 1) (z + 1 + 1 + 1) z (w.heap.size + 1) w.heap.size (fun b => b < z) l ks Al nl cl p4 p1 p2 p3 (by omega) v1 v0 ex2 e2 q2 (fun b hb => ⟨by omega, by omega⟩) hn hnl).mono ?_
      rintro e w3 ⟨rfl, k3, o3, t3, g3⟩
      obtain ⟨F, hF⟩ : ∃ F, F = runTo big l n ks nl := ⟨_, rfl⟩
      rw [← hF] at t3 ⊢
      have u0 := k3.box v0 (by omega)
      have u1 := k3.box v1 (by omega)
      have ex3 := ex2.kept k3 (fun b hb => by omega)
      have e3 := e2.kept k3 (fun b hb => by omega)
      have q3 := q2.kept k3 (fun b hb => by omega)
      have b3 : Below w.heap.size w w3 := (kk2.trans k3 (S' := fun i => i = z + 1 + 1 ∨ i = z + 1 ∨ i = z + 1 + 1 + 1 ∨ i = z) (fun i hi h => by omega)).below (Nat.le_refl _) (fun _ _ h => h)
      have cb3 : w3.cell? ⟨w.heap.size, 0, none⟩ = some (.slice A n c) := u0.cell 0
      have cl4 : (w3.alloc (.cells #[.slice A n c, .int .i64 0, .bool big, .int .i64 0] 30)).cell? ⟨w.heap.size + 1, 0, none⟩ = some (.slice Al nl cl) := (u1.alloc _).cell 0
      have HB := Lib.hid (And.intro u0 (And.intro o3 (And.intro t3 (And.intro g3 (And.intro ex3 (And.intro e3 (And.intro q3 (And.intro b3 hF))))))))
      clear u0 u1 o3 t3 g3 ex3 e3 q3 b3 hF k3 p1 p2 p3 p4 v0 v1 ex2 e2 q2 kk2 H
      go_wp2_with fail
      clear cb3 cl4
      have y4 := Box.made w3 30 #[.slice A n c, .int .i64 0, .bool big, .int .i64 0]
      have k4 := (Kept.refl (fun _ => False) w3).alloc (.cells #[.slice A n c, .int .i64 0, .bool big, .int .i64 0] 30)
      obtain ⟨W4, hW4⟩ : ∃ W4, W4 = w3.alloc (.cells #[.slice A n c, .int .i64 0, .bool big, .int .i64 0] 30) := ⟨_, rfl⟩
      obtain ⟨y, hy⟩ : ∃ y, y = w3.heap.size := ⟨_, rfl⟩
      rw [← hW4] at y4 k4 ⊢
      rw [← hy] at y4 ⊢
      have HY := Lib.hid (And.intro hy (And.intro y4 k4))
      clear y4 k4 hW4 hy
      go_loopw [14, 40] (fun most i wr => ∃ k : Nat, k ≤ nl ∧ i = .int .i64 k ∧ most = .int .i64 (runTo big l n ks k).1 ∧ Box wr y 30 #[.slice A n c, .int .i64 (runTo big l n ks k).2.1, .bool big, .int .i64 (runTo big l n ks k).2.2] ∧ Kept (fun _ => False) w3 wr) (fun _ i _ => nl - (intOf i).toNat)
      case atStart => exact ⟨0, Nat.zero_le _, rfl, rfl, HY.out.2.1, HY.out.2.2⟩
      case round =>
        obtain ⟨k, hk, rfl, rfl, hq, hkk⟩ := hrel
        by_cases hlt : k < nl
        · obtain ⟨u0, o3, t3, g3, ex3, e3, q3, b3, hF⟩ := HB.out
          obtain ⟨bl, ol, rfl, hc1, hc2⟩ := (q3.kept hkk (fun _ _ h => h)).get hlt
          obtain ⟨kd, hkd⟩ : ∃ kd, kd = (ks.getD k (0, 0)).1 := ⟨_, rfl⟩
          obtain ⟨m, hm⟩ : ∃ m, m = (ks.getD k (0, 0)).2 := ⟨_, rfl⟩
          obtain ⟨at_, hat0⟩ : ∃ at_, at_ = (runTo big l n ks k).2.1 := ⟨_, rfl⟩
          have hle := run_le big l n ks k
          rw [← hat0] at hq hle
          rw [← hkd] at hc1
          rw [← hm] at hc2
          have bq := hq.alloc (.cells #[.int .i64 kd, .int .i64 m] 34)
          have bk := Box.made wr 34 #[.int .i64 kd, .int .i64 m]
          have kw5 := hkk.alloc (.cells #[.int .i64 kd, .int .i64 m] 34)
          have r0 : (wr.alloc (.cells #[.int .i64 kd, .int .i64 m] 34)).cell? ⟨y, 0, none⟩ = some (.slice A n c) := bq.cell 0
          have r1 : (wr.alloc (.cells #[.int .i64 kd, .int .i64 m] 34)).cell? ⟨y, 1, none⟩ = some (.int .i64 at_) := bq.cell 1
          have r2 : (wr.alloc (.cells #[.int .i64 kd, .int .i64 m] 34)).cell? ⟨y, 2, none⟩ = some (.bool big) := bq.cell 2
          have r3 : (wr.alloc (.cells #[.int .i64 kd, .int .i64 m] 34)).cell? ⟨y, 3, none⟩ = some (.int .i64 (runTo big l n ks k).2.2) := bq.cell 3
          have x0 : (wr.alloc (.cells #[.int .i64 kd, .int .i64 m] 34)).cell? ⟨wr.heap.size, 0, none⟩ = some (.int .i64 kd) := bk.cell 0
          have x1 : (wr.alloc (.cells #[.int .i64 kd, .int .i64 m] 34)).cell? ⟨wr.heap.size, 1, none⟩ = some (.int .i64 m) := bk.cell 1
          by_cases he : (runTo big l n ks k).2.2 = 0
          · have hcount := run_count big l n ks k he
            have hstep : runTo big l n ks (k + 1) = (k + 1, nextOf big l n at_ kd m) := by
              rw [runTo, if_pos he, hcount, ← hat0, ← hkd, ← hm]
            rw [he] at r3 bq
            rw [hcount]
            have e5 := e3.kept kw5 (fun _ _ h => h)
            have HH := Lib.hid (And.intro bq (And.intro kw5 (And.intro hstep (And.intro e5 HY.out.1))))
            clear u0 o3 t3 g3 ex3 e3 q3 b3 hF hq hkk bq bk kw5 hkd hm hat0 he hcount hstep e5
            go_wp2_with fail
            clear r0 r1 r2 r3 x0 x1 hc1 hc2
            obtain ⟨W5, hW5⟩ : ∃ W5, W5 = wr.alloc (.cells #[.int .i64 kd, .int .i64 m] 34) := ⟨_, rfl⟩
            rw [← hW5] at HH ⊢
            refine (step_nil W5 A n c big at_ _ l m kd HH.out.2.2.2.1 hle hn).mono ?_
            rintro e w6 ⟨bb, rfl, b6⟩
            obtain ⟨bq, kw5, hstep, e5, hy⟩ := HH.out
            have k6 := Kept.of_below b6 (fun _ => False)
            have q6 := k6.box bq (fun h => h)
            have kw6 := kw5.trans k6 (fun _ _ h => h)
            obtain ⟨at1, hat1⟩ : ∃ at1, at1 = (nextOf big l n at_ kd m).1 := ⟨_, rfl⟩
            obtain ⟨er1, her1⟩ : ∃ er1, er1 = (nextOf big l n at_ kd m).2 := ⟨_, rfl⟩
            have hrun : runTo big l n ks (k + 1) = (k + 1, at1, er1) := by rw [hstep, hat1, her1]
            rw [← hat1, ← her1]
            unfold refCur
            have s0 : w6.cell? ⟨y, 0, none⟩ = some (.slice A n c) := q6.cell 0
            have s1 : w6.cell? ⟨y, 1, none⟩ = some (.int .i64 at_) := q6.cell 1
            have s2 : w6.cell? ⟨y, 2, none⟩ = some (.bool big) := q6.cell 2
            have s3 : w6.cell? ⟨y, 3, none⟩ = some (.int .i64 0) := q6.cell 3
            have f0 := q6.free 0
            have f1 := q6.free 1
            have f2 := q6.free 2
            have f3 := q6.free 3
            have H6 := Lib.hid (And.intro q6 (And.intro kw6 (And.intro hrun hy)))
            clear b6 bq kw5 hstep e5 hy k6 q6 kw6 hat1 her1 hrun HH hW5
            go_wp2
            go_roundw
            case rel =>
              obtain ⟨q6, kw6, hrun, hy⟩ := H6.out
              refine ⟨k + 1, by omega, by simp, by rw [hrun]; simp, ?_, ?_⟩
              · rw [hrun]
                simpa using (((q6.put 0 (.slice A n c)).put 1 (.int .i64 at1)).put 2 (.bool big)).put 3 (.int .i64 er1)
              · exact (((kw6.setCell (p := ⟨y, 0, none⟩) (fun h => by simp at h; omega) _).setCell (p := ⟨y, 1, none⟩) (fun h => by simp at h; omega) _).setCell (p := ⟨y, 2, none⟩) (fun h => by simp at h; omega) _).setCell (p := ⟨y, 3, none⟩) (fun h => by simp at h; omega) _
            case measure => simp [intOf]; omega
          · have hstep : runTo big l n ks (k + 1) = runTo big l n ks k := by rw [runTo, if_neg he]
            have HH := Lib.hid (And.intro bq (And.intro kw5 (And.intro hstep hat0)))
            obtain ⟨er, her⟩ : ∃ er, er = (runTo big l n ks k).2.2 := ⟨_, rfl⟩
            rw [← her] at r3 he HH
            have HR := Lib.hid her
            clear u0 o3 t3 g3 ex3 e3 q3 b3 hF hq hkk bq bk kw5 hkd hm hat0 hstep her
            go_wp2
            go_roundw
            case rel =>
              obtain ⟨bq, kw5, hstep, hat0⟩ := HH.out
              refine ⟨k + 1, by omega, by simp, by rw [hstep], ?_, kw5⟩
              rw [hstep, ← hat0, ← HR.out]
              exact bq
            case measure => simp [intOf]; omega
        · have ek : k = nl := by omega
          subst ek
          obtain ⟨u0, o3, t3, g3, ex3, e3, q3, b3, hF⟩ := HB.out
          rw [← hF] at hq ⊢
          have ko := (hkk.box o3 (fun h => h))
          have kt := (hkk.box t3 (fun h => h))
          have kg := (hkk.box g3 (fun h => h))
          have ku := (hkk.box u0 (fun h => h))
          have c1 : wr.cell? ⟨z, 0, none⟩ = some (.bool true) := ko.cell 0
          have c2 : wr.cell? ⟨z + 1 + 1, 0, none⟩ = some (.int .i64 1) := kg.cell 0
          have c3 : wr.cell? ⟨z + 1, 0, none⟩ = some (.int .i64 F.1) := kt.cell 0
          have c4 : wr.cell? ⟨y, 3, none⟩ = some (.int .i64 F.2.2) := hq.cell 3
          have c5 : wr.cell? ⟨w.heap.size, 0, none⟩ = some (.slice A n c) := ku.cell 0
          have fin := b3.trans (hkk.below b3.size (fun _ _ h => h))
          have HX := Lib.hid (And.intro (ex3.kept hkk (fun _ _ h => h)) (And.intro (e3.kept hkk (fun _ _ h => h)) fin))
          have cv1 := sl_str HX.out.1
          have cv2 := sl_str HX.out.2.1
          obtain ⟨T, hT⟩ : ∃ T, T = strOfNums l := ⟨_, rfl⟩
          rw [← hT] at cv1 cv2
          clear u0 o3 t3 g3 ex3 e3 q3 b3 hF hq hkk ko kt kg ku fin hT
          go_wp2_with fail
          refine (awake_any _).mono ?_
          rintro e w7 ⟨rfl, b7⟩
          have HC := Lib.hid b7
          clear b7
          go_wp2
          go_ret
          exact ⟨rfl, HX.out.2.2.trans (HC.out.mono HX.out.2.2.size)⟩
    · have hn2 : (4000 : Int) < (n : Int) := by omega
      have hn3 : ¬ (100 : Int) < (nl : Int) := by omega
      clear h hks
      go_enter Try.func4, Try.ntmps4
      go_wp2_with fail
      refine (awake_any _).mono ?_
      rintro e w2 ⟨rfl, b2⟩
      have HC := Lib.hid b2
      clear b2
      go_wp2
      go_ret
      exact ⟨rfl, (two w A n c Al nl cl _ rfl).2.2.trans (HC.out.mono (two w A n c Al nl cl _ rfl).2.2.size)⟩
  · have hn3 : (100 : Int) < (nl : Int) := by omega
    clear h hks
    go_enter Try.func4, Try.ntmps4
    go_wp2_with fail
    refine (awake_any _).mono ?_
    rintro e w2 ⟨rfl, b2⟩
    have HC := Lib.hid b2
    clear b2
    go_wp2
    go_ret
    exact ⟨rfl, (two w A n c Al nl cl _ rfl).2.2.trans (HC.out.mono (two w A n c Al nl cl _ rfl).2.2.size)⟩

end Go.Proofs.Ythjnknhdnogaeaa
