/-
  CursorOver: the walk.
-/
import Derived.Test.YthjnknhdnogaeaaGone
namespace Go.Proofs.Ythjnknhdnogaeaa
open Go.RowKit

theorem calls19 (args : Array Value) (w : World) : (callFunc 19 args).run Try.prog w = .ok (.enter 19 args) w := by kernel_rfl

section
variable (w : World) (g s : Nat) (A : Option Addr) (n c : Nat) (big : Bool) (vk vf : Nat)

set_option maxHeartbeats 400000 in
theorem over_fun0 (x : Value) (h : Cur w g s A n c big 0) (hk : Box w vk 32 #[x]) (hf : Box w vf 3 #[.int .i64 0]) :
    Calls Try.prog 19 #[.pointer (some ⟨g, 0, none⟩), .pointer (some ⟨vk, 0, none⟩), .pointer (some ⟨vf, 0, none⟩)] w fun e w' => e = .returned (.tuple #[]) ∧ w.setCell ⟨vk, 0, none⟩ (.pointer (some ⟨g, 0, none⟩)) = w' := by
  have ck : w.cell? ⟨vk, 0, none⟩ = some x := hk.cell 0
  have fk := hk.free 0
  have nkf : vf ≠ vk := hf.apart hk (by decide)
  have hf2 := hf.beside (p := ⟨vk, 0, none⟩) nkf (.pointer (some ⟨g, 0, none⟩))
  have cf : (w.setCell ⟨vk, 0, none⟩ (.pointer (some ⟨g, 0, none⟩))).cell? ⟨vf, 0, none⟩ = some (.int .i64 0) := hf2.cell 0
  have h2 : Cur (w.setCell ⟨vk, 0, none⟩ (.pointer (some ⟨g, 0, none⟩))) g s A n c big 0 :=
    ⟨h.own.beside (p := ⟨vk, 0, none⟩) (h.own.apart hk (by decide)) _, h.src.beside (p := ⟨vk, 0, none⟩) (h.src.apart hk (by decide)) _⟩
  have H := Lib.hid h2
  clear h h2 hk hf hf2
  go_enter Try.func19, Try.ntmps19
  go_wp2_with fail
  refine (fail_ok _ g s A n c big 0 H.out).mono ?_
  rintro e w1 ⟨rfl, rfl⟩
  go_wp2
  go_end0
  exact ⟨rfl, rfl⟩

set_option maxHeartbeats 400000 in
theorem over_funf (x : Value) (f : Int) (h : Cur w g s A n c big 0) (hk : Box w vk 32 #[x]) (hf : Box w vf 3 #[.int .i64 f]) (hne : (f != 0) = true) :
    Calls Try.prog 19 #[.pointer (some ⟨g, 0, none⟩), .pointer (some ⟨vk, 0, none⟩), .pointer (some ⟨vf, 0, none⟩)] w fun e w' => e = .panicked (gaveUp s f) ∧ w.setCell ⟨vk, 0, none⟩ (.pointer (some ⟨g, 0, none⟩)) = w' := by
  have ck : w.cell? ⟨vk, 0, none⟩ = some x := hk.cell 0
  have fk := hk.free 0
  have nkf : vf ≠ vk := hf.apart hk (by decide)
  have hf2 := hf.beside (p := ⟨vk, 0, none⟩) nkf (.pointer (some ⟨g, 0, none⟩))
  have cf : (w.setCell ⟨vk, 0, none⟩ (.pointer (some ⟨g, 0, none⟩))).cell? ⟨vf, 0, none⟩ = some (.int .i64 f) := hf2.cell 0
  have h2 : Cur (w.setCell ⟨vk, 0, none⟩ (.pointer (some ⟨g, 0, none⟩))) g s A n c big 0 :=
    ⟨h.own.beside (p := ⟨vk, 0, none⟩) (h.own.apart hk (by decide)) _, h.src.beside (p := ⟨vk, 0, none⟩) (h.src.apart hk (by decide)) _⟩
  have H := Lib.hid h2
  have HN := Lib.hid hne
  clear h h2 hk hf hf2 hne
  go_enter Try.func19, Try.ntmps19
  go_wp2_with fail
  refine (fail_up _ g s A n c big 0 f H.out HN.out).mono ?_
  rintro e w1 ⟨rfl, rfl⟩
  exact ⟨rfl, rfl, rfl⟩
end

/-- what the Try answers, and that the cursor that was kept is over -/
def Kept1 (w : World) (vk : Nat) (f : Int) (e : Ending) (w' : World) : Prop :=
  e = .returned (.int .i64 f) ∧ Kept (fun i => i = vk) w w' ∧ ∃ g s, Box w' vk 32 #[.pointer (some ⟨g, 0, none⟩)] ∧ Box w' g 61 #[.pointer (some ⟨s, 0, none⟩), .int .i64 0] ∧ Box w' s 56 #[.slice none 0 0, .bool false, .bool false]

theorem over_try (w : World) (A : Option Addr) (n c : Nat) (big : Bool) (vk vf : Nat) (f : Int) (x : Value) (hk : Box w vk 32 #[x]) (hf : Box w vf 3 #[.int .i64 f]) :
    Calls Try.prog 14 #[.slice A n c, .bool big, .func (.func 19) #[] #[.pointer (some ⟨vk, 0, none⟩), .pointer (some ⟨vf, 0, none⟩)]] w (Kept1 w vk f) := by
  have ko := opened_kept w A n c big (fun _ => False)
  have hc := opened_cur w A n c big
  have hk2 := ko.box hk (fun h => h)
  have hf2 := ko.box hf (fun h => h)
  have hvk := hk.lt
  have hS : ∀ i, i = vk → i < w.heap.size := fun i e => by omega
  have hbox : Box ((opened w A n c big).setCell ⟨vk, 0, none⟩ (.pointer (some ⟨w.heap.size + 1 + 1 + 1, 0, none⟩))) vk 32 #[.pointer (some ⟨w.heap.size + 1 + 1 + 1, 0, none⟩)] := by
    simpa using hk2.put 0 (.pointer (some ⟨w.heap.size + 1 + 1 + 1, 0, none⟩))
  have hown : Box ((opened w A n c big).setCell ⟨vk, 0, none⟩ (.pointer (some ⟨w.heap.size + 1 + 1 + 1, 0, none⟩))) (w.heap.size + 1 + 1 + 1) 61 #[.pointer (some ⟨w.heap.size + 1, 0, none⟩), .int .i64 0] :=
    hc.own.beside (p := ⟨vk, 0, none⟩) (hc.own.apart hk2 (by decide)) _
  have hkk : Kept (fun i => i = vk ∨ i = w.heap.size + 1 + 1 + 1) (opened w A n c big) ((opened w A n c big).setCell ⟨vk, 0, none⟩ (.pointer (some ⟨w.heap.size + 1 + 1 + 1, 0, none⟩))) :=
    (Kept.refl _ _).setCell (p := ⟨vk, 0, none⟩) (fun _ => .inl rfl) _
  by_cases h0 : f = 0
  · subst h0
    have h := try_ret_shut w A n c big 19 #[.pointer (some ⟨vk, 0, none⟩), .pointer (some ⟨vf, 0, none⟩)] calls19 (fun i => i = vk) hS
      (fun w1 => Box w1 vk 32 #[.pointer (some ⟨w.heap.size + 1 + 1 + 1, 0, none⟩)] ∧ Box w1 (w.heap.size + 1 + 1 + 1) 61 #[.pointer (some ⟨w.heap.size + 1, 0, none⟩), .int .i64 0])
      ((over_fun0 _ _ _ A n c big vk vf x hc hk2 hf2).mono (by
        rintro e w1 ⟨rfl, rfl⟩
        exact ⟨rfl, hkk, hbox, hown⟩))
    refine h.mono ?_
    rintro e w' ⟨rfl, hk', hs, w1, ⟨q1, q2⟩, hk1⟩
    exact ⟨rfl, hk', _, _, hk1.box q1 (by omega), hk1.box q2 (by omega), hs⟩
  · have h := try_up_shut w A n c big 19 #[.pointer (some ⟨vk, 0, none⟩), .pointer (some ⟨vf, 0, none⟩)] calls19 (fun i => i = vk) hS
      (fun w1 => Box w1 vk 32 #[.pointer (some ⟨w.heap.size + 1 + 1 + 1, 0, none⟩)] ∧ Box w1 (w.heap.size + 1 + 1 + 1) 61 #[.pointer (some ⟨w.heap.size + 1, 0, none⟩), .int .i64 0]) f
      ((over_funf _ _ _ A n c big vk vf x f hc hk2 hf2 (by simpa using h0)).mono (by
        rintro e w1 ⟨rfl, rfl⟩
        exact ⟨rfl, hkk, hbox, hown⟩))
    refine h.mono ?_
    rintro e w' ⟨rfl, hk', hs, w1, ⟨q1, q2⟩, hk1⟩
    exact ⟨rfl, hk', _, _, hk1.box q1 (by omega), hk1.box q2 (by omega), hs⟩

theorem gone_none (w : World) : Gone w none := reads_nil w
theorem gone_shut (w : World) (g s : Nat) (x y z : Value) (hg : Box w g 61 #[.pointer (some ⟨s, 0, none⟩), x]) (hs : Box w s 56 #[y, z, .bool false]) : Gone w (some ⟨g, 0, none⟩) :=
  reads_is g s false w (hg.cell 0) (hs.cell 2)

theorem three (w : World) (kd m f : Int) (W0 : World) (hW : W0 = ((w.alloc (.cells #[.int .i64 kd, .int .i64 m] 34)).alloc (.cells #[.int .i64 f] 3)).alloc (.cells #[.pointer none] 32)) :
    Box W0 w.heap.size 34 #[.int .i64 kd, .int .i64 m] ∧ Box W0 (w.heap.size + 1) 3 #[.int .i64 f] ∧ Box W0 (w.heap.size + 1 + 1) 32 #[.pointer none] ∧ Below w.heap.size w W0 := by
  subst hW
  have h1 := Box.made (w.alloc (.cells #[.int .i64 kd, .int .i64 m] 34)) 3 #[.int .i64 f]
  have h2 := Box.made ((w.alloc (.cells #[.int .i64 kd, .int .i64 m] 34)).alloc (.cells #[.int .i64 f] 3)) 32 #[.pointer none]
  simp only [World.size_alloc] at h1 h2
  exact ⟨((Box.made w 34 _).alloc _).alloc _, h1.alloc _, h2, (((Kept.refl (fun _ => False) w).alloc _).alloc _).alloc _ |>.below (Nat.le_refl _) (fun _ _ h => h)⟩

set_option maxHeartbeats 1000000 in
theorem over_any (w : World) (K : Nat → Prop) (A : Option Addr) (n c : Nat) (l : List Int) (big : Bool) (kd m f : Int) (h : Sl w K A n c l) :
    Calls Try.prog 5 #[.slice A n c, .bool big, .agg #[.int .i64 kd, .int .i64 m], .int .i64 f] w fun e w' => e = .returned (.bool true) ∧ Below w.heap.size w w' := by
  by_cases hn : n ≤ 4000
  · have hmf : ∀ (fn : Fn) (first cap : Array Value) (w : World), (Instr.makeFunc fn first cap).run Try.prog w = .ok (.func fn first cap) w := fun _ _ _ _ => rfl
    have H := Lib.hid (h.mono (K' := fun b => b < w.heap.size) (fun _ hb _ => hb))
    have hn2 : ¬ (4000 : Int) < (n : Int) := by omega
    clear h
    go_enter Try.func5, Try.ntmps5
    go_wp2_with fail
    obtain ⟨W0, hW0⟩ : ∃ W0, W0 = ((w.alloc (.cells #[.int .i64 kd, .int .i64 m] 34)).alloc (.cells #[.int .i64 f] 3)).alloc (.cells #[.pointer none] 32) := ⟨_, rfl⟩
    obtain ⟨a0, a1, a2, bw⟩ := three w kd m f W0 hW0
    rw [← hW0]
    have HA := Lib.hid (And.intro a0 (And.intro a1 (And.intro a2 bw)))
    have hs0 := H.out.below bw (fun _ _ h => h)
    clear a0 a1 a2 bw hW0
    refine (own_any W0 _ A n c l hs0 (by omega)).mono ?_
    rintro e w1 ⟨A1, c1, rfl, s1, b1⟩
    have HS := Lib.hid b1
    clear s1 b1 hs0
    go_wp2_with fail
    obtain ⟨a0, a1, a2, bw⟩ := HA.out
    have k1 : Kept (fun _ => False) W0 w1 := Kept.of_below HS.out _
    have f1 : Below w.heap.size w w1 := bw.trans (HS.out.mono bw.size)
    refine (over_try w1 A1 n c1 big (w.heap.size + 1 + 1) (w.heap.size + 1) f _ (k1.box a2 (fun h => h)) (k1.box a1 (fun h => h))).mono ?_
    rintro e w2 ⟨rfl, k2, g, s, r2, rg, rs⟩
    have f2 : Below w.heap.size w w2 := f1.trans (k2.below f1.size (by omega))
    have r0 := k2.box (k1.box a0 (fun h => h)) (by omega)
    have r1 := k2.box (k1.box a1 (fun h => h)) (by omega)
    have cf : w2.cell? ⟨w.heap.size + 1, 0, none⟩ = some (.int .i64 f) := r1.cell 0
    have HT := Lib.hid (And.intro r0 (And.intro r2 (And.intro rg (And.intro rs f2))))
    clear a0 a1 a2 bw k1 f1 HS HA k2 r0 r1 r2 rg rs f2
    go_wp2_with fail
    refine (own_any w2 _ A n c l (H.out.below HT.out.2.2.2.2 (fun _ _ h => h)) (by omega)).mono ?_
    rintro e w3 ⟨A2, c2, rfl, s2, b2⟩
    have HS := Lib.hid b2
    clear s2 b2 cf
    go_wp2_with fail
    refine (try_nil w3 A2 n c2 big).mono ?_
    rintro e w4 ⟨rfl, b4⟩
    obtain ⟨r0, r2, rg, rs, f2⟩ := HT.out
    have k3 : Kept (fun _ => False) w2 w4 := Kept.of_below (HS.out.trans (b4.mono HS.out.size)) _
    have f4 : Below w.heap.size w w4 := f2.trans (k3.below f2.size (fun _ _ h => h))
    have z0 := k3.box r0 (fun h => h)
    have z2 := k3.box r2 (fun h => h)
    have zg := k3.box rg (fun h => h)
    have zs := k3.box rs (fun h => h)
    have ck : w4.cell? ⟨w.heap.size + 1 + 1, 0, none⟩ = some (.pointer (some ⟨g, 0, none⟩)) := z2.cell 0
    have cm := (z0.alloc (.cells #[.pointer (some ⟨g, 0, none⟩), .pointer none] 32)).cell 1
    simp only [List.getElem?_toArray, List.getElem?_cons_succ, List.getElem?_cons_zero] at cm
    have HZ := Lib.hid (And.intro (zg.alloc (.cells #[.pointer (some ⟨g, 0, none⟩), .pointer none] 32)) (zs.alloc (.cells #[.pointer (some ⟨g, 0, none⟩), .pointer none] 32)))
    have HF := Lib.hid f4
    clear b4 r0 r2 rg rs f2 k3 f4 z0 z2 zg zs HS HT H
    go_wp2_with fail
    have f5 : Below w.heap.size w (w4.alloc (.cells #[.pointer (some ⟨g, 0, none⟩), .pointer none] 32)) := HF.out.alloc HF.out.size _
    have hrow := Box.made w4 32 #[.pointer (some ⟨g, 0, none⟩), .pointer none]
    obtain ⟨W5, hW5⟩ : ∃ W5, W5 = w4.alloc (.cells #[.pointer (some ⟨g, 0, none⟩), .pointer none] 32) := ⟨_, rfl⟩
    rw [← hW5] at f5 hrow cm HZ ⊢
    have hall : ∀ k, k < 2 → ∃ a, W5.cell? ⟨w4.heap.size, k, none⟩ = some (.pointer a) ∧ Gone W5 a := by
      intro k hk
      match k, hk with
      | 0, _ => exact ⟨_, hrow.cell 0, gone_shut W5 g s _ _ _ HZ.out.1 HZ.out.2⟩
      | 1, _ => exact ⟨_, hrow.cell 1, gone_none W5⟩
    have HG := Lib.hid (And.intro hall f5)
    clear hall f5 hrow hW5 HZ HF ck
    go_loop [37] (fun i => ∃ k : Nat, k ≤ 2 ∧ i = .int .i64 k) (fun i => 2 - (intOf i).toNat)
    case atStart => exact ⟨0, by omega, rfl⟩
    case round =>
      obtain ⟨k, hk, rfl⟩ := hrel
      by_cases hlt : k < 2
      · obtain ⟨a, ca, ga⟩ := HG.out.1 k hlt
        have GA := Lib.hid ga
        clear ga
        go_wp2_with (first
          | (go_at_call 21; refine (gone_skip _ _ _ GA.out).mono ?_; rintro e w' ⟨rfl, rfl⟩)
          | (go_at_call 22; refine (gone_seek _ _ _ GA.out).mono ?_; rintro e w' ⟨rfl, rfl⟩)
          | (go_at_call 20; refine (gone_fail _ _ _ GA.out).mono ?_; rintro e w' ⟨rfl, rfl⟩)
          | (go_at_call 23; refine (gone_end _ _ GA.out).mono ?_; rintro e w' ⟨rfl, rfl⟩)
          | (go_at_call 24; refine (gone_number _ _ _ GA.out).mono ?_; rintro e w' ⟨rfl, rfl⟩)
          | (go_at_call 25; refine (gone_bytes _ _ _ GA.out).mono ?_; rintro e w' ⟨rfl, rfl⟩)
          | (go_at_call 17; refine (gone_at _ _ GA.out).mono ?_; rintro e w' ⟨rfl, rfl⟩)
          | (go_at_call 18; refine (gone_left _ _ GA.out).mono ?_; rintro e w' ⟨rfl, rfl⟩))
        go_round
        case rel => exact ⟨k + 1, by omega, by go_num⟩
        case measure => simp [intOf]; omega
      · go_wp2_with fail
        refine (awake_any _).mono ?_
        rintro e w6 ⟨rfl, b6⟩
        have HC := Lib.hid b6
        clear b6
        go_wp2
        go_ret
        exact ⟨rfl, HG.out.2.trans (HC.out.mono HG.out.2.size)⟩
  · have hn2 : (4000 : Int) < (n : Int) := by omega
    clear h
    go_enter Try.func5, Try.ntmps5
    go_wp2_with fail
    refine (awake_any _).mono ?_
    rintro e w2 ⟨rfl, b2⟩
    have HC := Lib.hid b2
    clear b2
    go_wp2
    go_ret
    exact ⟨rfl, (((Below.refl _ w).alloc (Nat.le_refl _) _).alloc (by simp) _).trans (HC.out.mono (by simp; omega))⟩

end Go.Proofs.Ythjnknhdnogaeaa
