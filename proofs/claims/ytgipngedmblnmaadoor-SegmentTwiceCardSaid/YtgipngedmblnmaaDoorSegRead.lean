/-
  The contracts of the reference's known, readScan and readSteps. The contract of the reference's readScan. The contract of the reference's readSteps.
-/
import Derived.Test.YtgipngedmblnmaaDoorSegHead
import Derived.BigRegion
import Derived.Deep.DeepCutAuto
import Derived.Lib.Bytes
namespace Go.Proofs.YtgipngedmblnmaaDoor
open Go.RowKit

set_option maxHeartbeats 1600000 in
theorem known_any (w : World) (m : Int) : Calls Tryd.prog 42 #[.int .i64 m] w fun e w' => e = .returned (.bool (decide (MarkOk m))) ∧ w = w' := by
  have fin : ∀ (b : Bool), (b = true ↔ MarkOk m) → decide (MarkOk m) = b := fun b h => by
    cases b
    · exact decide_eq_false (fun hm => by have := h.2 hm; cases this)
    · exact decide_eq_true (h.1 rfl)
  have hc : (m = 219) ∨ (m = 196) ∨ (m = 192) ∨ (m = 221) ∨ (m = 218) ∨ (m = 254) ∨ (224 ≤ m ∧ m ≤ 239) ∨ (¬ MarkOk m ∧ m < 224) ∨ (¬ MarkOk m ∧ 239 < m) := by unfold MarkOk; omega
  have hok := fun (h : MarkOk m) => decide_eq_true h
  have hno := fun (h : ¬ MarkOk m) => decide_eq_false h
  have HD := Lib.hid (And.intro hok hno)
  clear fin hok hno
  rcases hc with rfl | rfl | rfl | rfl | rfl | rfl | ⟨a, b⟩ | ⟨a, b⟩ | ⟨a, b⟩
  case inr.inr.inr.inr.inr.inr.inl =>
    have E := Lib.hid (HD.out.1 (by unfold MarkOk; omega))
    have n1 : (m == 219) = false := by simp; omega
    have n2 : (m == 196) = false := by simp; omega
    have n3 : (m == 192) = false := by simp; omega
    have n4 : (m == 221) = false := by simp; omega
    have n5 : (m == 218) = false := by simp; omega
    have n6 : (m == 254) = false := by simp; omega
    clear HD
    go_enter Tryd.func42, Tryd.ntmps42
    go_wp2_with fail
    go_ret
    exact ⟨by rw [E.out]; rfl, rfl⟩
  case inr.inr.inr.inr.inr.inr.inr.inl =>
    have E := Lib.hid (HD.out.2 a)
    unfold MarkOk at a
    have n1 : (m == 219) = false := by simp; omega
    have n2 : (m == 196) = false := by simp; omega
    have n3 : (m == 192) = false := by simp; omega
    have n4 : (m == 221) = false := by simp; omega
    have n5 : (m == 218) = false := by simp; omega
    have n6 : (m == 254) = false := by simp; omega
    clear HD a
    go_enter Tryd.func42, Tryd.ntmps42
    go_wp2_with fail
    go_ret
    exact ⟨by rw [E.out]; rfl, rfl⟩
  case inr.inr.inr.inr.inr.inr.inr.inr =>
    have E := Lib.hid (HD.out.2 a)
    have n6' : ¬ m = 254 := by unfold MarkOk at a; omega
    have n1 : (m == 219) = false := by simp; omega
    have n2 : (m == 196) = false := by simp; omega
    have n3 : (m == 192) = false := by simp; omega
    have n4 : (m == 221) = false := by simp; omega
    have n5 : (m == 218) = false := by simp; omega
    have n6 : (m == 254) = false := by simp; omega
    have D := Lib.hid (decide_eq_false (show ¬ m ≤ 239 by omega))
    clear HD a n6'
    go_enter Tryd.func42, Tryd.ntmps42
    go_wp2_with fail
    go_ret
    exact ⟨by rw [E.out, ← D.out]; rfl, rfl⟩
  all_goals
    have E := Lib.hid (HD.out.1 (by unfold MarkOk; omega))
    clear HD
    go_enter Tryd.func42, Tryd.ntmps42
    go_wp2_with fail
    go_ret
    exact ⟨by rw [E.out]; rfl, rfl⟩
end Go.Proofs.YtgipngedmblnmaaDoor

namespace Go.Proofs.YtgipngedmblnmaaDoor
open Go.RowKit

/-- a load may be taken first -/
theorem yieldsIf_load {ops : Array Oper} {S : World → Prop} {op : Oper} {a : Act} (hw : Region.wanted op (yielded ops a.tmps) = true) (t : TypeId) (x : Operand) (ho : op.op = .load t x) (u : Value) (hx : a.eval x = u) (v : Value)
    (h : ∀ w, S w → (Instr.loadAt t u).run Tryd.prog w = .ok v w) : YieldsIf Tryd.prog ops S op v a :=
  .inl ⟨hw, fun w hS => by
    unfold execOp
    simp only [ho, hx, Sem.run_bind, h w hS, Result.andThen_ok, Sem.run_pure]⟩
theorem results_ct {fn : Func} {p q : Tmp} {ty : TypeId} (h : fn.results = #[.cell p ty, .tmp q]) (tmps : Array Value) (w : World) (g : Nat) (x v : Value)
    (hp : tmps.getD p undef = .pointer (some ⟨g, 0, none⟩)) (hq : tmps.getD q undef = v) (hl : (loadVar ty ⟨g, 0, none⟩).run Tryd.prog w = .ok x w) : (results fn tmps).run Tryd.prog w = .ok (.tuple #[x, v]) w := by
  have hp' : tmps[p]?.getD undef = .pointer (some ⟨g, 0, none⟩) := by simpa using hp
  have hq' : tmps[q]?.getD undef = v := by simpa using hq
  simp [results, h, hp', hq', asAddr, hl]
theorem results_c {fn : Func} {p : Tmp} {ty : TypeId} (h : fn.results = #[.cell p ty]) (tmps : Array Value) (w : World) (g : Nat) (x : Value)
    (hp : tmps.getD p undef = .pointer (some ⟨g, 0, none⟩)) (hl : (loadVar ty ⟨g, 0, none⟩).run Tryd.prog w = .ok x w) : (results fn tmps).run Tryd.prog w = .ok x w := by
  have hp' : tmps[p]?.getD undef = .pointer (some ⟨g, 0, none⟩) := by simpa using hp
  simp [results, h, hp', asAddr, hl]
theorem Sl.low {w : World} {K : Nat → Prop} {A : Option Addr} {n c : Nat} {l : List Int} (h : Sl w K A n c l) : Sl w (fun b => b < w.heap.size) A n c l :=
  ⟨⟨h.bts.fit, fun h0 => by obtain ⟨b, off, e1, e2, _, e4⟩ := h.bts.at_ h0; exact ⟨b, off, e1, e2, e2, e4⟩⟩, h.len, h.cap, h.max, h.nil⟩
/-- what is known reads as K: X are its slices -/
structure KnR (w : World) (K : Kv) (X : Nat → Value) : Prop where
  wt : Wt K.tb
  one : ∀ j, (X j).oneCell' = true
  sl : ∀ j, j < 4 → ∃ A n c, X j = .slice A n c ∧ Ia w A n c (K.tb.V j)
theorem KnR.on {w w' : World} {K : Kv} {X : Nat → Value} (h : KnR w K X) (k : Below w.heap.size w w') : KnR w' K X :=
  ⟨h.wt, h.one, fun j hj => by obtain ⟨A, n, c, e, hi⟩ := h.sl j hj; exact ⟨A, n, c, e, hi.on k⟩⟩
theorem KnR.setF {w : World} {K : Kv} {X : Nat → Value} (h : KnR w K X) (i : Nat) (b : Bool) : KnR w (K.setF i b) X := ⟨h.wt, h.one, h.sl⟩
theorem KnR.setN {w : World} {K : Kv} {X : Nat → Value} (h : KnR w K X) (i : Nat) (z : Int) : KnR w (K.setN i z) X := ⟨h.wt, h.one, h.sl⟩
theorem KnR.setT {w : World} {K : Kv} {X : Nat → Value} (h : KnR w K X) (i : Nat) {s : List Int} (hs : s.length = 64) : KnR w (K.setT i s) X := ⟨h.wt.setT i hs, h.one, h.sl⟩
theorem KnR.setS {w : World} {K : Kv} {X : Nat → Value} (h : KnR w K X) (j : Nat) {B V : List Int} (hB : B.length = 16) {A : Option Addr} {n c : Nat} (hV : Ia w A n c V) : KnR w (K.setS j B V) (updX X j (.slice A n c)) :=
  ⟨h.wt.setS j hB, fun k => by unfold updX; split; rfl; exact h.one k, fun k hk => by
    unfold updX Kv.setS Tb.setS
    dsimp only
    split
    · exact ⟨A, n, c, rfl, hV⟩
    · exact h.sl k hk⟩
def X0 : Nat → Value := fun _ => .slice none 0 0
theorem zero46 (w : World) : (zeroValue 46).run Tryd.prog w = .ok (kvV kz X0) w := by kernel_rfl
theorem build46 (w : World) : (Instr.build 46 #[]).run Tryd.prog w = .ok (kvV kz X0) w := run_build w 46 _ _ (by kernel_rfl)
theorem kz_knr (w : World) : KnR w kz X0 := ⟨kz_wt, fun _ => rfl, fun _ _ => ⟨none, 0, 0, rfl, ⟨rfl, Nat.le_refl _, Nat.zero_le _, fun _ => rfl, fun h => absurd h (by omega)⟩⟩⟩
/-- each slice is as it was, or lies at g or beyond -/
def Fr (g : Nat) (X X' : Nat → Value) : Prop := ∀ j, j < 4 → X' j = X j ∨ ∀ b off n c, X' j = .slice (some ⟨b, off, none⟩) n c → g ≤ b
theorem Fr.refl (g : Nat) (X : Nat → Value) : Fr g X X := fun _ _ => .inl rfl
theorem Fr.mono {g g' : Nat} {X X' : Nat → Value} (h : Fr g' X X') (hg : g ≤ g') : Fr g X X' := fun j hj => (h j hj).imp id fun k b off n c e => Nat.le_trans hg (k b off n c e)
theorem Fr.setS {g : Nat} {X X' : Nat → Value} (h : Fr g X X') {i : Nat} {A : Option Addr} {n c : Nat} (hA : ∀ b off, A = some ⟨b, off, none⟩ → g ≤ b) : Fr g X (updX X' i (.slice A n c)) := fun j hj => by
  unfold updX
  split
  · exact .inr fun b off n' c' e => by
      injection e with e1
      exact hA b off e1
  · exact h j hj
/-- what a body's reader answers -/
def BodyY (w : World) (X : Nat → Value) (r : Option Kv) (e : Ending) (w' : World) : Prop :=
  ∃ K' X' ok, e = .returned (.tuple #[kvV K' X', .bool ok]) ∧ (∀ j, (X' j).oneCell' = true) ∧ Below w.heap.size w w' ∧ ((ok = true ∧ r = some K' ∧ KnR w' K' X' ∧ Fr w.heap.size X X') ∨ (ok = false ∧ r = none))
theorem str_inj {a b : List Int} (ha : Fit a) (hb : Fit b) (h : (strOfNums a).toList = (strOfNums b).toList) : a = b := by
  have h1 : a.map (fun n => UInt8.ofNat n.toNat) = b.map (fun n => UInt8.ofNat n.toNat) := by
    rw [Lib.strOfNums_toList, Lib.strOfNums_toList] at h
    exact h
  clear h
  induction a generalizing b with
  | nil => cases b with
    | nil => rfl
    | cons y b => simp at h1
  | cons x a ih => cases b with
    | nil => simp at h1
    | cons y b =>
      simp only [List.map_cons, List.cons.injEq] at h1
      have hx := ha x (by simp)
      have hy := hb y (by simp)
      have h2 := congrArg UInt8.toNat h1.1
      simp only [UInt8.toNat_ofNat'] at h2
      rw [ih (fun z hz => ha z (by simp [hz])) (fun z hz => hb z (by simp [hz])) h1.2, show x = y by omega]
theorem str_dec {a b : List Int} (ha : Fit a) (hb : Fit b) : ((strOfNums a).toList == (strOfNums b).toList) = decide (a = b) := by
  by_cases e : a = b
  · subst e
    simp
  · rw [decide_eq_false e]
    simpa using fun h => e (str_inj ha hb h)
/-- two boxes: what is known, what is told -/
theorem kv_made (w : World) (C Z : Array Value) : ∃ w2, (w.alloc (.cells C 46)).alloc (.cells Z 46) = w2 ∧ Box w2 w.heap.size 46 C ∧ Box w2 (w.heap.size + 1) 46 Z ∧ Below w.heap.size w w2 ∧ w2.heap.size = w.heap.size + 1 + 1 := by
  have a1 := Box.made w 46 C
  have a2 := Box.made (w.alloc (.cells C 46)) 46 Z
  refine ⟨_, rfl, a1.alloc _, ?_, on_trans (on_alloc _ _) (on_alloc _ _), by simp⟩
  rwa [show (w.alloc (.cells C 46)).heap.size = w.heap.size + 1 by simp] at a2

set_option maxRecDepth 10000 in
set_option maxHeartbeats 3200000 in
theorem scan_z_f (w : World) (Ks : Nat → Prop) (K : Kv) (X : Nat → Value) (A : Option Addr) (n c : Nat) (l : List Int) (h : Sl w Ks A n c l) (hK : KnR w K X) (hz : K.N 2 = 0) (hf : K.F 6 = false) : Calls Tryd.prog 68 #[.slice A n c, kvV K X] w (BodyY w X (rdScan l K)) := by
  obtain ⟨C, hC⟩ : ∃ C, C = (kvC K X).toArray := ⟨_, rfl⟩
  have eC : kvV K X = .agg C := by rw [hC]; rfl
  rw [eC]
  obtain ⟨Z, hZ⟩ : ∃ Z, Z = (kvC kz X0).toArray := ⟨_, rfl⟩
  have hz' : ∀ w, (zeroValue 46).run Tryd.prog w = .ok (.agg Z) w := fun w => by rw [hZ]; exact zero46 w
  obtain ⟨w2, hw2, b0, b1, k2, hs2⟩ := kv_made w C Z
  obtain ⟨q, hq⟩ : ∃ q, q = K.N 2 := ⟨_, rfl⟩
  rw [← hq] at hz
  have c2 : C[207]? = some (.int .i64 q) := by rw [hC, List.getElem?_toArray, kvC_get K X (by omega), show 207 = 205 + 2 from rfl, kvAt_n, ← hq]
  obtain ⟨w5, hw5⟩ : ∃ w5, ((((w.alloc (.cells C 46)).alloc (.cells Z 46)).alloc (.cells #[.int .u8 3, .int .u8 1, .int .u8 0, .int .u8 2, .int .u8 17, .int .u8 3, .int .u8 17, .int .u8 0, .int .u8 63, .int .u8 0] 5)).alloc (.cells #[.int .u8 1, .int .u8 1, .int .u8 0, .int .u8 0, .int .u8 63, .int .u8 0] 5)) = w5 := ⟨_, rfl⟩
  have k5 : Below w2.heap.size w2 w5 := by rw [← hw5, hw2]; exact on_trans (on_alloc _ _) (on_alloc _ _)
  have hsw : Sl w5 (fun b => w.heap.size + 1 < b) (some ⟨w.heap.size + 1 + 1 + 1, 0, none⟩) 6 6 [1, 1, 0, 0, 63, 0] := by
    have h0 := sl_lit (((w.alloc (.cells C 46)).alloc (.cells Z 46)).alloc (.cells #[.int .u8 3, .int .u8 1, .int .u8 0, .int .u8 2, .int .u8 17, .int .u8 3, .int .u8 17, .int .u8 0, .int .u8 63, .int .u8 0] 5)) [1, 1, 0, 0, 63, 0] (by unfold Fit; decide) (show 6 ≤ maxLen by decide)
    rw [show (((w.alloc (.cells C 46)).alloc (.cells Z 46)).alloc (.cells #[.int .u8 3, .int .u8 1, .int .u8 0, .int .u8 2, .int .u8 17, .int .u8 3, .int .u8 17, .int .u8 0, .int .u8 63, .int .u8 0] 5)).heap.size = w.heap.size + 1 + 1 + 1 by simp] at h0
    rw [← hw5]
    exact h0.mono' (fun b hb => by
      have hb' : b = w.heap.size + 1 + 1 + 1 := hb
      omega)
  have B5 := b0.on k5
  rw [hC] at B5
  have hcell := B5.kvF (k := 7) (by omega)
  have hfro := B5.free 203
  obtain ⟨w6, hw6⟩ : ∃ w6, w5.setCell ⟨w.heap.size, 203, none⟩ (.bool true) = w6 := ⟨_, rfl⟩
  have B6 : Box w6 w.heap.size 46 (kvC (K.setF 7 true) X).toArray := by rw [← hw6]; exact B5.putF (i := 7) (by omega) true
  have K6 : Kept (fun i => i = w.heap.size) w5 w6 := by rw [← hw6]; exact (Kept.refl (fun i => i = w.heap.size) w5).setCell (p := ⟨w.heap.size, 203, none⟩) (fun _ => rfl) _
  have HW := Lib.hid (And.intro hw5 (And.intro hw6 (And.intro (on_trans k2 k5) (And.intro K6 (And.intro B6 (b1.on k5))))))
  have HL := Lib.hid (And.intro (h.low.kept (Kept.of_below (on_trans k2 k5) (fun _ => False)) (fun _ _ h => h) : Sl w5 (fun b => b < w.heap.size) A n c l) (And.intro hK (And.intro hsw (And.intro hq hf))))
  have HZ := Lib.hid (show Z.size = 210 by rw [hZ, kvC_size])
  have hgS : w.heap.size + 1 < w2.heap.size := by omega
  have HKB := Lib.hid (show w2.heap.size ≤ w5.heap.size from k5.size)
  clear hw2 b0 b1 k2 h hK hC hZ eC hw5 k5 hsw B5 hw6 B6 K6 hq hf
  go_enter Tryd.func68, Tryd.ntmps68
  go_upto_region 4 with fail
  rw [HW.out.1]
  go_upto_region 5 with fail
  rw [HW.out.2.1]
  obtain ⟨Vk, hVk⟩ : ∃ V, V = kvV (K.setF 7 true) X := ⟨_, rfl⟩
  have HV := Lib.hid hVk
  clear hVk
  refine wp_region_held_drew (S := fun w' => Hid (Kept (fun i => i = w.heap.size + 1) w6 w')) (by kernel_rfl) (Lib.hid ((Kept.refl _ w6).drew)) fun s0 => ?_
  refine take_to (i := 0) rfl (by kernel_rfl) (by kernel_rfl) (by kernel_rfl) (fun _ _ _ h => h) (yieldsIf_load (by rfl) 46 _ rfl (.pointer (some ⟨w.heap.size, 0, none⟩)) rfl Vk (fun w' h => by rw [HV.out]; exact Box.loadK (h.out.box HW.out.2.2.2.2.1 (by omega)))) s0 (some 14) rfl ?_
  simp only [Act.put, List.setIfInBounds_toArray, List.set_cons_zero, List.set_cons_succ]
  refine take_to (i := 1) (v := .pointer (some ⟨w.heap.size, 202, none⟩)) rfl (by kernel_rfl) (by kernel_rfl) (by kernel_rfl) (fun _ _ _ h => h) (Or.inl ⟨by rfl, fun w' hS => by go_simp⟩) s0 (some 15) rfl ?_
  simp only [Act.put, List.setIfInBounds_toArray, List.set_cons_zero, List.set_cons_succ]
  refine take_to (i := 2) (v := .bool false) rfl (by kernel_rfl) (by kernel_rfl) (by kernel_rfl) (fun _ _ _ h => h) (Or.inl ⟨by rfl, fun w' hS => by have c : w'.cell? ⟨w.heap.size, 202, none⟩ = some (.bool false) := (by have := (hS.out.box HW.out.2.2.2.2.1 (by omega)).kvF (k := 6) (by omega); rw [show (K.setF 7 true).F 6 = false from HL.out.2.2.2.2] at this; exact this); go_simp⟩) s0 (some 16) rfl ?_
  simp only [Act.put, List.setIfInBounds_toArray, List.set_cons_zero, List.set_cons_succ]
  refine take_to (i := 3) (v := .bool false) rfl (by kernel_rfl) (by kernel_rfl) (by kernel_rfl) (fun _ _ _ h => h) (Or.inl ⟨by rfl, fun w' hS => by go_simp⟩) s0 (some 17) rfl ?_
  simp only [Act.put, List.setIfInBounds_toArray, List.set_cons_zero, List.set_cons_succ]
  refine take_to (i := 4) (v := undef) rfl (by kernel_rfl) (by kernel_rfl) (by kernel_rfl) (fun _ _ _ h => h) (Or.inr ⟨by rfl, rfl⟩) s0 (some 18) rfl ?_
  simp only [Act.put, List.setIfInBounds_toArray, List.set_cons_zero, List.set_cons_succ]
  refine take_to (i := 5) (v := undef) rfl (by kernel_rfl) (by kernel_rfl) (by kernel_rfl) (fun _ _ _ h => h) (Or.inr ⟨by rfl, rfl⟩) s0 (some 19) rfl ?_
  simp only [Act.put, List.setIfInBounds_toArray, List.set_cons_zero, List.set_cons_succ]
  refine take_to (i := 6) (v := undef) rfl (by kernel_rfl) (by kernel_rfl) (by kernel_rfl) (fun _ _ _ h => h) (Or.inr ⟨by rfl, rfl⟩) s0 (some 20) rfl ?_
  simp only [Act.put, List.setIfInBounds_toArray, List.set_cons_zero, List.set_cons_succ]
  refine take_to (i := 7) (v := undef) rfl (by kernel_rfl) (by kernel_rfl) (by kernel_rfl) (fun _ _ _ h => h) (Or.inr ⟨by rfl, rfl⟩) s0 (some 21) rfl ?_
  simp only [Act.put, List.setIfInBounds_toArray, List.set_cons_zero, List.set_cons_succ]
  refine take_to (i := 8) (v := undef) rfl (by kernel_rfl) (by kernel_rfl) (by kernel_rfl) (fun _ _ _ h => h) (Or.inr ⟨by rfl, rfl⟩) s0 (some 22) rfl ?_
  simp only [Act.put, List.setIfInBounds_toArray, List.set_cons_zero, List.set_cons_succ]
  refine take_to (i := 9) (v := .bool false) rfl (by kernel_rfl) (by kernel_rfl) (by kernel_rfl) (fun _ _ _ h => h) (Or.inl ⟨by rfl, fun w' hS => by go_simp⟩) s0 (some 23) rfl ?_
  simp only [Act.put, List.setIfInBounds_toArray, List.set_cons_zero, List.set_cons_succ]
  refine wpAnyH_ready (rs := [10]) (by kernel_rfl) (by simp) ?_
  refine AllReadyH.cons rfl (fun K1 hK1 => ?_) AllReadyH.nil
  rw [if_pos (by rfl)]
  refine wp_store_kv _ _ rfl rfl (w.heap.size + 1) (K.setF 7 true) X HL.out.2.1.one rfl HV.out Z ((HW.out.2.2.2.1.box HW.out.2.2.2.2.2 (by omega)).on (on_drew w6)) HZ.out fun w9 b9 k9 => ?_
  have s2 := Lib.hid (s0.out.trans k9 (fun _ _ h => h))
  have H9 := Lib.hid (And.intro b9 k9)
  clear b9 k9
  refine hK1.out _ _ s2 fun _ => ?_
  clear hK1 K1
  refine take_to (i := 11) (v := .bool false) rfl (by kernel_rfl) (by kernel_rfl) (by kernel_rfl) (fun _ _ _ h => h) (Or.inl ⟨by rfl, fun w' hS => by go_simp⟩) s2 (some 5) rfl ?_
  simp only [Act.put, List.setIfInBounds_toArray, List.set_cons_zero, List.set_cons_succ]
  refine wpAnyH_done (by kernel_rfl) ?_ _
  go_wp2_with fail
  refine bodyPost_ret (v := .tuple #[kvV (K.setF 7 true) X, .bool false]) (results_ct (fn := Tryd.f68) Tryd.results68 _ _ (w.heap.size + 1) _ _ rfl rfl (loadVar_kv H9.out.1)) rfl ?_
  have kb : Below w.heap.size w w9 := (HW.out.2.2.1.trans (HW.out.2.2.2.1.below (by have := HW.out.2.2.1.size; omega) (fun i hi e => by omega))).trans (s2.out.below (by have := HW.out.2.2.1.size; have := HW.out.2.2.2.1.size; omega) (fun i hi e => by omega))
  refine ⟨K.setF 7 true, X, false, rfl, HL.out.2.1.one, kb, ?_⟩
  refine Or.inr ⟨rfl, ?_⟩
  unfold rdScan
  rw [if_neg fun hh => by rw [HL.out.2.2.2.2] at hh; cases hh.1]

set_option maxRecDepth 10000 in
set_option maxHeartbeats 3200000 in
theorem scan_z_t (w : World) (Ks : Nat → Prop) (K : Kv) (X : Nat → Value) (A : Option Addr) (n c : Nat) (l : List Int) (h : Sl w Ks A n c l) (hK : KnR w K X) (hz : K.N 2 = 0) (hf : K.F 6 = true) : Calls Tryd.prog 68 #[.slice A n c, kvV K X] w (BodyY w X (rdScan l K)) := by
  obtain ⟨C, hC⟩ : ∃ C, C = (kvC K X).toArray := ⟨_, rfl⟩
  have eC : kvV K X = .agg C := by rw [hC]; rfl
  rw [eC]
  obtain ⟨Z, hZ⟩ : ∃ Z, Z = (kvC kz X0).toArray := ⟨_, rfl⟩
  have hz' : ∀ w, (zeroValue 46).run Tryd.prog w = .ok (.agg Z) w := fun w => by rw [hZ]; exact zero46 w
  obtain ⟨w2, hw2, b0, b1, k2, hs2⟩ := kv_made w C Z
  obtain ⟨q, hq⟩ : ∃ q, q = K.N 2 := ⟨_, rfl⟩
  rw [← hq] at hz
  have c2 : C[207]? = some (.int .i64 q) := by rw [hC, List.getElem?_toArray, kvC_get K X (by omega), show 207 = 205 + 2 from rfl, kvAt_n, ← hq]
  obtain ⟨w5, hw5⟩ : ∃ w5, ((((w.alloc (.cells C 46)).alloc (.cells Z 46)).alloc (.cells #[.int .u8 3, .int .u8 1, .int .u8 0, .int .u8 2, .int .u8 17, .int .u8 3, .int .u8 17, .int .u8 0, .int .u8 63, .int .u8 0] 5)).alloc (.cells #[.int .u8 1, .int .u8 1, .int .u8 0, .int .u8 0, .int .u8 63, .int .u8 0] 5)) = w5 := ⟨_, rfl⟩
  have k5 : Below w2.heap.size w2 w5 := by rw [← hw5, hw2]; exact on_trans (on_alloc _ _) (on_alloc _ _)
  have hsw : Sl w5 (fun b => w.heap.size + 1 < b) (some ⟨w.heap.size + 1 + 1 + 1, 0, none⟩) 6 6 [1, 1, 0, 0, 63, 0] := by
    have h0 := sl_lit (((w.alloc (.cells C 46)).alloc (.cells Z 46)).alloc (.cells #[.int .u8 3, .int .u8 1, .int .u8 0, .int .u8 2, .int .u8 17, .int .u8 3, .int .u8 17, .int .u8 0, .int .u8 63, .int .u8 0] 5)) [1, 1, 0, 0, 63, 0] (by unfold Fit; decide) (show 6 ≤ maxLen by decide)
    rw [show (((w.alloc (.cells C 46)).alloc (.cells Z 46)).alloc (.cells #[.int .u8 3, .int .u8 1, .int .u8 0, .int .u8 2, .int .u8 17, .int .u8 3, .int .u8 17, .int .u8 0, .int .u8 63, .int .u8 0] 5)).heap.size = w.heap.size + 1 + 1 + 1 by simp] at h0
    rw [← hw5]
    exact h0.mono' (fun b hb => by
      have hb' : b = w.heap.size + 1 + 1 + 1 := hb
      omega)
  have B5 := b0.on k5
  rw [hC] at B5
  have hcell := B5.kvF (k := 7) (by omega)
  have hfro := B5.free 203
  obtain ⟨w6, hw6⟩ : ∃ w6, w5.setCell ⟨w.heap.size, 203, none⟩ (.bool true) = w6 := ⟨_, rfl⟩
  have B6 : Box w6 w.heap.size 46 (kvC (K.setF 7 true) X).toArray := by rw [← hw6]; exact B5.putF (i := 7) (by omega) true
  have K6 : Kept (fun i => i = w.heap.size) w5 w6 := by rw [← hw6]; exact (Kept.refl (fun i => i = w.heap.size) w5).setCell (p := ⟨w.heap.size, 203, none⟩) (fun _ => rfl) _
  have HW := Lib.hid (And.intro hw5 (And.intro hw6 (And.intro (on_trans k2 k5) (And.intro K6 (And.intro B6 (b1.on k5))))))
  have HL := Lib.hid (And.intro (h.low.kept (Kept.of_below (on_trans k2 k5) (fun _ => False)) (fun _ _ h => h) : Sl w5 (fun b => b < w.heap.size) A n c l) (And.intro hK (And.intro hsw (And.intro hq hf))))
  have HZ := Lib.hid (show Z.size = 210 by rw [hZ, kvC_size])
  have hgS : w.heap.size + 1 < w2.heap.size := by omega
  have HKB := Lib.hid (show w2.heap.size ≤ w5.heap.size from k5.size)
  clear hw2 b0 b1 k2 h hK hC hZ eC hw5 k5 hsw B5 hw6 B6 K6 hq hf
  go_enter Tryd.func68, Tryd.ntmps68
  go_upto_region 4 with fail
  rw [HW.out.1]
  go_upto_region 5 with fail
  rw [HW.out.2.1]
  obtain ⟨Vk, hVk⟩ : ∃ V, V = kvV (K.setF 7 true) X := ⟨_, rfl⟩
  have HV := Lib.hid hVk
  clear hVk
  have HY := Lib.hid (And.intro (fun (w' : World) (k : Hid (Kept (fun i => i = w.heap.size + 1) w6 w')) => (HL.out.1.kept HW.out.2.2.2.1 (fun b (hb : b < w.heap.size) e => by omega)).kept k.out (fun b (hb : b < w.heap.size) e => by omega)) (fun (w' : World) (k : Hid (Kept (fun i => i = w.heap.size + 1) w6 w')) => (HL.out.2.2.1.kept HW.out.2.2.2.1 (fun b (hb : w.heap.size + 1 < b) e => by omega)).kept k.out (fun b (hb : w.heap.size + 1 < b) e => by omega)))
  refine wp_region_held_drew (S := fun w' => Hid (Kept (fun i => i = w.heap.size + 1) w6 w')) (by kernel_rfl) (Lib.hid ((Kept.refl _ w6).drew)) fun s0 => ?_
  refine take_to (i := 0) rfl (by kernel_rfl) (by kernel_rfl) (by kernel_rfl) (fun _ _ _ h => h) (yieldsIf_load (by rfl) 46 _ rfl (.pointer (some ⟨w.heap.size, 0, none⟩)) rfl Vk (fun w' h => by rw [HV.out]; exact Box.loadK (h.out.box HW.out.2.2.2.2.1 (by omega)))) s0 (some 14) rfl ?_
  simp only [Act.put, List.setIfInBounds_toArray, List.set_cons_zero, List.set_cons_succ]
  refine take_to (i := 1) (v := .pointer (some ⟨w.heap.size, 202, none⟩)) rfl (by kernel_rfl) (by kernel_rfl) (by kernel_rfl) (fun _ _ _ h => h) (Or.inl ⟨by rfl, fun w' hS => by go_simp⟩) s0 (some 15) rfl ?_
  simp only [Act.put, List.setIfInBounds_toArray, List.set_cons_zero, List.set_cons_succ]
  refine take_to (i := 2) (v := .bool true) rfl (by kernel_rfl) (by kernel_rfl) (by kernel_rfl) (fun _ _ _ h => h) (Or.inl ⟨by rfl, fun w' hS => by have c : w'.cell? ⟨w.heap.size, 202, none⟩ = some (.bool true) := (by have := (hS.out.box HW.out.2.2.2.2.1 (by omega)).kvF (k := 6) (by omega); rw [show (K.setF 7 true).F 6 = true from HL.out.2.2.2.2] at this; exact this); go_simp⟩) s0 (some 16) rfl ?_
  simp only [Act.put, List.setIfInBounds_toArray, List.set_cons_zero, List.set_cons_succ]
  refine take_to (i := 3) (v := .bool true) rfl (by kernel_rfl) (by kernel_rfl) (by kernel_rfl) (fun _ _ _ h => h) (Or.inl ⟨by rfl, fun w' hS => by go_simp⟩) s0 (some 17) rfl ?_
  simp only [Act.put, List.setIfInBounds_toArray, List.set_cons_zero, List.set_cons_succ]
  refine take_to (i := 4) (v := .slice A n c) rfl (by kernel_rfl) (by kernel_rfl) (by kernel_rfl) (fun _ _ _ h => h) (Or.inl ⟨by rfl, fun w' hS => by go_simp⟩) s0 (some 18) rfl ?_
  simp only [Act.put, List.setIfInBounds_toArray, List.set_cons_zero, List.set_cons_succ]
  refine take_to (i := 5) (v := .string (strOfNums l)) rfl (by kernel_rfl) (by kernel_rfl) (by kernel_rfl) (fun _ _ _ h => h) (Or.inl ⟨by rfl, fun w' hS => by have hq := sl_str (HY.out.1 w' hS); go_simp⟩) s0 (some 19) rfl ?_
  simp only [Act.put, List.setIfInBounds_toArray, List.set_cons_zero, List.set_cons_succ]
  refine take_to (i := 6) (v := .slice (some ⟨w.heap.size + 1 + 1 + 1, 0, none⟩) 6 6) rfl (by kernel_rfl) (by kernel_rfl) (by kernel_rfl) (fun _ _ _ h => h) (Or.inl ⟨by rfl, fun w' hS => by go_simp⟩) s0 (some 20) rfl ?_
  simp only [Act.put, List.setIfInBounds_toArray, List.set_cons_zero, List.set_cons_succ]
  refine take_to (i := 7) (v := .string (strOfNums [1, 1, 0, 0, 63, 0])) rfl (by kernel_rfl) (by kernel_rfl) (by kernel_rfl) (fun _ _ _ h => h) (Or.inl ⟨by rfl, fun w' hS => by have hq := sl_str (HY.out.2 w' hS); go_simp⟩) s0 (some 21) rfl ?_
  simp only [Act.put, List.setIfInBounds_toArray, List.set_cons_zero, List.set_cons_succ]
  refine take_to (i := 8) (v := .bool (decide (l = [1, 1, 0, 0, 63, 0]))) rfl (by kernel_rfl) (by kernel_rfl) (by kernel_rfl) (fun _ _ _ h => h) (Or.inl ⟨by rfl, fun w' hS => by go_simp; exact str_dec HL.out.1.bts.fit (by unfold Fit; decide)⟩) s0 (some 22) rfl ?_
  simp only [Act.put, List.setIfInBounds_toArray, List.set_cons_zero, List.set_cons_succ]
  refine take_to (i := 9) (v := .bool (decide (l = [1, 1, 0, 0, 63, 0]))) rfl (by kernel_rfl) (by kernel_rfl) (by kernel_rfl) (fun _ _ _ h => h) (Or.inl ⟨by rfl, fun w' hS => by go_simp⟩) s0 (some 23) rfl ?_
  simp only [Act.put, List.setIfInBounds_toArray, List.set_cons_zero, List.set_cons_succ]
  refine wpAnyH_ready (rs := [10]) (by kernel_rfl) (by simp) ?_
  refine AllReadyH.cons rfl (fun K1 hK1 => ?_) AllReadyH.nil
  rw [if_pos (by rfl)]
  refine wp_store_kv _ _ rfl rfl (w.heap.size + 1) (K.setF 7 true) X HL.out.2.1.one rfl HV.out Z ((HW.out.2.2.2.1.box HW.out.2.2.2.2.2 (by omega)).on (on_drew w6)) HZ.out fun w9 b9 k9 => ?_
  have s2 := Lib.hid (s0.out.trans k9 (fun _ _ h => h))
  have H9 := Lib.hid (And.intro b9 k9)
  clear b9 k9
  refine hK1.out _ _ s2 fun _ => ?_
  clear hK1 K1
  refine take_to (i := 11) (v := .bool (decide (l = [1, 1, 0, 0, 63, 0]))) rfl (by kernel_rfl) (by kernel_rfl) (by kernel_rfl) (fun _ _ _ h => h) (Or.inl ⟨by rfl, fun w' hS => by go_simp⟩) s2 (some 5) rfl ?_
  simp only [Act.put, List.setIfInBounds_toArray, List.set_cons_zero, List.set_cons_succ]
  refine wpAnyH_done (by kernel_rfl) ?_ _
  go_wp2_with fail
  refine bodyPost_ret (v := .tuple #[kvV (K.setF 7 true) X, .bool (decide (l = [1, 1, 0, 0, 63, 0]))]) (results_ct (fn := Tryd.f68) Tryd.results68 _ _ (w.heap.size + 1) _ _ rfl rfl (loadVar_kv H9.out.1)) rfl ?_
  have kb : Below w.heap.size w w9 := (HW.out.2.2.1.trans (HW.out.2.2.2.1.below (by have := HW.out.2.2.1.size; omega) (fun i hi e => by omega))).trans (s2.out.below (by have := HW.out.2.2.1.size; have := HW.out.2.2.2.1.size; omega) (fun i hi e => by omega))
  refine ⟨K.setF 7 true, X, (decide (l = [1, 1, 0, 0, 63, 0])), rfl, HL.out.2.1.one, kb, ?_⟩
  by_cases hq : l = [1, 1, 0, 0, 63, 0]
  · refine Or.inl ⟨decide_eq_true hq, ?_, (HL.out.2.1.setF 7 true).on kb, Fr.refl _ _⟩
    unfold rdScan
    rw [if_pos ⟨HL.out.2.2.2.2, by rw [hq]; unfold scanB; rw [if_pos (by rw [← HL.out.2.2.2.1]; exact hz)]⟩]
  · refine Or.inr ⟨decide_eq_false hq, ?_⟩
    unfold rdScan
    rw [if_neg fun hh => hq (by rw [hh.2]; unfold scanB; rw [if_pos (by rw [← HL.out.2.2.2.1]; exact hz)])]

set_option maxRecDepth 10000 in
set_option maxHeartbeats 3200000 in
theorem scan_n_f (w : World) (Ks : Nat → Prop) (K : Kv) (X : Nat → Value) (A : Option Addr) (n c : Nat) (l : List Int) (h : Sl w Ks A n c l) (hK : KnR w K X) (hz : ¬ K.N 2 = 0) (hf : K.F 6 = false) : Calls Tryd.prog 68 #[.slice A n c, kvV K X] w (BodyY w X (rdScan l K)) := by
  obtain ⟨C, hC⟩ : ∃ C, C = (kvC K X).toArray := ⟨_, rfl⟩
  have eC : kvV K X = .agg C := by rw [hC]; rfl
  rw [eC]
  obtain ⟨Z, hZ⟩ : ∃ Z, Z = (kvC kz X0).toArray := ⟨_, rfl⟩
  have hz' : ∀ w, (zeroValue 46).run Tryd.prog w = .ok (.agg Z) w := fun w => by rw [hZ]; exact zero46 w
  obtain ⟨w2, hw2, b0, b1, k2, hs2⟩ := kv_made w C Z
  obtain ⟨q, hq⟩ : ∃ q, q = K.N 2 := ⟨_, rfl⟩
  rw [← hq] at hz
  have hq0 : (q == 0) = false := by simpa using hz
  have c2 : C[207]? = some (.int .i64 q) := by rw [hC, List.getElem?_toArray, kvC_get K X (by omega), show 207 = 205 + 2 from rfl, kvAt_n, ← hq]
  obtain ⟨w5, hw5⟩ : ∃ w5, (((w.alloc (.cells C 46)).alloc (.cells Z 46)).alloc (.cells #[.int .u8 3, .int .u8 1, .int .u8 0, .int .u8 2, .int .u8 17, .int .u8 3, .int .u8 17, .int .u8 0, .int .u8 63, .int .u8 0] 5)) = w5 := ⟨_, rfl⟩
  have k5 : Below w2.heap.size w2 w5 := by rw [← hw5, hw2]; exact on_alloc _ _
  have hsw : Sl w5 (fun b => w.heap.size + 1 < b) (some ⟨w.heap.size + 1 + 1, 0, none⟩) 10 10 [3, 1, 0, 2, 17, 3, 17, 0, 63, 0] := by
    have h0 := sl_lit ((w.alloc (.cells C 46)).alloc (.cells Z 46)) [3, 1, 0, 2, 17, 3, 17, 0, 63, 0] (by unfold Fit; decide) (show 10 ≤ maxLen by decide)
    rw [show ((w.alloc (.cells C 46)).alloc (.cells Z 46)).heap.size = w.heap.size + 1 + 1 by simp] at h0
    rw [← hw5]
    exact h0.mono' (fun b hb => by
      have hb' : b = w.heap.size + 1 + 1 := hb
      omega)
  have B5 := b0.on k5
  rw [hC] at B5
  have hcell := B5.kvF (k := 7) (by omega)
  have hfro := B5.free 203
  obtain ⟨w6, hw6⟩ : ∃ w6, w5.setCell ⟨w.heap.size, 203, none⟩ (.bool true) = w6 := ⟨_, rfl⟩
  have B6 : Box w6 w.heap.size 46 (kvC (K.setF 7 true) X).toArray := by rw [← hw6]; exact B5.putF (i := 7) (by omega) true
  have K6 : Kept (fun i => i = w.heap.size) w5 w6 := by rw [← hw6]; exact (Kept.refl (fun i => i = w.heap.size) w5).setCell (p := ⟨w.heap.size, 203, none⟩) (fun _ => rfl) _
  have HW := Lib.hid (And.intro hw5 (And.intro hw6 (And.intro (on_trans k2 k5) (And.intro K6 (And.intro B6 (b1.on k5))))))
  have HL := Lib.hid (And.intro (h.low.kept (Kept.of_below (on_trans k2 k5) (fun _ => False)) (fun _ _ h => h) : Sl w5 (fun b => b < w.heap.size) A n c l) (And.intro hK (And.intro hsw (And.intro hq hf))))
  have HZ := Lib.hid (show Z.size = 210 by rw [hZ, kvC_size])
  have hgS : w.heap.size + 1 < w2.heap.size := by omega
  have HKB := Lib.hid (show w2.heap.size ≤ w5.heap.size from k5.size)
  clear hw2 b0 b1 k2 h hK hC hZ eC hw5 k5 hsw B5 hw6 B6 K6 hq hf
  go_enter Tryd.func68, Tryd.ntmps68
  go_upto_region 4 with fail
  rw [HW.out.1]
  go_upto_region 5 with fail
  rw [HW.out.2.1]
  obtain ⟨Vk, hVk⟩ : ∃ V, V = kvV (K.setF 7 true) X := ⟨_, rfl⟩
  have HV := Lib.hid hVk
  clear hVk
  refine wp_region_held_drew (S := fun w' => Hid (Kept (fun i => i = w.heap.size + 1) w6 w')) (by kernel_rfl) (Lib.hid ((Kept.refl _ w6).drew)) fun s0 => ?_
  refine take_to (i := 0) rfl (by kernel_rfl) (by kernel_rfl) (by kernel_rfl) (fun _ _ _ h => h) (yieldsIf_load (by rfl) 46 _ rfl (.pointer (some ⟨w.heap.size, 0, none⟩)) rfl Vk (fun w' h => by rw [HV.out]; exact Box.loadK (h.out.box HW.out.2.2.2.2.1 (by omega)))) s0 (some 14) rfl ?_
  simp only [Act.put, List.setIfInBounds_toArray, List.set_cons_zero, List.set_cons_succ]
  refine take_to (i := 1) (v := .pointer (some ⟨w.heap.size, 202, none⟩)) rfl (by kernel_rfl) (by kernel_rfl) (by kernel_rfl) (fun _ _ _ h => h) (Or.inl ⟨by rfl, fun w' hS => by go_simp⟩) s0 (some 15) rfl ?_
  simp only [Act.put, List.setIfInBounds_toArray, List.set_cons_zero, List.set_cons_succ]
  refine take_to (i := 2) (v := .bool false) rfl (by kernel_rfl) (by kernel_rfl) (by kernel_rfl) (fun _ _ _ h => h) (Or.inl ⟨by rfl, fun w' hS => by have c : w'.cell? ⟨w.heap.size, 202, none⟩ = some (.bool false) := (by have := (hS.out.box HW.out.2.2.2.2.1 (by omega)).kvF (k := 6) (by omega); rw [show (K.setF 7 true).F 6 = false from HL.out.2.2.2.2] at this; exact this); go_simp⟩) s0 (some 16) rfl ?_
  simp only [Act.put, List.setIfInBounds_toArray, List.set_cons_zero, List.set_cons_succ]
  refine take_to (i := 3) (v := .bool false) rfl (by kernel_rfl) (by kernel_rfl) (by kernel_rfl) (fun _ _ _ h => h) (Or.inl ⟨by rfl, fun w' hS => by go_simp⟩) s0 (some 17) rfl ?_
  simp only [Act.put, List.setIfInBounds_toArray, List.set_cons_zero, List.set_cons_succ]
  refine take_to (i := 4) (v := undef) rfl (by kernel_rfl) (by kernel_rfl) (by kernel_rfl) (fun _ _ _ h => h) (Or.inr ⟨by rfl, rfl⟩) s0 (some 18) rfl ?_
  simp only [Act.put, List.setIfInBounds_toArray, List.set_cons_zero, List.set_cons_succ]
  refine take_to (i := 5) (v := undef) rfl (by kernel_rfl) (by kernel_rfl) (by kernel_rfl) (fun _ _ _ h => h) (Or.inr ⟨by rfl, rfl⟩) s0 (some 19) rfl ?_
  simp only [Act.put, List.setIfInBounds_toArray, List.set_cons_zero, List.set_cons_succ]
  refine take_to (i := 6) (v := undef) rfl (by kernel_rfl) (by kernel_rfl) (by kernel_rfl) (fun _ _ _ h => h) (Or.inr ⟨by rfl, rfl⟩) s0 (some 20) rfl ?_
  simp only [Act.put, List.setIfInBounds_toArray, List.set_cons_zero, List.set_cons_succ]
  refine take_to (i := 7) (v := undef) rfl (by kernel_rfl) (by kernel_rfl) (by kernel_rfl) (fun _ _ _ h => h) (Or.inr ⟨by rfl, rfl⟩) s0 (some 21) rfl ?_
  simp only [Act.put, List.setIfInBounds_toArray, List.set_cons_zero, List.set_cons_succ]
  refine take_to (i := 8) (v := undef) rfl (by kernel_rfl) (by kernel_rfl) (by kernel_rfl) (fun _ _ _ h => h) (Or.inr ⟨by rfl, rfl⟩) s0 (some 22) rfl ?_
  simp only [Act.put, List.setIfInBounds_toArray, List.set_cons_zero, List.set_cons_succ]
  refine take_to (i := 9) (v := .bool false) rfl (by kernel_rfl) (by kernel_rfl) (by kernel_rfl) (fun _ _ _ h => h) (Or.inl ⟨by rfl, fun w' hS => by go_simp⟩) s0 (some 23) rfl ?_
  simp only [Act.put, List.setIfInBounds_toArray, List.set_cons_zero, List.set_cons_succ]
  refine wpAnyH_ready (rs := [10]) (by kernel_rfl) (by simp) ?_
  refine AllReadyH.cons rfl (fun K1 hK1 => ?_) AllReadyH.nil
  rw [if_pos (by rfl)]
  refine wp_store_kv _ _ rfl rfl (w.heap.size + 1) (K.setF 7 true) X HL.out.2.1.one rfl HV.out Z ((HW.out.2.2.2.1.box HW.out.2.2.2.2.2 (by omega)).on (on_drew w6)) HZ.out fun w9 b9 k9 => ?_
  have s2 := Lib.hid (s0.out.trans k9 (fun _ _ h => h))
  have H9 := Lib.hid (And.intro b9 k9)
  clear b9 k9
  refine hK1.out _ _ s2 fun _ => ?_
  clear hK1 K1
  refine take_to (i := 11) (v := .bool false) rfl (by kernel_rfl) (by kernel_rfl) (by kernel_rfl) (fun _ _ _ h => h) (Or.inl ⟨by rfl, fun w' hS => by go_simp⟩) s2 (some 5) rfl ?_
  simp only [Act.put, List.setIfInBounds_toArray, List.set_cons_zero, List.set_cons_succ]
  refine wpAnyH_done (by kernel_rfl) ?_ _
  go_wp2_with fail
  refine bodyPost_ret (v := .tuple #[kvV (K.setF 7 true) X, .bool false]) (results_ct (fn := Tryd.f68) Tryd.results68 _ _ (w.heap.size + 1) _ _ rfl rfl (loadVar_kv H9.out.1)) rfl ?_
  have kb : Below w.heap.size w w9 := (HW.out.2.2.1.trans (HW.out.2.2.2.1.below (by have := HW.out.2.2.1.size; omega) (fun i hi e => by omega))).trans (s2.out.below (by have := HW.out.2.2.1.size; have := HW.out.2.2.2.1.size; omega) (fun i hi e => by omega))
  refine ⟨K.setF 7 true, X, false, rfl, HL.out.2.1.one, kb, ?_⟩
  refine Or.inr ⟨rfl, ?_⟩
  unfold rdScan
  rw [if_neg fun hh => by rw [HL.out.2.2.2.2] at hh; cases hh.1]

set_option maxRecDepth 10000 in
set_option maxHeartbeats 3200000 in
theorem scan_n_t (w : World) (Ks : Nat → Prop) (K : Kv) (X : Nat → Value) (A : Option Addr) (n c : Nat) (l : List Int) (h : Sl w Ks A n c l) (hK : KnR w K X) (hz : ¬ K.N 2 = 0) (hf : K.F 6 = true) : Calls Tryd.prog 68 #[.slice A n c, kvV K X] w (BodyY w X (rdScan l K)) := by
  obtain ⟨C, hC⟩ : ∃ C, C = (kvC K X).toArray := ⟨_, rfl⟩
  have eC : kvV K X = .agg C := by rw [hC]; rfl
  rw [eC]
  obtain ⟨Z, hZ⟩ : ∃ Z, Z = (kvC kz X0).toArray := ⟨_, rfl⟩
  have hz' : ∀ w, (zeroValue 46).run Tryd.prog w = .ok (.agg Z) w := fun w => by rw [hZ]; exact zero46 w
  obtain ⟨w2, hw2, b0, b1, k2, hs2⟩ := kv_made w C Z
  obtain ⟨q, hq⟩ : ∃ q, q = K.N 2 := ⟨_, rfl⟩
  rw [← hq] at hz
  have hq0 : (q == 0) = false := by simpa using hz
  have c2 : C[207]? = some (.int .i64 q) := by rw [hC, List.getElem?_toArray, kvC_get K X (by omega), show 207 = 205 + 2 from rfl, kvAt_n, ← hq]
  obtain ⟨w5, hw5⟩ : ∃ w5, (((w.alloc (.cells C 46)).alloc (.cells Z 46)).alloc (.cells #[.int .u8 3, .int .u8 1, .int .u8 0, .int .u8 2, .int .u8 17, .int .u8 3, .int .u8 17, .int .u8 0, .int .u8 63, .int .u8 0] 5)) = w5 := ⟨_, rfl⟩
  have k5 : Below w2.heap.size w2 w5 := by rw [← hw5, hw2]; exact on_alloc _ _
  have hsw : Sl w5 (fun b => w.heap.size + 1 < b) (some ⟨w.heap.size + 1 + 1, 0, none⟩) 10 10 [3, 1, 0, 2, 17, 3, 17, 0, 63, 0] := by
    have h0 := sl_lit ((w.alloc (.cells C 46)).alloc (.cells Z 46)) [3, 1, 0, 2, 17, 3, 17, 0, 63, 0] (by unfold Fit; decide) (show 10 ≤ maxLen by decide)
    rw [show ((w.alloc (.cells C 46)).alloc (.cells Z 46)).heap.size = w.heap.size + 1 + 1 by simp] at h0
    rw [← hw5]
    exact h0.mono' (fun b hb => by
      have hb' : b = w.heap.size + 1 + 1 := hb
      omega)
  have B5 := b0.on k5
  rw [hC] at B5
  have hcell := B5.kvF (k := 7) (by omega)
  have hfro := B5.free 203
  obtain ⟨w6, hw6⟩ : ∃ w6, w5.setCell ⟨w.heap.size, 203, none⟩ (.bool true) = w6 := ⟨_, rfl⟩
  have B6 : Box w6 w.heap.size 46 (kvC (K.setF 7 true) X).toArray := by rw [← hw6]; exact B5.putF (i := 7) (by omega) true
  have K6 : Kept (fun i => i = w.heap.size) w5 w6 := by rw [← hw6]; exact (Kept.refl (fun i => i = w.heap.size) w5).setCell (p := ⟨w.heap.size, 203, none⟩) (fun _ => rfl) _
  have HW := Lib.hid (And.intro hw5 (And.intro hw6 (And.intro (on_trans k2 k5) (And.intro K6 (And.intro B6 (b1.on k5))))))
  have HL := Lib.hid (And.intro (h.low.kept (Kept.of_below (on_trans k2 k5) (fun _ => False)) (fun _ _ h => h) : Sl w5 (fun b => b < w.heap.size) A n c l) (And.intro hK (And.intro hsw (And.intro hq hf))))
  have HZ := Lib.hid (show Z.size = 210 by rw [hZ, kvC_size])
  have hgS : w.heap.size + 1 < w2.heap.size := by omega
  have HKB := Lib.hid (show w2.heap.size ≤ w5.heap.size from k5.size)
  clear hw2 b0 b1 k2 h hK hC hZ eC hw5 k5 hsw B5 hw6 B6 K6 hq hf
  go_enter Tryd.func68, Tryd.ntmps68
  go_upto_region 4 with fail
  rw [HW.out.1]
  go_upto_region 5 with fail
  rw [HW.out.2.1]
  obtain ⟨Vk, hVk⟩ : ∃ V, V = kvV (K.setF 7 true) X := ⟨_, rfl⟩
  have HV := Lib.hid hVk
  clear hVk
  have HY := Lib.hid (And.intro (fun (w' : World) (k : Hid (Kept (fun i => i = w.heap.size + 1) w6 w')) => (HL.out.1.kept HW.out.2.2.2.1 (fun b (hb : b < w.heap.size) e => by omega)).kept k.out (fun b (hb : b < w.heap.size) e => by omega)) (fun (w' : World) (k : Hid (Kept (fun i => i = w.heap.size + 1) w6 w')) => (HL.out.2.2.1.kept HW.out.2.2.2.1 (fun b (hb : w.heap.size + 1 < b) e => by omega)).kept k.out (fun b (hb : w.heap.size + 1 < b) e => by omega)))
  refine wp_region_held_drew (S := fun w' => Hid (Kept (fun i => i = w.heap.size + 1) w6 w')) (by kernel_rfl) (Lib.hid ((Kept.refl _ w6).drew)) fun s0 => ?_
  refine take_to (i := 0) rfl (by kernel_rfl) (by kernel_rfl) (by kernel_rfl) (fun _ _ _ h => h) (yieldsIf_load (by rfl) 46 _ rfl (.pointer (some ⟨w.heap.size, 0, none⟩)) rfl Vk (fun w' h => by rw [HV.out]; exact Box.loadK (h.out.box HW.out.2.2.2.2.1 (by omega)))) s0 (some 14) rfl ?_
  simp only [Act.put, List.setIfInBounds_toArray, List.set_cons_zero, List.set_cons_succ]
  refine take_to (i := 1) (v := .pointer (some ⟨w.heap.size, 202, none⟩)) rfl (by kernel_rfl) (by kernel_rfl) (by kernel_rfl) (fun _ _ _ h => h) (Or.inl ⟨by rfl, fun w' hS => by go_simp⟩) s0 (some 15) rfl ?_
  simp only [Act.put, List.setIfInBounds_toArray, List.set_cons_zero, List.set_cons_succ]
  refine take_to (i := 2) (v := .bool true) rfl (by kernel_rfl) (by kernel_rfl) (by kernel_rfl) (fun _ _ _ h => h) (Or.inl ⟨by rfl, fun w' hS => by have c : w'.cell? ⟨w.heap.size, 202, none⟩ = some (.bool true) := (by have := (hS.out.box HW.out.2.2.2.2.1 (by omega)).kvF (k := 6) (by omega); rw [show (K.setF 7 true).F 6 = true from HL.out.2.2.2.2] at this; exact this); go_simp⟩) s0 (some 16) rfl ?_
  simp only [Act.put, List.setIfInBounds_toArray, List.set_cons_zero, List.set_cons_succ]
  refine take_to (i := 3) (v := .bool true) rfl (by kernel_rfl) (by kernel_rfl) (by kernel_rfl) (fun _ _ _ h => h) (Or.inl ⟨by rfl, fun w' hS => by go_simp⟩) s0 (some 17) rfl ?_
  simp only [Act.put, List.setIfInBounds_toArray, List.set_cons_zero, List.set_cons_succ]
  refine take_to (i := 4) (v := .slice A n c) rfl (by kernel_rfl) (by kernel_rfl) (by kernel_rfl) (fun _ _ _ h => h) (Or.inl ⟨by rfl, fun w' hS => by go_simp⟩) s0 (some 18) rfl ?_
  simp only [Act.put, List.setIfInBounds_toArray, List.set_cons_zero, List.set_cons_succ]
  refine take_to (i := 5) (v := .string (strOfNums l)) rfl (by kernel_rfl) (by kernel_rfl) (by kernel_rfl) (fun _ _ _ h => h) (Or.inl ⟨by rfl, fun w' hS => by have hq := sl_str (HY.out.1 w' hS); go_simp⟩) s0 (some 19) rfl ?_
  simp only [Act.put, List.setIfInBounds_toArray, List.set_cons_zero, List.set_cons_succ]
  refine take_to (i := 6) (v := .slice (some ⟨w.heap.size + 1 + 1, 0, none⟩) 10 10) rfl (by kernel_rfl) (by kernel_rfl) (by kernel_rfl) (fun _ _ _ h => h) (Or.inl ⟨by rfl, fun w' hS => by go_simp⟩) s0 (some 20) rfl ?_
  simp only [Act.put, List.setIfInBounds_toArray, List.set_cons_zero, List.set_cons_succ]
  refine take_to (i := 7) (v := .string (strOfNums [3, 1, 0, 2, 17, 3, 17, 0, 63, 0])) rfl (by kernel_rfl) (by kernel_rfl) (by kernel_rfl) (fun _ _ _ h => h) (Or.inl ⟨by rfl, fun w' hS => by have hq := sl_str (HY.out.2 w' hS); go_simp⟩) s0 (some 21) rfl ?_
  simp only [Act.put, List.setIfInBounds_toArray, List.set_cons_zero, List.set_cons_succ]
  refine take_to (i := 8) (v := .bool (decide (l = [3, 1, 0, 2, 17, 3, 17, 0, 63, 0]))) rfl (by kernel_rfl) (by kernel_rfl) (by kernel_rfl) (fun _ _ _ h => h) (Or.inl ⟨by rfl, fun w' hS => by go_simp; exact str_dec HL.out.1.bts.fit (by unfold Fit; decide)⟩) s0 (some 22) rfl ?_
  simp only [Act.put, List.setIfInBounds_toArray, List.set_cons_zero, List.set_cons_succ]
  refine take_to (i := 9) (v := .bool (decide (l = [3, 1, 0, 2, 17, 3, 17, 0, 63, 0]))) rfl (by kernel_rfl) (by kernel_rfl) (by kernel_rfl) (fun _ _ _ h => h) (Or.inl ⟨by rfl, fun w' hS => by go_simp⟩) s0 (some 23) rfl ?_
  simp only [Act.put, List.setIfInBounds_toArray, List.set_cons_zero, List.set_cons_succ]
  refine wpAnyH_ready (rs := [10]) (by kernel_rfl) (by simp) ?_
  refine AllReadyH.cons rfl (fun K1 hK1 => ?_) AllReadyH.nil
  rw [if_pos (by rfl)]
  refine wp_store_kv _ _ rfl rfl (w.heap.size + 1) (K.setF 7 true) X HL.out.2.1.one rfl HV.out Z ((HW.out.2.2.2.1.box HW.out.2.2.2.2.2 (by omega)).on (on_drew w6)) HZ.out fun w9 b9 k9 => ?_
  have s2 := Lib.hid (s0.out.trans k9 (fun _ _ h => h))
  have H9 := Lib.hid (And.intro b9 k9)
  clear b9 k9
  refine hK1.out _ _ s2 fun _ => ?_
  clear hK1 K1
  refine take_to (i := 11) (v := .bool (decide (l = [3, 1, 0, 2, 17, 3, 17, 0, 63, 0]))) rfl (by kernel_rfl) (by kernel_rfl) (by kernel_rfl) (fun _ _ _ h => h) (Or.inl ⟨by rfl, fun w' hS => by go_simp⟩) s2 (some 5) rfl ?_
  simp only [Act.put, List.setIfInBounds_toArray, List.set_cons_zero, List.set_cons_succ]
  refine wpAnyH_done (by kernel_rfl) ?_ _
  go_wp2_with fail
  refine bodyPost_ret (v := .tuple #[kvV (K.setF 7 true) X, .bool (decide (l = [3, 1, 0, 2, 17, 3, 17, 0, 63, 0]))]) (results_ct (fn := Tryd.f68) Tryd.results68 _ _ (w.heap.size + 1) _ _ rfl rfl (loadVar_kv H9.out.1)) rfl ?_
  have kb : Below w.heap.size w w9 := (HW.out.2.2.1.trans (HW.out.2.2.2.1.below (by have := HW.out.2.2.1.size; omega) (fun i hi e => by omega))).trans (s2.out.below (by have := HW.out.2.2.1.size; have := HW.out.2.2.2.1.size; omega) (fun i hi e => by omega))
  refine ⟨K.setF 7 true, X, (decide (l = [3, 1, 0, 2, 17, 3, 17, 0, 63, 0])), rfl, HL.out.2.1.one, kb, ?_⟩
  by_cases hq : l = [3, 1, 0, 2, 17, 3, 17, 0, 63, 0]
  · refine Or.inl ⟨decide_eq_true hq, ?_, (HL.out.2.1.setF 7 true).on kb, Fr.refl _ _⟩
    unfold rdScan
    rw [if_pos ⟨HL.out.2.2.2.2, by rw [hq]; unfold scanB; rw [if_neg (by rw [← HL.out.2.2.2.1]; exact hz)]⟩]
  · refine Or.inr ⟨decide_eq_false hq, ?_⟩
    unfold rdScan
    rw [if_neg fun hh => hq (by rw [hh.2]; unfold scanB; rw [if_neg (by rw [← HL.out.2.2.2.1]; exact hz)])]

theorem refScan_any (w : World) (Ks : Nat → Prop) (K : Kv) (X : Nat → Value) (A : Option Addr) (n c : Nat) (l : List Int) (h : Sl w Ks A n c l) (hK : KnR w K X) : Calls Tryd.prog 68 #[.slice A n c, kvV K X] w (BodyY w X (rdScan l K)) := by
  by_cases hz : K.N 2 = 0 <;> cases hf : K.F 6
  · exact scan_z_f w Ks K X A n c l h hK hz hf
  · exact scan_z_t w Ks K X A n c l h hK hz hf
  · exact scan_n_f w Ks K X A n c l h hK hz hf
  · exact scan_n_t w Ks K X A n c l h hK hz hf

end Go.Proofs.YtgipngedmblnmaaDoor

namespace Go.Proofs.YtgipngedmblnmaaDoor
open Go.RowKit

theorem wrapI {z : Int} (h0 : -9223372036854775808 ≤ z) (h1 : z ≤ 9223372036854775807) : IntKind.i64.wrap z = z := by simp [IntKind.wrap, IntKind.bits, IntKind.signed]; omega
/-- how things stand in a body's reader: what is known at g, what is told behind it, the bytes that are left, the zigzag -/
structure Rst (w wr : World) (K : Kv) (X : Nat → Value) (Z : Array Value) (l : List Int) (A : Option Addr) (n c : Nat) (bo oo co : Nat) : Prop where
  kv : Box wr w.heap.size 46 (kvC K X).toArray
  res : Box wr (w.heap.size + 1) 46 Z
  bel : Below w.heap.size w wr
  sl : Sl wr (fun b => b < w.heap.size) A n c l
  ord : Il wr (some ⟨bo, oo, none⟩) 64 co zz
  apart : w.heap.size + 1 < bo
  knr : KnR w K X
section
variable {w wr w' : World} {K : Kv} {X : Nat → Value} {Z : Array Value} {l : List Int} {A : Option Addr} {n c bo oo co : Nat}
theorem Rst.on (h : Rst w wr K X Z l A n c bo oo co) (k : Below wr.heap.size wr w') : Rst w w' K X Z l A n c bo oo co :=
  ⟨h.kv.on k, h.res.on k, on_trans h.bel k, h.sl.kept (Kept.of_below k (fun _ => False)) (fun _ _ h => h), h.ord.on k, h.apart, h.knr⟩
/-- a block of one's own turns -/
theorem Rst.far (h : Rst w wr K X Z l A n c bo oo co) {gs : Nat} (k : Kept (fun i => i = gs) wr w') (h1 : w.heap.size + 1 < gs) (h2 : gs ≠ bo) : Rst w w' K X Z l A n c bo oo co :=
  ⟨k.box h.kv (by omega), k.box h.res (by omega), h.bel.trans (k.below h.bel.size (fun i hi e => by omega)), h.sl.kept k (fun b (hb : b < w.heap.size) e => by omega), h.ord.kept k (fun b off e e' => by cases e; omega), h.apart, h.knr⟩
/-- what is known turns -/
theorem Rst.turn (h : Rst w wr K X Z l A n c bo oo co) {K' : Kv} {X' : Nat → Value} (hb : Box w' w.heap.size 46 (kvC K' X').toArray) (k : Kept (fun i => i = w.heap.size) wr w') (hk : KnR w K' X') : Rst w w' K' X' Z l A n c bo oo co :=
  ⟨hb, k.box h.res (by omega), h.bel.trans (k.below h.bel.size (fun i hi e => by omega)), h.sl.kept k (fun b (hb : b < w.heap.size) e => by omega), h.ord.kept k (fun b off e e' => by cases e; have := h.apart; omega), h.apart, hk⟩
theorem Rst.bytes (h : Rst w wr K X Z l A n c bo oo co) {l2 : List Int} {A2 : Option Addr} {n2 c2 : Nat} (hs : Sl wr (fun b => b < w.heap.size) A2 n2 c2 l2) : Rst w wr K X Z l2 A2 n2 c2 bo oo co := ⟨h.kv, h.res, h.bel, hs, h.ord, h.apart, h.knr⟩
end
/-- steps are written into what is known -/
theorem wp_store_T {o : Oper} {a : Act} {w : World} {Kp : Act → World → Prop} {Q : Exit → Act → World → Prop} (x y : Operand) (ho : o.op = .store 23 x y) (hd : o.dst = none) {g : Nat} {K : Kv} {X : Nat → Value}
    (h : Box w g 46 (kvC K X).toArray) {i : Nat} (hi : i < 2) (s : List Int) (hs : s.length = 64) (hx : a.eval x = .pointer (some ⟨g, 64 * i, none⟩)) (hy : a.eval y = blkV s)
    (hK : ∀ w', Box w' g 46 (kvC (K.setT i s) X).toArray → Kept (fun j => j = g) w w' → Kp a w') : Oper.wp Tryd.prog o a w Kp Q := by
  have hl : (cellsI s).length = 64 := by rw [cellsI_len, hs]
  refine wp_store_mid 23 x y ho g (64 * i) (cellsI s).toArray hx hy (box_there h (by rw [List.size_toArray, hl, kvC_size]; omega)) (by rw [arr23_size, List.size_toArray, hl]) (all_oneCell_toArray (cellsI_one _)) ?_
  rw [hd]
  exact hK _ (h.putT hi hs) (kept_setCells _ _ _ _)
/-- what is left behind the first k bytes -/
theorem sl_drop {w : World} {K : Nat → Prop} {b off n c k : Nat} {l : List Int} (h : Sl w K (some ⟨b, off, none⟩) n c l) (hk : k ≤ n) : Sl w K (some ⟨b, off + k, none⟩) (n - k) (c - k) (l.drop k) := by
  have hl := h.len
  refine ⟨⟨h.bts.fit.drop k, fun h0 => ?_⟩, by rw [List.length_drop]; omega, by have := h.cap; omega, by have := h.max; omega, fun e => by cases e⟩
  rw [List.length_drop] at h0
  obtain ⟨b', off', e, h1, h2, h3⟩ := h.bts.at_ (by omega)
  cases e
  refine ⟨b, off + k, rfl, h1, h2, fun i hi => ?_⟩
  rw [List.length_drop] at hi
  rw [show off + k + i = off + (k + i) by omega, h3 (k + i) (by omega)]
  rw [List.getD_eq_getElem?_getD, List.getD_eq_getElem?_getD, List.getElem?_drop]
theorem sl_none_left {w : World} {K : Nat → Prop} {A : Option Addr} {c : Nat} (hc : c ≤ maxLen) (ha : A = none → c = 0) : Sl w K A 0 c [] := ⟨⟨fit_nil, fun h => absurd h (by simp)⟩, rfl, Nat.zero_le _, hc, ha⟩
/-- one round of the reader of steps -/
theorem rdSteps_none {f : Nat} {b : List Int} {K : Kv} (h : b ≠ []) (h1 : b.length < 65 ∨ 1 < b.getD 0 0) : rdSteps (f + 1) b K = none := by rw [rdSteps, if_neg h, if_pos h1]
theorem rdSteps_bad {f : Nat} {b : List Int} {K : Kv} (h : b ≠ []) (h1 : ¬ (b.length < 65 ∨ 1 < b.getD 0 0)) (h2 : ¬ StepOk (stF (b.drop 1) 64)) : rdSteps (f + 1) b K = none := by rw [rdSteps, if_neg h, if_neg h1, if_neg h2]
theorem rdSteps_more {f : Nat} {b : List Int} {K : Kv} (h : b ≠ []) (h1 : ¬ (b.length < 65 ∨ 1 < b.getD 0 0)) (h2 : StepOk (stF (b.drop 1) 64)) : rdSteps (f + 1) b K = rdSteps f (b.drop 65) ((K.setT (b.getD 0 0).toNat (stF (b.drop 1) 64)).setF (b.getD 0 0).toNat true) := by rw [rdSteps, if_neg h, if_neg h1, if_pos h2]
theorem rdSteps_end {f : Nat} {K : Kv} : rdSteps (f + 1) [] K = some K := by rw [rdSteps, if_pos rfl]

set_option maxRecDepth 10000 in
set_option maxHeartbeats 6400000 in
theorem refSteps_any (w : World) (Ks : Nat → Prop) (K : Kv) (X : Nat → Value) (A : Option Addr) (n c : Nat) (l : List Int) (h : Sl w Ks A n c l) (hn : n ≤ 100000) (hK : KnR w K X) : Calls Tryd.prog 65 #[.slice A n c, kvV K X] w (BodyY w X (rdSteps (l.length + 1) l K)) := by
  obtain ⟨C, hC⟩ : ∃ C, C = (kvC K X).toArray := ⟨_, rfl⟩
  have eC : kvV K X = .agg C := by rw [hC]; rfl
  rw [eC]
  obtain ⟨Z, hZ⟩ : ∃ Z, Z = (kvC kz X0).toArray := ⟨_, rfl⟩
  have hz' : ∀ w, (zeroValue 46).run Tryd.prog w = .ok (.agg Z) w := fun w => by rw [hZ]; exact zero46 w
  have HZs := Lib.hid (show Z.size = 210 by rw [hZ, kvC_size])
  obtain ⟨w2, hw2, b0, b1, k2, hs2⟩ := kv_made w C Z
  rw [hC] at b0
  have HO := Lib.hid (refOrder_any w2)
  have HW := Lib.hid (And.intro hw2 (And.intro k2 (And.intro b0 (And.intro b1 hs2))))
  have HL := Lib.hid (And.intro h.low (And.intro hK hn))
  obtain ⟨R, hRd⟩ : ∃ R, R = rdSteps (l.length + 1) l K := ⟨_, rfl⟩
  rw [← hRd]
  have HRd := Lib.hid hRd
  obtain ⟨Zs, hZs⟩ : ∃ Zs, Zs = (cellsI (List.replicate 64 0)).toArray := ⟨_, rfl⟩
  have hzs' : ∀ w, (zeroValue 23).run Tryd.prog w = .ok (.agg Zs) w := fun w => by rw [hZs]; exact zero23 w
  have hbs' : ∀ w, (Instr.build 23 #[]).run Tryd.prog w = .ok (.agg Zs) w := fun w => by rw [hZs]; exact build0 w
  have HZv := Lib.hid hZs
  clear hw2 b0 b1 k2 hs2 hC hZ eC h hK hRd hZs
  go_enter Tryd.func65, Tryd.ntmps65
  go_wp2_with fail
  rw [HW.out.1]
  refine Calls.mono HO.out ?_
  rintro e w3 ⟨A3, c3, rfl, il3, ib3, b3⟩
  obtain ⟨bo, oo, hA3, _, _⟩ := il3.at_ (by omega)
  subst hA3
  have H3 := Lib.hid (show Rst w w3 K X Z l A n c bo oo c3 from ⟨HW.out.2.2.1.on b3, HW.out.2.2.2.1.on b3, on_trans HW.out.2.1 b3, HL.out.1.kept (Kept.of_below (on_trans HW.out.2.1 b3) (fun _ => False)) (fun _ _ h => h), il3, by have := ib3 bo oo rfl; have := HW.out.2.2.2.2; omega, HL.out.2.1⟩)
  clear il3 ib3 b3
  go_wp2_with fail
  go_loopw [0] (fun s wr => ∃ f l' A' n' c' K', n' ≤ 100000 ∧ l'.length < f ∧ s = .slice A' n' c' ∧ rdSteps f l' K' = R ∧ Rst w wr K' X Z l' A' n' c' bo oo c3) (fun s _ => match s with | .slice _ m _ => m | _ => 0)
  case atStart => exact ⟨l.length + 1, l, A, n, c, K, HL.out.2.2, by omega, rfl, HRd.out.symm, H3.out⟩
  case round =>
    obtain ⟨f, l', A', n', c', K', hn', hf, rfl, hR, hS⟩ := hrel
    have hlen := hS.sl.len
    have HS := Lib.hid hS
    have HR := Lib.hid hR
    clear hS hR
    obtain ⟨f, rfl⟩ : ∃ f', f = f' + 1 := ⟨f - 1, by omega⟩
    by_cases h0 : 0 < n'
    · obtain ⟨b, off, hA, cb⟩ := HS.out.sl.get h0
      subst hA
      rw [Nat.add_zero] at cb
      have hne : l' ≠ [] := fun e => by rw [e] at hlen; simp at hlen; omega
      have hfit := HS.out.sl.bts.fit (l'.getD 0 0) (by rw [List.getD_eq_getElem?_getD, List.getElem?_eq_getElem (by omega)]; exact List.getElem_mem _)
      obtain ⟨i0, hi0⟩ : ∃ i0 : Nat, (i0 : Int) = l'.getD 0 0 := ⟨(l'.getD 0 0).toNat, by omega⟩
      rw [← hi0] at cb hfit
      have HE := Lib.hid (And.intro hne (And.intro hi0 hlen))
      clear hne hi0
      by_cases h65 : n' < 65
      · have hr : R = none := by rw [← HR.out]; exact rdSteps_none HE.out.1 (.inl (by rw [HE.out.2.2]; exact h65))
        have HRn := Lib.hid hr
        clear hr
        have h65' : (n' : Int) < 65 := by omega
        go_upto_region 4 with fail
        obtain ⟨Vk, hVk⟩ : ∃ V, V = kvV K' X := ⟨_, rfl⟩
        have HV := Lib.hid (And.intro hVk (show (Instr.loadAt 46 (.pointer (some ⟨w.heap.size, 0, none⟩))).run Tryd.prog _ = .ok Vk _ by rw [hVk]; exact Box.loadK HS.out.kv))
        clear hVk
        go_wp2_with (first
          | (with_reducible refine wpList_load_to (op := ⟨some 22, _, _, _, _, _⟩) rfl 46 (.tmp 3) rfl (.pointer (some ⟨w.heap.size, 0, none⟩)) rfl Vk HV.out.2 ?_)
          | ((with_reducible refine wpList_store_kv (o := ⟨none, _, _, _, _, _⟩) rfl (.tmp 4) (.tmp 22) rfl rfl (w.heap.size + 1) K' X HS.out.knr.one rfl ?hy Z HS.out.res HZs.out ?_)
             case hy => exact HV.out.1
             intro w9 b9 k9
             have H9 := Lib.hid (And.intro b9 (HS.out.bel.trans (k9.below HS.out.bel.size (fun i hi e => by omega))))
             clear b9 k9)
          | fail)
        refine bodyPost_ret (v := .tuple #[kvV K' X, .bool false]) (results_ct (fn := Tryd.f65) Tryd.results65 _ _ (w.heap.size + 1) _ _ rfl rfl (loadVar_kv H9.out.1)) rfl ?_
        exact ⟨K', X, false, rfl, HS.out.knr.one, H9.out.2, .inr ⟨rfl, HRn.out⟩⟩
      by_cases hi1 : 1 < i0
      · have hr : R = none := by rw [← HR.out]; exact rdSteps_none HE.out.1 (.inr (by rw [← HE.out.2.1]; omega))
        have HRn := Lib.hid hr
        clear hr
        have h65' : ¬ (n' : Int) < 65 := by omega
        have hi1' : (1 : Int) < (i0 : Int) := by omega
        go_upto_region 4 with fail
        obtain ⟨Vk, hVk⟩ : ∃ V, V = kvV K' X := ⟨_, rfl⟩
        have HV := Lib.hid (And.intro hVk (show (Instr.loadAt 46 (.pointer (some ⟨w.heap.size, 0, none⟩))).run Tryd.prog _ = .ok Vk _ by rw [hVk]; exact Box.loadK HS.out.kv))
        clear hVk
        go_wp2_with (first
          | (with_reducible refine wpList_load_to (op := ⟨some 22, _, _, _, _, _⟩) rfl 46 (.tmp 3) rfl (.pointer (some ⟨w.heap.size, 0, none⟩)) rfl Vk HV.out.2 ?_)
          | ((with_reducible refine wpList_store_kv (o := ⟨none, _, _, _, _, _⟩) rfl (.tmp 4) (.tmp 22) rfl rfl (w.heap.size + 1) K' X HS.out.knr.one rfl ?hy Z HS.out.res HZs.out ?_)
             case hy => exact HV.out.1
             intro w9 b9 k9
             have H9 := Lib.hid (And.intro b9 (HS.out.bel.trans (k9.below HS.out.bel.size (fun i hi e => by omega))))
             clear b9 k9)
          | fail)
        refine bodyPost_ret (v := .tuple #[kvV K' X, .bool false]) (results_ct (fn := Tryd.f65) Tryd.results65 _ _ (w.heap.size + 1) _ _ rfl rfl (loadVar_kv H9.out.1)) rfl ?_
        exact ⟨K', X, false, rfl, HS.out.knr.one, H9.out.2, .inr ⟨rfl, HRn.out⟩⟩
      have hgood : ¬ (l'.length < 65 ∨ 1 < l'.getD 0 0) := by rw [HE.out.2.2, ← HE.out.2.1]; omega
      have HG := Lib.hid hgood
      have h65' : ¬ (n' : Int) < 65 := by omega
      have hi1' : ¬ (1 : Int) < (i0 : Int) := by omega
      clear hgood
      go_upto_region 5 with fail
      go_wp2_with (first
        | ((with_reducible refine wpList_store_blk (o := ⟨none, _, _, _, _, _⟩) arr23_size rfl (.tmp 7) (.tmp 23) rfl rfl wr.heap.size (List.replicate 64 0) rfl ?hy Zs (Box.made _ _ _) ?hz List.length_replicate ?_)
           case hy => rw [HZv.out]; rfl
           case hz => rw [HZv.out]; simp [cellsI_len]
           intro w5 b5 k5
           have H5 := Lib.hid (And.intro b5 k5)
           clear b5 k5)
        | fail)
      obtain ⟨gs, hgs⟩ : ∃ g, g = wr.heap.size := ⟨_, rfl⟩
      rw [← hgs] at H5 ⊢
      have hgs1 : w.heap.size + 1 < gs := by rw [hgs]; have := HS.out.res.lt; omega
      have hgs2 : gs ≠ bo := by
        rw [hgs]
        obtain ⟨cs, fr, hh⟩ := HS.out.ord.typ bo oo rfl
        have := (Array.getElem?_eq_some_iff.1 hh).1
        omega
      have HS5 := Lib.hid (And.intro ((HS.out.on (on_alloc wr (.cells Zs 23))).far H5.out.2 hgs1 hgs2) (show Blk w5 gs (stF (l'.drop 1) 0) from ⟨H5.out.1, stF_len _ 0⟩))
      clear hgs
      go_loopw [8] (fun i wi => ∃ k : Nat, k ≤ 64 ∧ i = .int .i64 ((k : Nat) : Int) ∧ Rst w wi K' X Z l' (some ⟨b, off, none⟩) n' c' bo oo c3 ∧ Blk wi gs (stF (l'.drop 1) k)) (fun i _ => 64 - (intOf i).toNat)
      case atStart => exact ⟨0, by omega, rfl, HS5.out⟩
      case round =>
        obtain ⟨k, hk, rfl, hrk⟩ := hrel
        have HRk := Lib.hid hrk
        clear hrk
        by_cases hk64 : k < 64
        · obtain ⟨z1, z2⟩ := zn_cell hk64
          have hq' : bo < wr.heap.size := by
            obtain ⟨cs, fr, hh⟩ := HRk.out.1.ord.typ bo oo rfl
            exact (Array.getElem?_eq_some_iff.1 hh).1
          obtain ⟨b1, o1, e1, _, hc1⟩ := HRk.out.1.ord.at_ (by omega)
          cases e1
          have c1 := hc1 k hk64
          rw [z1] at c1
          obtain ⟨b2, o2, e2, c2⟩ := HRk.out.1.sl.get (show 1 + k < n' by omega)
          cases e2
          have hbz := HRk.out.1.sl.bts.fit (l'.getD (1 + k) 0) (by rw [List.getD_eq_getElem?_getD, List.getElem?_eq_getElem (by omega)]; exact List.getElem_mem _)
          have hst : (stF (l'.drop 1) k).set (zn k) (l'.getD (1 + k) 0) = stF (l'.drop 1) (k + 1) := by
            rw [stF, List.getD_eq_getElem?_getD, List.getD_eq_getElem?_getD, List.getElem?_drop]
          have c3' := HRk.out.2.cell z2
          have f3 := HRk.out.2.box.free (zn k)
          obtain ⟨q, hq⟩ : ∃ q, q = zn k := ⟨_, rfl⟩
          rw [← hq] at c1 c3' f3 z2 hst
          obtain ⟨z, hz⟩ : ∃ z, z = l'.getD (1 + k) 0 := ⟨_, rfl⟩
          rw [← hz] at c2 hbz hst
          obtain ⟨old, hold⟩ : ∃ o, o = (stF (l'.drop 1) k).getD q 0 := ⟨_, rfl⟩
          rw [← hold] at c3'
          have HX := Lib.hid hst
          have HC1 := Lib.hid c1
          have HC2 := Lib.hid c2
          have HC3 := Lib.hid (And.intro c3' f3)
          obtain ⟨bz0, bz1⟩ := hbz
          have hlo := HRk.out.1.sl
          have hb16 : b < w.heap.size := by
            obtain ⟨b', off', e', h1, h2, h3⟩ := hlo.bts.at_ (by omega)
            cases e'
            exact h2
          have hwb : w.heap.size ≤ wr.heap.size := HRk.out.1.bel.size
          have hgl : gs < wr.heap.size := HRk.out.2.box.lt
          clear hst hq hz hold z1 hc1 c1 c2 c3' f3 hlo
          go_upto_region 9 with fail
          refine wp_region_held_drew (S := fun w' => Hid (Kept (fun i => i = gs) wr w')) (by kernel_rfl) (Lib.hid ((Kept.refl _ wr).drew)) fun s0 => ?_
          refine take_to (i := 0) (v := .slice (some ⟨bo, oo, none⟩) 64 c3) rfl (by kernel_rfl) (by kernel_rfl) (by kernel_rfl) (fun _ _ _ h => h) (Or.inl ⟨by rfl, fun w' hS => by go_simp⟩) s0 (some 28) rfl ?_
          simp only [Act.put, List.setIfInBounds_toArray, List.set_cons_zero, List.set_cons_succ]
          refine take_to (i := 1) (v := .int .i64 (k : Int)) rfl (by kernel_rfl) (by kernel_rfl) (by kernel_rfl) (fun _ _ _ h => h) (Or.inl ⟨by rfl, fun w' hS => by go_simp⟩) s0 (some 29) rfl ?_
          simp only [Act.put, List.setIfInBounds_toArray, List.set_cons_zero, List.set_cons_succ]
          refine take_to (i := 2) (v := .pointer (some ⟨bo, oo + k, none⟩)) rfl (by kernel_rfl) (by kernel_rfl) (by kernel_rfl) (fun _ _ _ h => h) (Or.inl ⟨by rfl, fun w' hS => by go_simp⟩) s0 (some 30) rfl ?_
          simp only [Act.put, List.setIfInBounds_toArray, List.set_cons_zero, List.set_cons_succ]
          refine take_to (i := 3) (v := .int .i64 (q : Int)) rfl (by kernel_rfl) (by kernel_rfl) (by kernel_rfl) (fun _ _ _ h => h) (Or.inl ⟨by rfl, fun w' hS => by have c := (hS.out.cell (p := ⟨bo, oo + k, none⟩) hq' (fun e => hgs2 e.symm)).trans HC1.out; go_simp⟩) s0 (some 31) rfl ?_
          simp only [Act.put, List.setIfInBounds_toArray, List.set_cons_zero, List.set_cons_succ]
          refine take_to (i := 4) (v := (.slice (some ⟨b, off, none⟩) n' c')) rfl (by kernel_rfl) (by kernel_rfl) (by kernel_rfl) (fun _ _ _ h => h) (Or.inl ⟨by rfl, fun w' hS => by go_simp⟩) s0 (some 32) rfl ?_
          simp only [Act.put, List.setIfInBounds_toArray, List.set_cons_zero, List.set_cons_succ]
          refine take_to (i := 5) (v := .int .i64 (k : Int)) rfl (by kernel_rfl) (by kernel_rfl) (by kernel_rfl) (fun _ _ _ h => h) (Or.inl ⟨by rfl, fun w' hS => by go_simp⟩) s0 (some 33) rfl ?_
          simp only [Act.put, List.setIfInBounds_toArray, List.set_cons_zero, List.set_cons_succ]
          refine take_to (i := 6) (v := .int .i64 (1 + (k : Int))) rfl (by kernel_rfl) (by kernel_rfl) (by kernel_rfl) (fun _ _ _ h => h) (Or.inl ⟨by rfl, fun w' hS => by go_simp; exact wrapI (by omega) (by omega)⟩) s0 (some 34) rfl ?_
          simp only [Act.put, List.setIfInBounds_toArray, List.set_cons_zero, List.set_cons_succ]
          refine take_to (i := 7) (v := .pointer (some ⟨b, off + (1 + k), none⟩)) rfl (by kernel_rfl) (by kernel_rfl) (by kernel_rfl) (fun _ _ _ h => h) (Or.inl ⟨by rfl, fun w' hS => by have h1 : 1 + (k : Int) < (n' : Int) := (by omega); go_simp; rw [if_pos (by omega), show (1 + (k : Int)).toNat = 1 + k by omega]⟩) s0 (some 35) rfl ?_
          simp only [Act.put, List.setIfInBounds_toArray, List.set_cons_zero, List.set_cons_succ]
          refine take_to (i := 8) (v := .int .u8 z) rfl (by kernel_rfl) (by kernel_rfl) (by kernel_rfl) (fun _ _ _ h => h) (Or.inl ⟨by rfl, fun w' hS => by have c := (hS.out.cell (p := ⟨b, off + (1 + k), none⟩) (show b < wr.heap.size by omega) (fun e : b = gs => by omega)).trans HC2.out; go_simp⟩) s0 (some 36) rfl ?_
          simp only [Act.put, List.setIfInBounds_toArray, List.set_cons_zero, List.set_cons_succ]
          refine take_to (i := 9) (v := .int .i64 z) rfl (by kernel_rfl) (by kernel_rfl) (by kernel_rfl) (fun _ _ _ h => h) (Or.inl ⟨by rfl, fun w' hS => by go_simp; exact wrapI (by omega) (by omega)⟩) s0 (some 37) rfl ?_
          simp only [Act.put, List.setIfInBounds_toArray, List.set_cons_zero, List.set_cons_succ]
          refine take_to (i := 10) (v := .pointer (some ⟨gs, q, none⟩)) rfl (by kernel_rfl) (by kernel_rfl) (by kernel_rfl) (fun _ _ _ h => h) (Or.inl ⟨by rfl, fun w' hS => by have h1 : (q : Int) < 64 := (by omega); go_simp⟩) s0 (some 38) rfl ?_
          simp only [Act.put, List.setIfInBounds_toArray, List.set_cons_zero, List.set_cons_succ]
          refine wpAnyH_ready (rs := [11]) (by kernel_rfl) (by simp) ?_
          refine AllReadyH.cons rfl (fun Kq hKq => ?_) AllReadyH.nil
          have cd : wr.drew.cell? ⟨gs, q, none⟩ = some (.int .i64 old) := HC3.out.1
          have fd : wr.drew.frozen? ⟨gs, q, none⟩ = false := HC3.out.2
          go_simp
          have s2 := Lib.hid (s0.out.setCell (p := ⟨gs, q, none⟩) (fun _ => rfl) (.int .i64 z))
          refine hKq.out _ _ s2 fun _ => ?_
          clear hKq Kq cd fd
          refine wpAnyH_done (by kernel_rfl) ?_ _
          have hpk := ((HRk.out.2.on (on_drew wr)).put q z)
          rw [HX.out] at hpk
          have HN := Lib.hid (And.intro (HRk.out.1.far s2.out hgs1 hgs2) hpk)
          clear hpk
          go_wp2_with fail
          go_roundw
          case rel => exact ⟨k + 1, by omega, by go_num, HN.out⟩
          case measure => simp [intOf]; omega
        · have ek : k = 64 := by omega
          obtain ⟨s, hs⟩ : ∃ s, s = stF (l'.drop 1) 64 := ⟨_, rfl⟩
          have hb64 := HRk.out.2
          rw [ek, ← hs] at hb64
          have hsl : s.length = 64 := by rw [hs]; exact stF_len _ 64
          obtain ⟨Vs, hVs⟩ : ∃ V, V = blkV s := ⟨_, rfl⟩
          have hin := in_any wr s hsl
          rw [← hVs] at hin
          have HIN := Lib.hid hin
          have hld := hb64.load
          rw [← hVs] at hld
          have HLD := Lib.hid hld
          have HBB := Lib.hid (And.intro hb64 (And.intro hsl (And.intro hVs hs)))
          clear ek hs hb64 hsl hVs hin hld
          go_wp2_with (first
            | (with_reducible refine wpList_load_to (op := ⟨some 39, _, _, _, _, _⟩) rfl 23 (.tmp 7) rfl (.pointer (some ⟨gs, 0, none⟩)) rfl Vs HLD.out ?_)
            | fail)
          refine Calls.mono HIN.out ?_
          rintro e w7 ⟨rfl, b7⟩
          have H7 := Lib.hid (And.intro (HRk.out.1.on b7) (HBB.out.1.on b7))
          clear b7
          by_cases hok : StepOk s
          case neg =>
            have hr : R = none := by rw [← HR.out]; exact rdSteps_bad HE.out.1 HG.out (by rw [← HBB.out.2.2.2]; exact hok)
            have HRn := Lib.hid hr
            have D := Lib.hid (decide_eq_false hok)
            have HS7 := Lib.hid H7.out.1
            clear hr hok
            rw [D.out]
            go_upto_region 11 with fail
            obtain ⟨Vk, hVk⟩ : ∃ V, V = kvV K' X := ⟨_, rfl⟩
            have HV := Lib.hid (And.intro hVk (show (Instr.loadAt 46 (.pointer (some ⟨w.heap.size, 0, none⟩))).run Tryd.prog _ = .ok Vk _ by rw [hVk]; exact Box.loadK HS7.out.kv))
            clear hVk
            go_wp2_with (first
              | (with_reducible refine wpList_load_to (op := ⟨some 42, _, _, _, _, _⟩) rfl 46 (.tmp 3) rfl (.pointer (some ⟨w.heap.size, 0, none⟩)) rfl Vk HV.out.2 ?_)
              | ((with_reducible refine wpList_store_kv (o := ⟨none, _, _, _, _, _⟩) rfl (.tmp 4) (.tmp 42) rfl rfl (w.heap.size + 1) K' X HS7.out.knr.one rfl ?hy Z HS7.out.res HZs.out ?_)
                 case hy => exact HV.out.1
                 intro w9 b9 k9
                 have H9 := Lib.hid (And.intro b9 (HS7.out.bel.trans (k9.below HS7.out.bel.size (fun i hi e => by omega))))
                 clear b9 k9)
              | fail)
            refine bodyPost_ret (v := .tuple #[kvV K' X, .bool false]) (results_ct (fn := Tryd.f65) Tryd.results65 _ _ (w.heap.size + 1) _ _ rfl rfl (loadVar_kv H9.out.1)) rfl ?_
            exact ⟨K', X, false, rfl, HS7.out.knr.one, H9.out.2, .inr ⟨rfl, HRn.out⟩⟩
          have D := Lib.hid (decide_eq_true hok)
          have HOK := Lib.hid hok
          rw [D.out]
          clear hok
          have hb7 : b < w.heap.size := by
            obtain ⟨b', off', e', h1, h2, h3⟩ := H7.out.1.sl.bts.at_ (by omega)
            cases e'
            exact h2
          obtain ⟨b2, o2, e2, cb7⟩ := H7.out.1.sl.get (show 0 < n' by omega)
          cases e2
          rw [Nat.add_zero, ← HE.out.2.1] at cb7
          have HCB := Lib.hid cb7
          have hb7s : b < w7.heap.size := by have := H7.out.1.bel.size; omega
          clear cb7 cb
          go_upto_region 12 with fail
          refine wp_region_held_drew (S := fun w' => Hid (Kept (fun i => i = w.heap.size) w7 w')) (by kernel_rfl) (Lib.hid ((Kept.refl _ w7).drew)) fun s0 => ?_
          refine take_to (i := 0) (v := (.slice (some ⟨b, off, none⟩) n' c')) rfl (by kernel_rfl) (by kernel_rfl) (by kernel_rfl) (fun _ _ _ h => h) (Or.inl ⟨by rfl, fun w' hS => by go_simp⟩) s0 (some 43) rfl ?_
          simp only [Act.put, List.setIfInBounds_toArray, List.set_cons_zero, List.set_cons_succ]
          refine take_to (i := 1) (v := .pointer (some ⟨b, off, none⟩)) rfl (by kernel_rfl) (by kernel_rfl) (by kernel_rfl) (fun _ _ _ h => h) (Or.inl ⟨by rfl, fun w' hS => by have h1 : (0 : Int) < (n' : Int) := (by omega); go_simp⟩) s0 (some 44) rfl ?_
          simp only [Act.put, List.setIfInBounds_toArray, List.set_cons_zero, List.set_cons_succ]
          refine take_to (i := 2) (v := .int .u8 (i0 : Int)) rfl (by kernel_rfl) (by kernel_rfl) (by kernel_rfl) (fun _ _ _ h => h) (Or.inl ⟨by rfl, fun w' hS => by have c := (hS.out.cell (p := ⟨b, off, none⟩) hb7s (fun e : b = w.heap.size => by omega)).trans HCB.out; go_simp⟩) s0 (some 45) rfl ?_
          simp only [Act.put, List.setIfInBounds_toArray, List.set_cons_zero, List.set_cons_succ]
          refine take_to (i := 3) rfl (by kernel_rfl) (by kernel_rfl) (by kernel_rfl) (fun _ _ _ h => h) (yieldsIf_load (by rfl) 23 _ rfl (.pointer (some ⟨gs, 0, none⟩)) rfl Vs (fun w1 h => by rw [HBB.out.2.2.1]; exact Blk.load (H7.out.2.kept h.out (by omega)))) s0 (some 46) rfl ?_
          simp only [Act.put, List.setIfInBounds_toArray, List.set_cons_zero, List.set_cons_succ]
          refine take_to (i := 4) (v := .pointer (some ⟨w.heap.size, 0, none⟩)) rfl (by kernel_rfl) (by kernel_rfl) (by kernel_rfl) (fun _ _ _ h => h) (Or.inl ⟨by rfl, fun w' hS => by go_simp⟩) s0 (some 47) rfl ?_
          simp only [Act.put, List.setIfInBounds_toArray, List.set_cons_zero, List.set_cons_succ]
          refine take_to (i := 5) (v := .pointer (some ⟨w.heap.size, 0, none⟩)) rfl (by kernel_rfl) (by kernel_rfl) (by kernel_rfl) (fun _ _ _ h => h) (Or.inl ⟨by rfl, fun w' hS => by go_simp⟩) s0 (some 48) rfl ?_
          simp only [Act.put, List.setIfInBounds_toArray, List.set_cons_zero, List.set_cons_succ]
          refine take_to (i := 6) (v := .pointer (some ⟨w.heap.size, 64 * i0, none⟩)) rfl (by kernel_rfl) (by kernel_rfl) (by kernel_rfl) (fun _ _ _ h => h) (Or.inl ⟨by rfl, fun w' hS => by go_simp; rw [if_pos (by omega), Nat.mul_comm]⟩) s0 (some 49) rfl ?_
          simp only [Act.put, List.setIfInBounds_toArray, List.set_cons_zero, List.set_cons_succ]
          refine wpAnyH_ready (rs := [7]) (by kernel_rfl) (by simp) ?_
          refine AllReadyH.cons rfl (fun Kq hKq => ?_) AllReadyH.nil
          rw [if_pos (by rfl)]
          refine wp_store_T _ _ rfl rfl (H7.out.1.kv.on (on_drew w7)) (i := i0) (by omega) s HBB.out.2.1 rfl HBB.out.2.2.1 fun w12 b12 k12 => ?_
          have s2 := Lib.hid (s0.out.trans k12 (fun _ _ h => h))
          have R12 := Lib.hid (H7.out.1.turn b12 s2.out (H7.out.1.knr.setT i0 HBB.out.2.1))
          clear b12 k12
          refine hKq.out _ _ s2 fun _ => ?_
          clear hKq Kq
          refine wpAnyH_done (by kernel_rfl) ?_ _
          have cb12 : w12.cell? ⟨b, off, none⟩ = some (.int .u8 (i0 : Int)) := (s2.out.cell (p := ⟨b, off, none⟩) hb7s (fun e : b = w.heap.size => by omega)).trans HCB.out
          have cf12 := R12.out.kv.kvF (k := i0) (by omega)
          have ff12 := R12.out.kv.free (196 + i0)
          have hi2 : (i0 : Int) < 2 := by omega
          have hn0 : (0 : Int) < (n' : Int) := by omega
          obtain ⟨fo, hfo⟩ : ∃ fo, fo = (K'.setT i0 s).F i0 := ⟨_, rfl⟩
          rw [← hfo] at cf12
          clear hfo
          go_wp2_with fail
          have R13 := Lib.hid (R12.out.turn (R12.out.kv.putF (i := i0) (by omega) true) ((Kept.refl (fun j => j = w.heap.size) w12).setCell (p := ⟨w.heap.size, 196 + i0, none⟩) (fun _ => rfl) _) (R12.out.knr.setF i0 true))
          have hrd : rdSteps f (l'.drop 65) ((K'.setT i0 s).setF i0 true) = R := by
            rw [← HR.out, rdSteps_more HE.out.1 HG.out (by rw [← HBB.out.2.2.2]; exact HOK.out), ← HE.out.2.1, Int.toNat_natCast, ← HBB.out.2.2.2]
          have hcap := R13.out.sl.cap
          have hmax := R13.out.sl.max
          have HRD := Lib.hid hrd
          clear hrd cb12 cf12 ff12
          go_roundw
          case rel =>
            refine ⟨f, l'.drop 65, (if c' = 65 then some ⟨b, off, none⟩ else some ⟨b, off + 65, none⟩), n' - 65, c' - 65, (K'.setT i0 s).setF i0 true, by omega, by rw [List.length_drop]; omega, rfl, HRD.out, R13.out.bytes ?_⟩
            by_cases hc65 : c' = 65
            · rw [if_pos hc65, show n' - 65 = 0 by omega, show c' - 65 = 0 by omega, List.drop_eq_nil_of_le (by omega)]
              exact sl_none_left (Nat.zero_le _) (fun e => by cases e)
            · rw [if_neg hc65]
              exact sl_drop R13.out.sl (by omega)
          case measure => show n' - 65 < n'; omega
    · obtain rfl : n' = 0 := by omega
      have el : l' = [] := List.eq_nil_of_length_eq_zero hlen
      have hr : R = some K' := by rw [← HR.out, el]; exact rdSteps_end
      have HRn := Lib.hid hr
      clear hr el
      go_upto_region 15 with fail
      obtain ⟨Vk, hVk⟩ : ∃ V, V = kvV K' X := ⟨_, rfl⟩
      have HV := Lib.hid (And.intro hVk (show (Instr.loadAt 46 (.pointer (some ⟨w.heap.size, 0, none⟩))).run Tryd.prog _ = .ok Vk _ by rw [hVk]; exact Box.loadK HS.out.kv))
      clear hVk
      go_wp2_with (first
        | (with_reducible refine wpList_load_to (op := ⟨some 57, _, _, _, _, _⟩) rfl 46 (.tmp 3) rfl (.pointer (some ⟨w.heap.size, 0, none⟩)) rfl Vk HV.out.2 ?_)
        | ((with_reducible refine wpList_store_kv (o := ⟨none, _, _, _, _, _⟩) rfl (.tmp 4) (.tmp 57) rfl rfl (w.heap.size + 1) K' X HS.out.knr.one rfl ?hy Z HS.out.res HZs.out ?_)
           case hy => exact HV.out.1
           intro w9 b9 k9
           have H9 := Lib.hid (And.intro b9 (HS.out.bel.trans (k9.below HS.out.bel.size (fun i hi e => by omega))))
           clear b9 k9)
        | fail)
      refine bodyPost_ret (v := .tuple #[kvV K' X, .bool true]) (results_ct (fn := Tryd.f65) Tryd.results65 _ _ (w.heap.size + 1) _ _ rfl rfl (loadVar_kv H9.out.1)) rfl ?_
      exact ⟨K', X, true, rfl, HS.out.knr.one, H9.out.2, .inl ⟨rfl, HRn.out, HS.out.knr.on H9.out.2, Fr.refl _ _⟩⟩
end Go.Proofs.YtgipngedmblnmaaDoor
