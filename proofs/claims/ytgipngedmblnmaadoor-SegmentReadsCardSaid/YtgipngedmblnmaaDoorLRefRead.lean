/-
  The contract of the reference's Read.
-/
import Derived.Test.YtgipngedmblnmaaDoorLOwn
import Derived.BigQuiet
namespace Go.Proofs.YtgipngedmblnmaaDoor
open Go.RowKit

theorem if_els {α : Type} {c : Prop} [Decidable c] {a b b' : α} (h : b = b') : (if c then a else b) = (if c then a else b') := by rw [h]
theorem refStep (f : Nat) (l : List Int) (p : Nat) (K : Kv) (hf : Fit l) (hp : p ≤ l.length) : rdLoop (f + 1) (l.drop p) p K =
    if l.length < p + 1 then (kz, 3) else if l.getD p 0 ≠ 255 then (kz, 7) else if l.length < p + 2 then (kz, 3) else
    if l.getD (p + 1) 0 = 217 then (if p + 2 < l.length then (kz, 5) else (K.setF 8 true, 0)) else if ¬ MarkOk (l.getD (p + 1) 0) then (kz, 7) else
    if l.length < p + 4 then (kz, 3) else if 256 * l.getD (p + 2) 0 + l.getD (p + 3) 0 < 2 then (kz, 4) else if (l.length : Int) < p + 2 + (256 * l.getD (p + 2) 0 + l.getD (p + 3) 0) then (kz, 3) else
    match rdBody (l.getD (p + 1) 0) ((l.drop (p + 4)).take (256 * l.getD (p + 2) 0 + l.getD (p + 3) 0 - 2).toNat) K with
    | none => (kz, 4)
    | some K' => if K'.F 7 then (K'.setN 4 (p + 2 + (256 * l.getD (p + 2) 0 + l.getD (p + 3) 0)), 0) else rdLoop f (l.drop (p + (2 + (256 * l.getD (p + 2) 0 + l.getD (p + 3) 0)).toNat)) (p + 2 + (256 * l.getD (p + 2) 0 + l.getD (p + 3) 0)) K' := by
  rw [rdLoop_step f l p K hf hp]
  refine if_els ?_
  refine if_els ?_
  refine if_els ?_
  refine if_els ?_
  refine if_els ?_
  unfold segF
  by_cases c1 : l.length < p + 4
  · rw [if_pos (show l.length < p + 2 + 2 by omega), if_pos c1]
  · rw [if_neg (show ¬ l.length < p + 2 + 2 by omega), if_neg c1]
    by_cases c2 : 256 * l.getD (p + 2) 0 + l.getD (p + 3) 0 < 2
    · rw [if_pos (show 256 * l.getD (p + 2) 0 + l.getD (p + 2 + 1) 0 < 2 from c2), if_pos c2]
    · rw [if_neg (show ¬ 256 * l.getD (p + 2) 0 + l.getD (p + 2 + 1) 0 < 2 from c2), if_neg c2]
      by_cases c3 : (l.length : Int) < p + 2 + (256 * l.getD (p + 2) 0 + l.getD (p + 3) 0)
      · rw [if_pos (show (l.length : Int) < ((p + 2 : Nat) : Int) + (256 * l.getD (p + 2) 0 + l.getD (p + 2 + 1) 0) from by show (l.length : Int) < ((p + 2 : Nat) : Int) + (256 * l.getD (p + 2) 0 + l.getD (p + 3) 0); omega), if_pos c3]
      · rw [if_neg (show ¬ (l.length : Int) < ((p + 2 : Nat) : Int) + (256 * l.getD (p + 2) 0 + l.getD (p + 2 + 1) 0) from by show ¬ (l.length : Int) < ((p + 2 : Nat) : Int) + (256 * l.getD (p + 2) 0 + l.getD (p + 3) 0); omega), if_neg c3]
        show (match (match rdBody (l.getD (p + 1) 0) ((l.drop (p + 4)).take (256 * l.getD (p + 2) 0 + l.getD (p + 3) 0 - 2).toNat) K with | none => ((none : Option Kv), (4 : Int)) | some K' => (some K', 0)) with | (none, e) => (kz, e) | (some K', _) => _) = _
        cases rdBody (l.getD (p + 1) 0) ((l.drop (p + 4)).take (256 * l.getD (p + 2) 0 + l.getD (p + 3) 0 - 2).toNat) K <;> rfl
theorem KnO.knr {lo : Nat} {w : World} {K : Kv} {X : Nat → Value} (h : KnO lo w K X) : KnR w K X := ⟨h.wt, h.one, fun j hj => by obtain ⟨A, n, c, e, hi, _⟩ := h.sl j hj; exact ⟨A, n, c, e, hi.ia⟩⟩
theorem slice_at (w : World) (A : Option Addr) (n c lo hi : Nat) (h1 : lo ≤ hi) (h2 : hi ≤ c) : (Instr.slice 37 (.slice A n c) (some (.int .i64 (lo : Int))) (some (.int .i64 (hi : Int))) none).run Tryd.prog w = .ok (.slice (cutAt A c lo) (hi - lo) (c - lo)) w := by
  have he : Tryd.prog.elem 37 = 5 := by kernel_rfl
  have hs : (sizeOf 5).run Tryd.prog w = .ok 1 w := by kernel_rfl
  have ht : Tryd.prog.underlying 37 = some (.slice (Tryd.prog.elem 37)) := by rw [he]; exact Tryd.underlying37
  rw [run_slice_lh w 37 A n c ht .i64 .i64 (lo : Int) (hi : Int) (by omega) (by omega) (by omega), he, hs]
  simp only [Result.andThen, sliced, Int.toNat_natCast, Nat.mul_one]
  rfl
theorem yieldsIf_slice {ops : Array Oper} {S : World → Prop} {op : Oper} {a : Act} (hw : Region.wanted op (yielded ops a.tmps) = true) (x y z : Operand) (ho : op.op = .slice 37 x (some y) (some z) none) (A : Option Addr) (n c lo hi : Nat)
    (hx : a.eval x = .slice A n c) (hy : a.eval y = .int .i64 (lo : Int)) (hz : a.eval z = .int .i64 (hi : Int)) (h1 : lo ≤ hi) (h2 : hi ≤ c) : YieldsIf Tryd.prog ops S op (.slice (cutAt A c lo) (hi - lo) (c - lo)) a :=
  .inl ⟨hw, fun w _ => by
    have he : Tryd.prog.elem 37 = 5 := by kernel_rfl
    have ht : Tryd.prog.underlying 37 = some (.slice (Tryd.prog.elem 37)) := by rw [he]; exact Tryd.underlying37
    unfold execOp
    simp only [ho, Option.map_some, Option.map_none, hx, hy, hz, Sem.run_bind, run_sliceAt_slice w 37 _ _ _ _ ht, slice_at w A n c lo hi h1 h2, Result.andThen_ok, Sem.run_pure]⟩
theorem Sl.sub {w : World} {Ks : Nat → Prop} {b off n c : Nat} {l : List Int} (h : Sl w Ks (some ⟨b, off, none⟩) n c l) {k m : Nat} (hk : k + m ≤ n) : Sl w Ks (cutAt (some ⟨b, off, none⟩) c k) m (c - k) ((l.drop k).take m) :=
  ⟨h.bts.cut (by rw [h.len]; exact hk) (by rw [h.len]; exact h.cap), by rw [List.length_take, List.length_drop, h.len]; omega, by have := h.cap; omega, by have := h.max; omega, fun e => by
    exfalso
    unfold cutAt at e
    split at e <;> cases e⟩
theorem Ia.far {w w' : World} {A : Option Addr} {n c g : Nat} {V : List Int} (hi : Ia w A n c V) (k : Kept (fun i => i = g) w w') (h : 0 < n → ∀ b off, A = some ⟨b, off, none⟩ → b ≠ g) : Ia w' A n c V :=
  ⟨hi.len, hi.cap, hi.max, hi.nil, fun h0 => by
    obtain ⟨b, off, e, hb, hc⟩ := hi.at_ h0
    exact ⟨b, off, e, Nat.lt_of_lt_of_le hb k.size, fun i hi => (k.cell (p := ⟨b, off + i, none⟩) hb (h h0 b off e)).trans (hc i hi)⟩⟩
theorem KnR.far {wd wc w6 w7 : World} {K1 K2 : Kv} {X1 X2 : Nat → Value} {g : Nat} (h : KnR w6 K2 X2) (hf : Fr wc.heap.size X1 X2) (h1 : KnR wd K1 X1) (hg : wd.heap.size ≤ g) (hg' : g < wc.heap.size) (k : Kept (fun i => i = g) w6 w7) : KnR w7 K2 X2 :=
  ⟨h.wt, h.one, fun j hj => by
    obtain ⟨A, n, c, e, hi⟩ := h.sl j hj
    refine ⟨A, n, c, e, hi.far k (fun h0 b off ea => ?_)⟩
    rcases hf j hj with e1 | e1
    · obtain ⟨A', n', c', e', hi'⟩ := h1.sl j hj
      rw [← e1, e] at e'
      injection e' with ea' en ec
      subst ea' en ec
      obtain ⟨b', off', e2, hb, _⟩ := hi'.at_ h0
      rw [ea] at e2
      cases e2
      omega
    · subst ea
      have := e1 b off n c e
      omega⟩
theorem KnR.kept_new {w6 wg w7 : World} {K2 : Kv} {X2 : Nat → Value} {g : Nat} (h : KnR w6 K2 X2) (k6 : Below w6.heap.size w6 wg) (hg : w6.heap.size ≤ g) (k : Kept (fun i => i = g) wg w7) : KnR w7 K2 X2 :=
  ⟨h.wt, h.one, fun j hj => by
    obtain ⟨A, n, c, e, hi⟩ := h.sl j hj
    refine ⟨A, n, c, e, (hi.on k6).far k (fun h0 b off ea => ?_)⟩
    obtain ⟨b', off', e2, hb, _⟩ := hi.at_ h0
    rw [ea] at e2
    cases e2
    omega⟩
/-- what the reference's Read answers -/
def RefReadY (w : World) (r : Kv × Int) (e : Ending) (w' : World) : Prop := ∃ X', e = .returned (.tuple #[kvV r.1 X', .int .i64 r.2]) ∧ KnR w' r.1 X' ∧ Below w.heap.size w w'
set_option maxRecDepth 10000 in
set_option maxHeartbeats 25600000 in
theorem refRead_any (w : World) (Ks : Nat → Prop) (A : Option Addr) (n c : Nat) (l : List Int) (K : Kv) (X : Nat → Value) (hl : Sl w Ks A n c l) (hn : n ≤ 100000) (hK : KnR w K X) : Calls Tryd.prog 19 #[.slice A n c, kvV K X] w (RefReadY w (readF l K)) := by
  obtain ⟨C, hC⟩ : ∃ C, C = (kvC K X).toArray := ⟨_, rfl⟩
  have eC : kvV K X = .agg C := by rw [hC]; rfl
  rw [eC]
  obtain ⟨Z, hZ⟩ : ∃ Z, Z = (kvC kz X0).toArray := ⟨_, rfl⟩
  have hz' : ∀ w, (zeroValue 46).run Tryd.prog w = .ok (.agg Z) w := fun w => by rw [hZ]; exact zero46 w
  have hbz : ∀ w, (Instr.build 46 #[]).run Tryd.prog w = .ok (.agg Z) w := fun w => by rw [hZ]; exact build46 w
  obtain ⟨w2, hw2, b0, b1, k2, hs2⟩ := kv_made w C Z
  rw [hC] at b0
  have HZ := Lib.hid (And.intro hZ (show Z.size = 210 by rw [hZ, kvC_size]))
  obtain ⟨R, hR⟩ : ∃ R, R = readF l K := ⟨_, rfl⟩
  rw [← hR]
  have HR := Lib.hid hR
  have HW := Lib.hid (And.intro hw2 (And.intro hs2 (And.intro (show Rsp w w2 K X Z l A n c from ⟨b0, b1, k2, hl.low.kept (Kept.of_below k2 (fun _ => False)) (fun _ _ h => h), hK.kna.on k2⟩) eC)))
  have hlen := hl.len
  have hcap := hl.cap
  have HFit := Lib.hid hl.bts.fit
  have hmax : c ≤ 9223372036854775807 := by have := hl.max; simp only [maxLen] at this; omega
  clear hw2 b0 b1 k2 hs2 hC hZ eC hl hK hR
  go_enter Tryd.func19, Tryd.ntmps19
  go_upto_region 1 with fail
  rw [HW.out.1]
  go_upto_region 2 with (first
    | ((with_reducible refine wpList_store_kv (o := ⟨none, _, _, _, _, _⟩) rfl (.tmp 6) (.tmp 12) rfl rfl w2.heap.size kz X0 (fun _ => rfl) rfl ?hy Z (Box.made _ _ _) HZ.out.2 ?_)
       case hy => rw [HZ.out.1]; rfl
       intro w3 b3 k3
       have H3 := Lib.hid (And.intro b3 k3)
       clear b3 k3)
    | fail)
  have kk : Below w2.heap.size w2 w3 := (on_alloc w2 (.cells Z 46)).trans (H3.out.2.below (by simp) (fun i hi e => by omega))
  have bn3 : Box w3 (w.heap.size + 1 + 1) 46 Z := by have := H3.out.1; rw [← HZ.out.1, HW.out.2.1] at this; exact this
  have S3 := Lib.hid (And.intro (HW.out.2.2.1.on kk) bn3)
  rw [HW.out.2.1]
  clear kk bn3 H3
  have b0 := S3.out.1.kv
  have f0 : w3.cell? ⟨w.heap.size, 196, none⟩ = some (.bool (K.F 0)) := b0.kvF (k := 0) (by omega)
  obtain ⟨q0, e0⟩ : ∃ q, q = K.F 0 := ⟨_, rfl⟩
  have f1 : w3.cell? ⟨w.heap.size, 197, none⟩ = some (.bool (K.F 1)) := b0.kvF (k := 1) (by omega)
  obtain ⟨q1, e1⟩ : ∃ q, q = K.F 1 := ⟨_, rfl⟩
  have f2 : w3.cell? ⟨w.heap.size, 198, none⟩ = some (.bool (K.F 2)) := b0.kvF (k := 2) (by omega)
  obtain ⟨q2, e2⟩ : ∃ q, q = K.F 2 := ⟨_, rfl⟩
  have f3 : w3.cell? ⟨w.heap.size, 199, none⟩ = some (.bool (K.F 3)) := b0.kvF (k := 3) (by omega)
  obtain ⟨q3, e3⟩ : ∃ q, q = K.F 3 := ⟨_, rfl⟩
  have f4 : w3.cell? ⟨w.heap.size, 200, none⟩ = some (.bool (K.F 4)) := b0.kvF (k := 4) (by omega)
  obtain ⟨q4, e4⟩ : ∃ q, q = K.F 4 := ⟨_, rfl⟩
  have f5 : w3.cell? ⟨w.heap.size, 201, none⟩ = some (.bool (K.F 5)) := b0.kvF (k := 5) (by omega)
  obtain ⟨q5, e5⟩ : ∃ q, q = K.F 5 := ⟨_, rfl⟩
  obtain ⟨Tc, eTc⟩ : ∃ v, v = (tbC K.tb X).toArray := ⟨_, rfl⟩
  have eT : Value.agg Tc = tbV K.tb X := by rw [eTc]; rfl
  obtain ⟨D, hD⟩ : ∃ D, D = (kvC K.old X).toArray := ⟨_, rfl⟩
  have hb := fun w => build_old w K X
  rw [← e0, ← e1, ← e2, ← e3, ← e4, ← e5, ← eT, show kvV K.old X = .agg D by rw [hD]; rfl] at hb
  rw [← e0] at f0
  rw [← e1] at f1
  rw [← e2] at f2
  rw [← e3] at f3
  rw [← e4] at f4
  rw [← e5] at f5
  have hld : (Instr.loadAt 31 (.pointer (some ⟨w.heap.size, 0, none⟩))).run Tryd.prog w3 = .ok (.agg Tc) w3 := by rw [eT]; exact b0.kvtb.load
  have HLd := Lib.hid (And.intro hld (And.intro hb hD))
  clear e0 e1 e2 e3 e4 e5 eTc eT hb hld hD b0
  go_upto_region 3 with (first
    | (with_reducible refine wpList_load_to (op := ⟨some 14, _, _, _, _, _⟩) rfl 31 (.tmp 13) rfl (.pointer (some ⟨w.heap.size, 0, none⟩)) rfl (.agg Tc) HLd.out.1 ?_)
    | (with_reducible refine wpList_build_to (op := ⟨some 21, _, _, _, _, _⟩) rfl 46 _ rfl (.agg D) #[(0, .agg Tc), (1, .agg #[.bool q0, .bool q1]), (2, .agg #[.bool q2, .bool q3]), (3, .agg #[.bool q4, .bool q5])] (by simp [Act.eval]) (HLd.out.2.1 _) ?_)
    | ((with_reducible refine wpList_store_kv (o := ⟨none, _, _, _, _, _⟩) rfl (.tmp 3) (.tmp 21) rfl rfl w.heap.size K.old X S3.out.1.kn.one rfl ?hy (kvC K X).toArray S3.out.1.kv (kvC_size _ _) ?_)
       case hy => rw [HLd.out.2.2]; rfl
       intro w4 b4 k4
       have H4 := Lib.hid (And.intro b4 k4)
       clear b4 k4)
    | fail)
  have S4 := Lib.hid (show Rsp w w4 K.old X Z l A n c ∧ Box w4 (w.heap.size + 1 + 1) 46 Z from ⟨S3.out.1.turn H4.out.1 H4.out.2 ((show KnA w.heap.size w3 K.old X from ⟨S3.out.1.kn.wt, S3.out.1.kn.one, S3.out.1.kn.sl⟩).kept (H4.out.2.mono (fun i _ e => Or.inl e))), H4.out.2.box S3.out.2 (by omega)⟩)
  clear f0 f1 f2 f3 f4 f5 H4 HLd S3
  by_cases hn2 : n < 2
  · have hn2' : (n : Int) < 2 := by omega
    have HRn := Lib.hid (show R = (kz, 3) by rw [HR.out]; unfold readF; rw [if_pos (by omega)])
    have HLN := Lib.hid (show (Instr.loadAt 46 (.pointer (some ⟨w.heap.size + 1 + 1, 0, none⟩))).run Tryd.prog w4 = .ok (.agg Z) w4 by rw [HZ.out.1]; exact (show Box w4 (w.heap.size + 1 + 1) 46 (kvC kz X0).toArray by rw [← HZ.out.1]; exact S4.out.2).loadK)
    go_wp2_with (first
      | (with_reducible refine wpList_load_to (op := ⟨some 25, _, _, _, _, _⟩) rfl 46 (.tmp 6) rfl (.pointer (some ⟨w.heap.size + 1 + 1, 0, none⟩)) rfl (.agg Z) HLN.out ?_)
      | ((with_reducible refine wpList_store_kv (o := ⟨none, _, _, _, _, _⟩) rfl (.tmp 4) (.tmp 25) rfl rfl (w.heap.size + 1) kz X0 (fun _ => rfl) rfl ?hy Z S4.out.1.res HZ.out.2 ?_)
         case hy => rw [HZ.out.1]; rfl
         intro w9 b9 k9
         have H9 := Lib.hid (And.intro b9 k9)
         clear b9 k9)
      | fail)
    refine bodyPost_ret (v := .tuple #[kvV kz X0, .int .i64 3]) (results_ct (fn := Tryd.f19) Tryd.results19 _ _ (w.heap.size + 1) _ _ rfl rfl (loadVar_kv H9.out.1)) rfl ?_
    exact ⟨X0, by rw [HRn.out], by rw [HRn.out]; exact (kz_kno 0 _).knr, S4.out.1.bel.trans (H9.out.2.below S4.out.1.bel.size (fun i hi e => by omega))⟩
  have hn2' : ¬ (n : Int) < 2 := by omega
  obtain ⟨b, off, hA, q1⟩ := S4.out.1.sl.get (show 1 < n by omega)
  subst hA
  have q0 : w4.cell? ⟨b, off, none⟩ = some (.int .u8 (l.getD 0 0)) := by
    obtain ⟨b', off', hA, q0⟩ := S4.out.1.sl.get (show 0 < n by omega)
    cases hA
    exact q0
  have hn0 : (0 : Int) < (n : Int) := by omega
  have hn1 : (1 : Int) < (n : Int) := by omega
  obtain ⟨z0, hz0⟩ : ∃ z, z = l.getD 0 0 := ⟨_, rfl⟩
  obtain ⟨z1, hz1⟩ : ∃ z, z = l.getD 1 0 := ⟨_, rfl⟩
  rw [← hz0] at q0
  rw [← hz1] at q1
  have Hzz := Lib.hid (And.intro hz0 hz1)
  clear hz0 hz1
  by_cases h0 : ¬ z0 = 255
  · have h0' : (z0 != 255) = true := by simpa using h0
    have h0'' : (z0 == 255) = false := by simpa using h0
    have HRn := Lib.hid (show R = (kz, 4) by rw [HR.out]; unfold readF; rw [if_neg (by omega), if_pos (.inl (by rw [← Hzz.out.1]; exact h0))])
    have HLN := Lib.hid (show (Instr.loadAt 46 (.pointer (some ⟨w.heap.size + 1 + 1, 0, none⟩))).run Tryd.prog w4 = .ok (.agg Z) w4 by rw [HZ.out.1]; exact (show Box w4 (w.heap.size + 1 + 1) 46 (kvC kz X0).toArray by rw [← HZ.out.1]; exact S4.out.2).loadK)
    go_wp2_with (first
      | (with_reducible refine wpList_load_to (op := ⟨some 36, _, _, _, _, _⟩) rfl 46 (.tmp 6) rfl (.pointer (some ⟨w.heap.size + 1 + 1, 0, none⟩)) rfl (.agg Z) HLN.out ?_)
      | ((with_reducible refine wpList_store_kv (o := ⟨none, _, _, _, _, _⟩) rfl (.tmp 4) (.tmp 36) rfl rfl (w.heap.size + 1) kz X0 (fun _ => rfl) rfl ?hy Z S4.out.1.res HZ.out.2 ?_)
         case hy => rw [HZ.out.1]; rfl
         intro w9 b9 k9
         have H9 := Lib.hid (And.intro b9 k9)
         clear b9 k9)
      | fail)
    refine bodyPost_ret (v := .tuple #[kvV kz X0, .int .i64 4]) (results_ct (fn := Tryd.f19) Tryd.results19 _ _ (w.heap.size + 1) _ _ rfl rfl (loadVar_kv H9.out.1)) rfl ?_
    exact ⟨X0, by rw [HRn.out], by rw [HRn.out]; exact (kz_kno 0 _).knr, S4.out.1.bel.trans (H9.out.2.below S4.out.1.bel.size (fun i hi e => by omega))⟩
  have h0' : z0 = 255 := by omega
  subst h0'
  by_cases h1 : ¬ z1 = 216
  · have h1' : (z1 != 216) = true := by simpa using h1
    have h1'' : (z1 == 216) = false := by simpa using h1
    have HRn := Lib.hid (show R = (kz, 4) by rw [HR.out]; unfold readF; rw [if_neg (by omega), if_pos (.inr (by rw [← Hzz.out.2]; exact h1))])
    have HLN := Lib.hid (show (Instr.loadAt 46 (.pointer (some ⟨w.heap.size + 1 + 1, 0, none⟩))).run Tryd.prog w4 = .ok (.agg Z) w4 by rw [HZ.out.1]; exact (show Box w4 (w.heap.size + 1 + 1) 46 (kvC kz X0).toArray by rw [← HZ.out.1]; exact S4.out.2).loadK)
    go_wp2_with (first
      | (with_reducible refine wpList_load_to (op := ⟨some 36, _, _, _, _, _⟩) rfl 46 (.tmp 6) rfl (.pointer (some ⟨w.heap.size + 1 + 1, 0, none⟩)) rfl (.agg Z) HLN.out ?_)
      | ((with_reducible refine wpList_store_kv (o := ⟨none, _, _, _, _, _⟩) rfl (.tmp 4) (.tmp 36) rfl rfl (w.heap.size + 1) kz X0 (fun _ => rfl) rfl ?hy Z S4.out.1.res HZ.out.2 ?_)
         case hy => rw [HZ.out.1]; rfl
         intro w9 b9 k9
         have H9 := Lib.hid (And.intro b9 k9)
         clear b9 k9)
      | fail)
    refine bodyPost_ret (v := .tuple #[kvV kz X0, .int .i64 4]) (results_ct (fn := Tryd.f19) Tryd.results19 _ _ (w.heap.size + 1) _ _ rfl rfl (loadVar_kv H9.out.1)) rfl ?_
    exact ⟨X0, by rw [HRn.out], by rw [HRn.out]; exact (kz_kno 0 _).knr, S4.out.1.bel.trans (H9.out.2.below S4.out.1.bel.size (fun i hi e => by omega))⟩
  have h1' : z1 = 216 := by omega
  subst h1'
  have hRL : R = rdLoop (l.length + 1) (l.drop 2) ((2 : Nat) : Int) K.old := by
    rw [HR.out]
    unfold readF
    rw [if_neg (by omega), if_neg (by rw [← Hzz.out.1, ← Hzz.out.2]; omega)]
    rfl
  have HRL := Lib.hid hRL
  clear hRL h0 h1
  go_wp2_with fail
  clear q0 q1
  go_loopw [7] (fun i wr => ∃ (p f : Nat) (K1 : Kv) (X1 : Nat → Value), p ≤ n ∧ n - p < f ∧ i = .int .i64 ((p : Nat) : Int) ∧ R = rdLoop f (l.drop p) (p : Int) K1 ∧ Rsp w wr K1 X1 Z l (some ⟨b, off, none⟩) n c ∧ Box wr (w.heap.size + 1 + 1) 46 Z) (fun i _ => n - (intOf i).toNat)
  case atStart => exact ⟨2, l.length + 1, K.old, X, by omega, by omega, rfl, HRL.out, S4.out⟩
  case round =>
    clear HRL S4
    obtain ⟨p, f, K1, X1, hp, hpf, rfl, hRL, hS⟩ := hrel
    obtain ⟨f', rfl⟩ : ∃ f', f = f' + 1 := ⟨f - 1, by omega⟩
    rw [refStep f' l p K1 HFit.out (by omega)] at hRL
    have HRL := Lib.hid hRL
    have HS := Lib.hid hS
    clear hRL hS
    by_cases hp1 : n ≤ p
    · have hp1' : (n : Int) ≤ (p : Int) := by omega
      have HRn := Lib.hid (show R = (kz, 3) by rw [HRL.out, if_pos (by omega)])
      have HLN := Lib.hid (show (Instr.loadAt 46 (.pointer (some ⟨w.heap.size + 1 + 1, 0, none⟩))).run Tryd.prog wr = .ok (.agg Z) wr by rw [HZ.out.1]; exact (show Box wr (w.heap.size + 1 + 1) 46 (kvC kz X0).toArray by rw [← HZ.out.1]; exact HS.out.2).loadK)
      go_wp2_with (first
        | (with_reducible refine wpList_load_to (op := ⟨some 41, _, _, _, _, _⟩) rfl 46 (.tmp 6) rfl (.pointer (some ⟨w.heap.size + 1 + 1, 0, none⟩)) rfl (.agg Z) HLN.out ?_)
        | ((with_reducible refine wpList_store_kv (o := ⟨none, _, _, _, _, _⟩) rfl (.tmp 4) (.tmp 41) rfl rfl (w.heap.size + 1) kz X0 (fun _ => rfl) rfl ?hy Z HS.out.1.res HZ.out.2 ?_)
           case hy => rw [HZ.out.1]; rfl
           intro w9 b9 k9
           have H9 := Lib.hid (And.intro b9 k9)
           clear b9 k9)
        | fail)
      refine bodyPost_ret (v := .tuple #[kvV kz X0, .int .i64 3]) (results_ct (fn := Tryd.f19) Tryd.results19 _ _ (w.heap.size + 1) _ _ rfl rfl (loadVar_kv H9.out.1)) rfl ?_
      exact ⟨X0, by rw [HRn.out], by rw [HRn.out]; exact (kz_kno 0 _).knr, HS.out.1.bel.trans (H9.out.2.below HS.out.1.bel.size (fun i hi e => by omega))⟩
    have hp1' : (p : Int) < (n : Int) := by omega
    have hp1n : ¬ (n : Int) ≤ (p : Int) := by omega
    have d0 : wr.cell? ⟨b, off + p, none⟩ = some (.int .u8 (l.getD p 0)) := by
      obtain ⟨b', off', hA, q0⟩ := HS.out.1.sl.get (show p < n by omega)
      cases hA
      exact q0
    obtain ⟨z0, hz0⟩ : ∃ z, z = l.getD p 0 := ⟨_, rfl⟩
    rw [← hz0] at d0 HRL
    clear hz0
    by_cases h0 : ¬ z0 = 255
    · have h0' : (z0 != 255) = true := by simpa using h0
      have h0'' : (z0 == 255) = false := by simpa using h0
      have HRn := Lib.hid (show R = (kz, 7) by rw [HRL.out, if_neg (by omega), if_pos h0])
      have HLN := Lib.hid (show (Instr.loadAt 46 (.pointer (some ⟨w.heap.size + 1 + 1, 0, none⟩))).run Tryd.prog wr = .ok (.agg Z) wr by rw [HZ.out.1]; exact (show Box wr (w.heap.size + 1 + 1) 46 (kvC kz X0).toArray by rw [← HZ.out.1]; exact HS.out.2).loadK)
      go_wp2_with (first
        | (with_reducible refine wpList_load_to (op := ⟨some 47, _, _, _, _, _⟩) rfl 46 (.tmp 6) rfl (.pointer (some ⟨w.heap.size + 1 + 1, 0, none⟩)) rfl (.agg Z) HLN.out ?_)
        | ((with_reducible refine wpList_store_kv (o := ⟨none, _, _, _, _, _⟩) rfl (.tmp 4) (.tmp 47) rfl rfl (w.heap.size + 1) kz X0 (fun _ => rfl) rfl ?hy Z HS.out.1.res HZ.out.2 ?_)
           case hy => rw [HZ.out.1]; rfl
           intro w9 b9 k9
           have H9 := Lib.hid (And.intro b9 k9)
           clear b9 k9)
        | fail)
      refine bodyPost_ret (v := .tuple #[kvV kz X0, .int .i64 7]) (results_ct (fn := Tryd.f19) Tryd.results19 _ _ (w.heap.size + 1) _ _ rfl rfl (loadVar_kv H9.out.1)) rfl ?_
      exact ⟨X0, by rw [HRn.out], by rw [HRn.out]; exact (kz_kno 0 _).knr, HS.out.1.bel.trans (H9.out.2.below HS.out.1.bel.size (fun i hi e => by omega))⟩
    have h0' : z0 = 255 := by omega
    subst h0'
    clear h0
    by_cases hp2 : n ≤ p + 1
    · have hp2' : (n : Int) ≤ (p : Int) + 1 := by omega
      have HRn := Lib.hid (show R = (kz, 3) by rw [HRL.out, if_neg (by omega), if_neg (by simp), if_pos (by omega)])
      have HLN := Lib.hid (show (Instr.loadAt 46 (.pointer (some ⟨w.heap.size + 1 + 1, 0, none⟩))).run Tryd.prog wr = .ok (.agg Z) wr by rw [HZ.out.1]; exact (show Box wr (w.heap.size + 1 + 1) 46 (kvC kz X0).toArray by rw [← HZ.out.1]; exact HS.out.2).loadK)
      go_wp2_with (first
        | (with_reducible refine wpList_load_to (op := ⟨some 53, _, _, _, _, _⟩) rfl 46 (.tmp 6) rfl (.pointer (some ⟨w.heap.size + 1 + 1, 0, none⟩)) rfl (.agg Z) HLN.out ?_)
        | ((with_reducible refine wpList_store_kv (o := ⟨none, _, _, _, _, _⟩) rfl (.tmp 4) (.tmp 53) rfl rfl (w.heap.size + 1) kz X0 (fun _ => rfl) rfl ?hy Z HS.out.1.res HZ.out.2 ?_)
           case hy => rw [HZ.out.1]; rfl
           intro w9 b9 k9
           have H9 := Lib.hid (And.intro b9 k9)
           clear b9 k9)
        | fail)
      refine bodyPost_ret (v := .tuple #[kvV kz X0, .int .i64 3]) (results_ct (fn := Tryd.f19) Tryd.results19 _ _ (w.heap.size + 1) _ _ rfl rfl (loadVar_kv H9.out.1)) rfl ?_
      exact ⟨X0, by rw [HRn.out], by rw [HRn.out]; exact (kz_kno 0 _).knr, HS.out.1.bel.trans (H9.out.2.below HS.out.1.bel.size (fun i hi e => by omega))⟩
    have hp2' : (p : Int) + 1 < (n : Int) := by omega
    have hp2n : ¬ (n : Int) ≤ (p : Int) + 1 := by omega
    have d1 : wr.cell? ⟨b, off + (p + 1), none⟩ = some (.int .u8 (l.getD (p + 1) 0)) := by
      obtain ⟨b', off', hA, q0⟩ := HS.out.1.sl.get (show p + 1 < n by omega)
      cases hA
      exact q0
    have hm := HFit.out.getD (p + 1)
    obtain ⟨m, hm0⟩ : ∃ z, z = l.getD (p + 1) 0 := ⟨_, rfl⟩
    rw [← hm0] at d1 HRL hm
    clear hm0
    obtain ⟨hma, hmb⟩ := hm
    have et1 : ((p : Int) + 1).toNat = p + 1 := by omega
    have e01 : (0 : Int) ≤ (p : Int) + 1 := by omega
    by_cases hm217 : m = 217
    · subst hm217
      by_cases hp3 : p + 2 < n
      · have hp3' : (p : Int) + 2 < (n : Int) := by omega
        have HRn := Lib.hid (show R = (kz, 5) by rw [HRL.out, if_neg (by omega), if_neg (by simp), if_neg (by omega), if_pos rfl, if_pos (by omega)])
        have HLN := Lib.hid (show (Instr.loadAt 46 (.pointer (some ⟨w.heap.size + 1 + 1, 0, none⟩))).run Tryd.prog wr = .ok (.agg Z) wr by rw [HZ.out.1]; exact (show Box wr (w.heap.size + 1 + 1) 46 (kvC kz X0).toArray by rw [← HZ.out.1]; exact HS.out.2).loadK)
        go_wp2_with (first
          | (with_reducible refine wpList_load_to (op := ⟨some 67, _, _, _, _, _⟩) rfl 46 (.tmp 6) rfl (.pointer (some ⟨w.heap.size + 1 + 1, 0, none⟩)) rfl (.agg Z) HLN.out ?_)
          | ((with_reducible refine wpList_store_kv (o := ⟨none, _, _, _, _, _⟩) rfl (.tmp 4) (.tmp 67) rfl rfl (w.heap.size + 1) kz X0 (fun _ => rfl) rfl ?hy Z HS.out.1.res HZ.out.2 ?_)
             case hy => rw [HZ.out.1]; rfl
             intro w9 b9 k9
             have H9 := Lib.hid (And.intro b9 k9)
             clear b9 k9)
          | fail)
        refine bodyPost_ret (v := .tuple #[kvV kz X0, .int .i64 5]) (results_ct (fn := Tryd.f19) Tryd.results19 _ _ (w.heap.size + 1) _ _ rfl rfl (loadVar_kv H9.out.1)) rfl ?_
        exact ⟨X0, by rw [HRn.out], by rw [HRn.out]; exact (kz_kno 0 _).knr, HS.out.1.bel.trans (H9.out.2.below HS.out.1.bel.size (fun i hi e => by omega))⟩
      have hp3' : ¬ (p : Int) + 2 < (n : Int) := by omega
      have HRn := Lib.hid (show R = (K1.setF 8 true, 0) by rw [HRL.out, if_neg (by omega), if_neg (by simp), if_neg (by omega), if_pos rfl, if_neg (by omega)])
      have c204 : wr.cell? ⟨w.heap.size, 204, none⟩ = some (.bool (K1.F 8)) := HS.out.1.kv.kvF (k := 8) (by omega)
      have f204 : wr.frozen? ⟨w.heap.size, 204, none⟩ = false := HS.out.1.kv.free 204
      obtain ⟨o8, ho8⟩ : ∃ o, o = K1.F 8 := ⟨_, rfl⟩
      rw [← ho8] at c204
      obtain ⟨w5, hw5⟩ : ∃ x, wr.setCell ⟨w.heap.size, 204, none⟩ (.bool true) = x := ⟨_, rfl⟩
      have k5 : Kept (fun i => i = w.heap.size) wr w5 := by rw [← hw5]; exact (Kept.refl (fun i => i = w.heap.size) wr).setCell (p := ⟨w.heap.size, 204, none⟩) (fun _ => rfl) _
      have S5 := Lib.hid (show Rsp w w5 (K1.setF 8 true) X1 Z l (some ⟨b, off, none⟩) n c from HS.out.1.turn (by rw [← hw5]; exact HS.out.1.kv.putF (i := 8) (by omega) true) k5 ((HS.out.1.kn.setF 8 true).kept (k5.mono (fun i _ e => Or.inl e))))
      obtain ⟨VK, hVK⟩ : ∃ V, V = kvV (K1.setF 8 true) X1 := ⟨_, rfl⟩
      have HVK := Lib.hid (And.intro hVK (show (Instr.loadAt 46 (.pointer (some ⟨w.heap.size, 0, none⟩))).run Tryd.prog w5 = .ok VK w5 by rw [hVK]; exact S5.out.kv.loadK))
      clear ho8 k5 hVK
      go_wp2_with (first
        | (with_reducible refine wpList_load_to (op := ⟨some 69, _, _, _, _, _⟩) rfl 46 (.tmp 3) rfl (.pointer (some ⟨w.heap.size, 0, none⟩)) rfl VK HVK.out.2 ?_)
        | ((with_reducible refine wpList_store_kv (o := ⟨none, _, _, _, _, _⟩) rfl (.tmp 4) (.tmp 69) rfl rfl (w.heap.size + 1) (K1.setF 8 true) X1 S5.out.kn.one rfl ?hy Z S5.out.res HZ.out.2 ?_)
           case hy => exact HVK.out.1
           intro w9 b9 k9
           have H9 := Lib.hid (And.intro b9 k9)
           clear b9 k9)
        | fail)
      refine bodyPost_ret (v := .tuple #[kvV (K1.setF 8 true) X1, .int .i64 0]) (results_ct (fn := Tryd.f19) Tryd.results19 _ _ (w.heap.size + 1) _ _ rfl rfl (loadVar_kv H9.out.1)) rfl ?_
      exact ⟨X1, by rw [HRn.out], by rw [HRn.out]; exact (S5.out.kn.kept (H9.out.2.mono (fun i _ e => Or.inr e))).knr, S5.out.bel.trans (H9.out.2.below S5.out.bel.size (fun i hi e => by omega))⟩
    have hm217' : (m == 217) = false := by simpa using hm217
    have HKn := Lib.hid (known_any wr m)
    go_wp2_with fail
    refine Calls.mono HKn.out ?_
    rintro e w5 ⟨rfl, rfl⟩
    clear HKn
    by_cases hmk : ¬ MarkOk m
    · rw [decide_eq_false hmk]
      have HRn := Lib.hid (show R = (kz, 7) by rw [HRL.out, if_neg (by omega), if_neg (by simp), if_neg (by omega), if_neg hm217, if_pos hmk])
      have HLN := Lib.hid (show (Instr.loadAt 46 (.pointer (some ⟨w.heap.size + 1 + 1, 0, none⟩))).run Tryd.prog wr = .ok (.agg Z) wr by rw [HZ.out.1]; exact (show Box wr (w.heap.size + 1 + 1) 46 (kvC kz X0).toArray by rw [← HZ.out.1]; exact HS.out.2).loadK)
      go_wp2_with (first
        | (with_reducible refine wpList_load_to (op := ⟨some 73, _, _, _, _, _⟩) rfl 46 (.tmp 6) rfl (.pointer (some ⟨w.heap.size + 1 + 1, 0, none⟩)) rfl (.agg Z) HLN.out ?_)
        | ((with_reducible refine wpList_store_kv (o := ⟨none, _, _, _, _, _⟩) rfl (.tmp 4) (.tmp 73) rfl rfl (w.heap.size + 1) kz X0 (fun _ => rfl) rfl ?hy Z HS.out.1.res HZ.out.2 ?_)
           case hy => rw [HZ.out.1]; rfl
           intro w9 b9 k9
           have H9 := Lib.hid (And.intro b9 k9)
           clear b9 k9)
        | fail)
      refine bodyPost_ret (v := .tuple #[kvV kz X0, .int .i64 7]) (results_ct (fn := Tryd.f19) Tryd.results19 _ _ (w.heap.size + 1) _ _ rfl rfl (loadVar_kv H9.out.1)) rfl ?_
      exact ⟨X0, by rw [HRn.out], by rw [HRn.out]; exact (kz_kno 0 _).knr, HS.out.1.bel.trans (H9.out.2.below HS.out.1.bel.size (fun i hi e => by omega))⟩
    have hmk' : MarkOk m := by simpa using hmk
    rw [decide_eq_true hmk']
    by_cases hp4 : n < p + 4
    · have hp4' : (n : Int) < (p : Int) + 4 := by omega
      have HRn := Lib.hid (show R = (kz, 3) by rw [HRL.out, if_neg (by omega), if_neg (by simp), if_neg (by omega), if_neg hm217, if_neg hmk, if_pos (by omega)])
      have HLN := Lib.hid (show (Instr.loadAt 46 (.pointer (some ⟨w.heap.size + 1 + 1, 0, none⟩))).run Tryd.prog wr = .ok (.agg Z) wr by rw [HZ.out.1]; exact (show Box wr (w.heap.size + 1 + 1) 46 (kvC kz X0).toArray by rw [← HZ.out.1]; exact HS.out.2).loadK)
      go_wp2_with (first
        | (with_reducible refine wpList_load_to (op := ⟨some 79, _, _, _, _, _⟩) rfl 46 (.tmp 6) rfl (.pointer (some ⟨w.heap.size + 1 + 1, 0, none⟩)) rfl (.agg Z) HLN.out ?_)
        | ((with_reducible refine wpList_store_kv (o := ⟨none, _, _, _, _, _⟩) rfl (.tmp 4) (.tmp 79) rfl rfl (w.heap.size + 1) kz X0 (fun _ => rfl) rfl ?hy Z HS.out.1.res HZ.out.2 ?_)
           case hy => rw [HZ.out.1]; rfl
           intro w9 b9 k9
           have H9 := Lib.hid (And.intro b9 k9)
           clear b9 k9)
        | fail)
      refine bodyPost_ret (v := .tuple #[kvV kz X0, .int .i64 3]) (results_ct (fn := Tryd.f19) Tryd.results19 _ _ (w.heap.size + 1) _ _ rfl rfl (loadVar_kv H9.out.1)) rfl ?_
      exact ⟨X0, by rw [HRn.out], by rw [HRn.out]; exact (kz_kno 0 _).knr, HS.out.1.bel.trans (H9.out.2.below HS.out.1.bel.size (fun i hi e => by omega))⟩
    have hp4' : ¬ (n : Int) < (p : Int) + 4 := by omega
    have d2 : wr.cell? ⟨b, off + (p + 2), none⟩ = some (.int .u8 (l.getD (p + 2) 0)) := by
      obtain ⟨b', off', hA, q0⟩ := HS.out.1.sl.get (show p + 2 < n by omega)
      cases hA
      exact q0
    have d3 : wr.cell? ⟨b, off + (p + 3), none⟩ = some (.int .u8 (l.getD (p + 3) 0)) := by
      obtain ⟨b', off', hA, q0⟩ := HS.out.1.sl.get (show p + 3 < n by omega)
      cases hA
      exact q0
    have hz2 := HFit.out.getD (p + 2)
    have hz3 := HFit.out.getD (p + 3)
    obtain ⟨z2, hz20⟩ : ∃ z, z = l.getD (p + 2) 0 := ⟨_, rfl⟩
    obtain ⟨z3, hz30⟩ : ∃ z, z = l.getD (p + 3) 0 := ⟨_, rfl⟩
    rw [← hz20] at d2 hz2 HRL
    rw [← hz30] at d3 hz3 HRL
    clear hz20 hz30
    obtain ⟨hz2a, hz2b⟩ := hz2
    obtain ⟨hz3a, hz3b⟩ := hz3
    have et2 : ((p : Int) + 2).toNat = p + 2 := by omega
    have e02 : (0 : Int) ≤ (p : Int) + 2 := by omega
    have el2 : (p : Int) + 2 < (n : Int) := by omega
    have et3 : ((p : Int) + 3).toNat = p + 3 := by omega
    have e03 : (0 : Int) ≤ (p : Int) + 3 := by omega
    have el3 : (p : Int) + 3 < (n : Int) := by omega
    obtain ⟨z, hz⟩ : ∃ z : Nat, (z : Int) = 256 * z2 + z3 := ⟨(256 * z2 + z3).toNat, by omega⟩
    have ew : IntKind.i64.wrap (IntKind.i64.wrap (256 * IntKind.i64.wrap z2) + IntKind.i64.wrap z3) = (z : Int) := by
      have a0 : IntKind.i64.wrap z2 = z2 := by simp [IntKind.wrap, IntKind.bits, IntKind.signed]; omega
      have a1 : IntKind.i64.wrap z3 = z3 := by simp [IntKind.wrap, IntKind.bits, IntKind.signed]; omega
      have a2 : IntKind.i64.wrap (256 * z2) = 256 * z2 := by simp [IntKind.wrap, IntKind.bits, IntKind.signed]; omega
      have a3 : IntKind.i64.wrap (256 * z2 + z3) = 256 * z2 + z3 := by simp [IntKind.wrap, IntKind.bits, IntKind.signed]; omega
      rw [a0, a1, a2, a3, hz]
    go_upto_region 24 with fail
    go_quiet (fail)
    obtain ⟨wd, hwd⟩ : ∃ x, wr.drewN nq = x := ⟨_, rfl⟩
    rw [hwd, ← hz]
    rw [← hz] at HRL
    have bd : Below wr.heap.size wr wd := by rw [← hwd]; exact below_drewN_refl _ _
    have HS5 := Lib.hid (show Rsp w wd K1 X1 Z l (some ⟨b, off, none⟩) n c ∧ Box wd (w.heap.size + 1 + 1) 46 Z from ⟨HS.out.1.on bd, HS.out.2.on bd⟩)
    have hzb : z ≤ 65535 := by omega
    have Hz := Lib.hid hz
    clear hz ew bd hwd d0 d1 d2 d3 HS et1 e01 et2 e02 el2 et3 e03 el3
    by_cases hz2 : z < 2
    · have hz2' : (z : Int) < 2 := by omega
      have HRn := Lib.hid (show R = (kz, 4) by rw [HRL.out, if_neg (by omega), if_neg (by simp), if_neg (by omega), if_neg hm217, if_neg hmk, if_neg (by omega), if_pos (by omega)])
      have HLN := Lib.hid (show (Instr.loadAt 46 (.pointer (some ⟨w.heap.size + 1 + 1, 0, none⟩))).run Tryd.prog wd = .ok (.agg Z) wd by rw [HZ.out.1]; exact (show Box wd (w.heap.size + 1 + 1) 46 (kvC kz X0).toArray by rw [← HZ.out.1]; exact HS5.out.2).loadK)
      go_wp2_with (first
        | (with_reducible refine wpList_load_to (op := ⟨some 96, _, _, _, _, _⟩) rfl 46 (.tmp 6) rfl (.pointer (some ⟨w.heap.size + 1 + 1, 0, none⟩)) rfl (.agg Z) HLN.out ?_)
        | ((with_reducible refine wpList_store_kv (o := ⟨none, _, _, _, _, _⟩) rfl (.tmp 4) (.tmp 96) rfl rfl (w.heap.size + 1) kz X0 (fun _ => rfl) rfl ?hy Z HS5.out.1.res HZ.out.2 ?_)
           case hy => rw [HZ.out.1]; rfl
           intro w9 b9 k9
           have H9 := Lib.hid (And.intro b9 k9)
           clear b9 k9)
        | fail)
      refine bodyPost_ret (v := .tuple #[kvV kz X0, .int .i64 4]) (results_ct (fn := Tryd.f19) Tryd.results19 _ _ (w.heap.size + 1) _ _ rfl rfl (loadVar_kv H9.out.1)) rfl ?_
      exact ⟨X0, by rw [HRn.out], by rw [HRn.out]; exact (kz_kno 0 _).knr, HS5.out.1.bel.trans (H9.out.2.below HS5.out.1.bel.size (fun i hi e => by omega))⟩
    have hz2' : ¬ (z : Int) < 2 := by omega
    by_cases hpz : n < p + 2 + z
    · have hpz' : (n : Int) < (p : Int) + 2 + (z : Int) := by omega
      have HRn := Lib.hid (show R = (kz, 3) by rw [HRL.out, if_neg (by omega), if_neg (by simp), if_neg (by omega), if_neg hm217, if_neg hmk, if_neg (by omega), if_neg (by omega), if_pos (by omega)])
      have HLN := Lib.hid (show (Instr.loadAt 46 (.pointer (some ⟨w.heap.size + 1 + 1, 0, none⟩))).run Tryd.prog wd = .ok (.agg Z) wd by rw [HZ.out.1]; exact (show Box wd (w.heap.size + 1 + 1) 46 (kvC kz X0).toArray by rw [← HZ.out.1]; exact HS5.out.2).loadK)
      go_wp2_with (first
        | (with_reducible refine wpList_load_to (op := ⟨some 104, _, _, _, _, _⟩) rfl 46 (.tmp 6) rfl (.pointer (some ⟨w.heap.size + 1 + 1, 0, none⟩)) rfl (.agg Z) HLN.out ?_)
        | ((with_reducible refine wpList_store_kv (o := ⟨none, _, _, _, _, _⟩) rfl (.tmp 4) (.tmp 104) rfl rfl (w.heap.size + 1) kz X0 (fun _ => rfl) rfl ?hy Z HS5.out.1.res HZ.out.2 ?_)
           case hy => rw [HZ.out.1]; rfl
           intro w9 b9 k9
           have H9 := Lib.hid (And.intro b9 k9)
           clear b9 k9)
        | fail)
      refine bodyPost_ret (v := .tuple #[kvV kz X0, .int .i64 3]) (results_ct (fn := Tryd.f19) Tryd.results19 _ _ (w.heap.size + 1) _ _ rfl rfl (loadVar_kv H9.out.1)) rfl ?_
      exact ⟨X0, by rw [HRn.out], by rw [HRn.out]; exact (kz_kno 0 _).knr, HS5.out.1.bel.trans (H9.out.2.below HS5.out.1.bel.size (fun i hi e => by omega))⟩
    have hpz' : ¬ (n : Int) < (p : Int) + 2 + (z : Int) := by omega
    obtain ⟨ls, hls⟩ : ∃ x, x = (l.drop (p + 4)).take (z - 2) := ⟨_, rfl⟩
    obtain ⟨rb, hrb⟩ : ∃ x, x = rdBody m ls K1 := ⟨_, rfl⟩
    have hR2 := HRL.out
    rw [if_neg (by omega), if_neg (by simp), if_neg (by omega), if_neg hm217, if_neg hmk, if_neg (by omega), if_neg (by omega), if_neg (by omega), show ((z : Int) - 2).toNat = z - 2 by omega, ← hls, ← hrb] at hR2
    have HR2 := Lib.hid hR2
    obtain ⟨VK, hVK⟩ : ∃ V, V = kvV K1 X1 := ⟨_, rfl⟩
    have HLK := Lib.hid (fun (w' : World) (k : Below wd.heap.size wd w') => (show (Instr.loadAt 46 (.pointer (some ⟨w.heap.size, 0, none⟩))).run Tryd.prog w' = .ok VK w' by rw [hVK]; exact (HS5.out.1.on k).kv.loadK))
    have HBd := Lib.hid (fun (w' : World) (k : Below wd.heap.size wd w') => (show Calls Tryd.prog 43 #[.int .i64 m, .slice (cutAt (some ⟨b, off, none⟩) c (p + 4)) (p + 2 + z - (p + 4)) (c - (p + 4)), VK] w' (BodyY w' X1 rb) by
      rw [hVK, hrb, show p + 2 + z - (p + 4) = z - 2 by omega, hls]
      exact refBody_any w' _ K1 X1 _ (z - 2) _ _ ((HS5.out.1.on k).sl.sub (by omega)) (by omega) (HS5.out.1.on k).kn.knr m))
    clear hls hrb hR2 hVK HRL
    go_upto_region 29 with fail
    refine wp_region_held_drew (S := fun w' => Hid (Below wd.heap.size wd w')) (by kernel_rfl) (Lib.hid (on_drew wd)) fun s0 => ?_
    refine take_to (i := 0) (v := .int .i64 m) rfl (by kernel_rfl) (by kernel_rfl) (by kernel_rfl) (fun _ _ _ h => h) (Or.inl ⟨by rfl, fun w' hS => by go_simp⟩) s0 (some 106) rfl ?_
    simp only [Act.put, List.setIfInBounds_toArray, List.set_cons_zero, List.set_cons_succ]
    refine take_to (i := 1) (v := .slice (some ⟨b, off, none⟩) n c) rfl (by kernel_rfl) (by kernel_rfl) (by kernel_rfl) (fun _ _ _ h => h) (Or.inl ⟨by rfl, fun w' hS => by go_simp⟩) s0 (some 107) rfl ?_
    simp only [Act.put, List.setIfInBounds_toArray, List.set_cons_zero, List.set_cons_succ]
    refine take_to (i := 2) (v := .int .i64 (p : Int)) rfl (by kernel_rfl) (by kernel_rfl) (by kernel_rfl) (fun _ _ _ h => h) (Or.inl ⟨by rfl, fun w' hS => by go_simp⟩) s0 (some 108) rfl ?_
    simp only [Act.put, List.setIfInBounds_toArray, List.set_cons_zero, List.set_cons_succ]
    refine take_to (i := 3) (v := .int .i64 ((p : Int) + 4)) rfl (by kernel_rfl) (by kernel_rfl) (by kernel_rfl) (fun _ _ _ h => h) (Or.inl ⟨by rfl, fun w' hS => by go_simp; exact wrapI (by omega) (by omega)⟩) s0 (some 109) rfl ?_
    simp only [Act.put, List.setIfInBounds_toArray, List.set_cons_zero, List.set_cons_succ]
    refine take_to (i := 4) (v := .int .i64 (p : Int)) rfl (by kernel_rfl) (by kernel_rfl) (by kernel_rfl) (fun _ _ _ h => h) (Or.inl ⟨by rfl, fun w' hS => by go_simp⟩) s0 (some 110) rfl ?_
    simp only [Act.put, List.setIfInBounds_toArray, List.set_cons_zero, List.set_cons_succ]
    refine take_to (i := 5) (v := .int .i64 ((p : Int) + 2)) rfl (by kernel_rfl) (by kernel_rfl) (by kernel_rfl) (fun _ _ _ h => h) (Or.inl ⟨by rfl, fun w' hS => by go_simp; exact wrapI (by omega) (by omega)⟩) s0 (some 111) rfl ?_
    simp only [Act.put, List.setIfInBounds_toArray, List.set_cons_zero, List.set_cons_succ]
    refine take_to (i := 6) (v := .int .i64 (z : Int)) rfl (by kernel_rfl) (by kernel_rfl) (by kernel_rfl) (fun _ _ _ h => h) (Or.inl ⟨by rfl, fun w' hS => by go_simp⟩) s0 (some 112) rfl ?_
    simp only [Act.put, List.setIfInBounds_toArray, List.set_cons_zero, List.set_cons_succ]
    refine take_to (i := 7) (v := .int .i64 ((p : Int) + 2 + (z : Int))) rfl (by kernel_rfl) (by kernel_rfl) (by kernel_rfl) (fun _ _ _ h => h) (Or.inl ⟨by rfl, fun w' hS => by go_simp; exact wrapI (by omega) (by omega)⟩) s0 (some 113) rfl ?_
    simp only [Act.put, List.setIfInBounds_toArray, List.set_cons_zero, List.set_cons_succ]
    refine take_to (i := 8) rfl (by kernel_rfl) (by kernel_rfl) (by kernel_rfl) (fun _ _ _ h => h) (yieldsIf_slice (by rfl) _ _ _ rfl (some ⟨b, off, none⟩) n c (p + 4) (p + 2 + z) rfl (by rw [show ((p + 4 : Nat) : Int) = (p : Int) + 4 by omega]; rfl) (by rw [show ((p + 2 + z : Nat) : Int) = (p : Int) + 2 + (z : Int) by omega]; rfl) (by omega) (by omega)) s0 (some 114) rfl ?_
    simp only [Act.put, List.setIfInBounds_toArray, List.set_cons_zero, List.set_cons_succ]
    refine take_to (i := 9) rfl (by kernel_rfl) (by kernel_rfl) (by kernel_rfl) (fun _ _ _ h => h) (yieldsIf_load (by rfl) 46 _ rfl (.pointer (some ⟨w.heap.size, 0, none⟩)) rfl VK (fun w' hS => HLK.out w' hS.out)) s0 (some 115) rfl ?_
    simp only [Act.put, List.setIfInBounds_toArray, List.set_cons_zero, List.set_cons_succ]
    obtain ⟨wp, hwp⟩ : ∃ x : World, x = wd.drew := ⟨_, rfl⟩
    rw [← hwp] at s0 ⊢
    clear hwp
    refine wpAnyH_ready (rs := [10, 14]) (by kernel_rfl) (by simp) ?_
    refine AllReadyH.cons rfl (fun Kq hKq => ?_) (AllReadyH.cons rfl (fun Kq hKq => ?_) AllReadyH.nil)
    · go_simp
      obtain ⟨wc, hwc⟩ : ∃ x : World, x = wp := ⟨_, rfl⟩
      rw [← hwc] at s0 ⊢
      refine (HBd.out _ s0.out).mono ?_
      rintro e w6 ⟨K2, X2, ok, rfl, one2, b6, hd⟩
      have HD := Lib.hid (And.intro s0.out (And.intro b6 (And.intro hd one2)))
      have s6 := Lib.hid (on_trans s0.out b6)
      obtain ⟨VK2, hVK2⟩ : ∃ V, V = kvV K2 X2 := ⟨_, rfl⟩
      rw [← hVK2]
      have HVK2 := Lib.hid hVK2
      refine hKq.out _ _ s6 fun _ => ?_
      clear hKq Kq b6 s0 hd one2 hVK2
      have s0 := s6
      clear s6
      refine take_to (i := 11) (v := .tuple #[VK2, .bool ok]) rfl (by kernel_rfl) (by kernel_rfl) (by kernel_rfl) (fun _ _ _ h => h) (Or.inl ⟨by rfl, fun w' hS => by go_simp⟩) s0 (some 105) rfl ?_
      simp only [Act.put, List.setIfInBounds_toArray, List.set_cons_zero, List.set_cons_succ]
      refine take_to (i := 12) (v := VK2) rfl (by kernel_rfl) (by kernel_rfl) (by kernel_rfl) (fun _ _ _ h => h) (Or.inl ⟨by rfl, fun w' hS => by go_simp⟩) s0 (some 117) rfl ?_
      simp only [Act.put, List.setIfInBounds_toArray, List.set_cons_zero, List.set_cons_succ]
      refine take_to (i := 13) (v := .bool ok) rfl (by kernel_rfl) (by kernel_rfl) (by kernel_rfl) (fun _ _ _ h => h) (Or.inl ⟨by rfl, fun w' hS => by go_simp⟩) s0 (some 118) rfl ?_
      simp only [Act.put, List.setIfInBounds_toArray, List.set_cons_zero, List.set_cons_succ]
      refine wpAnyH_ready (rs := [14]) (by kernel_rfl) (by simp) ?_
      refine AllReadyH.cons rfl (fun Kq hKq => ?_) AllReadyH.nil
      go_simp
      obtain ⟨g10, hg10⟩ : ∃ g, g = w6.heap.size := ⟨_, rfl⟩
      obtain ⟨wg, hwg⟩ : ∃ x, w6.alloc (.cells Z 46) = x := ⟨_, rfl⟩
      have kg : Below w6.heap.size w6 wg := by rw [← hwg]; exact on_alloc _ _
      have hg5 : wd.heap.size ≤ g10 := by rw [hg10]; exact s0.out.size
      have hg6 : w6.heap.size ≤ g10 := by rw [hg10]; exact Nat.le_refl _
      have Hg10 := Lib.hid (show Box wg g10 46 Z by rw [← hwg, hg10]; exact Box.made _ _ _)
      have hgg : g10 < wg.heap.size := Hg10.out.lt
      have HKg := Lib.hid kg
      have s7 := Lib.hid (on_trans s0.out kg)
      rw [hwg, ← hg10]
      clear hwg hg10 kg
      refine hKq.out _ _ s7 fun _ => ?_
      clear hKq Kq s0
      have s0 := s7
      clear s7
      refine wpAnyH_ready (rs := [15]) (by kernel_rfl) (by simp) ?_
      refine AllReadyH.cons rfl (fun Kq hKq => ?_) AllReadyH.nil
      rw [if_pos (by rfl)]
      refine wp_store_kv _ _ rfl rfl g10 K2 X2 HD.out.2.2.2 rfl HVK2.out Z Hg10.out HZ.out.2 fun w7 b7 k7 => ?_
      have s8 := Lib.hid (show Below wd.heap.size wd w7 from s0.out.trans (k7.below s0.out.size (fun i hi e => by omega)))
      refine hKq.out _ _ s8 fun _ => ?_
      clear hKq Kq s0
      have s0 := s8
      refine take_to (i := 16) (v := .bool ok) rfl (by kernel_rfl) (by kernel_rfl) (by kernel_rfl) (fun _ _ _ h => h) (Or.inl ⟨by rfl, fun w' hS => by go_simp⟩) s0 (some 11) rfl ?_
      simp only [Act.put, List.setIfInBounds_toArray, List.set_cons_zero, List.set_cons_succ]
      refine wpAnyH_done (by kernel_rfl) ?_ _
      have H7 := Lib.hid (And.intro b7 (show KnR w6 K2 X2 → Fr wc.heap.size X1 X2 → KnR w7 K2 X2 from fun h _ => KnR.kept_new h HKg.out hg6 k7))
      have S7 := Lib.hid (show Rsp w w7 K1 X1 Z l (some ⟨b, off, none⟩) n c ∧ Box w7 (w.heap.size + 1 + 1) 46 Z from ⟨HS5.out.1.on s8.out, HS5.out.2.on s8.out⟩)
      clear b7 k7 s8 s0
      cases ok with
      | false =>
        have HRb := Lib.hid (show rb = none by rcases HD.out.2.2.1 with ⟨h, _⟩ | ⟨_, h⟩; cases h; exact h)
        have HRn := Lib.hid (show R = (kz, 4) by rw [HR2.out, HRb.out])
        have HLN := Lib.hid (show (Instr.loadAt 46 (.pointer (some ⟨w.heap.size + 1 + 1, 0, none⟩))).run Tryd.prog w7 = .ok (.agg Z) w7 by rw [HZ.out.1]; exact (show Box w7 (w.heap.size + 1 + 1) 46 (kvC kz X0).toArray by rw [← HZ.out.1]; exact S7.out.2).loadK)
        go_wp2_with (first
          | (with_reducible refine wpList_load_to (op := ⟨some 121, _, _, _, _, _⟩) rfl 46 (.tmp 6) rfl (.pointer (some ⟨w.heap.size + 1 + 1, 0, none⟩)) rfl (.agg Z) HLN.out ?_)
          | ((with_reducible refine wpList_store_kv (o := ⟨none, _, _, _, _, _⟩) rfl (.tmp 4) (.tmp 121) rfl rfl (w.heap.size + 1) kz X0 (fun _ => rfl) rfl ?hy Z S7.out.1.res HZ.out.2 ?_)
             case hy => rw [HZ.out.1]; rfl
             intro w9 b9 k9
             have H9 := Lib.hid (And.intro b9 k9)
             clear b9 k9)
          | fail)
        refine bodyPost_ret (v := .tuple #[kvV kz X0, .int .i64 4]) (results_ct (fn := Tryd.f19) Tryd.results19 _ _ (w.heap.size + 1) _ _ rfl rfl (loadVar_kv H9.out.1)) rfl ?_
        exact ⟨X0, by rw [HRn.out], by rw [HRn.out]; exact (kz_kno 0 _).knr, S7.out.1.bel.trans (H9.out.2.below S7.out.1.bel.size (fun i hi e => by omega))⟩
      | true =>
      have hrb : rb = some K2 ∧ KnR w6 K2 X2 ∧ Fr wc.heap.size X1 X2 := by
        rcases HD.out.2.2.1 with ⟨_, h1, h2, h3⟩ | ⟨h, _⟩
        · exact ⟨h1, h2, h3⟩
        · cases h
      have HRb := Lib.hid hrb
      clear hrb
      have HL2 := Lib.hid (show (Instr.loadAt 46 (.pointer (some ⟨g10, 0, none⟩))).run Tryd.prog w7 = .ok VK2 w7 by rw [HVK2.out]; exact H7.out.1.loadK)
      go_upto_region 33 with (first
        | (with_reducible refine wpList_load_to (op := ⟨some 122, _, _, _, _, _⟩) rfl 46 (.tmp 10) rfl (.pointer (some ⟨g10, 0, none⟩)) rfl VK2 HL2.out ?_)
        | ((with_reducible refine wpList_store_kv (o := ⟨none, _, _, _, _, _⟩) rfl (.tmp 3) (.tmp 122) rfl rfl w.heap.size K2 X2 HD.out.2.2.2 rfl ?hy (kvC K1 X1).toArray S7.out.1.kv (kvC_size _ _) ?_)
           case hy => exact HVK2.out
           intro w8 b8 k8
           have H8 := Lib.hid (And.intro b8 k8)
           clear b8 k8)
        | fail)
      have ka7 : KnA w.heap.size w7 K2 X2 := HRb.out.2.2.kna (HS5.out.1.on HD.out.1).kn (by have := (HS5.out.1.on HD.out.1).res.lt; omega) (H7.out.2 HRb.out.2.1 HRb.out.2.2)
      have S8 := Lib.hid (show Rsp w w8 K2 X2 Z l (some ⟨b, off, none⟩) n c ∧ Box w8 (w.heap.size + 1 + 1) 46 Z from
        ⟨S7.out.1.turn H8.out.1 H8.out.2 (ka7.kept (H8.out.2.mono (fun i _ e => Or.inl e))), H8.out.2.box S7.out.2 (by omega)⟩)
      have c203 : w8.cell? ⟨w.heap.size, 203, none⟩ = some (.bool (K2.F 7)) := S8.out.1.kv.kvF (k := 7) (by omega)
      obtain ⟨b7, hb7⟩ : ∃ q, q = K2.F 7 := ⟨_, rfl⟩
      rw [← hb7] at c203
      have hR3 := HR2.out
      rw [HRb.out.1] at hR3
      dsimp only at hR3
      rw [← hb7] at hR3
      have HR3 := Lib.hid hR3
      clear ka7 hb7 hR3 H8 HR2 HLK HBd HS5
      cases b7 with
      | true =>
        have HRn := Lib.hid (show R = (K2.setN 4 ((p : Int) + 2 + (z : Int)), 0) by rw [HR3.out, if_pos rfl])
        have c209 : w8.cell? ⟨w.heap.size, 209, none⟩ = some (.int .i64 (K2.N 4)) := S8.out.1.kv.kvN (k := 4) (by omega)
        have f209 : w8.frozen? ⟨w.heap.size, 209, none⟩ = false := S8.out.1.kv.free 209
        obtain ⟨o4, ho4⟩ : ∃ o, o = K2.N 4 := ⟨_, rfl⟩
        rw [← ho4] at c209
        obtain ⟨P, hP⟩ : ∃ P, P = (p : Int) + 2 + (z : Int) := ⟨_, rfl⟩
        obtain ⟨w9, hw9⟩ : ∃ x, w8.setCell ⟨w.heap.size, 209, none⟩ (.int .i64 ((p : Int) + 2 + (z : Int))) = x := ⟨_, rfl⟩
        have k9 : Kept (fun i => i = w.heap.size) w8 w9 := by rw [← hw9]; exact (Kept.refl (fun i => i = w.heap.size) w8).setCell (p := ⟨w.heap.size, 209, none⟩) (fun _ => rfl) _
        have S9 := Lib.hid (show Rsp w w9 (K2.setN 4 ((p : Int) + 2 + (z : Int))) X2 Z l (some ⟨b, off, none⟩) n c from S8.out.1.turn (by rw [← hw9]; exact S8.out.1.kv.putN (i := 4) _) k9 ((show KnA w.heap.size w8 (K2.setN 4 ((p : Int) + 2 + (z : Int))) X2 from ⟨S8.out.1.kn.wt, S8.out.1.kn.one, S8.out.1.kn.sl⟩).kept (k9.mono (fun i _ e => Or.inl e))))
        obtain ⟨VK9, hVK9⟩ : ∃ V, V = kvV (K2.setN 4 ((p : Int) + 2 + (z : Int))) X2 := ⟨_, rfl⟩
        have HVK9 := Lib.hid (And.intro hVK9 (show (Instr.loadAt 46 (.pointer (some ⟨w.heap.size, 0, none⟩))).run Tryd.prog w9 = .ok VK9 w9 by rw [hVK9]; exact S9.out.kv.loadK))
        clear ho4 k9 hVK9 hP
        go_wp2_with (first
          | (with_reducible refine wpList_load_to (op := ⟨some 131, _, _, _, _, _⟩) rfl 46 (.tmp 3) rfl (.pointer (some ⟨w.heap.size, 0, none⟩)) rfl VK9 HVK9.out.2 ?_)
          | ((with_reducible refine wpList_store_kv (o := ⟨none, _, _, _, _, _⟩) rfl (.tmp 4) (.tmp 131) rfl rfl (w.heap.size + 1) (K2.setN 4 ((p : Int) + 2 + (z : Int))) X2 S9.out.kn.one rfl ?hy Z S9.out.res HZ.out.2 ?_)
             case hy => exact HVK9.out.1
             intro wx bx kx
             have HX := Lib.hid (And.intro bx kx)
             clear bx kx)
          | fail)
        refine bodyPost_ret (v := .tuple #[kvV (K2.setN 4 ((p : Int) + 2 + (z : Int))) X2, .int .i64 0]) (results_ct (fn := Tryd.f19) Tryd.results19 _ _ (w.heap.size + 1) _ _ rfl rfl (loadVar_kv HX.out.1)) rfl ?_
        exact ⟨X2, by rw [HRn.out], by rw [HRn.out]; exact (S9.out.kn.kept (HX.out.2.mono (fun i _ e => Or.inr e))).knr, S9.out.bel.trans (HX.out.2.below S9.out.bel.size (fun i hi e => by omega))⟩
      | false =>
        have HRn := Lib.hid (show R = rdLoop f' (l.drop (p + 2 + z)) ((p + 2 + z : Nat) : Int) K2 by
          rw [HR3.out, if_neg (by simp), show p + (2 + (z : Int)).toNat = p + 2 + z by omega, show ((p + 2 + z : Nat) : Int) = (p : Int) + 2 + (z : Int) by omega])
        go_wp2_with fail
        go_roundw
        case rel => exact ⟨p + 2 + z, f', K2, X2, by omega, by omega, by go_num, HRn.out, S8.out⟩
        case measure => simp [intOf]; omega
    · go_simp
      obtain ⟨g10, hg10⟩ : ∃ g, g = wp.heap.size := ⟨_, rfl⟩
      obtain ⟨wg, hwg⟩ : ∃ x, wp.alloc (.cells Z 46) = x := ⟨_, rfl⟩
      have kg : Below wp.heap.size wp wg := by rw [← hwg]; exact on_alloc _ _
      have hg5 : wd.heap.size ≤ g10 := by rw [hg10]; exact s0.out.size
      have hg6 : wp.heap.size ≤ g10 := by rw [hg10]; exact Nat.le_refl _
      have Hg10 := Lib.hid (show Box wg g10 46 Z by rw [← hwg, hg10]; exact Box.made _ _ _)
      have hgg : g10 < wg.heap.size := Hg10.out.lt
      have HKg := Lib.hid kg
      have s7 := Lib.hid (on_trans s0.out kg)
      rw [hwg, ← hg10]
      clear hwg hg10 kg
      refine hKq.out _ _ s7 fun _ => ?_
      clear hKq Kq s0
      have s0 := s7
      clear s7
      refine wpAnyH_ready (rs := [10]) (by kernel_rfl) (by simp) ?_
      refine AllReadyH.cons rfl (fun Kq hKq => ?_) AllReadyH.nil
      go_simp
      obtain ⟨wc, hwc⟩ : ∃ x : World, x = wg := ⟨_, rfl⟩
      rw [← hwc] at s0 ⊢
      refine (HBd.out _ s0.out).mono ?_
      rintro e w6 ⟨K2, X2, ok, rfl, one2, b6, hd⟩
      have HD := Lib.hid (And.intro s0.out (And.intro b6 (And.intro hd one2)))
      have s6 := Lib.hid (on_trans s0.out b6)
      obtain ⟨VK2, hVK2⟩ : ∃ V, V = kvV K2 X2 := ⟨_, rfl⟩
      rw [← hVK2]
      have HVK2 := Lib.hid hVK2
      replace Hg10 := Lib.hid (show Box w6 g10 46 Z from (by rw [hwc]; exact Hg10.out : Box wc g10 46 Z).on b6)
      have hgc : g10 < wc.heap.size := by rw [hwc]; exact hgg
      refine hKq.out _ _ s6 fun _ => ?_
      clear hKq Kq b6 s0 hd one2 hVK2
      have s0 := s6
      clear s6
      refine take_to (i := 11) (v := .tuple #[VK2, .bool ok]) rfl (by kernel_rfl) (by kernel_rfl) (by kernel_rfl) (fun _ _ _ h => h) (Or.inl ⟨by rfl, fun w' hS => by go_simp⟩) s0 (some 105) rfl ?_
      simp only [Act.put, List.setIfInBounds_toArray, List.set_cons_zero, List.set_cons_succ]
      refine take_to (i := 12) (v := VK2) rfl (by kernel_rfl) (by kernel_rfl) (by kernel_rfl) (fun _ _ _ h => h) (Or.inl ⟨by rfl, fun w' hS => by go_simp⟩) s0 (some 117) rfl ?_
      simp only [Act.put, List.setIfInBounds_toArray, List.set_cons_zero, List.set_cons_succ]
      refine take_to (i := 13) (v := .bool ok) rfl (by kernel_rfl) (by kernel_rfl) (by kernel_rfl) (fun _ _ _ h => h) (Or.inl ⟨by rfl, fun w' hS => by go_simp⟩) s0 (some 118) rfl ?_
      simp only [Act.put, List.setIfInBounds_toArray, List.set_cons_zero, List.set_cons_succ]
      refine wpAnyH_ready (rs := [15]) (by kernel_rfl) (by simp) ?_
      refine AllReadyH.cons rfl (fun Kq hKq => ?_) AllReadyH.nil
      rw [if_pos (by rfl)]
      refine wp_store_kv _ _ rfl rfl g10 K2 X2 HD.out.2.2.2 rfl HVK2.out Z Hg10.out HZ.out.2 fun w7 b7 k7 => ?_
      have s8 := Lib.hid (show Below wd.heap.size wd w7 from s0.out.trans (k7.below s0.out.size (fun i hi e => by omega)))
      refine hKq.out _ _ s8 fun _ => ?_
      clear hKq Kq s0
      have s0 := s8
      refine take_to (i := 16) (v := .bool ok) rfl (by kernel_rfl) (by kernel_rfl) (by kernel_rfl) (fun _ _ _ h => h) (Or.inl ⟨by rfl, fun w' hS => by go_simp⟩) s0 (some 11) rfl ?_
      simp only [Act.put, List.setIfInBounds_toArray, List.set_cons_zero, List.set_cons_succ]
      refine wpAnyH_done (by kernel_rfl) ?_ _
      have H7 := Lib.hid (And.intro b7 (show KnR w6 K2 X2 → Fr wc.heap.size X1 X2 → KnR w7 K2 X2 from fun h hf => h.far hf HS5.out.1.kn.knr hg5 hgc k7))
      have S7 := Lib.hid (show Rsp w w7 K1 X1 Z l (some ⟨b, off, none⟩) n c ∧ Box w7 (w.heap.size + 1 + 1) 46 Z from ⟨HS5.out.1.on s8.out, HS5.out.2.on s8.out⟩)
      clear b7 k7 s8 s0
      cases ok with
      | false =>
        have HRb := Lib.hid (show rb = none by rcases HD.out.2.2.1 with ⟨h, _⟩ | ⟨_, h⟩; cases h; exact h)
        have HRn := Lib.hid (show R = (kz, 4) by rw [HR2.out, HRb.out])
        have HLN := Lib.hid (show (Instr.loadAt 46 (.pointer (some ⟨w.heap.size + 1 + 1, 0, none⟩))).run Tryd.prog w7 = .ok (.agg Z) w7 by rw [HZ.out.1]; exact (show Box w7 (w.heap.size + 1 + 1) 46 (kvC kz X0).toArray by rw [← HZ.out.1]; exact S7.out.2).loadK)
        go_wp2_with (first
          | (with_reducible refine wpList_load_to (op := ⟨some 121, _, _, _, _, _⟩) rfl 46 (.tmp 6) rfl (.pointer (some ⟨w.heap.size + 1 + 1, 0, none⟩)) rfl (.agg Z) HLN.out ?_)
          | ((with_reducible refine wpList_store_kv (o := ⟨none, _, _, _, _, _⟩) rfl (.tmp 4) (.tmp 121) rfl rfl (w.heap.size + 1) kz X0 (fun _ => rfl) rfl ?hy Z S7.out.1.res HZ.out.2 ?_)
             case hy => rw [HZ.out.1]; rfl
             intro w9 b9 k9
             have H9 := Lib.hid (And.intro b9 k9)
             clear b9 k9)
          | fail)
        refine bodyPost_ret (v := .tuple #[kvV kz X0, .int .i64 4]) (results_ct (fn := Tryd.f19) Tryd.results19 _ _ (w.heap.size + 1) _ _ rfl rfl (loadVar_kv H9.out.1)) rfl ?_
        exact ⟨X0, by rw [HRn.out], by rw [HRn.out]; exact (kz_kno 0 _).knr, S7.out.1.bel.trans (H9.out.2.below S7.out.1.bel.size (fun i hi e => by omega))⟩
      | true =>
      have hrb : rb = some K2 ∧ KnR w6 K2 X2 ∧ Fr wc.heap.size X1 X2 := by
        rcases HD.out.2.2.1 with ⟨_, h1, h2, h3⟩ | ⟨h, _⟩
        · exact ⟨h1, h2, h3⟩
        · cases h
      have HRb := Lib.hid hrb
      clear hrb
      have HL2 := Lib.hid (show (Instr.loadAt 46 (.pointer (some ⟨g10, 0, none⟩))).run Tryd.prog w7 = .ok VK2 w7 by rw [HVK2.out]; exact H7.out.1.loadK)
      go_upto_region 33 with (first
        | (with_reducible refine wpList_load_to (op := ⟨some 122, _, _, _, _, _⟩) rfl 46 (.tmp 10) rfl (.pointer (some ⟨g10, 0, none⟩)) rfl VK2 HL2.out ?_)
        | ((with_reducible refine wpList_store_kv (o := ⟨none, _, _, _, _, _⟩) rfl (.tmp 3) (.tmp 122) rfl rfl w.heap.size K2 X2 HD.out.2.2.2 rfl ?hy (kvC K1 X1).toArray S7.out.1.kv (kvC_size _ _) ?_)
           case hy => exact HVK2.out
           intro w8 b8 k8
           have H8 := Lib.hid (And.intro b8 k8)
           clear b8 k8)
        | fail)
      have ka7 : KnA w.heap.size w7 K2 X2 := HRb.out.2.2.kna (HS5.out.1.on HD.out.1).kn (by have := (HS5.out.1.on HD.out.1).res.lt; omega) (H7.out.2 HRb.out.2.1 HRb.out.2.2)
      have S8 := Lib.hid (show Rsp w w8 K2 X2 Z l (some ⟨b, off, none⟩) n c ∧ Box w8 (w.heap.size + 1 + 1) 46 Z from
        ⟨S7.out.1.turn H8.out.1 H8.out.2 (ka7.kept (H8.out.2.mono (fun i _ e => Or.inl e))), H8.out.2.box S7.out.2 (by omega)⟩)
      have c203 : w8.cell? ⟨w.heap.size, 203, none⟩ = some (.bool (K2.F 7)) := S8.out.1.kv.kvF (k := 7) (by omega)
      obtain ⟨b7, hb7⟩ : ∃ q, q = K2.F 7 := ⟨_, rfl⟩
      rw [← hb7] at c203
      have hR3 := HR2.out
      rw [HRb.out.1] at hR3
      dsimp only at hR3
      rw [← hb7] at hR3
      have HR3 := Lib.hid hR3
      clear ka7 hb7 hR3 H8 HR2 HLK HBd HS5
      cases b7 with
      | true =>
        have HRn := Lib.hid (show R = (K2.setN 4 ((p : Int) + 2 + (z : Int)), 0) by rw [HR3.out, if_pos rfl])
        have c209 : w8.cell? ⟨w.heap.size, 209, none⟩ = some (.int .i64 (K2.N 4)) := S8.out.1.kv.kvN (k := 4) (by omega)
        have f209 : w8.frozen? ⟨w.heap.size, 209, none⟩ = false := S8.out.1.kv.free 209
        obtain ⟨o4, ho4⟩ : ∃ o, o = K2.N 4 := ⟨_, rfl⟩
        rw [← ho4] at c209
        obtain ⟨P, hP⟩ : ∃ P, P = (p : Int) + 2 + (z : Int) := ⟨_, rfl⟩
        obtain ⟨w9, hw9⟩ : ∃ x, w8.setCell ⟨w.heap.size, 209, none⟩ (.int .i64 ((p : Int) + 2 + (z : Int))) = x := ⟨_, rfl⟩
        have k9 : Kept (fun i => i = w.heap.size) w8 w9 := by rw [← hw9]; exact (Kept.refl (fun i => i = w.heap.size) w8).setCell (p := ⟨w.heap.size, 209, none⟩) (fun _ => rfl) _
        have S9 := Lib.hid (show Rsp w w9 (K2.setN 4 ((p : Int) + 2 + (z : Int))) X2 Z l (some ⟨b, off, none⟩) n c from S8.out.1.turn (by rw [← hw9]; exact S8.out.1.kv.putN (i := 4) _) k9 ((show KnA w.heap.size w8 (K2.setN 4 ((p : Int) + 2 + (z : Int))) X2 from ⟨S8.out.1.kn.wt, S8.out.1.kn.one, S8.out.1.kn.sl⟩).kept (k9.mono (fun i _ e => Or.inl e))))
        obtain ⟨VK9, hVK9⟩ : ∃ V, V = kvV (K2.setN 4 ((p : Int) + 2 + (z : Int))) X2 := ⟨_, rfl⟩
        have HVK9 := Lib.hid (And.intro hVK9 (show (Instr.loadAt 46 (.pointer (some ⟨w.heap.size, 0, none⟩))).run Tryd.prog w9 = .ok VK9 w9 by rw [hVK9]; exact S9.out.kv.loadK))
        clear ho4 k9 hVK9 hP
        go_wp2_with (first
          | (with_reducible refine wpList_load_to (op := ⟨some 131, _, _, _, _, _⟩) rfl 46 (.tmp 3) rfl (.pointer (some ⟨w.heap.size, 0, none⟩)) rfl VK9 HVK9.out.2 ?_)
          | ((with_reducible refine wpList_store_kv (o := ⟨none, _, _, _, _, _⟩) rfl (.tmp 4) (.tmp 131) rfl rfl (w.heap.size + 1) (K2.setN 4 ((p : Int) + 2 + (z : Int))) X2 S9.out.kn.one rfl ?hy Z S9.out.res HZ.out.2 ?_)
             case hy => exact HVK9.out.1
             intro wx bx kx
             have HX := Lib.hid (And.intro bx kx)
             clear bx kx)
          | fail)
        refine bodyPost_ret (v := .tuple #[kvV (K2.setN 4 ((p : Int) + 2 + (z : Int))) X2, .int .i64 0]) (results_ct (fn := Tryd.f19) Tryd.results19 _ _ (w.heap.size + 1) _ _ rfl rfl (loadVar_kv HX.out.1)) rfl ?_
        exact ⟨X2, by rw [HRn.out], by rw [HRn.out]; exact (S9.out.kn.kept (HX.out.2.mono (fun i _ e => Or.inr e))).knr, S9.out.bel.trans (HX.out.2.below S9.out.bel.size (fun i hi e => by omega))⟩
      | false =>
        have HRn := Lib.hid (show R = rdLoop f' (l.drop (p + 2 + z)) ((p + 2 + z : Nat) : Int) K2 by
          rw [HR3.out, if_neg (by simp), show p + (2 + (z : Int)).toNat = p + 2 + z by omega, show ((p + 2 + z : Nat) : Int) = (p : Int) + 2 + (z : Int) by omega])
        go_wp2_with fail
        go_roundw
        case rel => exact ⟨p + 2 + z, f', K2, X2, by omega, by omega, by go_num, HRn.out, S8.out⟩
        case measure => simp [intOf]; omega
end Go.Proofs.YtgipngedmblnmaaDoor
