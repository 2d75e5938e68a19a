/-
  SegmentOthers: segments that say nothing of the image, behind a stream's first two bytes, change nothing but where its scan begins: the walk.
-/
import Derived.Test.YtgipngedmblnmaaDoorLOwn
import Derived.Test.YtgipngedmblnmaaDoorLSame
import Derived.Test.YtgipngedmblnmaaDoorLMath
namespace Go.Proofs.YtgipngedmblnmaaDoor
open Go.RowKit

theorem KnO.knrO {lo : Nat} {w : World} {K : Kv} {X : Nat → Value} (h : KnO lo w K X) : KnR w K X := ⟨h.wt, h.one, fun j hj => by obtain ⟨A, n, c, e, hi, _⟩ := h.sl j hj; exact ⟨A, n, c, e, hi.ia⟩⟩
/-- a mark that says nothing of the image -/
def MarkN (m : Int) : Prop := m = 254 ∨ (224 ≤ m ∧ m ≤ 239)
theorem slice_low (w : World) (b off n c : Nat) (hi : Nat) (h2 : hi ≤ c) (h0 : 0 < c) : (Instr.slice 37 (.slice (some ⟨b, off, none⟩) n c) none (some (.int .i64 (hi : Int))) none).run Tryd.prog w = .ok (.slice (some ⟨b, off, none⟩) hi c) w := by
  have he : Tryd.prog.elem 37 = 5 := by kernel_rfl
  have hs : (sizeOf 5).run Tryd.prog w = .ok 1 w := by kernel_rfl
  have ht : Tryd.prog.underlying 37 = some (.slice (Tryd.prog.elem 37)) := by rw [he]; exact Tryd.underlying37
  rw [run_slice_h w 37 (some ⟨b, off, none⟩) n c ht .i64 (hi : Int) (by omega) (by omega), he, hs]
  simp only [Result.andThen, sliced, Int.toNat_natCast, Nat.zero_mul]
  rw [if_neg (by omega)]
  simp [Addr.add]
theorem slice_high (w : World) (b off n c : Nat) (lo : Nat) (h1 : lo ≤ n) : (Instr.slice 37 (.slice (some ⟨b, off, none⟩) n c) (some (.int .i64 (lo : Int))) none none).run Tryd.prog w = .ok (.slice (cutAt (some ⟨b, off, none⟩) c lo) (n - lo) (c - lo)) w := by
  have he : Tryd.prog.elem 37 = 5 := by kernel_rfl
  have hs : (sizeOf 5).run Tryd.prog w = .ok 1 w := by kernel_rfl
  have ht : Tryd.prog.underlying 37 = some (.slice (Tryd.prog.elem 37)) := by rw [he]; exact Tryd.underlying37
  rw [run_slice_l w 37 (some ⟨b, off, none⟩) n c ht .i64 (lo : Int) (by omega) (by omega), he, hs]
  simp only [Result.andThen, sliced, Int.toNat_natCast, Nat.mul_one]
  rfl
theorem slice_low2 (w : World) (b off n c : Nat) (h2 : 2 ≤ c) : (Instr.slice 37 (.slice (some ⟨b, off, none⟩) n c) none (some (.int .i64 2)) none).run Tryd.prog w = .ok (.slice (some ⟨b, off, none⟩) 2 c) w := slice_low w b off n c 2 h2 (by omega)
theorem slice_high2 (w : World) (b off n c : Nat) (h1 : 2 ≤ n) : (Instr.slice 37 (.slice (some ⟨b, off, none⟩) n c) (some (.int .i64 2)) none none).run Tryd.prog w = .ok (.slice (cutAt (some ⟨b, off, none⟩) c 2) (n - 2) (c - 2)) w := slice_high w b off n c 2 h1
theorem wpList_slice_at {ops : Array Oper} {rest : List Oper} {op : Oper} {a : Act} {w : World} {Q : Exit → Act → World → Prop} (hgd : op.guard = none) (x : Operand) (lo hi : Option Operand) (ho : op.op = .slice 37 x lo hi none) (u v : Value)
    (hx : a.eval x = u) (h : (Instr.slice 37 u (lo.map a.eval) (hi.map a.eval) none).run Tryd.prog w = .ok v w) (hK : wpList Tryd.prog ops Q rest (a.put op.dst v) w) : wpList Tryd.prog ops Q (op :: rest) a w :=
  wpList_plain hgd fun _ hQ => by
    have he : Tryd.prog.elem 37 = 5 := by kernel_rfl
    have ht : Tryd.prog.underlying 37 = some (.slice (Tryd.prog.elem 37)) := by rw [he]; exact Tryd.underlying37
    unfold Oper.wp execOp
    simp only [ho, Option.map_none, hx, Sem.run_bind, run_sliceAt_slice w 37 _ _ _ _ ht, h, Result.andThen_ok]
    exact hQ _ _ hK
theorem Sl.sub' {w : World} {Ks : Nat → Prop} {b off n c : Nat} {l : List Int} (h : Sl w Ks (some ⟨b, off, none⟩) n c l) {k : Nat} (hk : k ≤ n) : Sl w Ks (cutAt (some ⟨b, off, none⟩) c k) (n - k) (c - k) (l.drop k) := by
  have e : l.drop k = (l.drop k).take (n - k) := (List.take_of_length_le (by rw [List.length_drop, h.len]; exact Nat.le_refl _)).symm
  rw [e]
  exact ⟨h.bts.cut (by rw [h.len]; omega) (by rw [h.len]; exact h.cap), by rw [List.length_take, List.length_drop, h.len]; omega, by have := h.cap; omega, by have := h.max; omega, fun e => by
    exfalso
    unfold cutAt at e
    split at e <;> cases e⟩
theorem Sl.low' {w : World} {Ks : Nat → Prop} {A : Option Addr} {n c : Nat} {l : List Int} (h : Sl w Ks A n c l) {k : Nat} (hk : k ≤ n) : Sl w Ks A k c (l.take k) :=
  ⟨⟨h.bts.fit.take k, fun h0 => by
    rw [List.length_take] at h0
    obtain ⟨b, off, e, hb, hK, hc⟩ := h.bts.at_ (by omega)
    refine ⟨b, off, e, hb, hK, fun i hi => ?_⟩
    rw [List.length_take] at hi
    rw [hc i (by omega)]
    simp only [List.getD_eq_getElem?_getD]
    rw [List.getElem?_take_of_lt (by omega)]⟩, by rw [List.length_take, h.len]; omega, by have := h.cap; omega, h.max, h.nil⟩
theorem Sl.onb {w w' : World} {Ks : Nat → Prop} {A : Option Addr} {n c : Nat} {l : List Int} (h : Sl w Ks A n c l) (k : Below w.heap.size w w') : Sl w' Ks A n c l := h.kept (Kept.of_below k (fun _ => False)) (fun _ _ e => e)
theorem below_new {w w' : World} {n : Nat} {l : List Int} {v' : Value} {c : Nat} (hg : Grow (w.alloc (.cells #[] 5)) w' (.slice (some ⟨w.heap.size, 0, none⟩) 0 c) v' w.heap.size n l) : Below w.heap.size w w' :=
  (on_alloc w (.cells #[] 5)).trans (hg.kep.below (by simp) (fun i hi e => by
    have : w.heap.size = i := by injection e
    omega))

set_option maxRecDepth 10000 in
set_option maxHeartbeats 12800000 in
theorem others_calls (w : World) (A : Option Addr) (n c : Nat) (l : List Int) (k : Int) (A' : Option Addr) (n' c' : Nat) (body : List Int) (hT : Tab w) (hl : Sl w (fun _ => True) A n c l) (hk : 0 ≤ k ∧ k ≤ 255) (hb : Sl w (fun _ => True) A' n' c' body) :
    Calls Tryd.prog 5 #[.slice A n c, .int .u8 k, .slice A' n' c'] w (Law w) := by
  have hlen := hl.len
  have hblen := hb.len
  have hcap := hl.cap
  have hpos0 : 0 < w.heap.size := hT.zero
  obtain ⟨Z, hZ⟩ : ∃ Z, Z = (kvC kz X0).toArray := ⟨_, rfl⟩
  have hz' : ∀ w, (zeroValue 46).run Tryd.prog w = .ok (.agg Z) w := fun w => by rw [hZ]; exact zero46 w
  have hbz : ∀ w, (Instr.build 46 #[]).run Tryd.prog w = .ok (.agg Z) w := fun w => by rw [hZ]; exact build46 w
  have HZ0 := Lib.hid hZ
  have HZ := Lib.hid (show Z.size = 210 by rw [hZ, kvC_size])
  have H0 := Lib.hid (And.intro hl (And.intro hb hT))
  clear hl hb hT hZ
  by_cases hn : (4000 : Int) < (n : Int)
  · have HA := Lib.hid (awake_any w H0.out.2.2)
    go_enter Tryd.func5, Tryd.ntmps5
    go_wp2_with fail
    refine Calls.mono HA.out ?_
    rintro e w3 ⟨rfl, b3⟩
    have H3 := Lib.hid b3
    clear b3
    go_wp2_with fail
    go_ret
    exact ⟨rfl, H3.out⟩
  by_cases hn2 : (600 : Int) < (n' : Int)
  · have HA := Lib.hid (awake_any w H0.out.2.2)
    go_enter Tryd.func5, Tryd.ntmps5
    go_wp2_with fail
    refine Calls.mono HA.out ?_
    rintro e w3 ⟨rfl, b3⟩
    have H3 := Lib.hid b3
    clear b3
    go_wp2_with fail
    go_ret
    exact ⟨rfl, H3.out⟩
  by_cases hn3 : (n : Int) < 2
  · have HA := Lib.hid (awake_any w H0.out.2.2)
    go_enter Tryd.func5, Tryd.ntmps5
    go_wp2_with fail
    refine Calls.mono HA.out ?_
    rintro e w3 ⟨rfl, b3⟩
    have H3 := Lib.hid b3
    clear b3
    go_wp2_with fail
    go_ret
    exact ⟨rfl, H3.out⟩
  obtain ⟨b, off, hA, _⟩ := H0.out.1.get (show 0 < n by omega)
  subst hA
  obtain ⟨hk0, hk1⟩ := hk
  obtain ⟨q, hq⟩ : ∃ q, q = k % 17 := ⟨_, rfl⟩
  have hq0 : 0 ≤ q ∧ q < 17 := by omega
  have hrem : k.tmod 17 = q := by rw [Int.tmod_eq_emod_of_nonneg hk0, hq]
  obtain ⟨hqa, hqb⟩ := hq0
  clear hq
  by_cases hq16 : q = 16
  · subst hq16
    go_enter Tryd.func5, Tryd.ntmps5
    go_upto_region 6 with fail
    have HM := Lib.hid (show MarkN 254 by unfold MarkN; omega)
    have sl2 := H0.out.1.low' (k := 2) (by omega)
    have hsl2 : (l.take 2).length = 2 := by rw [List.length_take]; omega
    have HL2 := Lib.hid (And.intro sl2 hsl2)
    clear sl2 hsl2
    obtain ⟨V43, hV43⟩ : ∃ V, V = cutAt (some ⟨b, off, none⟩) c 2 := ⟨_, rfl⟩
    have HV43 := Lib.hid hV43
    clear hV43
    go_wp2_with (first
      | (refine wpList_slice_at (op := ⟨some 35, _, _, _, _, _⟩) rfl (.tmp 34) none (some (.const (.int .i64 2))) rfl (.slice (some ⟨b, off, none⟩) n c) (.slice (some ⟨b, off, none⟩) 2 c) rfl (slice_low2 _ b off n c (by omega)) ?_)
      | ((with_reducible refine wpList_append_z (o := ⟨some 36, _, _, _, _, _⟩) rfl (.tmp 33) (.tmp 35) rfl w.heap.size (.slice (some ⟨w.heap.size, 0, none⟩) 0 0) 0 [] rfl (World.ownsRow_made w #[] 0 (Nat.le_refl _) (Nat.zero_le _) rfl) _ (some ⟨b, off, none⟩) 2 c (l.take 2) rfl (HL2.out.1.onb (on_alloc w (.cells #[] 5))) ?h63 ?hba ?_)
         case h63 => omega
         case hba => simp
         intro v2 w2 g2
         have b2 := below_new g2
         obtain ⟨m2, hm2⟩ : ∃ m, m = 0 + 2 := ⟨_, rfl⟩
         rw [← hm2] at g2
         have Hm2 := Lib.hid hm2
         obtain ⟨A2, c2, hv2⟩ := g2.val
         subst hv2
         have own2 := g2.own
         rw [List.nil_append] at own2
         have H2 := Lib.hid (And.intro own2 b2)
         have HPu := Lib.hid (put_any w2 _ 254 A' n' c' body (H0.out.2.1.onb b2) (by omega) (by first | decide | (have := HM.out; unfold MarkN at this; omega)) (by first | decide | (have := HM.out; unfold MarkN at this; omega)))
         clear g2 b2 own2 hm2)
      | fail)
    refine Calls.mono HPu.out ?_
    rintro e w3 ⟨A3, c3, rfl, s3, b3⟩
    obtain ⟨m3, hm3⟩ : ∃ m, m = (segB 254 body).length := ⟨_, rfl⟩
    rw [← hm3] at s3 ⊢
    rw [segB_len] at hm3
    have H3 := Lib.hid (And.intro (own_on H2.out.1 b3) (And.intro (on_trans H2.out.2 b3) (And.intro s3 hm3)))
    clear s3 b3 hm3 HPu
    have HLs := Lib.hid hlen
    have HLb := Lib.hid hblen
    clear hlen hblen
    go_upto_region 8 with (first
      | ((with_reducible refine wpList_append_z (o := ⟨some 40, _, _, _, _, _⟩) rfl (.tmp 36) (.tmp 39) rfl w.heap.size (.slice A2 m2 c2) m2 (l.take 2) rfl H3.out.1 _ A3 m3 c3 (segB 254 body) rfl H3.out.2.2.1 ?h63 H3.out.2.1.size ?_)
         case h63 => have := H3.out.2.2.2; have := HLb.out; have := Hm2.out; omega
         intro v4 w4 g4
         have b4 := H3.out.2.1.trans (g4.lo H3.out.1 H3.out.2.1.size)
         obtain ⟨m4, hm4⟩ : ∃ m, m = m2 + m3 := ⟨_, rfl⟩
         rw [← hm4] at g4
         have Hm4 := Lib.hid hm4
         obtain ⟨A4, c4, hv4⟩ := g4.val
         subst hv4
         have H4 := Lib.hid (And.intro g4.own b4)
         have HS4 := Lib.hid (show Sl w4 _ V43 (n - 2) (c - 2) (l.drop 2) by rw [HV43.out]; exact (H0.out.1.sub' (k := 2) (by omega)).onb b4)
         clear g4 b4 hm4)
      | (refine wpList_slice_at (op := ⟨some 43, _, _, _, _, _⟩) rfl (.tmp 42) (some (.const (.int .i64 2))) none rfl (.slice (some ⟨b, off, none⟩) n c) (.slice V43 (n - 2) (c - 2)) rfl (by rw [HV43.out]; exact slice_high2 _ b off n c (by omega)) ?_)
      | ((with_reducible refine wpList_append_z (o := ⟨some 44, _, _, _, _, _⟩) rfl (.tmp 41) (.tmp 43) rfl w.heap.size (.slice A4 m4 c4) m4 (l.take 2 ++ segB 254 body) rfl H4.out.1 _ V43 (n - 2) (c - 2) (l.drop 2) rfl HS4.out ?h63 H4.out.2.size ?_)
         case h63 => have := H3.out.2.2.2; have := HLb.out; have := Hm2.out; have := Hm4.out; omega
         intro v5 w5 g5
         have b5 := H4.out.2.trans (g5.lo H4.out.1 H4.out.2.size)
         obtain ⟨m5, hm5⟩ : ∃ m, m = m4 + (n - 2) := ⟨_, rfl⟩
         rw [← hm5] at g5
         obtain ⟨A5, c5, hv5⟩ := g5.val
         subst hv5
         have ff : Fit (l.take 2 ++ segB 254 body ++ l.drop 2) := fit_app (fit_app (H0.out.1.bts.fit.take 2) (fit_seg (by first | decide | (have := HM.out; unfold MarkN at this; omega)) (by first | decide | (have := HM.out; unfold MarkN at this; omega)) H0.out.2.1.bts.fit)) (H0.out.1.bts.fit.drop 2)
         obtain ⟨A5', c5', e5, sl5⟩ := sl_of_own g5.own ff
         cases e5
         have H5 := Lib.hid (And.intro b5 (And.intro sl5 (show m5 ≤ 100000 by have := H3.out.2.2.2; have := HLb.out; have := Hm2.out; have := Hm4.out; omega)))
         clear g5 b5 ff sl5 hm5)
      | fail)
    go_wp2_with (first
      | ((with_reducible refine wpList_append_z (o := ⟨some 48, _, _, _, _, _⟩) rfl (.tmp 46) (.tmp 47) rfl w5.heap.size (.slice (some ⟨w5.heap.size, 0, none⟩) 0 0) 0 [] rfl (World.ownsRow_made w5 #[] 0 (Nat.le_refl _) (Nat.zero_le _) rfl) _ (some ⟨b, off, none⟩) n c l rfl ((H0.out.1.onb H5.out.1).onb (on_alloc w5 (.cells #[] 5))) ?h63 ?hba ?_)
         case h63 => omega
         case hba => simp
         intro v6 w6 g6
         have b6 := below_new g6
         obtain ⟨m6, hm6⟩ : ∃ m, m = 0 + n := ⟨_, rfl⟩
         rw [← hm6] at g6
         have Hm6 := Lib.hid hm6
         obtain ⟨A6, c6, hv6⟩ := g6.val
         subst hv6
         obtain ⟨A6', c6', e6, sl6⟩ := sl_of_own g6.own (by rw [List.nil_append]; exact H0.out.1.bts.fit)
         cases e6
         rw [List.nil_append] at sl6
         have H6 := Lib.hid (And.intro sl6 (And.intro (on_trans H5.out.1 b6) (H5.out.2.1.onb b6)))
         clear g6 b6 sl6 hm6)
      | fail)
    obtain ⟨R, hR⟩ : ∃ R, R = readF l kz := ⟨_, rfl⟩
    have hrd := read_any w6 _ A6 m6 c6 l kz X0 H6.out.1 (by have := Hm6.out; omega) (kz_kno 0 _).knrO (fun j _ => Nat.zero_le _) (H0.out.2.2.on H6.out.2.1)
    rw [← hR, show kvV kz X0 = .agg Z by rw [HZ0.out]; rfl] at hrd
    have HRd := Lib.hid hrd
    have HR := Lib.hid (And.intro hR (show readF (l.take 2 ++ segB 254 body ++ l.drop 2) kz = (R.1.off (n' + 4), R.2) by
      rw [hR, readF_more l body 254 H0.out.1.bts.fit (by have := HLs.out; omega) (by have := HLb.out; omega) HM.out, HLb.out]))
    clear hrd hR
    refine Calls.mono HRd.out ?_
    rintro e w7 ⟨X1, rfl, kn7, b7⟩
    obtain ⟨VK1, hVK1⟩ : ∃ V, V = kvV R.1 X1 := ⟨_, rfl⟩
    rw [← hVK1]
    have HVK1 := Lib.hid hVK1
    have H7 := Lib.hid (And.intro kn7 (And.intro kn7.one (And.intro (on_trans H6.out.2.1 b7) (H6.out.2.2.onb b7))))
    clear kn7 b7 hVK1 HRd
    obtain ⟨g9, hg9⟩ : ∃ g, g = w7.heap.size := ⟨_, rfl⟩
    go_upto_region 9 with (first
      | ((with_reducible refine wpList_store_kv (o := ⟨none, _, _, _, _, _⟩) rfl (.tmp 9) (.tmp 51) rfl rfl w7.heap.size R.1 X1 H7.out.2.1 rfl ?hy Z (Box.made _ _ _) HZ.out ?_)
         case hy => exact HVK1.out
         intro w8 b8 k8
         have H8a := Lib.hid (And.intro b8 k8)
         clear b8 k8)
      | fail)
    have b78 : Below w7.heap.size w7 w8 := (on_alloc w7 (.cells Z 46)).trans (H8a.out.2.below (by simp) (fun i hi e => by omega))
    have bx8 : Box w8 g9 46 (kvC R.1 X1).toArray := by rw [hg9]; exact H8a.out.1
    have hw89 : w.heap.size ≤ g9 := by rw [hg9]; exact H7.out.2.2.1.size
    rw [← hg9]
    have H8x := Lib.hid (H7.out.1.on b78)
    have H8 := Lib.hid (And.intro bx8 (And.intro (H7.out.1.knrO.on b78) (And.intro (on_trans H7.out.2.2.1 b78) (H7.out.2.2.2.onb b78))))
    clear b78 bx8 hg9 H8a
    have hrd := read_any w8 _ A5 m5 c5 _ kz X0 H8.out.2.2.2 (by have := H5.out.2.2; omega) (kz_kno 0 _).knrO (fun j _ => Nat.zero_le _) (H0.out.2.2.on H8.out.2.2.1)
    rw [HR.out.2, show kvV kz X0 = .agg Z by rw [HZ0.out]; rfl] at hrd
    have HRd := Lib.hid hrd
    clear hrd
    go_wp2_with fail
    refine Calls.mono HRd.out ?_
    rintro e w9 ⟨X2, rfl, kn9, b9⟩
    obtain ⟨K2, hK2⟩ : ∃ K2, K2 = R.1.off (n' + 4) := ⟨_, rfl⟩
    dsimp only at kn9 ⊢
    rw [← hK2] at kn9 ⊢
    obtain ⟨VK2, hVK2⟩ : ∃ V, V = kvV K2 X2 := ⟨_, rfl⟩
    rw [← hVK2]
    have HVK2 := Lib.hid hVK2
    have H9 := Lib.hid (And.intro kn9 (And.intro kn9.one (And.intro (on_trans H8.out.2.2.1 b9) (And.intro (H8.out.1.on b9) (And.intro (H8.out.2.1.on b9) hK2)))))
    have HB9a := Lib.hid b9
    clear kn9 b9 hVK2 HRd hK2
    obtain ⟨g11, hg11⟩ : ∃ g, g = w9.heap.size := ⟨_, rfl⟩
    go_upto_region 10 with (first
      | ((with_reducible refine wpList_store_kv (o := ⟨none, _, _, _, _, _⟩) rfl (.tmp 11) (.tmp 57) rfl rfl w9.heap.size K2 X2 H9.out.2.1 rfl ?hy Z (Box.made _ _ _) HZ.out ?_)
         case hy => exact HVK2.out
         intro w10 b10 k10
         have H10a := Lib.hid (And.intro b10 k10)
         clear b10 k10)
      | fail)
    have b910 : Below w9.heap.size w9 w10 := (on_alloc w9 (.cells Z 46)).trans (H10a.out.2.below (by simp) (fun i hi e => by omega))
    have bx10 : Box w10 g11 46 (kvC K2 X2).toArray := by rw [hg11]; exact H10a.out.1
    have hgg : g9 < g11 := by rw [hg11]; exact H9.out.2.2.2.1.lt
    rw [← hg11]
    have H10 := Lib.hid (And.intro (H9.out.2.2.2.1.on b910) (And.intro bx10 (And.intro (H9.out.2.2.2.2.1.on b910) (And.intro (H9.out.1.on b910) (And.intro (on_trans H9.out.2.2.1 b910) (And.intro H9.out.2.2.2.2.2 H8.out.2.2.1))))))
    have HX1 := Lib.hid ((H8x.out.on HB9a.out).on b910)
    clear b910 bx10 hg11 H10a
    have c203 : w10.cell? ⟨g9, 203, none⟩ = some (.bool (R.1.F 7)) := H10.out.1.kvF (k := 7) (by omega)
    obtain ⟨b7, hb7⟩ : ∃ q, q = R.1.F 7 := ⟨_, rfl⟩
    rw [← hb7] at c203
    have HB7 := Lib.hid hb7
    clear hb7
    cases b7 with
    | true =>
      have hat := readF_at l (by rw [← HR.out.1]; exact HB7.out.symm)
      rw [← HR.out.1] at hat
      have c209 : w10.cell? ⟨g9, 209, none⟩ = some (.int .i64 (R.1.N 4)) := H10.out.1.kvN (k := 4) (by omega)
      have f209 : w10.frozen? ⟨g9, 209, none⟩ = false := H10.out.1.free 209
      have hKK : K2 = R.1.setN 4 (R.1.N 4 + ((n' : Int) + 4)) := by rw [H10.out.2.2.2.2.2.1]; unfold Kv.off; rw [if_pos HB7.out.symm]
      obtain ⟨N4, hN4⟩ : ∃ z, z = R.1.N 4 := ⟨_, rfl⟩
      rw [← hN4] at c209 hat hKK
      obtain ⟨hat0, hat1⟩ := hat
      have hat2 : N4 ≤ 4000 := by have := HLs.out; omega
      obtain ⟨wz, hwz⟩ : ∃ x, w10.setCell ⟨g9, 209, none⟩ (.int .i64 (N4 + ((n' : Int) + 4))) = x := ⟨_, rfl⟩
      have kz_ : Kept (fun i => i = g9) w10 wz := by rw [← hwz]; exact (Kept.refl (fun i => i = g9) w10).setCell (p := ⟨g9, 209, none⟩) (fun _ => rfl) _
      have hne : ∀ i, i = g9 → ∀ cs, ¬ Box w10 i 3 cs := fun i e cs hb => by subst e; exact H10.out.1.apart hb (by decide) rfl
      obtain ⟨VKa, hVa⟩ : ∃ V, V = kvV K2 X1 := ⟨_, rfl⟩
      have HVa := Lib.hid hVa
      have Hz := Lib.hid (And.intro (show Box wz g9 46 (kvC K2 X1).toArray by rw [← hwz, hKK]; exact H10.out.1.putN (i := 4) _) (And.intro (kz_.box H10.out.2.1 (by omega)) (And.intro (show KnR wz K2 X1 from ⟨by rw [hKK]; exact H10.out.2.2.1.wt, H10.out.2.2.1.one, fun j hj => by
        obtain ⟨A, n, c, e, hi⟩ := (HX1.out.kept kz_ hne).knrO.sl j hj
        exact ⟨A, n, c, e, by rw [hKK]; exact hi⟩⟩) (And.intro (H10.out.2.2.2.1.kept kz_ hne).knrO (And.intro (H10.out.2.2.2.2.1.trans (kz_.below H10.out.2.2.2.2.1.size (fun i hi e => by omega))) (rfl : True = True))))))
      clear hN4 hKK kz_ hne hVa
      have HLa := Lib.hid (show (Instr.loadAt 46 (.pointer (some ⟨g9, 0, none⟩))).run Tryd.prog wz = .ok VKa wz by rw [HVa.out]; exact Hz.out.1.loadK)
      have HLb := Lib.hid (show (Instr.loadAt 46 (.pointer (some ⟨g11, 0, none⟩))).run Tryd.prog wz = .ok VK2 wz by rw [HVK2.out]; exact Hz.out.2.1.loadK)
      have HSm := Lib.hid (show Calls Tryd.prog 17 #[VKa, VK2] wz (Law wz) by rw [HVa.out, HVK2.out]; exact same_any wz K2 X1 X2 Hz.out.2.2.1 Hz.out.2.2.2.1)
      go_wp2_with (first
        | (refine wpList_load_when (op := ⟨some 72, _, _, _, _, _⟩) (by rfl) 46 (.tmp 9) rfl (.pointer (some ⟨g9, 0, none⟩)) rfl VKa HLa.out ?_)
        | (refine wpList_load_when (op := ⟨some 73, _, _, _, _, _⟩) (by rfl) 46 (.tmp 11) rfl (.pointer (some ⟨g11, 0, none⟩)) rfl VK2 HLb.out ?_)
        | fail)
      refine Calls.mono HSm.out ?_
      rintro e wa ⟨rfl, ba⟩
      have HA := Lib.hid (awake_any wa ((H0.out.2.2.on Hz.out.2.2.2.2.1).on ba))
      have H9 := Lib.hid (on_trans Hz.out.2.2.2.2.1 ba)
      clear ba HSm
      go_wp2_with fail
      refine Calls.mono HA.out ?_
      rintro e wb ⟨rfl, bb⟩
      have H10 := Lib.hid (on_trans H9.out bb)
      clear bb HA
      go_wp2_with fail
      go_ret
      exact ⟨rfl, H10.out⟩
    | false =>
      have hKK : K2 = R.1 := by rw [H10.out.2.2.2.2.2.1]; unfold Kv.off; rw [if_neg (by rw [← HB7.out]; simp)]
      obtain ⟨VKa, hVa⟩ : ∃ V, V = kvV K2 X1 := ⟨_, rfl⟩
      have HVa := Lib.hid hVa
      have Hz := Lib.hid (And.intro (show Box w10 g9 46 (kvC K2 X1).toArray by rw [hKK]; exact H10.out.1) (And.intro (by exact H10.out.2.1 : Box w10 g11 46 (kvC K2 X2).toArray) (And.intro (show KnR w10 K2 X1 by rw [hKK]; exact H10.out.2.2.1) (And.intro (by exact H10.out.2.2.2.1.knrO : KnR w10 K2 X2) (And.intro (by exact H10.out.2.2.2.2.1 : Below w.heap.size w w10) (rfl : True = True))))))
      clear hKK hVa
      have HLa := Lib.hid (show (Instr.loadAt 46 (.pointer (some ⟨g9, 0, none⟩))).run Tryd.prog w10 = .ok VKa w10 by rw [HVa.out]; exact Hz.out.1.loadK)
      have HLb := Lib.hid (show (Instr.loadAt 46 (.pointer (some ⟨g11, 0, none⟩))).run Tryd.prog w10 = .ok VK2 w10 by rw [HVK2.out]; exact Hz.out.2.1.loadK)
      have HSm := Lib.hid (show Calls Tryd.prog 17 #[VKa, VK2] w10 (Law w10) by rw [HVa.out, HVK2.out]; exact same_any w10 K2 X1 X2 Hz.out.2.2.1 Hz.out.2.2.2.1)
      go_wp2_with (first
        | (refine wpList_load_when (op := ⟨some 72, _, _, _, _, _⟩) (by rfl) 46 (.tmp 9) rfl (.pointer (some ⟨g9, 0, none⟩)) rfl VKa HLa.out ?_)
        | (refine wpList_load_when (op := ⟨some 73, _, _, _, _, _⟩) (by rfl) 46 (.tmp 11) rfl (.pointer (some ⟨g11, 0, none⟩)) rfl VK2 HLb.out ?_)
        | fail)
      refine Calls.mono HSm.out ?_
      rintro e wa ⟨rfl, ba⟩
      have HA := Lib.hid (awake_any wa ((H0.out.2.2.on Hz.out.2.2.2.2.1).on ba))
      have H9 := Lib.hid (on_trans Hz.out.2.2.2.2.1 ba)
      clear ba HSm
      go_wp2_with fail
      refine Calls.mono HA.out ?_
      rintro e wb ⟨rfl, bb⟩
      have H10z := Lib.hid (on_trans H9.out bb)
      clear bb HA
      go_wp2_with fail
      go_ret
      exact ⟨rfl, H10z.out⟩
  · have hq16' : ¬ (224 + q = 240) := by omega
    have hq16'' : (224 + q == 240) = false := by simpa using hq16'
    go_enter Tryd.func5, Tryd.ntmps5
    go_upto_region 6 with fail
    have HM := Lib.hid (show MarkN (224 + q) by unfold MarkN; omega)
    have sl2 := H0.out.1.low' (k := 2) (by omega)
    have hsl2 : (l.take 2).length = 2 := by rw [List.length_take]; omega
    have HL2 := Lib.hid (And.intro sl2 hsl2)
    clear sl2 hsl2
    obtain ⟨V43, hV43⟩ : ∃ V, V = cutAt (some ⟨b, off, none⟩) c 2 := ⟨_, rfl⟩
    have HV43 := Lib.hid hV43
    clear hV43
    go_wp2_with (first
      | (refine wpList_slice_at (op := ⟨some 35, _, _, _, _, _⟩) rfl (.tmp 34) none (some (.const (.int .i64 2))) rfl (.slice (some ⟨b, off, none⟩) n c) (.slice (some ⟨b, off, none⟩) 2 c) rfl (slice_low2 _ b off n c (by omega)) ?_)
      | ((with_reducible refine wpList_append_z (o := ⟨some 36, _, _, _, _, _⟩) rfl (.tmp 33) (.tmp 35) rfl w.heap.size (.slice (some ⟨w.heap.size, 0, none⟩) 0 0) 0 [] rfl (World.ownsRow_made w #[] 0 (Nat.le_refl _) (Nat.zero_le _) rfl) _ (some ⟨b, off, none⟩) 2 c (l.take 2) rfl (HL2.out.1.onb (on_alloc w (.cells #[] 5))) ?h63 ?hba ?_)
         case h63 => omega
         case hba => simp
         intro v2 w2 g2
         have b2 := below_new g2
         obtain ⟨m2, hm2⟩ : ∃ m, m = 0 + 2 := ⟨_, rfl⟩
         rw [← hm2] at g2
         have Hm2 := Lib.hid hm2
         obtain ⟨A2, c2, hv2⟩ := g2.val
         subst hv2
         have own2 := g2.own
         rw [List.nil_append] at own2
         have H2 := Lib.hid (And.intro own2 b2)
         have HPu := Lib.hid (put_any w2 _ (224 + q) A' n' c' body (H0.out.2.1.onb b2) (by omega) (by first | decide | (have := HM.out; unfold MarkN at this; omega)) (by first | decide | (have := HM.out; unfold MarkN at this; omega)))
         clear g2 b2 own2 hm2)
      | fail)
    refine Calls.mono HPu.out ?_
    rintro e w3 ⟨A3, c3, rfl, s3, b3⟩
    obtain ⟨m3, hm3⟩ : ∃ m, m = (segB (224 + q) body).length := ⟨_, rfl⟩
    rw [← hm3] at s3 ⊢
    rw [segB_len] at hm3
    have H3 := Lib.hid (And.intro (own_on H2.out.1 b3) (And.intro (on_trans H2.out.2 b3) (And.intro s3 hm3)))
    clear s3 b3 hm3 HPu
    have HLs := Lib.hid hlen
    have HLb := Lib.hid hblen
    clear hlen hblen
    go_upto_region 8 with (first
      | ((with_reducible refine wpList_append_z (o := ⟨some 40, _, _, _, _, _⟩) rfl (.tmp 36) (.tmp 39) rfl w.heap.size (.slice A2 m2 c2) m2 (l.take 2) rfl H3.out.1 _ A3 m3 c3 (segB (224 + q) body) rfl H3.out.2.2.1 ?h63 H3.out.2.1.size ?_)
         case h63 => have := H3.out.2.2.2; have := HLb.out; have := Hm2.out; omega
         intro v4 w4 g4
         have b4 := H3.out.2.1.trans (g4.lo H3.out.1 H3.out.2.1.size)
         obtain ⟨m4, hm4⟩ : ∃ m, m = m2 + m3 := ⟨_, rfl⟩
         rw [← hm4] at g4
         have Hm4 := Lib.hid hm4
         obtain ⟨A4, c4, hv4⟩ := g4.val
         subst hv4
         have H4 := Lib.hid (And.intro g4.own b4)
         have HS4 := Lib.hid (show Sl w4 _ V43 (n - 2) (c - 2) (l.drop 2) by rw [HV43.out]; exact (H0.out.1.sub' (k := 2) (by omega)).onb b4)
         clear g4 b4 hm4)
      | (refine wpList_slice_at (op := ⟨some 43, _, _, _, _, _⟩) rfl (.tmp 42) (some (.const (.int .i64 2))) none rfl (.slice (some ⟨b, off, none⟩) n c) (.slice V43 (n - 2) (c - 2)) rfl (by rw [HV43.out]; exact slice_high2 _ b off n c (by omega)) ?_)
      | ((with_reducible refine wpList_append_z (o := ⟨some 44, _, _, _, _, _⟩) rfl (.tmp 41) (.tmp 43) rfl w.heap.size (.slice A4 m4 c4) m4 (l.take 2 ++ segB (224 + q) body) rfl H4.out.1 _ V43 (n - 2) (c - 2) (l.drop 2) rfl HS4.out ?h63 H4.out.2.size ?_)
         case h63 => have := H3.out.2.2.2; have := HLb.out; have := Hm2.out; have := Hm4.out; omega
         intro v5 w5 g5
         have b5 := H4.out.2.trans (g5.lo H4.out.1 H4.out.2.size)
         obtain ⟨m5, hm5⟩ : ∃ m, m = m4 + (n - 2) := ⟨_, rfl⟩
         rw [← hm5] at g5
         obtain ⟨A5, c5, hv5⟩ := g5.val
         subst hv5
         have ff : Fit (l.take 2 ++ segB (224 + q) body ++ l.drop 2) := fit_app (fit_app (H0.out.1.bts.fit.take 2) (fit_seg (by first | decide | (have := HM.out; unfold MarkN at this; omega)) (by first | decide | (have := HM.out; unfold MarkN at this; omega)) H0.out.2.1.bts.fit)) (H0.out.1.bts.fit.drop 2)
         obtain ⟨A5', c5', e5, sl5⟩ := sl_of_own g5.own ff
         cases e5
         have H5 := Lib.hid (And.intro b5 (And.intro sl5 (show m5 ≤ 100000 by have := H3.out.2.2.2; have := HLb.out; have := Hm2.out; have := Hm4.out; omega)))
         clear g5 b5 ff sl5 hm5)
      | fail)
    go_wp2_with (first
      | ((with_reducible refine wpList_append_z (o := ⟨some 48, _, _, _, _, _⟩) rfl (.tmp 46) (.tmp 47) rfl w5.heap.size (.slice (some ⟨w5.heap.size, 0, none⟩) 0 0) 0 [] rfl (World.ownsRow_made w5 #[] 0 (Nat.le_refl _) (Nat.zero_le _) rfl) _ (some ⟨b, off, none⟩) n c l rfl ((H0.out.1.onb H5.out.1).onb (on_alloc w5 (.cells #[] 5))) ?h63 ?hba ?_)
         case h63 => omega
         case hba => simp
         intro v6 w6 g6
         have b6 := below_new g6
         obtain ⟨m6, hm6⟩ : ∃ m, m = 0 + n := ⟨_, rfl⟩
         rw [← hm6] at g6
         have Hm6 := Lib.hid hm6
         obtain ⟨A6, c6, hv6⟩ := g6.val
         subst hv6
         obtain ⟨A6', c6', e6, sl6⟩ := sl_of_own g6.own (by rw [List.nil_append]; exact H0.out.1.bts.fit)
         cases e6
         rw [List.nil_append] at sl6
         have H6 := Lib.hid (And.intro sl6 (And.intro (on_trans H5.out.1 b6) (H5.out.2.1.onb b6)))
         clear g6 b6 sl6 hm6)
      | fail)
    obtain ⟨R, hR⟩ : ∃ R, R = readF l kz := ⟨_, rfl⟩
    have hrd := read_any w6 _ A6 m6 c6 l kz X0 H6.out.1 (by have := Hm6.out; omega) (kz_kno 0 _).knrO (fun j _ => Nat.zero_le _) (H0.out.2.2.on H6.out.2.1)
    rw [← hR, show kvV kz X0 = .agg Z by rw [HZ0.out]; rfl] at hrd
    have HRd := Lib.hid hrd
    have HR := Lib.hid (And.intro hR (show readF (l.take 2 ++ segB (224 + q) body ++ l.drop 2) kz = (R.1.off (n' + 4), R.2) by
      rw [hR, readF_more l body (224 + q) H0.out.1.bts.fit (by have := HLs.out; omega) (by have := HLb.out; omega) HM.out, HLb.out]))
    clear hrd hR
    refine Calls.mono HRd.out ?_
    rintro e w7 ⟨X1, rfl, kn7, b7⟩
    obtain ⟨VK1, hVK1⟩ : ∃ V, V = kvV R.1 X1 := ⟨_, rfl⟩
    rw [← hVK1]
    have HVK1 := Lib.hid hVK1
    have H7 := Lib.hid (And.intro kn7 (And.intro kn7.one (And.intro (on_trans H6.out.2.1 b7) (H6.out.2.2.onb b7))))
    clear kn7 b7 hVK1 HRd
    obtain ⟨g9, hg9⟩ : ∃ g, g = w7.heap.size := ⟨_, rfl⟩
    go_upto_region 9 with (first
      | ((with_reducible refine wpList_store_kv (o := ⟨none, _, _, _, _, _⟩) rfl (.tmp 9) (.tmp 51) rfl rfl w7.heap.size R.1 X1 H7.out.2.1 rfl ?hy Z (Box.made _ _ _) HZ.out ?_)
         case hy => exact HVK1.out
         intro w8 b8 k8
         have H8a := Lib.hid (And.intro b8 k8)
         clear b8 k8)
      | fail)
    have b78 : Below w7.heap.size w7 w8 := (on_alloc w7 (.cells Z 46)).trans (H8a.out.2.below (by simp) (fun i hi e => by omega))
    have bx8 : Box w8 g9 46 (kvC R.1 X1).toArray := by rw [hg9]; exact H8a.out.1
    have hw89 : w.heap.size ≤ g9 := by rw [hg9]; exact H7.out.2.2.1.size
    rw [← hg9]
    have H8x := Lib.hid (H7.out.1.on b78)
    have H8 := Lib.hid (And.intro bx8 (And.intro (H7.out.1.knrO.on b78) (And.intro (on_trans H7.out.2.2.1 b78) (H7.out.2.2.2.onb b78))))
    clear b78 bx8 hg9 H8a
    have hrd := read_any w8 _ A5 m5 c5 _ kz X0 H8.out.2.2.2 (by have := H5.out.2.2; omega) (kz_kno 0 _).knrO (fun j _ => Nat.zero_le _) (H0.out.2.2.on H8.out.2.2.1)
    rw [HR.out.2, show kvV kz X0 = .agg Z by rw [HZ0.out]; rfl] at hrd
    have HRd := Lib.hid hrd
    clear hrd
    go_wp2_with fail
    refine Calls.mono HRd.out ?_
    rintro e w9 ⟨X2, rfl, kn9, b9⟩
    obtain ⟨K2, hK2⟩ : ∃ K2, K2 = R.1.off (n' + 4) := ⟨_, rfl⟩
    dsimp only at kn9 ⊢
    rw [← hK2] at kn9 ⊢
    obtain ⟨VK2, hVK2⟩ : ∃ V, V = kvV K2 X2 := ⟨_, rfl⟩
    rw [← hVK2]
    have HVK2 := Lib.hid hVK2
    have H9 := Lib.hid (And.intro kn9 (And.intro kn9.one (And.intro (on_trans H8.out.2.2.1 b9) (And.intro (H8.out.1.on b9) (And.intro (H8.out.2.1.on b9) hK2)))))
    have HB9a := Lib.hid b9
    clear kn9 b9 hVK2 HRd hK2
    obtain ⟨g11, hg11⟩ : ∃ g, g = w9.heap.size := ⟨_, rfl⟩
    go_upto_region 10 with (first
      | ((with_reducible refine wpList_store_kv (o := ⟨none, _, _, _, _, _⟩) rfl (.tmp 11) (.tmp 57) rfl rfl w9.heap.size K2 X2 H9.out.2.1 rfl ?hy Z (Box.made _ _ _) HZ.out ?_)
         case hy => exact HVK2.out
         intro w10 b10 k10
         have H10a := Lib.hid (And.intro b10 k10)
         clear b10 k10)
      | fail)
    have b910 : Below w9.heap.size w9 w10 := (on_alloc w9 (.cells Z 46)).trans (H10a.out.2.below (by simp) (fun i hi e => by omega))
    have bx10 : Box w10 g11 46 (kvC K2 X2).toArray := by rw [hg11]; exact H10a.out.1
    have hgg : g9 < g11 := by rw [hg11]; exact H9.out.2.2.2.1.lt
    rw [← hg11]
    have H10 := Lib.hid (And.intro (H9.out.2.2.2.1.on b910) (And.intro bx10 (And.intro (H9.out.2.2.2.2.1.on b910) (And.intro (H9.out.1.on b910) (And.intro (on_trans H9.out.2.2.1 b910) (And.intro H9.out.2.2.2.2.2 H8.out.2.2.1))))))
    have HX1 := Lib.hid ((H8x.out.on HB9a.out).on b910)
    clear b910 bx10 hg11 H10a
    have c203 : w10.cell? ⟨g9, 203, none⟩ = some (.bool (R.1.F 7)) := H10.out.1.kvF (k := 7) (by omega)
    obtain ⟨b7, hb7⟩ : ∃ q, q = R.1.F 7 := ⟨_, rfl⟩
    rw [← hb7] at c203
    have HB7 := Lib.hid hb7
    clear hb7
    cases b7 with
    | true =>
      have hat := readF_at l (by rw [← HR.out.1]; exact HB7.out.symm)
      rw [← HR.out.1] at hat
      have c209 : w10.cell? ⟨g9, 209, none⟩ = some (.int .i64 (R.1.N 4)) := H10.out.1.kvN (k := 4) (by omega)
      have f209 : w10.frozen? ⟨g9, 209, none⟩ = false := H10.out.1.free 209
      have hKK : K2 = R.1.setN 4 (R.1.N 4 + ((n' : Int) + 4)) := by rw [H10.out.2.2.2.2.2.1]; unfold Kv.off; rw [if_pos HB7.out.symm]
      obtain ⟨N4, hN4⟩ : ∃ z, z = R.1.N 4 := ⟨_, rfl⟩
      rw [← hN4] at c209 hat hKK
      obtain ⟨hat0, hat1⟩ := hat
      have hat2 : N4 ≤ 4000 := by have := HLs.out; omega
      obtain ⟨wz, hwz⟩ : ∃ x, w10.setCell ⟨g9, 209, none⟩ (.int .i64 (N4 + ((n' : Int) + 4))) = x := ⟨_, rfl⟩
      have kz_ : Kept (fun i => i = g9) w10 wz := by rw [← hwz]; exact (Kept.refl (fun i => i = g9) w10).setCell (p := ⟨g9, 209, none⟩) (fun _ => rfl) _
      have hne : ∀ i, i = g9 → ∀ cs, ¬ Box w10 i 3 cs := fun i e cs hb => by subst e; exact H10.out.1.apart hb (by decide) rfl
      obtain ⟨VKa, hVa⟩ : ∃ V, V = kvV K2 X1 := ⟨_, rfl⟩
      have HVa := Lib.hid hVa
      have Hz := Lib.hid (And.intro (show Box wz g9 46 (kvC K2 X1).toArray by rw [← hwz, hKK]; exact H10.out.1.putN (i := 4) _) (And.intro (kz_.box H10.out.2.1 (by omega)) (And.intro (show KnR wz K2 X1 from ⟨by rw [hKK]; exact H10.out.2.2.1.wt, H10.out.2.2.1.one, fun j hj => by
        obtain ⟨A, n, c, e, hi⟩ := (HX1.out.kept kz_ hne).knrO.sl j hj
        exact ⟨A, n, c, e, by rw [hKK]; exact hi⟩⟩) (And.intro (H10.out.2.2.2.1.kept kz_ hne).knrO (And.intro (H10.out.2.2.2.2.1.trans (kz_.below H10.out.2.2.2.2.1.size (fun i hi e => by omega))) (rfl : True = True))))))
      clear hN4 hKK kz_ hne hVa
      have HLa := Lib.hid (show (Instr.loadAt 46 (.pointer (some ⟨g9, 0, none⟩))).run Tryd.prog wz = .ok VKa wz by rw [HVa.out]; exact Hz.out.1.loadK)
      have HLb := Lib.hid (show (Instr.loadAt 46 (.pointer (some ⟨g11, 0, none⟩))).run Tryd.prog wz = .ok VK2 wz by rw [HVK2.out]; exact Hz.out.2.1.loadK)
      have HSm := Lib.hid (show Calls Tryd.prog 17 #[VKa, VK2] wz (Law wz) by rw [HVa.out, HVK2.out]; exact same_any wz K2 X1 X2 Hz.out.2.2.1 Hz.out.2.2.2.1)
      go_wp2_with (first
        | (refine wpList_load_when (op := ⟨some 72, _, _, _, _, _⟩) (by rfl) 46 (.tmp 9) rfl (.pointer (some ⟨g9, 0, none⟩)) rfl VKa HLa.out ?_)
        | (refine wpList_load_when (op := ⟨some 73, _, _, _, _, _⟩) (by rfl) 46 (.tmp 11) rfl (.pointer (some ⟨g11, 0, none⟩)) rfl VK2 HLb.out ?_)
        | fail)
      refine Calls.mono HSm.out ?_
      rintro e wa ⟨rfl, ba⟩
      have HA := Lib.hid (awake_any wa ((H0.out.2.2.on Hz.out.2.2.2.2.1).on ba))
      have H9 := Lib.hid (on_trans Hz.out.2.2.2.2.1 ba)
      clear ba HSm
      go_wp2_with fail
      refine Calls.mono HA.out ?_
      rintro e wb ⟨rfl, bb⟩
      have H10 := Lib.hid (on_trans H9.out bb)
      clear bb HA
      go_wp2_with fail
      go_ret
      exact ⟨rfl, H10.out⟩
    | false =>
      have hKK : K2 = R.1 := by rw [H10.out.2.2.2.2.2.1]; unfold Kv.off; rw [if_neg (by rw [← HB7.out]; simp)]
      obtain ⟨VKa, hVa⟩ : ∃ V, V = kvV K2 X1 := ⟨_, rfl⟩
      have HVa := Lib.hid hVa
      have Hz := Lib.hid (And.intro (show Box w10 g9 46 (kvC K2 X1).toArray by rw [hKK]; exact H10.out.1) (And.intro (by exact H10.out.2.1 : Box w10 g11 46 (kvC K2 X2).toArray) (And.intro (show KnR w10 K2 X1 by rw [hKK]; exact H10.out.2.2.1) (And.intro (by exact H10.out.2.2.2.1.knrO : KnR w10 K2 X2) (And.intro (by exact H10.out.2.2.2.2.1 : Below w.heap.size w w10) (rfl : True = True))))))
      clear hKK hVa
      have HLa := Lib.hid (show (Instr.loadAt 46 (.pointer (some ⟨g9, 0, none⟩))).run Tryd.prog w10 = .ok VKa w10 by rw [HVa.out]; exact Hz.out.1.loadK)
      have HLb := Lib.hid (show (Instr.loadAt 46 (.pointer (some ⟨g11, 0, none⟩))).run Tryd.prog w10 = .ok VK2 w10 by rw [HVK2.out]; exact Hz.out.2.1.loadK)
      have HSm := Lib.hid (show Calls Tryd.prog 17 #[VKa, VK2] w10 (Law w10) by rw [HVa.out, HVK2.out]; exact same_any w10 K2 X1 X2 Hz.out.2.2.1 Hz.out.2.2.2.1)
      go_wp2_with (first
        | (refine wpList_load_when (op := ⟨some 72, _, _, _, _, _⟩) (by rfl) 46 (.tmp 9) rfl (.pointer (some ⟨g9, 0, none⟩)) rfl VKa HLa.out ?_)
        | (refine wpList_load_when (op := ⟨some 73, _, _, _, _, _⟩) (by rfl) 46 (.tmp 11) rfl (.pointer (some ⟨g11, 0, none⟩)) rfl VK2 HLb.out ?_)
        | fail)
      refine Calls.mono HSm.out ?_
      rintro e wa ⟨rfl, ba⟩
      have HA := Lib.hid (awake_any wa ((H0.out.2.2.on Hz.out.2.2.2.2.1).on ba))
      have H9 := Lib.hid (on_trans Hz.out.2.2.2.2.1 ba)
      clear ba HSm
      go_wp2_with fail
      refine Calls.mono HA.out ?_
      rintro e wb ⟨rfl, bb⟩
      have H10z := Lib.hid (on_trans H9.out bb)
      clear bb HA
      go_wp2_with fail
      go_ret
      exact ⟨rfl, H10z.out⟩
end Go.Proofs.YtgipngedmblnmaaDoor
