/-
  SegmentReads: whatever is known by any bytes read as a stream is what the document says; what was known stays: the walk.
-/
import Derived.Test.YtgipngedmblnmaaDoorLOwn
import Derived.Test.YtgipngedmblnmaaDoorLSame
import Derived.Test.YtgipngedmblnmaaDoorLMath
import Derived.Test.YtgipngedmblnmaaDoorLRefRead
namespace Go.Proofs.YtgipngedmblnmaaDoor
open Go.RowKit

theorem Box.putTb {w : World} {g : Nat} {K : Kv} {X : Nat → Value} (h : Box w g 46 (kvC K X).toArray) (X' : Nat → Value) (L : List Value) (hL : L = tbC K.tb X') : Box (w.setCells g 0 L) g 46 (kvC K X').toArray := by
  have hlen : L.length = 196 := by rw [hL, tbC_len]
  have hb := box_setCells L 0 h
  have e : layA (kvC K X).toArray 0 L = (kvC K X').toArray := by
    refine kv_ext (by rw [layA_size, kvC_size]) fun k hk => ?_
    rw [layA_get _ _ _ (by rw [hlen, kvC_size]; omega), hlen]
    by_cases c : 0 ≤ k ∧ k < 0 + 196
    · rw [if_pos c, Nat.sub_zero, hL, tbC_get _ _ (by omega), kvAt_tb (by omega)]
    · have h196 : ¬ k < 196 := by omega
      rw [if_neg c, List.getElem?_toArray, kvC_get K X hk]
      unfold kvAt
      rw [if_neg h196, if_neg h196]
  rw [e] at hb
  exact hb
/-- tables are written into what is known -/
theorem wpList_store_tbk {ops : Array Oper} {rest : List Oper} {o : Oper} {a : Act} {w : World} {Q : Exit → Act → World → Prop} (hgd : o.guard = none) (x y : Operand) (ho : o.op = .store 31 x y) (hd : o.dst = none) {g : Nat} {K : Kv} {X : Nat → Value}
    (h : Box w g 46 (kvC K X).toArray) (X' : Nat → Value) (h1 : ∀ j, (X' j).oneCell' = true) (hx : a.eval x = .pointer (some ⟨g, 0, none⟩)) (hy : a.eval y = tbV K.tb X')
    (hK : ∀ w', Box w' g 46 (kvC K X').toArray → Kept (fun i => i = g) w w' → wpList Tryd.prog ops Q rest a w') : wpList Tryd.prog ops Q (o :: rest) a w := by
  obtain ⟨L, hL⟩ : ∃ L, L = tbC K.tb X' := ⟨_, rfl⟩
  have hlen : L.length = 196 := by rw [hL, tbC_len]
  have hone : ∀ u ∈ L, u.oneCell' = true := by rw [hL]; exact tb_one h1
  have hy' : a.eval y = .agg L.toArray := by rw [hy, hL]; rfl
  have hb := h.putTb X' L hL
  clear hL hy
  refine wpList_store_mid hgd 31 x y ho g 0 L.toArray hx hy' (box_there h (by rw [List.size_toArray, hlen, kvC_size]; omega)) (by rw [tb_size, List.size_toArray, hlen]) (all_oneCell_toArray hone) ?_
  rw [hd]
  exact hK _ hb (kept_setCells _ _ _ _)
/-- n numbers in memory from lo on -/
def Ints (lo : Nat) (w : World) (A : Option Addr) (n : Nat) : Prop := 0 < n → ∃ b off cs, A = some ⟨b, off, none⟩ ∧ lo ≤ b ∧ Box w b 3 cs ∧ ∀ i, i < n → ∃ z : Int, cs[off + i]? = some (.int .i64 z)
theorem Nw.ints {lo : Nat} {w : World} {A : Option Addr} {n c : Nat} {V : List Int} (hi : Il w A n c V) (hb : ∀ b off, A = some ⟨b, off, none⟩ → lo ≤ b ∧ ∃ cs, Box w b 3 cs) : Ints lo w A n := fun h0 => by
  obtain ⟨b, off, e, _, hc⟩ := hi.at_ h0
  obtain ⟨h1, cs, hx⟩ := hb b off e
  exact ⟨b, off, cs, e, h1, hx, fun i hin => ⟨_, by rw [← hx.cell (off + i)]; exact hc i hin⟩⟩
theorem Ints.on {lo : Nat} {w w' : World} {A : Option Addr} {n : Nat} (h : Ints lo w A n) (k : Below w.heap.size w w') : Ints lo w' A n := fun h0 => by
  obtain ⟨b, off, cs, e, h1, hx, hc⟩ := h h0
  exact ⟨b, off, cs, e, h1, hx.on k, hc⟩
theorem Ints.put {lo : Nat} {w : World} {A : Option Addr} {n : Nat} (h : Ints lo w A n) {b0 o0 : Nat} {cs0 : Array Value} (h0 : Box w b0 3 cs0) (z : Int) : Ints lo (w.setCell ⟨b0, o0, none⟩ (.int .i64 z)) A n := fun hn => by
  obtain ⟨b, off, cs, e, h1, hx, hc⟩ := h hn
  by_cases eb : b = b0
  · subst eb
    have ec : cs = cs0 := by
      have := hx.symm.trans h0
      simpa using this
    subst ec
    refine ⟨b, off, _, e, h1, hx.put o0 (.int .i64 z), fun i hi => ?_⟩
    obtain ⟨y, hy⟩ := hc i hi
    by_cases eo : off + i = o0
    · subst eo
      have hl := (Array.getElem?_eq_some_iff.1 hy).1
      exact ⟨z, by rw [Array.getElem?_setIfInBounds_self_of_lt hl]⟩
    · exact ⟨y, by rw [Array.getElem?_setIfInBounds_ne (by omega)]; exact hy⟩
  · exact ⟨b, off, cs, e, h1, ((Kept.refl (fun i => i = b0) w).setCell (p := ⟨b0, o0, none⟩) (fun _ => rfl) _).box hx eb, hc⟩
/-- how things stand while the values read are turned -/
structure Trn (lo : Nat) (w0 w : World) (g : Nat) (C : Array Value) (A0 A1 : Option Addr) (n0 n1 : Nat) : Prop where
  box : Box w g 46 C
  bel : Below lo w0 w
  i0 : Ints lo w A0 n0
  i1 : Ints lo w A1 n1
theorem Trn.put {lo : Nat} {w0 w : World} {g : Nat} {C : Array Value} {A0 A1 : Option Addr} {n0 n1 : Nat} (h : Trn lo w0 w g C A0 A1 n0 n1) {b0 o0 : Nat} {cs0 : Array Value} (h0 : Box w b0 3 cs0) (hlo : lo ≤ b0) (hw : lo ≤ w0.heap.size) (z : Int) : Trn lo w0 (w.setCell ⟨b0, o0, none⟩ (.int .i64 z)) g C A0 A1 n0 n1 := by
  have kk : Kept (fun i => i = b0) w (w.setCell ⟨b0, o0, none⟩ (.int .i64 z)) := (Kept.refl (fun i => i = b0) w).setCell (p := ⟨b0, o0, none⟩) (fun _ => rfl) _
  refine ⟨kk.box h.box (fun e => by subst e; exact h.box.apart h0 (by decide) rfl), h.bel.trans (kk.below (Nat.le_trans hw h.bel.size) (fun i hi e => by omega)), h.i0.put h0 z, h.i1.put h0 z⟩

set_option maxRecDepth 10000 in
set_option maxHeartbeats 12800000 in
theorem reads_calls (w : World) (A : Option Addr) (n c : Nat) (l : List Int) (K : Kv) (X : Nat → Value) (hT : Tab w) (hl : Sl w (fun _ => True) A n c l) (hK : KnR w K X) : Calls Tryd.prog 4 #[.slice A n c, kvV K X] w (Law w) := by
  have hpos0 : 0 < w.heap.size := hT.zero
  obtain ⟨C, hC⟩ : ∃ C, C = (kvC K X).toArray := ⟨_, rfl⟩
  have eC : kvV K X = .agg C := by rw [hC]; rfl
  obtain ⟨Z, hZ⟩ : ∃ Z, Z = (kvC kz X0).toArray := ⟨_, rfl⟩
  have hz' : ∀ w, (zeroValue 46).run Tryd.prog w = .ok (.agg Z) w := fun w => by rw [hZ]; exact zero46 w
  obtain ⟨w1, hw1⟩ : ∃ x, w.alloc (.cells C 46) = x := ⟨_, rfl⟩
  have b1 : Box w1 w.heap.size 46 (kvC K X).toArray := by rw [← hw1, hC]; exact Box.made _ _ _
  have k1 : Below w.heap.size w w1 := by rw [← hw1]; exact on_alloc _ _
  have H0T := Lib.hid hT
  have HZ := Lib.hid (show Z.size = 210 by rw [hZ, kvC_size])
  have H1 := Lib.hid (And.intro hw1 (And.intro b1 (And.intro k1 (And.intro (hl.low.kept (Kept.of_below k1 (fun _ => False)) (fun _ _ e => e)) (And.intro (hT.on k1) (And.intro (hK.on k1) eC))))))
  rw [eC]
  obtain ⟨VT, hVT⟩ : ∃ V, V = tbV K.tb X := ⟨_, rfl⟩
  have HVT := Lib.hid hVT
  have hfw := few_any w1 K.tb X (hK.on k1).sl
  rw [← hVT] at hfw
  have HFw := Lib.hid hfw
  have HLt := Lib.hid (show (Instr.loadAt 31 (.pointer (some ⟨w.heap.size, 0, none⟩))).run Tryd.prog w1 = .ok VT w1 by rw [hVT]; exact b1.kvtb.load)
  have hlen := hl.len
  clear hw1 b1 k1 hl hT hK hC hZ eC hVT hfw
  by_cases hn : (4000 : Int) < (n : Int)
  · go_enter Tryd.func4, Tryd.ntmps4
    go_upto_region 1 with fail
    rw [H1.out.1]
    have HA := Lib.hid (awake_any w1 H1.out.2.2.2.2.1)
    have HB3 := H1.out.2.2.1
    go_wp2_with fail
    refine Calls.mono HA.out ?_
    rintro e w3 ⟨rfl, b3⟩
    have H3 := Lib.hid (on_trans HB3 b3)
    clear b3
    go_wp2_with fail
    go_ret
    exact ⟨rfl, H3.out⟩
  go_enter Tryd.func4, Tryd.ntmps4
  go_upto_region 1 with fail
  rw [H1.out.1]
  go_wp2_with (first
    | (refine wpList_load_when (op := ⟨some 18, _, _, _, _, _⟩) (by rfl) 31 (.tmp 17) rfl (.pointer (some ⟨w.heap.size, 0, none⟩)) rfl VT HLt.out ?_)
    | fail)
  refine Calls.mono HFw.out ?_
  rintro e w2 ⟨fb, rfl, hfb, k2⟩
  have H2 := Lib.hid (And.intro (on_trans H1.out.2.2.1 k2) (And.intro (H1.out.2.1.on k2) (And.intro (H1.out.2.2.2.1.kept (Kept.of_below k2 (fun _ => False)) (fun _ _ e => e)) (And.intro (H1.out.2.2.2.2.1.on k2) (And.intro (H1.out.2.2.2.2.2.1.on k2) hfb)))))
  clear k2 hfb HFw HLt
  cases fb with
  | false =>
    have HA := Lib.hid (awake_any w2 H2.out.2.2.2.1)
    have HB3 := H2.out.1
    go_wp2_with fail
    refine Calls.mono HA.out ?_
    rintro e w3 ⟨rfl, b3⟩
    have H3 := Lib.hid (on_trans HB3 b3)
    clear b3
    go_wp2_with fail
    go_ret
    exact ⟨rfl, H3.out⟩
  | true =>
  have HFe := Lib.hid (fun (j : Nat) (hj : j < 4) => Nat.le_trans (H2.out.2.2.2.2.2 rfl j hj) (show 300 ≤ 5000 by omega))
  obtain ⟨VK, hVK⟩ : ∃ V, V = kvV K X := ⟨_, rfl⟩
  have HVK := Lib.hid hVK
  clear hVK
  go_upto_region 4 with (first
    | ((with_reducible refine wpList_append_z (o := ⟨some 25, _, _, _, _, _⟩) rfl (.tmp 23) (.tmp 24) rfl w2.heap.size (.slice (some ⟨w2.heap.size, 0, none⟩) 0 0) 0 [] rfl (World.ownsRow_made w2 #[] 0 (Nat.le_refl _) (Nat.zero_le _) rfl) _ A n c l rfl (H2.out.2.2.1.kept (Kept.of_below (on_alloc w2 (.cells #[] 5)) (fun _ => False)) (fun _ _ e => e)) ?h63 ?hba ?_)
       case h63 => omega
       case hba => simp
       intro v3 w3 g3
       obtain ⟨m3, hm3⟩ : ∃ m, m = 0 + n := ⟨_, rfl⟩
       rw [← hm3] at g3
       have Hm3 := Lib.hid hm3
       obtain ⟨A3, c3, hv3⟩ := g3.val
       subst hv3
       obtain ⟨A3', c3', e3, sl3⟩ := sl_of_own g3.own (by rw [List.nil_append]; exact H1.out.2.2.2.1.bts.fit)
       cases e3
       rw [List.nil_append] at sl3
       have b3 : Below w2.heap.size w2 w3 := (on_alloc w2 (.cells #[] 5)).trans (g3.kep.below (by simp) (fun i hi e => by
         have : w2.heap.size = i := by injection e
         omega))
       have H3 := Lib.hid (And.intro sl3 (And.intro (on_trans H2.out.1 b3) (And.intro (H2.out.2.1.on b3) (And.intro (H2.out.2.2.1.kept (Kept.of_below b3 (fun _ => False)) (fun _ _ e => e)) (And.intro (H2.out.2.2.2.1.on b3) (H2.out.2.2.2.2.1.on b3))))))
       have HL3 := Lib.hid (show (Instr.loadAt 46 (.pointer (some ⟨w.heap.size, 0, none⟩))).run Tryd.prog w3 = .ok VK w3 by rw [HVK.out]; exact (H2.out.2.1.on b3).loadK)
       clear g3 sl3 b3 hm3)
    | fail)
  obtain ⟨g6, hg6⟩ : ∃ g, g = w3.heap.size := ⟨_, rfl⟩
  go_upto_region 5 with (first
    | (with_reducible refine wpList_load_to (op := ⟨some 26, _, _, _, _, _⟩) rfl 46 (.tmp 3) rfl (.pointer (some ⟨w.heap.size, 0, none⟩)) rfl VK HL3.out ?_)
    | ((with_reducible refine wpList_store_kv (o := ⟨none, _, _, _, _, _⟩) rfl (.tmp 6) (.tmp 26) rfl rfl w3.heap.size K X H3.out.2.2.2.2.2.one rfl ?hy Z (Box.made _ _ _) HZ.out ?_)
       case hy => exact HVK.out
       intro w4 b4 k4
       have H4a := Lib.hid (And.intro b4 k4)
       clear b4 k4)
    | fail)
  have b34 : Below w3.heap.size w3 w4 := (on_alloc w3 (.cells Z 46)).trans (H4a.out.2.below (by simp) (fun i hi e => by omega))
  have bx4 : Box w4 g6 46 (kvC K X).toArray := by rw [hg6]; exact H4a.out.1
  have hg36 : w.heap.size < g6 := by rw [hg6]; exact H3.out.2.2.1.lt
  rw [← hg6]
  have H4 := Lib.hid (And.intro ((H3.out.1.low.kept (Kept.of_below b34 (fun _ => False)) (fun _ _ e => e)).mono (K' := fun b => b < g6) (fun b _ h => by rw [hg6]; exact h)) (And.intro (on_trans H3.out.2.1 b34) (And.intro (H3.out.2.2.1.on b34) (And.intro (H3.out.2.2.2.1.kept (Kept.of_below b34 (fun _ => False)) (fun _ _ e => e)) (And.intro (H3.out.2.2.2.2.1.on b34) (And.intro (H3.out.2.2.2.2.2.on b34) bx4))))))
  have how := own_at w4 K.tb X H4.out.2.2.2.2.2.1.one H4.out.2.2.2.2.2.1.sl HFe.out
  rw [← HVT.out] at how
  have HOw := Lib.hid how
  have HL4 := Lib.hid (show (Instr.loadAt 31 (.pointer (some ⟨w.heap.size, 0, none⟩))).run Tryd.prog w4 = .ok VT w4 by rw [HVT.out]; exact H4.out.2.2.1.kvtb.load)
  have Hkn := Lib.hid (fun (wy wz : World) (k1 : Below w4.heap.size w4 wy) (k2 : Kept (fun i => i = g6) wy wz) => show KnR wz K X from KnR.kept_new H3.out.2.2.2.2.2 (b34.trans (k1.mono b34.size)) (by rw [hg6]; exact Nat.le_refl _) k2)
  have hg64 : g6 < w4.heap.size := bx4.lt
  clear b34 bx4 hg6 H4a how HL3
  go_wp2_with (first
    | (with_reducible refine wpList_load_to (op := ⟨some 28, _, _, _, _, _⟩) rfl 31 (.tmp 27) rfl (.pointer (some ⟨w.heap.size, 0, none⟩)) rfl VT HL4.out ?_)
    | fail)
  refine Calls.mono HOw.out ?_
  rintro e w5 ⟨X', rfl, h1X', hX', k5⟩
  obtain ⟨VT', hVT'⟩ : ∃ V, V = tbV K.tb X' := ⟨_, rfl⟩
  rw [← hVT']
  have HX := Lib.hid (And.intro hVT' (And.intro h1X' (And.intro hX' k5)))
  obtain ⟨VK', hVK'⟩ : ∃ V, V = kvV K X' := ⟨_, rfl⟩
  have HVK' := Lib.hid hVK'
  clear hVT' h1X' hX' k5 hVK' HOw HL4
  go_upto_region 6 with (first
    | ((with_reducible refine wpList_store_tbk (o := ⟨none, _, _, _, _, _⟩) rfl (.tmp 30) (.tmp 29) rfl rfl (H4.out.2.2.2.2.2.2.on HX.out.2.2.2) X' HX.out.2.1 rfl ?hy ?_)
       case hy => exact HX.out.1
       intro w6 b6 k6
       have H6a := Lib.hid (And.intro b6 k6)
       clear b6 k6)
    | fail)
  have k45 := HX.out.2.2.2
  have bel6 : Below w.heap.size w w6 := (on_trans H4.out.2.1 k45).trans (H6a.out.2.below (on_trans H4.out.2.1 k45).size (fun i hi e => by omega))
  have slx : Sl w6 (fun b => b < g6) A3 m3 c3 l := (H4.out.1.kept (Kept.of_below k45 (fun _ => False)) (fun _ _ e => e)).kept H6a.out.2 (fun b hb e => by omega)
  have slb : Sl w6 (fun b => b < w.heap.size) A n c l := (H4.out.2.2.2.1.kept (Kept.of_below k45 (fun _ => False)) (fun _ _ e => e)).kept H6a.out.2 (fun b hb e => by omega)
  have kn6 : KnR w6 K X := Hkn.out _ _ k45 H6a.out.2
  have kx6 : KnR w6 K X' := ⟨kn6.wt, HX.out.2.1, fun j hj => by
    obtain ⟨A, n, c, e, hi, hb⟩ := HX.out.2.2.1 j hj
    exact ⟨A, n, c, e, hi.far H6a.out.2 (fun _ b off ea => by have := hb b off ea; omega)⟩⟩
  have bt6 : Box w6 w.heap.size 46 (kvC K X).toArray := H6a.out.2.box (H4.out.2.2.1.on k45) (by omega)
  have H6 := Lib.hid (And.intro bel6 (And.intro slx (And.intro slb (And.intro kn6 (And.intro kx6 (And.intro bt6 (And.intro H6a.out.1 (H0T.out.on bel6))))))))
  clear k45 bel6 slx slb kn6 kx6 bt6 H6a Hkn
  obtain ⟨R, hR⟩ : ∃ R, R = readF l K := ⟨_, rfl⟩
  have hrd := read_any w6 _ A3 m3 c3 l K X' H6.out.2.1 (by have := Hm3.out; omega) H6.out.2.2.2.2.1 (fun j hj => Nat.le_trans (HFe.out j hj) (by omega)) H6.out.2.2.2.2.2.2.2
  rw [← hR, ← HVK'.out] at hrd
  have HRd := Lib.hid hrd
  have HR := Lib.hid hR
  have HL6 := Lib.hid (show (Instr.loadAt 46 (.pointer (some ⟨g6, 0, none⟩))).run Tryd.prog w6 = .ok VK' w6 by rw [HVK'.out]; exact H6.out.2.2.2.2.2.2.1.loadK)
  clear hrd hR
  go_wp2_with (first
    | (with_reducible refine wpList_load_to (op := ⟨some 33, _, _, _, _, _⟩) rfl 46 (.tmp 6) rfl (.pointer (some ⟨g6, 0, none⟩)) rfl VK' HL6.out ?_)
    | fail)
  refine Calls.mono HRd.out ?_
  rintro e w7 ⟨X1, rfl, kn7, b7⟩
  obtain ⟨VR, hVR⟩ : ∃ V, V = kvV R.1 X1 := ⟨_, rfl⟩
  rw [← hVR]
  have HVR := Lib.hid hVR
  have H7 := Lib.hid (And.intro kn7 (And.intro kn7.one b7))
  clear kn7 b7 hVR HRd HL6
  obtain ⟨g7, hg7⟩ : ∃ g, g = w7.heap.size := ⟨_, rfl⟩
  go_upto_region 7 with (first
    | ((with_reducible refine wpList_store_kv (o := ⟨none, _, _, _, _, _⟩) rfl (.tmp 7) (.tmp 35) rfl rfl w7.heap.size R.1 X1 H7.out.2.1 rfl ?hy Z (Box.made _ _ _) HZ.out ?_)
       case hy => exact HVR.out
       intro w8 b8 k8
       have H8a := Lib.hid (And.intro b8 k8)
       clear b8 k8)
    | fail)
  have b78 : Below w7.heap.size w7 w8 := (on_alloc w7 (.cells Z 46)).trans (H8a.out.2.below (by simp) (fun i hi e => by omega))
  have bx8 : Box w8 g7 46 (kvC R.1 X1).toArray := by rw [hg7]; exact H8a.out.1
  have hg67 : w6.heap.size ≤ g7 := by rw [hg7]; exact H7.out.2.2.size
  rw [← hg7]
  have b68 : Below w6.heap.size w6 w8 := on_trans H7.out.2.2 b78
  have H8 := Lib.hid (And.intro b68 (And.intro bx8 (H7.out.1.on b78)))
  have hrd := refRead_any w8 _ A n c l K X (H6.out.2.2.1.kept (Kept.of_below b68 (fun _ => False)) (fun _ _ e => e)) (by omega) (H6.out.2.2.2.1.on b68)
  rw [← HR.out, ← HVK.out] at hrd
  have HRd := Lib.hid hrd
  have HL8 := Lib.hid (show (Instr.loadAt 46 (.pointer (some ⟨w.heap.size, 0, none⟩))).run Tryd.prog w8 = .ok VK w8 by rw [HVK.out]; exact (H6.out.2.2.2.2.2.1.on b68).loadK)
  clear b78 bx8 b68 hg7 H8a hrd
  go_wp2_with (first
    | (with_reducible refine wpList_load_to (op := ⟨some 39, _, _, _, _, _⟩) rfl 46 (.tmp 3) rfl (.pointer (some ⟨w.heap.size, 0, none⟩)) rfl VK HL8.out ?_)
    | fail)
  refine Calls.mono HRd.out ?_
  rintro e w9 ⟨X2, rfl, kn9, b9⟩
  obtain ⟨VR2, hVR2⟩ : ∃ V, V = kvV R.1 X2 := ⟨_, rfl⟩
  rw [← hVR2]
  have HVR2 := Lib.hid hVR2
  have H9 := Lib.hid (And.intro kn9 (And.intro kn9.one b9))
  clear kn9 b9 hVR2 HRd HL8
  obtain ⟨g9, hg9⟩ : ∃ g, g = w9.heap.size := ⟨_, rfl⟩
  go_upto_region 8 with (first
    | ((with_reducible refine wpList_store_kv (o := ⟨none, _, _, _, _, _⟩) rfl (.tmp 9) (.tmp 41) rfl rfl w9.heap.size R.1 X2 H9.out.2.1 rfl ?hy Z (Box.made _ _ _) HZ.out ?_)
       case hy => exact HVR2.out
       intro w10 b10 k10
       have H10a := Lib.hid (And.intro b10 k10)
       clear b10 k10)
    | fail)
  have b910 : Below w9.heap.size w9 w10 := (on_alloc w9 (.cells Z 46)).trans (H10a.out.2.below (by simp) (fun i hi e => by omega))
  have bx10 : Box w10 g9 46 (kvC R.1 X2).toArray := by rw [hg9]; exact H10a.out.1
  rw [← hg9]
  have b810 : Below w8.heap.size w8 w10 := on_trans H9.out.2.2 b910
  have HLa := Lib.hid (show (Instr.loadAt 46 (.pointer (some ⟨g7, 0, none⟩))).run Tryd.prog w10 = .ok VR w10 by rw [HVR.out]; exact (H8.out.2.1.on b810).loadK)
  have HLb := Lib.hid (show (Instr.loadAt 46 (.pointer (some ⟨g9, 0, none⟩))).run Tryd.prog w10 = .ok VR2 w10 by rw [HVR2.out]; exact bx10.loadK)
  have HSm := Lib.hid (show Calls Tryd.prog 17 #[VR, VR2] w10 (Law w10) by rw [HVR.out, HVR2.out]; exact same_any w10 R.1 X1 X2 ((H8.out.2.2.on b810).knr) (H9.out.1.on b910))
  have H10 := Lib.hid (And.intro (on_trans H8.out.1 b810) (And.intro (H8.out.2.1.on b810) (H8.out.2.2.on b810)))
  clear b910 bx10 hg9 H10a b810
  go_wp2_with (first
    | (with_reducible refine wpList_load_to (op := ⟨some 43, _, _, _, _, _⟩) rfl 46 (.tmp 7) rfl (.pointer (some ⟨g7, 0, none⟩)) rfl VR HLa.out ?_)
    | (with_reducible refine wpList_load_to (op := ⟨some 44, _, _, _, _, _⟩) rfl 46 (.tmp 9) rfl (.pointer (some ⟨g9, 0, none⟩)) rfl VR2 HLb.out ?_)
    | fail)
  refine Calls.mono HSm.out ?_
  rintro e w11 ⟨rfl, b11⟩
  obtain ⟨A0, n0, c0, e0, i0, p0⟩ := (H10.out.2.2.on b11).sl 0 (by omega)
  obtain ⟨A1, n1, c1, e1, i1, p1⟩ := (H10.out.2.2.on b11).sl 1 (by omega)
  have H11 := Lib.hid (And.intro (show Trn w6.heap.size w11 w11 g7 (kvC R.1 X1).toArray A0 A1 n0 n1 from ⟨H10.out.2.1.on b11, Below.refl _ _, Nw.ints i0 p0, Nw.ints i1 p1⟩) (And.intro (on_trans H10.out.1 b11) (And.intro (And.intro e0 e1) (And.intro i0.max (And.intro i1.max (And.intro i0.cap i1.cap))))))
  have hw611 : w6.heap.size ≤ w11.heap.size := (on_trans H10.out.1 b11).size
  clear b11 HSm HLa HLb e0 e1 i0 i1 p0 p1
  go_wp2_with fail
  go_loopw [52] (fun i wr => ∃ k : Nat, k ≤ 2 ∧ i = .int .i64 ((k : Nat) : Int) ∧ Trn w6.heap.size w11 wr g7 (kvC R.1 X1).toArray A0 A1 n0 n1) (fun i _ => 2 - (intOf i).toNat)
  case atStart => exact ⟨0, by omega, rfl, H11.out.1⟩
  case round =>
    obtain ⟨k, hk, rfl, hS⟩ := hrel
    have HS := Lib.hid hS
    clear hS
    by_cases hk2 : k < 2
    · have hk2' : (k : Int) < 2 := by omega
      obtain ⟨Ak, nk, ck, ek, hck, hnk, hik⟩ : ∃ Ak nk ck, X1 k = .slice Ak nk ck ∧ ck ≤ maxLen ∧ nk ≤ ck ∧ ∀ w', Trn w6.heap.size w11 w' g7 (kvC R.1 X1).toArray A0 A1 n0 n1 → Ints w6.heap.size w' Ak nk := by
        rcases (show k = 0 ∨ k = 1 by omega) with rfl | rfl
        · exact ⟨A0, n0, c0, H11.out.2.2.1.1, H11.out.2.2.2.1, H11.out.2.2.2.2.2.1, fun w' h => h.i0⟩
        · exact ⟨A1, n1, c1, H11.out.2.2.1.2, H11.out.2.2.2.2.1, H11.out.2.2.2.2.2.2, fun w' h => h.i1⟩
      have d1 : wr.cell? ⟨g7, 128 + 17 * k + 16, none⟩ = some (.slice Ak nk ck) := by rw [← ek]; exact HS.out.box.kvX (j := k) (by omega)
      have HI := Lib.hid (And.intro hik ek)
      have q1 : 128 + k * 17 + 16 = 128 + 17 * k + 16 := by omega
      simp only [maxLen] at hck
      clear hik ek
      go_wp2_with fail
      clear d1
      go_loopw [62] (fun j wi => ∃ m : Nat, m ≤ nk ∧ j = .int .i64 ((m : Nat) : Int) ∧ Trn w6.heap.size w11 wi g7 (kvC R.1 X1).toArray A0 A1 n0 n1) (fun j _ => nk - (intOf j).toNat)
      case atStart => exact ⟨0, by omega, rfl, HS.out⟩
      case round =>
        obtain ⟨m, hm, rfl, hS⟩ := hrel
        have HM := Lib.hid hS
        by_cases hmn : m < nk
        · have hmn' : (m : Int) < (nk : Int) := by omega
          obtain ⟨b, off, cs, eA, hlo, hx, hc⟩ := HI.out.1 _ hS (by omega)
          obtain ⟨z, hz⟩ := hc m hmn
          subst eA
          have d1 : wr.cell? ⟨g7, 128 + 17 * k + 16, none⟩ = some (.slice (some ⟨b, off, none⟩) nk ck) := by rw [← HI.out.2]; exact hS.box.kvX (j := k) (by omega)
          have d2 : wr.cell? ⟨b, off + m, none⟩ = some (.int .i64 z) := by rw [hx.cell]; exact hz
          have f2 : wr.frozen? ⟨b, off + m, none⟩ = false := hx.free _
          have HN := Lib.hid (fun y => hS.put (o0 := off + m) hx hlo hw611 y)
          clear hS hx hc hz hlo
          go_wp2_with fail
          go_roundw
          case rel => exact ⟨m + 1, by omega, by go_num, HN.out _⟩
          case measure => simp [intOf]; omega
        · have ek : m = nk := by omega
          have hmn' : ¬ (m : Int) < (nk : Int) := by omega
          clear hS ek
          go_wp2_with fail
          go_roundw
          case rel => exact ⟨k + 1, by omega, by go_num, HM.out⟩
          case measure => simp [intOf]; omega
    · have ek : k = 2 := by omega
      have hk2' : ¬ (k : Int) < 2 := by omega
      have b6r : Below w6.heap.size w6 wr := H11.out.2.1.trans HS.out.bel
      have HLa := Lib.hid (show (Instr.loadAt 46 (.pointer (some ⟨g6, 0, none⟩))).run Tryd.prog wr = .ok VK' wr by rw [HVK'.out]; exact (H6.out.2.2.2.2.2.2.1.on b6r).loadK)
      have HLb := Lib.hid (show (Instr.loadAt 46 (.pointer (some ⟨w.heap.size, 0, none⟩))).run Tryd.prog wr = .ok VK wr by rw [HVK.out]; exact (H6.out.2.2.2.2.2.1.on b6r).loadK)
      have HSm := Lib.hid (show Calls Tryd.prog 17 #[VK', VK] wr (Law wr) by rw [HVK'.out, HVK.out]; exact same_any wr K X' X (H6.out.2.2.2.2.1.on b6r) (H6.out.2.2.2.1.on b6r))
      have Hr := Lib.hid (And.intro (on_trans H6.out.1 b6r) (And.intro (H6.out.2.1.kept (Kept.of_below b6r (fun _ => False)) (fun _ _ e => e)) (And.intro (H6.out.2.2.1.kept (Kept.of_below b6r (fun _ => False)) (fun _ _ e => e)) (H6.out.2.2.2.2.2.2.2.on b6r))))
      clear ek b6r
      go_wp2_with (first
        | (with_reducible refine wpList_load_to (op := ⟨some 78, _, _, _, _, _⟩) rfl 46 (.tmp 6) rfl (.pointer (some ⟨g6, 0, none⟩)) rfl VK' HLa.out ?_)
        | (with_reducible refine wpList_load_to (op := ⟨some 79, _, _, _, _, _⟩) rfl 46 (.tmp 3) rfl (.pointer (some ⟨w.heap.size, 0, none⟩)) rfl VK HLb.out ?_)
        | fail)
      refine Calls.mono HSm.out ?_
      rintro e wa ⟨rfl, ba⟩
      obtain ⟨Sx, hSx⟩ : ∃ S, S = strOfNums l := ⟨_, rfl⟩
      have cv1 : (convert 37 9 (.slice A3 m3 c3)).run Tryd.prog wa = .ok (.string Sx) wa := by rw [hSx]; exact sl_str (Hr.out.2.1.kept (Kept.of_below ba (fun _ => False)) (fun _ _ e => e))
      have cv2 : (convert 37 9 (.slice A n c)).run Tryd.prog wa = .ok (.string Sx) wa := by rw [hSx]; exact sl_str (Hr.out.2.2.1.kept (Kept.of_below ba (fun _ => False)) (fun _ _ e => e))
      have HA := Lib.hid (awake_any wa (Hr.out.2.2.2.on ba))
      have Ha := Lib.hid (on_trans Hr.out.1 ba)
      clear ba HSm hSx HLa HLb
      go_wp2_with fail
      refine Calls.mono HA.out ?_
      rintro e wb ⟨rfl, bb⟩
      have Hb := Lib.hid (on_trans Ha.out bb)
      clear bb HA cv1 cv2
      go_wp2_with fail
      go_ret
      exact ⟨rfl, Hb.out⟩
end Go.Proofs.YtgipngedmblnmaaDoor
