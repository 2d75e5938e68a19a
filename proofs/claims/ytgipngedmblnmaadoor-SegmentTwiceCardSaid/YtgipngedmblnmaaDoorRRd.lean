/-
  The contracts of copied and ahead. The contracts of ahead and of Read. The contract of Read.
-/
import Derived.Test.YtgipngedmblnmaaDoorRSegs
namespace Go.Proofs.YtgipngedmblnmaaDoor
open Go.RowKit

/-- a slice of numbers in memory from lo on -/
structure Nw (lo : Nat) (w : World) (v : Value) (V : List Int) : Prop where
  is : ∃ A n c, v = .slice A n c ∧ Il w A n c V ∧ ∀ b off, A = some ⟨b, off, none⟩ → lo ≤ b ∧ ∃ cs, Box w b 3 cs
theorem Nw.kept {lo : Nat} {w w' : World} {v : Value} {V : List Int} (h : Nw lo w v V) {S : Nat → Prop} (k : Kept S w w') (hS : ∀ i, S i → ∀ cs, ¬ Box w i 3 cs) : Nw lo w' v V := by
  obtain ⟨A, n, c, e, hi, hb⟩ := h.is
  refine ⟨A, n, c, e, hi.kept k (fun b off ea hs => ?_), fun b off ea => ?_⟩
  · obtain ⟨_, cs, hx⟩ := hb b off ea
    exact hS b hs cs hx
  · obtain ⟨h1, cs, hx⟩ := hb b off ea
    exact ⟨h1, cs, k.box hx (fun hs => hS b hs cs hx)⟩
theorem Nw.on {lo : Nat} {w w' : World} {v : Value} {V : List Int} (h : Nw lo w v V) (k : Below w.heap.size w w') : Nw lo w' v V := h.kept (Kept.of_below k (fun _ => False)) (fun _ e => absurd e (fun e => e))
theorem Nw.mono {lo lo' : Nat} {w : World} {v : Value} {V : List Int} (h : Nw lo w v V) (hl : lo' ≤ lo) : Nw lo' w v V := by
  obtain ⟨A, n, c, e, hi, hb⟩ := h.is
  exact ⟨A, n, c, e, hi, fun b off ea => ⟨Nat.le_trans hl (hb b off ea).1, (hb b off ea).2⟩⟩
theorem Nw.one {lo : Nat} {w : World} {v : Value} {V : List Int} (h : Nw lo w v V) : v.oneCell' = true := by
  obtain ⟨A, n, c, rfl, _⟩ := h.is
  rfl
theorem ia_copy {w : World} {A : Option Addr} {n c : Nat} {l : List Int} (h : Ia w A n c l) (h0 : 0 < (cellsI l).length) : ∃ ad, A = some ad ∧ ∀ j v, (cellsI l)[j]? = some v → w.cell? (ad.add j) = some v := by
  obtain ⟨b, off, e, _⟩ := h.at_ (by have := h.len; rw [cellsI_len] at h0; omega)
  subst e
  exact ⟨_, rfl, h.read⟩
set_option maxHeartbeats 1600000 in
theorem copied_any (w : World) (A : Option Addr) (n c : Nat) (V : List Int) (h : Ia w A n c V) (hn : n ≤ 100000) : Calls Tryd.prog 53 #[.slice A n c] w fun e w' => ∃ v, e = .returned v ∧ Nw w.heap.size w' v V ∧ Below w.heap.size w w' := by
  have hmk := run_make_row' (P := Tryd.prog) 26 3 (.int .i64 0) 8 Tryd.underlying26 int_info rfl .i64 .i64 n (by omega) (by omega)
  obtain ⟨M, hM⟩ : ∃ M, M = madeCells #[.int .i64 0] n := ⟨_, rfl⟩
  rw [← hM] at hmk
  have hM2 : M = (cellsI (List.replicate n 0)).toArray := by
    apply Array.toList_inj.1
    rw [hM, toList_madeCells_one]
    simp [cellsI]
  obtain ⟨g, hg⟩ : ∃ g, g = w.heap.size := ⟨_, rfl⟩
  obtain ⟨w1, hw1⟩ : ∃ w1, w.alloc (.cells M 3) = w1 := ⟨_, rfl⟩
  have b1 : Box w1 g 3 (cellsI (List.replicate n 0)).toArray := by rw [hg, ← hw1, hM2]; exact Box.made _ _ _
  have k1 : Below w.heap.size w w1 := by rw [← hw1]; exact on_alloc _ _
  have hmw := hmk w
  rw [hw1, ← hg] at hmw
  have H1 := Lib.hid (And.intro b1 (And.intro k1 (And.intro (h.on k1) hg)))
  have hl := h.len
  have HL := Lib.hid hl
  clear hM hM2 hw1 b1 k1 hmk h hl hg
  go_enter Tryd.func53, Tryd.ntmps53
  go_wp2_with (first
    | ((with_reducible refine wpList_copy_splice (o := ⟨some 9, _, _, _, _, _⟩) rfl (.tmp 7) (.tmp 8) 26 26 rfl 3 Tryd.underlying26 int_size (some ⟨g, 0, none⟩) A n n n c rfl rfl g 0 (cellsI (List.replicate n 0)) 3 ?hg (cellsI V) ?hn ?hpos ?hfit (cellsI_one _) g ?w0 ?hb ?hgg ?_)
       case hb => exact Below.refl _ _
       case hg => exact H1.out.1
       case hn => rw [cellsI_len, HL.out]; simp
       case hpos => exact fun h0 => ⟨rfl, ia_copy H1.out.2.2.1 h0⟩
       case hfit => rw [cellsI_len, cellsI_len, List.length_replicate, HL.out]; omega
       case hgg => exact Nat.le_refl _
       intro w3 hb3 hbel
       have H3 := Lib.hid (And.intro hb3 hbel)
       clear hb3 hbel)
    | fail)
  go_ret
  have hb := H3.out.1.out
  rw [splice_all _ _ (by rw [cellsI_len, cellsI_len, HL.out, List.length_replicate]; exact Nat.le_refl _)] at hb
  have hbx : Box w3 g 3 (cellsI V).toArray := hb
  refine ⟨.slice (some ⟨g, 0, none⟩) n n, rfl, ⟨_, _, _, rfl, il_of_box hbx HL.out (by simp only [maxLen]; omega), fun b off e => by cases e; exact ⟨by rw [H1.out.2.2.2]; exact Nat.le_refl _, _, hbx⟩⟩, ?_⟩
  exact H1.out.2.1.trans (H3.out.2.mono (by rw [H1.out.2.2.2]; exact Nat.le_refl _))

/-- a slice is written into what is known -/
theorem Box.putX {w : World} {g : Nat} {K : Kv} {X : Nat → Value} (h : Box w g 46 (kvC K X).toArray) {j : Nat} (hj : j < 4) (v : Value) : Box (w.setCell ⟨g, 128 + 17 * j + 16, none⟩ v) g 46 (kvC K (updX X j v)).toArray := by
  have hb := h.put (128 + 17 * j + 16) v
  suffices e : (kvC K X).toArray.setIfInBounds (128 + 17 * j + 16) v = (kvC K (updX X j v)).toArray by rwa [e] at hb
  refine kv_ext (by rw [Array.size_setIfInBounds, kvC_size]) fun k hk => ?_
  by_cases c : k = 128 + 17 * j + 16
  · subst c
    rw [Array.getElem?_setIfInBounds_self_of_lt (by rw [kvC_size]; omega), kvAt_tb (by omega), tbAt_x]
    simp [updX]
  · rw [Array.getElem?_setIfInBounds_ne (by omega), List.getElem?_toArray, kvC_get K X hk]
    unfold kvAt
    split
    · rename_i h196
      unfold tbAt
      split
      · rfl
      · split
        · rfl
        · have hne : (k - 128) / 17 ≠ j := fun e => c (by omega)
          simp [updX, hne]
    · rfl
set_option maxRecDepth 100000 in
theorem build_old (w : World) (K : Kv) (X : Nat → Value) : (Instr.build 46 #[(0, tbV K.tb X), (1, .agg #[.bool (K.F 0), .bool (K.F 1)]), (2, .agg #[.bool (K.F 2), .bool (K.F 3)]), (3, .agg #[.bool (K.F 4), .bool (K.F 5)])]).run Tryd.prog w = .ok (kvV K.old X) w := by
  refine run_build w 46 _ _ ?_
  show Program.built _ _ _ = _
  kernel_rfl
end Go.Proofs.YtgipngedmblnmaaDoor

namespace Go.Proofs.YtgipngedmblnmaaDoor
open Go.RowKit

/-- how things stand while the tables' values are copied: k of either kind are done -/
structure Ahd (w wr : World) (K : Kv) (X X' : Nat → Value) (k : Nat) : Prop where
  src : Box wr w.heap.size 46 (kvC K X).toArray
  res : Box wr (w.heap.size + 1) 46 (kvC kz X0).toArray
  dst : Box wr (w.heap.size + 1 + 1) 46 (kvC K.old X').toArray
  bel : Below w.heap.size w wr
  one : ∀ j, (X' j).oneCell' = true
  new : ∀ j, j < 4 → j % 2 < k → Nw (w.heap.size + 1 + 1 + 1) wr (X' j) (K.tb.V j)
theorem Ahd.step {w wr w1 : World} {K : Kv} {X X' : Nat → Value} {k : Nat} (h : Ahd w wr K X X' k) (b : Below wr.heap.size wr w1) {j : Nat} (hj : j < 4) {v : Value} (hv : Nw wr.heap.size w1 v (K.tb.V j)) (hlo : w.heap.size + 1 + 1 + 1 ≤ wr.heap.size) :
    Ahd w (w1.setCell ⟨w.heap.size + 1 + 1, 128 + 17 * j + 16, none⟩ v) K X (updX X' j v) k ∧ Nw (w.heap.size + 1 + 1 + 1) (w1.setCell ⟨w.heap.size + 1 + 1, 128 + 17 * j + 16, none⟩ v) (updX X' j v j) (K.tb.V j) := by
  have kk : Kept (fun i => i = w.heap.size + 1 + 1) w1 (w1.setCell ⟨w.heap.size + 1 + 1, 128 + 17 * j + 16, none⟩ v) := (Kept.refl (fun i => i = w.heap.size + 1 + 1) w1).setCell (p := ⟨w.heap.size + 1 + 1, 128 + 17 * j + 16, none⟩) (fun _ => rfl) _
  have hd1 := h.dst.on b
  have hne : ∀ i, i = w.heap.size + 1 + 1 → ∀ cs, ¬ Box w1 i 3 cs := fun i e cs hx => by subst e; exact hd1.apart hx (by decide) rfl
  have hvv := (hv.mono hlo).kept kk hne
  refine ⟨⟨kk.box (h.src.on b) (by omega), kk.box (h.res.on b) (by omega), hd1.putX hj v, (on_trans h.bel b).trans (kk.below (on_trans h.bel b).size (fun i hi e => by omega)), fun i => ?_, fun i hi hk => ?_⟩, by rw [show updX X' j v j = v from if_pos rfl]; exact hvv⟩
  · unfold updX
    split
    · exact hv.one
    · exact h.one i
  · by_cases e : i = j
    · subst e
      rw [show updX X' i v i = v from if_pos rfl]
      exact hvv
    · rw [show updX X' j v i = X' i from if_neg e]
      exact ((h.new i hi hk).on b).kept kk hne
theorem updX_other {X : Nat → Value} {i j : Nat} {v : Value} (h : i ≠ j) : updX X j v i = X i := if_neg h
theorem three_made (w : World) (C Z D : Array Value) : ∃ w2, ((w.alloc (.cells C 46)).alloc (.cells Z 46)).alloc (.cells D 46) = w2 ∧ Box w2 w.heap.size 46 C ∧ Box w2 (w.heap.size + 1) 46 Z ∧ Box w2 (w.heap.size + 1 + 1) 46 D ∧ Below w.heap.size w w2 ∧ w2.heap.size = w.heap.size + 1 + 1 + 1 := by
  have a1 := Box.made w 46 C
  have a2 := Box.made (w.alloc (.cells C 46)) 46 Z
  have a3 := Box.made ((w.alloc (.cells C 46)).alloc (.cells Z 46)) 46 D
  refine ⟨_, rfl, (a1.alloc _).alloc _, ?_, ?_, on_trans (on_trans (on_alloc _ _) (on_alloc _ _)) (on_alloc _ _), by simp⟩
  · rw [show (w.alloc (.cells C 46)).heap.size = w.heap.size + 1 by simp] at a2
    exact a2.alloc _
  · rwa [show ((w.alloc (.cells C 46)).alloc (.cells Z 46)).heap.size = w.heap.size + 1 + 1 by simp] at a3
/-- what is known of other streams, in memory of its own -/
def AheadY (w : World) (K : Kv) (e : Ending) (w' : World) : Prop := ∃ X', e = .returned (kvV K.old X') ∧ KnO w.heap.size w' K.old X' ∧ Below w.heap.size w w'

set_option maxRecDepth 10000 in
set_option maxHeartbeats 6400000 in
theorem ahead_any (w : World) (K : Kv) (X : Nat → Value) (h : KnR w K X) (hfew : ∀ j, j < 4 → (K.tb.V j).length ≤ 100000) : Calls Tryd.prog 36 #[kvV K X] w (AheadY w K) := by
  obtain ⟨C, hC⟩ : ∃ C, C = (kvC K X).toArray := ⟨_, rfl⟩
  have eC : kvV K X = .agg C := by rw [hC]; rfl
  rw [eC]
  obtain ⟨Z, hZ⟩ : ∃ Z, Z = (kvC kz X0).toArray := ⟨_, rfl⟩
  have hz' : ∀ w, (zeroValue 46).run Tryd.prog w = .ok (.agg Z) w := fun w => by rw [hZ]; exact zero46 w
  obtain ⟨w2, hw2, b0, b1, k2, hs2⟩ := kv_made w C Z
  obtain ⟨D, hD⟩ : ∃ D, D = (kvC K.old X).toArray := ⟨_, rfl⟩
  rw [hC] at b0
  have b1' := b1
  rw [hZ] at b1'
  have HW := Lib.hid (And.intro hw2 (And.intro hs2 (And.intro b0 (And.intro b1' k2))))
  have f0 : w2.cell? ⟨w.heap.size, 196, none⟩ = some (.bool (K.F 0)) := b0.kvF (k := 0) (by omega)
  have f1 : w2.cell? ⟨w.heap.size, 197, none⟩ = some (.bool (K.F 1)) := b0.kvF (k := 1) (by omega)
  have f2 : w2.cell? ⟨w.heap.size, 198, none⟩ = some (.bool (K.F 2)) := b0.kvF (k := 2) (by omega)
  have f3 : w2.cell? ⟨w.heap.size, 199, none⟩ = some (.bool (K.F 3)) := b0.kvF (k := 3) (by omega)
  have f4 : w2.cell? ⟨w.heap.size, 200, none⟩ = some (.bool (K.F 4)) := b0.kvF (k := 4) (by omega)
  have f5 : w2.cell? ⟨w.heap.size, 201, none⟩ = some (.bool (K.F 5)) := b0.kvF (k := 5) (by omega)
  obtain ⟨q0, e0⟩ : ∃ q, q = K.F 0 := ⟨_, rfl⟩
  obtain ⟨q1, e1⟩ : ∃ q, q = K.F 1 := ⟨_, rfl⟩
  obtain ⟨q2, e2⟩ : ∃ q, q = K.F 2 := ⟨_, rfl⟩
  obtain ⟨q3, e3⟩ : ∃ q, q = K.F 3 := ⟨_, rfl⟩
  obtain ⟨q4, e4⟩ : ∃ q, q = K.F 4 := ⟨_, rfl⟩
  obtain ⟨q5, e5⟩ : ∃ q, q = K.F 5 := ⟨_, rfl⟩
  obtain ⟨Tc, eTc⟩ : ∃ v, v = (tbC K.tb X).toArray := ⟨_, rfl⟩
  have eT : Value.agg Tc = tbV K.tb X := by rw [eTc]; rfl
  have hb := fun w => build_old w K X
  rw [← e0, ← e1, ← e2, ← e3, ← e4, ← e5, ← eT, show kvV K.old X = .agg D by rw [hD]; rfl] at hb
  rw [← e0] at f0
  rw [← e1] at f1
  rw [← e2] at f2
  rw [← e3] at f3
  rw [← e4] at f4
  rw [← e5] at f5
  have HT := Lib.hid (And.intro eT (And.intro hb (And.intro h hfew)))
  have hld : (Instr.loadAt 31 (.pointer (some ⟨w.heap.size, 0, none⟩))).run Tryd.prog w2 = .ok (.agg Tc) w2 := by rw [eT]; exact b0.kvtb.load
  have HLd := Lib.hid hld
  have HDs := Lib.hid (And.intro hD (show D.size = 210 by rw [hD, kvC_size]))
  have HZs := Lib.hid (And.intro hZ (show Z.size = 210 by rw [hZ, kvC_size]))
  clear e0 e1 e2 e3 e4 e5 eTc eT hb hld hD hw2 b0 b1 b1' k2 hs2 hC hZ eC h hfew
  go_enter Tryd.func36, Tryd.ntmps36
  go_upto_region 1 with fail
  rw [HW.out.1]
  go_upto_region 2 with (first
    | (with_reducible refine wpList_load_to (op := ⟨some 6, _, _, _, _, _⟩) rfl 31 (.tmp 5) rfl (.pointer (some ⟨w.heap.size, 0, none⟩)) rfl (.agg Tc) HLd.out ?_)
    | (with_reducible refine wpList_build_to (op := ⟨some 13, _, _, _, _, _⟩) rfl 46 _ rfl (.agg D) #[(0, .agg Tc), (1, .agg #[.bool q0, .bool q1]), (2, .agg #[.bool q2, .bool q3]), (3, .agg #[.bool q4, .bool q5])] (by simp [Act.eval]) (HT.out.2.1 _) ?_)
    | ((with_reducible refine wpList_store_kv (o := ⟨none, _, _, _, _, _⟩) rfl (.tmp 3) (.tmp 13) rfl rfl w2.heap.size K.old X HT.out.2.2.1.one rfl ?hy Z (Box.made _ _ _) HZs.out.2 ?_)
       case hy => rw [HDs.out.1]; rfl
       intro w3' b3' k3'
       have H3 := Lib.hid (And.intro b3' k3')
       clear b3' k3')
    | fail)
  have hA : Ahd w w3' K X X 0 := by
    have hx : w2.heap.size = w.heap.size + 1 + 1 := HW.out.2.1
    have kk : Below w2.heap.size w2 w3' := (on_alloc w2 (.cells Z 46)).trans (H3.out.2.below (by simp) (fun i hi e => by omega))
    have hd := H3.out.1
    rw [hx] at hd
    exact ⟨HW.out.2.2.1.on kk, HW.out.2.2.2.1.on kk, hd, on_trans HW.out.2.2.2.2 kk, HT.out.2.2.1.one, fun j _ hj => absurd hj (by omega)⟩
  have hx : w2.heap.size = w.heap.size + 1 + 1 := HW.out.2.1
  have HA := Lib.hid hA
  clear hA
  rw [hx]
  clear hx
  go_wp2_with fail
  go_loopw [14] (fun i wr => ∃ (k : Nat) (X' : Nat → Value), k ≤ 2 ∧ i = .int .i64 ((k : Nat) : Int) ∧ Ahd w wr K X X' k) (fun i _ => 2 - (intOf i).toNat)
  case atStart => exact ⟨0, X, by omega, rfl, HA.out⟩
  case round =>
    obtain ⟨k, X', hk, rfl, hS⟩ := hrel
    have HS := Lib.hid hS
    clear hS
    have hlo : w.heap.size + 1 + 1 + 1 ≤ wr.heap.size := HS.out.dst.lt
    by_cases hk2 : k < 2
    · obtain ⟨A1, n1, c1, ex1, ia1⟩ := HT.out.2.2.1.sl k (by omega)
      obtain ⟨A2, n2, c2, ex2, ia2⟩ := HT.out.2.2.1.sl (2 + k) (by omega)
      have hn1 := HT.out.2.2.2 k (by omega)
      have hn2 := HT.out.2.2.2 (2 + k) (by omega)
      rw [ia1.len] at hn1
      rw [ia2.len] at hn2
      have d1 : wr.cell? ⟨w.heap.size, 128 + 17 * k + 16, none⟩ = some (.slice A1 n1 c1) := by rw [← ex1]; exact HS.out.src.kvX (j := k) (by omega)
      have HC1 := Lib.hid (copied_any wr A1 n1 c1 (K.tb.V k) (ia1.on HS.out.bel) hn1)
      have HI := Lib.hid (And.intro ia2 (And.intro hn2 (And.intro ex2 hlo)))
      have q1 : 128 + k * 17 + 16 = 128 + 17 * k + 16 := by omega
      have q2 : 162 + k * 17 + 16 = 128 + 17 * (2 + k) + 16 := by omega
      have hk2' : (k : Int) < 2 := by omega
      clear ia1 ia2 hn1 hn2 ex1 ex2
      go_wp2_with fail
      refine Calls.mono HC1.out ?_
      rintro e w4 ⟨v4, rfl, nw4, b4⟩
      have st4 := HS.out.step b4 (j := k) (by omega) nw4 HI.out.2.2.2
      have db4 := HS.out.dst.on b4
      have cD : w4.cell? ⟨w.heap.size + 1 + 1, 128 + 17 * k + 16, none⟩ = some (X' k) := db4.kvX (j := k) (by omega)
      have fD : w4.frozen? ⟨w.heap.size + 1 + 1, 128 + 17 * k + 16, none⟩ = false := db4.free _
      obtain ⟨A4, n4, c4, rfl, _⟩ := nw4.is
      obtain ⟨o4, ho4⟩ : ∃ o, o = X' k := ⟨_, rfl⟩
      rw [← ho4] at cD
      obtain ⟨w5, hw5⟩ : ∃ x, w4.setCell ⟨w.heap.size + 1 + 1, 128 + 17 * k + 16, none⟩ (.slice A4 n4 c4) = x := ⟨_, rfl⟩
      rw [hw5] at st4
      have H5 := Lib.hid (And.intro st4.1 st4.2)
      have hlo5 : w.heap.size + 1 + 1 + 1 ≤ w5.heap.size := H5.out.1.dst.lt
      have d2 : w5.cell? ⟨w.heap.size, 128 + 17 * (2 + k) + 16, none⟩ = some (.slice A2 n2 c2) := by rw [← HI.out.2.2.1]; exact H5.out.1.src.kvX (j := 2 + k) (by omega)
      have HC2 := Lib.hid (copied_any w5 A2 n2 c2 (K.tb.V (2 + k)) (HI.out.1.on H5.out.1.bel) HI.out.2.1)
      clear st4 db4 ho4 b4 nw4 HC1 d1
      go_wp2_with fail
      clear hw5 cD fD
      refine Calls.mono HC2.out ?_
      rintro e w6 ⟨v6, rfl, nw6, b6⟩
      have st6 := H5.out.1.step b6 (j := 2 + k) (by omega) nw6 hlo5
      have db6 := H5.out.1.dst.on b6
      have cD : w6.cell? ⟨w.heap.size + 1 + 1, 128 + 17 * (2 + k) + 16, none⟩ = some (updX X' k (.slice A4 n4 c4) (2 + k)) := db6.kvX (j := 2 + k) (by omega)
      have fD : w6.frozen? ⟨w.heap.size + 1 + 1, 128 + 17 * (2 + k) + 16, none⟩ = false := db6.free _
      obtain ⟨A6, n6, c6, rfl, _⟩ := nw6.is
      obtain ⟨o6, ho6⟩ : ∃ o, o = updX X' k (.slice A4 n4 c4) (2 + k) := ⟨_, rfl⟩
      rw [← ho6] at cD
      have hold : Nw (w.heap.size + 1 + 1 + 1) (w6.setCell ⟨w.heap.size + 1 + 1, 128 + 17 * (2 + k) + 16, none⟩ (.slice A6 n6 c6)) (.slice A4 n4 c4) (K.tb.V k) := by
        have h0 := H5.out.2
        rw [show updX X' k (.slice A4 n4 c4) k = .slice A4 n4 c4 from if_pos rfl] at h0
        exact (h0.on b6).kept ((Kept.refl (fun i => i = w.heap.size + 1 + 1) w6).setCell (p := ⟨w.heap.size + 1 + 1, 128 + 17 * (2 + k) + 16, none⟩) (fun _ => rfl) _) (fun i e cs hx => by subst e; exact db6.apart hx (by decide) rfl)
      have hfin : Ahd w (w6.setCell ⟨w.heap.size + 1 + 1, 128 + 17 * (2 + k) + 16, none⟩ (.slice A6 n6 c6)) K X (updX (updX X' k (.slice A4 n4 c4)) (2 + k) (.slice A6 n6 c6)) (k + 1) :=
        ⟨st6.1.src, st6.1.res, st6.1.dst, st6.1.bel, st6.1.one, fun j hj hjk => by
          by_cases e1 : j = 2 + k
          · subst e1
            exact st6.2
          · by_cases e2 : j = k
            · subst e2
              rw [updX_other e1, show updX X' j (.slice A4 n4 c4) j = .slice A4 n4 c4 from if_pos rfl]
              exact hold
            · exact st6.1.new j hj (by omega)⟩
      have HF := Lib.hid hfin
      clear st6 db6 ho6 b6 nw6 HC2 d2 hold hfin
      go_wp2_with fail
      go_roundw
      case rel => exact ⟨k + 1, _, by omega, by go_num, HF.out⟩
      case measure => simp [intOf]; omega
    · have ek : k = 2 := by omega
      have hS2 := HS.out
      rw [ek] at hS2
      have H9 := Lib.hid hS2
      obtain ⟨Vk, hVk⟩ : ∃ V, V = kvV K.old X' := ⟨_, rfl⟩
      have HV := Lib.hid (And.intro hVk (show (Instr.loadAt 46 (.pointer (some ⟨w.heap.size + 1 + 1, 0, none⟩))).run Tryd.prog wr = .ok Vk wr by rw [hVk]; exact Box.loadK hS2.dst))
      clear hS2 ek hVk
      go_wp2_with (first
        | (with_reducible refine wpList_load_to (op := ⟨some 42, _, _, _, _, _⟩) rfl 46 (.tmp 3) rfl (.pointer (some ⟨w.heap.size + 1 + 1, 0, none⟩)) rfl Vk HV.out.2 ?_)
        | ((with_reducible refine wpList_store_kv (o := ⟨none, _, _, _, _, _⟩) rfl (.tmp 2) (.tmp 42) rfl rfl (w.heap.size + 1) K.old X' H9.out.one rfl ?hy (kvC kz X0).toArray H9.out.res (kvC_size _ _) ?_)
           case hy => exact HV.out.1
           intro w9 b9 k9
           have HW9 := Lib.hid (And.intro b9 k9)
           clear b9 k9)
        | fail)
      refine bodyPost_ret (v := kvV K.old X') (results_c (fn := Tryd.f36) Tryd.results36 _ _ (w.heap.size + 1) _ rfl (loadVar_kv HW9.out.1)) rfl ?_
      have hne : ∀ i, i = w.heap.size + 1 → ∀ cs, ¬ Box wr i 3 cs := fun i e cs hx => by subst e; exact H9.out.res.apart hx (by decide) rfl
      refine ⟨X', rfl, ⟨⟨HT.out.2.2.1.wt.st, HT.out.2.2.1.wt.sb⟩, H9.out.one, fun j hj => ?_⟩, H9.out.bel.trans (HW9.out.2.below H9.out.bel.size (fun i hi e => by omega))⟩
      have := ((H9.out.new j hj (by omega)).mono (show w.heap.size ≤ w.heap.size + 1 + 1 + 1 by omega)).kept HW9.out.2 hne
      exact this.is
end Go.Proofs.YtgipngedmblnmaaDoor

namespace Go.Proofs.YtgipngedmblnmaaDoor
open Go.RowKit

/-- a stream that is read with what is known -/
noncomputable def readG (b : List Int) (K : Kv) : Kv × Int := if b.length < 2 then (kz, 3) else if b.getD 0 0 ≠ 255 ∨ b.getD 1 0 ≠ 216 then (kz, 4) else rdLoop (b.length + 1) (b.drop 2) 2 K
theorem readF_G (b : List Int) (K : Kv) : readF b K = readG b K.old := rfl
set_option maxHeartbeats 1600000 in
theorem read1_any (lo : Nat) (w : World) (g s gk : Nat) (A : Option Addr) (n c : Nat) (l : List Int) (K : Kv) (X : Nat → Value) (h : Rd lo w w g s gk A n c l 0 K X) (h7 : K.F 7 = false) (hN3 : 0 ≤ K.N 3 ∧ K.N 3 ≤ 65535) :
    Calls Tryd.prog 38 #[.pointer (some ⟨g, 0, none⟩), .pointer (some ⟨gk, 0, none⟩)] w (LoopE lo w g s gk A n c l (readG l K)) := by
  have hlen := h.len
  have f0 := h.fit 0
  have f1 := h.fit 1
  obtain ⟨R, hR⟩ : ∃ R, R = readG l K := ⟨_, rfl⟩
  rw [← hR]
  have HR := Lib.hid hR
  have H0 := Lib.hid (And.intro h (And.intro h7 (And.intro hN3 hlen)))
  clear hR h7 hN3 hlen
  by_cases hn : n ≤ 1
  · have HN := Lib.hid (num2_up lo w g s gk A n c l 0 K X h (by omega))
    have hr : R = (kz, 3) := by rw [HR.out]; unfold readG; rw [if_pos (by have := H0.out.2.2.2; omega)]
    have HRn := Lib.hid hr
    clear hr h f0 f1
    go_enter Tryd.func38, Tryd.ntmps38
    go_wp2_with fail
    refine Calls.mono HN.out ?_
    rintro e w2 ⟨rfl, k2⟩
    exact ⟨rfl, k2.mono (fun _ _ e => absurd e (fun e => e)), .inr ⟨3, ⟨by decide, HRn.out⟩, rfl⟩⟩
  have HN := Lib.hid (num2 lo w g s gk A n c l 0 K X h (by omega))
  obtain ⟨z, hz⟩ : ∃ z, z = 256 * l.getD 0 0 + l.getD (0 + 1) 0 := ⟨_, rfl⟩
  rw [← hz] at HN
  have Hz := Lib.hid (And.intro hz (And.intro f0 f1))
  clear hz h f0 f1
  go_enter Tryd.func38, Tryd.ntmps38
  go_wp2_with fail
  refine Calls.mono HN.out ?_
  rintro e w2 ⟨rfl, r2, _⟩
  have H2 := Lib.hid r2
  have HQ := Lib.hid (And.intro (require_yes w2 g 4) (require_no w2 g s A n c (0 + 2) 4 (by decide) r2.cur))
  clear r2 HN
  by_cases hz : ¬ z = 65496
  · have hr : R = (kz, 4) := by
      rw [HR.out]
      unfold readG
      rw [if_neg (by have := H0.out.2.2.2; omega), if_pos]
      have h0 := Hz.out.1
      have h1 := Hz.out.2.1
      have h2 := Hz.out.2.2
      by_cases e : l.getD 0 0 = 255
      · exact .inr (fun e' => hz (by rw [h0, e]; show 256 * 255 + l.getD 1 0 = _; omega))
      · exact .inl e
    have HRn := Lib.hid hr
    have hz' : (z == 65496) = false := by simpa using hz
    clear hr hz
    go_wp2_with fail
    refine Calls.mono HQ.out.2 ?_
    rintro e w3 ⟨rfl, k3⟩
    exact ⟨rfl, gone (kep_swap H2.out.kep) k3, .inr ⟨4, ⟨by decide, HRn.out⟩, rfl⟩⟩
  have hz' : z = 65496 := by omega
  have hr : R = rdLoop (l.length + 1) (l.drop 2) ((2 : Nat) : Int) K := by
    rw [HR.out]
    unfold readG
    have h0 := Hz.out.1
    have h1 := Hz.out.2.1
    have h2 := Hz.out.2.2
    rw [if_neg (by have := H0.out.2.2.2; omega), if_neg]
    · rfl
    · have e : 256 * l.getD 0 0 + l.getD 1 0 = 65496 := by rw [← hz', h0]
      omega
  have HRn := Lib.hid hr
  have HS := Lib.hid (readSegments_any lo w2 g s gk A n c l 2 K X (l.length + 1) (by have := H0.out.2.2.2; omega) H0.out.2.1 H0.out.2.2.1 H2.out.fresh)
  subst hz'
  clear hr hz
  go_wp2_with fail
  refine Calls.mono HQ.out.1 ?_
  rintro e w3 ⟨rfl, rfl⟩
  clear HQ
  go_wp2_with fail
  refine Calls.mono HS.out ?_
  rintro e w3 ⟨k3, ⟨rfl, hT⟩ | ⟨k, ⟨hk0, hrk⟩, rfl⟩⟩
  · have hk : Kept (fun i => i = gk ∨ i = g) w w3 := (kep_swap H2.out.kep).trans k3 (fun _ _ e => e)
    have HE := Lib.hid (And.intro hk hT)
    clear k3 hk hT
    go_wp2_with fail
    go_end0
    obtain ⟨hk, h0, X', p', r⟩ := HE.out
    refine ⟨hk, .inl ⟨rfl, by rw [HRn.out]; exact h0, X', p', ?_⟩⟩
    rw [HRn.out]
    exact H2.out.trans r
  · exact ⟨rfl, (kep_swap H2.out.kep).trans k3 (fun _ _ e => e), .inr ⟨k, ⟨hk0, by rw [HRn.out]; exact hrk⟩, rfl⟩⟩
theorem calls38 (args : Array Value) (w : World) : (callFunc 38 args).run Tryd.prog w = .ok (.enter 38 args) w := by kernel_rfl
theorem kz_kno (lo : Nat) (w : World) : KnO lo w kz X0 := ⟨kz_wt, fun _ => rfl, fun _ _ => ⟨none, 0, 0, rfl, Il.none w, fun b off e => by cases e⟩⟩
/-- what Read answers -/
def ReadY (w : World) (r : Kv × Int) (e : Ending) (w' : World) : Prop := ∃ X', e = .returned (.tuple #[kvV r.1 X', .int .i64 r.2]) ∧ KnO w.heap.size w' r.1 X' ∧ Below w.heap.size w w'
set_option maxRecDepth 10000 in
set_option maxHeartbeats 3200000 in
theorem read_any (w : World) (Ks : Nat → Prop) (A : Option Addr) (n c : Nat) (l : List Int) (K : Kv) (X : Nat → Value) (hl : Sl w Ks A n c l) (hn : n ≤ 100000) (hK : KnR w K X) (hfew : ∀ j, j < 4 → (K.tb.V j).length ≤ 100000) (hT : Tab w) : Calls Tryd.prog 18 #[.slice A n c, kvV K X] w (ReadY w (readF l K)) := by
  obtain ⟨C, hC⟩ : ∃ C, C = (kvC K X).toArray := ⟨_, rfl⟩
  have eC : kvV K X = .agg C := by rw [hC]; rfl
  have hmf : ∀ (fn : Fn) (first cap : Array Value) (w : World), (Instr.makeFunc fn first cap).run Tryd.prog w = .ok (.func fn first cap) w := fun _ _ _ _ => rfl
  obtain ⟨Z, hZ⟩ : ∃ Z, Z = (kvC kz X0).toArray := ⟨_, rfl⟩
  have hz' : ∀ w, (zeroValue 46).run Tryd.prog w = .ok (.agg Z) w := fun w => by rw [hZ]; exact zero46 w
  obtain ⟨w2, hw2, b0, b1, k2, hs2⟩ := kv_made w C Z
  rw [hC] at b0
  have hah := ahead_any w2 K X (hK.on k2) hfew
  have hld : (Instr.loadAt 46 (.pointer (some ⟨w.heap.size, 0, none⟩))).run Tryd.prog w2 = .ok (kvV K X) w2 := b0.loadK
  rw [eC] at hah hld ⊢
  have HA := Lib.hid hah
  have HLd := Lib.hid hld
  have hZs : Z.size = 210 := by rw [hZ, kvC_size]
  have HW := Lib.hid (And.intro hw2 (And.intro hs2 (And.intro b1 (And.intro k2 (And.intro hl (And.intro hT (And.intro hn hZs)))))))
  have hbz : ∀ w, (Instr.build 46 #[]).run Tryd.prog w = .ok (.agg Z) w := fun w => by rw [hZ]; exact build46 w
  have HZ := Lib.hid hZ
  obtain ⟨R, hR⟩ : ∃ R, R = readF l K := ⟨_, rfl⟩
  rw [← hR]
  have HR := Lib.hid hR
  have hpos0 : 0 < w.heap.size := hT.zero
  clear hR hw2 b0 b1 k2 hs2 hC hZ eC hl hK hfew hT hah hld hn hZs
  go_enter Tryd.func18, Tryd.ntmps18
  go_upto_region 1 with fail
  rw [HW.out.1]
  go_wp2_with (first
    | (with_reducible refine wpList_load_to (op := ⟨some 8, _, _, _, _, _⟩) rfl 46 (.tmp 3) rfl (.pointer (some ⟨w.heap.size, 0, none⟩)) rfl (.agg C) HLd.out ?_)
    | fail)
  refine Calls.mono HA.out ?_
  rintro e w3 ⟨X', rfl, kn3, b3⟩
  have H3 := Lib.hid (And.intro (kn3.one) (And.intro kn3 b3))
  obtain ⟨Vo, hVo⟩ : ∃ V, V = kvV K.old X' := ⟨_, rfl⟩
  rw [← hVo]
  have HVo := Lib.hid hVo
  obtain ⟨g2, hg2⟩ : ∃ g2, g2 = w3.heap.size := ⟨_, rfl⟩
  have Hg2 := Lib.hid hg2
  clear kn3 b3 hVo HA HLd hg2
  go_upto_region 2 with (first
    | ((with_reducible refine wpList_store_kv (o := ⟨none, _, _, _, _, _⟩) rfl (.tmp 6) (.tmp 9) rfl rfl w3.heap.size K.old X' H3.out.1 rfl ?hy Z (Box.made _ _ _) HW.out.2.2.2.2.2.2.2 ?_)
       case hy => exact HVo.out
       intro w4 b4 k4
       have H4 := Lib.hid (And.intro b4 k4)
       clear b4 k4)
    | fail)
  have hg2w : w2.heap.size ≤ w3.heap.size := H3.out.2.2.size
  have kk4 : Below w3.heap.size w3 w4 := (on_alloc w3 (.cells Z 46)).trans (H4.out.2.below (by simp) (fun i hi e => by omega))
  have k04 : Below w.heap.size w w4 := on_trans (on_trans HW.out.2.2.2.1 H3.out.2.2) kk4
  have b4 : Box w4 g2 46 (kvC K.old X').toArray := by rw [Hg2.out]; exact H4.out.1
  have kn4 : KnO w.heap.size w4 K.old X' := by
    have h0 : KnO w2.heap.size w4 K.old X' := H3.out.2.1.on kk4
    have hss : w.heap.size ≤ w2.heap.size := HW.out.2.2.2.1.size
    exact ⟨h0.wt, h0.one, fun j hj => by obtain ⟨A, n, c, e, hi, hb⟩ := h0.sl j hj; exact ⟨A, n, c, e, hi, fun b off ea => ⟨Nat.le_trans hss (hb b off ea).1, (hb b off ea).2⟩⟩⟩
  have res4 : Box w4 (w.heap.size + 1) 46 Z := (HW.out.2.2.1.on H3.out.2.2).on kk4
  have hg24 : g2 < w4.heap.size := b4.lt
  have hg20 : w.heap.size + 1 < g2 := by rw [Hg2.out]; have := HW.out.2.1; omega
  have ri : Rd w.heap.size (opened w4 A n c true) (opened w4 A n c true) (w4.heap.size + 1 + 1 + 1) (w4.heap.size + 1) g2 A n c l 0 K.old X' := by
    have hop := opened_size' w4 A n c true
    have hc := opened_cur w4 A n c true
    have hsz := opened_size w4 A n c true
    have sl4 : Sl w4 (fun b => b < w.heap.size) A n c l := (HW.out.2.2.2.2.1.low).kept (Kept.of_below k04 (fun _ => False)) (fun _ _ e => e)
    have hs4 := k04.size
    refine ⟨hc.own, hc.src, b4.on hop, kn4.on hop, ?_, (HW.out.2.2.2.2.2.1.on k04).on hop, Kept.refl _ _, by omega, HW.out.2.2.2.2.2.2.1, ⟨by omega, by omega, by omega⟩, ⟨by omega, by omega, by omega⟩, by omega⟩
    exact (sl4.kept (Kept.of_below hop (fun _ => False)) (fun _ _ e => e)).mono (fun b hb hk => by
      have hk' : b < w.heap.size := hk
      exact ⟨hb, by omega, by omega⟩)
  have hi := read1_any w.heap.size (opened w4 A n c true) (w4.heap.size + 1 + 1 + 1) (w4.heap.size + 1) g2 A n c l K.old X' ri rfl ⟨by show (0 : Int) ≤ 0; omega, by show (0 : Int) ≤ 65535; omega⟩
  rw [← readF_G, ← HR.out] at hi
  have HT := Lib.hid (try_any w4 A n c true 38 #[.pointer (some ⟨g2, 0, none⟩)] calls38 (fun i => i = g2) (fun i e => by subst e; exact hg24) _ _ hi)
  have H5 := Lib.hid (And.intro k04 (And.intro res4 (And.intro hg24 hg20)))
  have hgw3 := Hg2.out
  rw [← hgw3]
  clear hi ri kn4 b4 k04 kk4 res4 hgw3 hg24 hg20 hg2w
  go_wp2_with fail
  refine Calls.mono HT.out ?_
  rintro e w5 ⟨k5, ⟨rfl, w6, ⟨hR0, X2, p2, r6⟩, k6⟩ | ⟨k, ⟨hk0, hrk⟩, rfl⟩⟩
  · have hsz := opened_size w4 A n c true
    have hres : Box w6 w4.heap.size 38 #[.int .i64 0] := r6.kep.box (opened_res w4 A n c true) (by have := H5.out.2.2.1; rintro (e | e) <;> omega)
    have hkn : KnO w.heap.size w5 R.1 X2 := r6.kn.kept k6 (fun i e cs hb => by
      rcases e with rfl | rfl
      · exact hres.apart hb (by decide) rfl
      · exact r6.src.apart hb (by decide) rfl)
    have hkv : Box w5 g2 46 (kvC R.1 X2).toArray := k6.box r6.kv (by have := H5.out.2.2.1; omega)
    have hrs : Box w5 (w.heap.size + 1) 46 Z := k5.box H5.out.2.1 (by have := H5.out.2.2.2; omega)
    have hbel : Below w.heap.size w w5 := H5.out.1.trans (k5.below H5.out.1.size (fun i hi e => by have := H5.out.2.2.2; omega))
    have H6 := Lib.hid (And.intro hkn (And.intro hkv (And.intro hrs (And.intro hbel hR0))))
    obtain ⟨Vr, hVr⟩ : ∃ V, V = kvV R.1 X2 := ⟨_, rfl⟩
    have HVr := Lib.hid (And.intro hVr (show (Instr.loadAt 46 (.pointer (some ⟨g2, 0, none⟩))).run Tryd.prog w5 = .ok Vr w5 by rw [hVr]; exact hkv.loadK))
    clear k5 r6 k6 hsz hres hkn hkv hrs hbel hR0 hVr HT
    go_wp2_with (first
      | (with_reducible refine wpList_load_to (op := ⟨some 17, _, _, _, _, _⟩) rfl 46 (.tmp 6) rfl (.pointer (some ⟨g2, 0, none⟩)) rfl Vr HVr.out.2 ?_)
      | ((with_reducible refine wpList_store_kv (o := ⟨none, _, _, _, _, _⟩) rfl (.tmp 4) (.tmp 17) rfl rfl (w.heap.size + 1) R.1 X2 H6.out.1.one rfl ?hy Z H6.out.2.2.1 HW.out.2.2.2.2.2.2.2 ?_)
         case hy => exact HVr.out.1
         intro w9 b9 k9
         have H9 := Lib.hid (And.intro b9 k9)
         clear b9 k9)
      | fail)
    refine bodyPost_ret (v := .tuple #[kvV R.1 X2, .int .i64 0]) (results_ct (fn := Tryd.f18) Tryd.results18 _ _ (w.heap.size + 1) _ _ rfl rfl (loadVar_kv H9.out.1)) rfl ?_
    exact ⟨X2, by rw [H6.out.2.2.2.2], H6.out.1.kept H9.out.2 (fun i e cs hx => by subst e; exact H6.out.2.2.1.apart hx (by decide) rfl), H6.out.2.2.2.1.trans (H9.out.2.below H6.out.2.2.2.1.size (fun i hi e => by omega))⟩
  · have hrs : Box w5 (w.heap.size + 1) 46 Z := k5.box H5.out.2.1 (by have := H5.out.2.2.2; omega)
    have hbel : Below w.heap.size w w5 := H5.out.1.trans (k5.below H5.out.1.size (fun i hi e => by have := H5.out.2.2.2; omega))
    have H6 := Lib.hid (And.intro hrs (And.intro hbel hrk))
    have hk1 : (k == 0) = false := by simpa using hk0
    have hk2 : (k != 0) = true := by simpa using hk0
    clear k5 hrs hbel hrk hk0 HT
    go_wp2_with (first
      | ((with_reducible refine wpList_store_kv (o := ⟨none, _, _, _, _, _⟩) rfl (.tmp 4) (.tmp 15) rfl rfl (w.heap.size + 1) kz X0 (fun _ => rfl) rfl ?hy Z H6.out.1 HW.out.2.2.2.2.2.2.2 ?_)
         case hy => rw [HZ.out]; rfl
         intro w9 b9 k9
         have H9 := Lib.hid (And.intro b9 k9)
         clear b9 k9)
      | fail)
    refine bodyPost_ret (v := .tuple #[kvV kz X0, .int .i64 k]) (results_ct (fn := Tryd.f18) Tryd.results18 _ _ (w.heap.size + 1) _ _ rfl rfl (loadVar_kv H9.out.1)) rfl ?_
    exact ⟨X0, by rw [H6.out.2.2], by rw [H6.out.2.2]; exact kz_kno _ _, H6.out.2.1.trans (H9.out.2.below H6.out.2.1.size (fun i hi e => by omega))⟩
end Go.Proofs.YtgipngedmblnmaaDoor
