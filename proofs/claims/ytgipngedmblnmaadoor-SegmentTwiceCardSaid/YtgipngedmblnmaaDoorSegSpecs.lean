/-
  The contract of the reference's readSpecs. The contract of the reference's readSpecs: the walk.
-/
import Derived.Test.YtgipngedmblnmaaDoorSegRead
namespace Go.Proofs.YtgipngedmblnmaaDoor
open Go.RowKit

theorem Ia.kept {w w' : World} {S : Nat → Prop} {A : Option Addr} {n c : Nat} {xs : List Int} (h : Ia w A n c xs) (k : Kept S w w') (hS : 0 < n → ∀ b off, A = some ⟨b, off, none⟩ → ¬ S b) : Ia w' A n c xs :=
  ⟨h.len, h.cap, h.max, h.nil, fun h0 => by
    obtain ⟨b, off, e, hb, hc⟩ := h.at_ h0
    exact ⟨b, off, e, Nat.lt_of_lt_of_le hb k.size, fun i hi => (k.cell (p := ⟨b, off + i, none⟩) hb (hS h0 b off e)).trans (hc i hi)⟩⟩
/-- what is known, its slices apart from two blocks -/
structure KnA (g : Nat) (w : World) (K : Kv) (X : Nat → Value) : Prop where
  wt : Wt K.tb
  one : ∀ j, (X j).oneCell' = true
  sl : ∀ j, j < 4 → ∃ A n c, X j = .slice A n c ∧ Ia w A n c (K.tb.V j) ∧ (0 < n → ∀ b off, A = some ⟨b, off, none⟩ → b ≠ g ∧ b ≠ g + 1)
section
variable {g : Nat} {w w' : World} {K : Kv} {X : Nat → Value}
theorem KnA.knr (h : KnA g w K X) : KnR w K X := ⟨h.wt, h.one, fun j hj => by obtain ⟨A, n, c, e, hi, _⟩ := h.sl j hj; exact ⟨A, n, c, e, hi⟩⟩
theorem KnR.kna (h : KnR w K X) : KnA w.heap.size w K X := ⟨h.wt, h.one, fun j hj => by
  obtain ⟨A, n, c, e, hi⟩ := h.sl j hj
  refine ⟨A, n, c, e, hi, fun h0 b off ea => ?_⟩
  obtain ⟨b', off', e', hb, _⟩ := hi.at_ h0
  rw [e'] at ea
  cases ea
  omega⟩
theorem Fr.kna {w2 w' : World} {K K' : Kv} {X X' : Nat → Value} {g : Nat} (hf : Fr w2.heap.size X X') (ha : KnA g w2 K X) (hg : g + 1 < w2.heap.size) (hr : KnR w' K' X') : KnA g w' K' X' := ⟨hr.wt, hr.one, fun j hj => by
  obtain ⟨A, n, c, e, hi⟩ := hr.sl j hj
  refine ⟨A, n, c, e, hi, fun h0 b off ea => ?_⟩
  rcases hf j hj with e2 | h2
  · obtain ⟨A', n', c', e', _, ha'⟩ := ha.sl j hj
    rw [e2, e'] at e
    cases e
    exact ha' h0 b off ea
  · have := h2 b off n c (by rw [e, ea])
    omega⟩
theorem KnA.on (h : KnA g w K X) (k : Below w.heap.size w w') : KnA g w' K X := ⟨h.wt, h.one, fun j hj => by obtain ⟨A, n, c, e, hi, ha⟩ := h.sl j hj; exact ⟨A, n, c, e, hi.on k, ha⟩⟩
theorem KnA.kept (h : KnA g w K X) (k : Kept (fun i => i = g ∨ i = g + 1) w w') : KnA g w' K X := ⟨h.wt, h.one, fun j hj => by
  obtain ⟨A, n, c, e, hi, ha⟩ := h.sl j hj
  exact ⟨A, n, c, e, hi.kept k (fun h0 b off eb => by have := ha h0 b off eb; omega), ha⟩⟩
theorem KnA.setF (h : KnA g w K X) (i : Nat) (b : Bool) : KnA g w (K.setF i b) X := ⟨h.wt, h.one, h.sl⟩
theorem KnA.setS (h : KnA g w K X) (j : Nat) {B V : List Int} (hB : B.length = 16) {A : Option Addr} {n c : Nat} (hV : Ia w A n c V) (ha : 0 < n → ∀ b off, A = some ⟨b, off, none⟩ → b ≠ g ∧ b ≠ g + 1) : KnA g w (K.setS j B V) (updX X j (.slice A n c)) :=
  ⟨h.wt.setS j hB, fun k => by unfold updX; split; rfl; exact h.one k, fun k hk => by
    unfold updX Kv.setS Tb.setS
    dsimp only
    split
    · exact ⟨A, n, c, rfl, hV, ha⟩
    · exact h.sl k hk⟩
end
/-- how things stand in the reader of specifications -/
structure Rsp (w wr : World) (K : Kv) (X : Nat → Value) (Z : Array Value) (l : List Int) (A : Option Addr) (n c : Nat) : Prop where
  kv : Box wr w.heap.size 46 (kvC K X).toArray
  res : Box wr (w.heap.size + 1) 46 Z
  bel : Below w.heap.size w wr
  sl : Sl wr (fun b => b < w.heap.size) A n c l
  kn : KnA w.heap.size wr K X
section
variable {w wr w' : World} {K : Kv} {X : Nat → Value} {Z : Array Value} {l : List Int} {A : Option Addr} {n c : Nat}
theorem Rsp.on (h : Rsp w wr K X Z l A n c) (k : Below wr.heap.size wr w') : Rsp w w' K X Z l A n c :=
  ⟨h.kv.on k, h.res.on k, on_trans h.bel k, h.sl.kept (Kept.of_below k (fun _ => False)) (fun _ _ h => h), h.kn.on k⟩
theorem Rsp.turn (h : Rsp w wr K X Z l A n c) {K' : Kv} {X' : Nat → Value} (hb : Box w' w.heap.size 46 (kvC K' X').toArray) (k : Kept (fun i => i = w.heap.size) wr w') (hk : KnA w.heap.size w' K' X') : Rsp w w' K' X' Z l A n c :=
  ⟨hb, k.box h.res (by omega), h.bel.trans (k.below h.bel.size (fun i hi e => by omega)), h.sl.kept k (fun b (hb : b < w.heap.size) e => by omega), hk⟩
theorem Rsp.bytes (h : Rsp w wr K X Z l A n c) {l2 : List Int} {A2 : Option Addr} {n2 c2 : Nat} (hs : Sl wr (fun b => b < w.heap.size) A2 n2 c2 l2) : Rsp w wr K X Z l2 A2 n2 c2 := ⟨h.kv, h.res, h.bel, hs, h.kn⟩
end
/-- the counts so far -/
def bitsK (b : List Int) (k : Nat) : List Int := b.take k ++ List.replicate (16 - k) 0
theorem bitsK_len {b : List Int} (h : 16 ≤ b.length) {k : Nat} (hk : k ≤ 16) : (bitsK b k).length = 16 := by unfold bitsK; rw [List.length_append, List.length_take, List.length_replicate]; omega
theorem bitsK_more {b : List Int} (h : 16 ≤ b.length) {k : Nat} (hk : k < 16) : (bitsK b k).set k (b.getD k 0) = bitsK b (k + 1) := by
  unfold bitsK
  rw [show 16 - k = (16 - (k + 1)) + 1 by omega, List.replicate_succ, List.set_append_right _ _ (by rw [List.length_take]; omega), List.length_take, show k - min k b.length = 0 by omega, List.set_cons_zero, takeOne b (show k < b.length by omega), List.append_assoc]
  rfl
theorem bitsK_all {b : List Int} : bitsK b 16 = b.take 16 := by unfold bitsK; simp
theorem bitsK_zero {b : List Int} : bitsK b 0 = List.replicate 16 0 := rfl
theorem spec_put {B : List Int} (hB : B.length = 16) {k : Nat} (hk : k < 16) (v : Value) (z : Int) : (specC B v).setIfInBounds k (.int .i64 z) = specC (B.set k z) v := by
  apply Array.ext_getElem?
  intro i
  by_cases e : i = k
  · subst e
    rw [Array.getElem?_setIfInBounds_self_of_lt (by rw [specC_size hB]; omega), specC_at (by rw [List.length_set, hB]) hk]
    simp [List.getD_eq_getElem?_getD, hB, hk]
  · rw [Array.getElem?_setIfInBounds_ne (by omega)]
    rcases Nat.lt_or_ge i 17 with h17 | h17
    · rcases Nat.lt_or_ge i 16 with h16 | h16
      · rw [specC_at hB h16, specC_at (by rw [List.length_set, hB]) h16]
        simp [List.getD_eq_getElem?_getD, List.getElem?_set_ne (show k ≠ i by omega)]
      · obtain rfl : i = 16 := by omega
        rw [specC_last hB, specC_last (by rw [List.length_set, hB])]
    · rw [Array.getElem?_eq_none (by rw [specC_size hB]; omega), Array.getElem?_eq_none (by rw [specC_size (by rw [List.length_set, hB])]; omega)]
theorem spec_last {B : List Int} (hB : B.length = 16) (v v' : Value) : (specC B v).setIfInBounds 16 v' = specC B v' := by
  apply Array.ext_getElem?
  intro i
  by_cases e : i = 16
  · subst e
    rw [Array.getElem?_setIfInBounds_self_of_lt (by rw [specC_size hB]; omega), specC_last hB]
  · rw [Array.getElem?_setIfInBounds_ne (by omega)]
    rcases Nat.lt_or_ge i 16 with h16 | h16
    · rw [specC_at hB h16, specC_at hB h16]
    · rw [Array.getElem?_eq_none (by rw [specC_size hB]; omega), Array.getElem?_eq_none (by rw [specC_size hB]; omega)]
/-- the rounds of the reader of specifications -/
theorem rdSpecs_end {f : Nat} {K : Kv} : rdSpecs (f + 1) [] K = some K := by rw [rdSpecs, if_pos rfl]
theorem rdSpecs_few {f : Nat} {b : List Int} {K : Kv} (h : b ≠ []) (h1 : b.length < 17) : rdSpecs (f + 1) b K = none := by rw [rdSpecs, if_neg h, if_pos h1]
theorem rdSpecs_cut {f : Nat} {b : List Int} {K : Kv} (h : b ≠ []) (h1 : ¬ b.length < 17) (h2 : b.length < 17 + allN (b.drop 1) 16) : rdSpecs (f + 1) b K = none := by rw [rdSpecs, if_neg h, if_neg h1, if_pos h2]
theorem rdSpecs_bad {f : Nat} {b : List Int} {K : Kv} (h : b ≠ []) (h1 : ¬ b.length < 17) (h2 : ¬ b.length < 17 + allN (b.drop 1) 16) (h3 : ¬ Valid ((b.drop 1).take 16) ((b.drop 17).take (allN (b.drop 1) 16))) : rdSpecs (f + 1) b K = none := by rw [rdSpecs, if_neg h, if_neg h1, if_neg h2, if_pos h3]
theorem rdSpecs_who {f : Nat} {b : List Int} {K : Kv} (h : b ≠ []) (h1 : ¬ b.length < 17) (h2 : ¬ b.length < 17 + allN (b.drop 1) 16) (h3 : Valid ((b.drop 1).take 16) ((b.drop 17).take (allN (b.drop 1) 16))) (h4 : 1 < b.getD 0 0 % 16 ∨ 1 < b.getD 0 0 / 16) : rdSpecs (f + 1) b K = none := by rw [rdSpecs, if_neg h, if_neg h1, if_neg h2, if_neg (fun e => e h3), if_pos h4]
theorem rdSpecs_more {f : Nat} {b : List Int} {K : Kv} (h : b ≠ []) (h1 : ¬ b.length < 17) (h2 : ¬ b.length < 17 + allN (b.drop 1) 16) (h3 : Valid ((b.drop 1).take 16) ((b.drop 17).take (allN (b.drop 1) 16))) (h4 : ¬ (1 < b.getD 0 0 % 16 ∨ 1 < b.getD 0 0 / 16)) :
    rdSpecs (f + 1) b K = rdSpecs f (b.drop (17 + allN (b.drop 1) 16)) ((K.setS (2 * (b.getD 0 0 / 16) + b.getD 0 0 % 16).toNat ((b.drop 1).take 16) ((b.drop 17).take (allN (b.drop 1) 16))).setF (2 + 2 * (b.getD 0 0 / 16) + b.getD 0 0 % 16).toNat true) := by rw [rdSpecs, if_neg h, if_neg h1, if_neg h2, if_neg (fun e => e h3), if_neg h4]
theorem allN_le {b : List Int} (hf : Fit b) : ∀ {k : Nat}, allN b k ≤ 255 * k
  | 0 => Nat.le_refl _
  | k + 1 => by
    have ih := allN_le hf (k := k)
    have h0 : (b.getD k 0).toNat ≤ 255 := by
      rcases Nat.lt_or_ge k b.length with h | h
      · have := hf (b.getD k 0) (by rw [List.getD_eq_getElem?_getD, List.getElem?_eq_getElem h]; exact List.getElem_mem _)
        omega
      · rw [List.getD_eq_getElem?_getD, List.getElem?_eq_none h]
        exact Nat.zero_le _
    rw [allN]
    omega
/-- how things stand while values are read: a specification at gp, its values in a row of their own behind it -/
structure Vst (gp : Nat) (wr wi : World) (B V : List Int) (A : Option Addr) (j c : Nat) : Prop where
  bel : Below gp wr wi
  box : Box wi gp 28 (specC B (.slice A j c))
  own : wi.ownsRow (gp + 1) 3 1 (.slice A j c) j (cellsI (V.take j))
  lo : gp + 1 ≤ wi.heap.size
section
variable {gp : Nat} {wr wi w' : World} {B V : List Int} {A : Option Addr} {j c : Nat}
theorem Vst.on (h : Vst gp wr wi B V A j c) (k : Below wi.heap.size wi w') : Vst gp wr w' B V A j c :=
  ⟨h.bel.trans (k.mono (by have := h.lo; omega)), h.box.on k, ownsRow_block h.own (fun g _ _ hh => k.block g (Array.getElem?_eq_some_iff.1 hh).1), Nat.le_trans h.lo k.size⟩
theorem Vst.more (h : Vst gp wr wi B V A j c) (hB : B.length = 16) {A' : Option Addr} {c' : Nat} (hown : w'.ownsRow (gp + 1) 3 1 (.slice A' (j + 1) c') (j + 1) (cellsI (V.take (j + 1)))) (k : Below (gp + 1) wi w') :
    Vst gp wr (w'.setCell ⟨gp, 16, none⟩ (.slice A' (j + 1) c')) B V A' (j + 1) c' := by
  have hs := k.size
  refine ⟨?_, ?_, ?_, ?_⟩
  · exact (h.bel.trans (k.mono (Nat.le_succ _))).trans (((Kept.refl (fun i => i = gp) w').setCell (p := ⟨gp, 16, none⟩) (fun _ => rfl) _).below (by have := h.lo; omega) (fun i hi e => by omega))
  · have b := (h.box.bel k (Nat.lt_succ_self _)).put 16 (.slice A' (j + 1) c')
    rwa [spec_last hB] at b
  · refine ownsRow_block hown fun g _ e hh => Below.heap_setCell w' ⟨gp, 16, none⟩ _ g (fun e' => ?_)
    have := (own_block3 hown e).1
    have e2 : g = gp := e'
    omega
  · have := h.lo
    simp [World.setCell]
    omega
end
/-- a specification is written into what is known -/
theorem wpList_store_S {ops : Array Oper} {rest : List Oper} {o : Oper} {a : Act} {w : World} {Q : Exit → Act → World → Prop} (hgd : o.guard = none) (x y : Operand) (ho : o.op = .store 28 x y) (hd : o.dst = none) {g : Nat} {K : Kv} {X : Nat → Value}
    (h : Box w g 46 (kvC K X).toArray) {j : Nat} (hj : j < 4) (B V : List Int) (hB : B.length = 16) (v : Value) (hv : v.oneCell' = true) (hx : a.eval x = .pointer (some ⟨g, 128 + 17 * j, none⟩)) (hy : a.eval y = specV B v)
    (hK : ∀ w', Box w' g 46 (kvC (K.setS j B V) (updX X j v)).toArray → Kept (fun i => i = g) w w' → wpList Tryd.prog ops Q rest a w') : wpList Tryd.prog ops Q (o :: rest) a w := by
  have hl : (cellsI B ++ [v]).length = 17 := by rw [List.length_append, cellsI_len, hB]; rfl
  refine wpList_store_mid hgd 28 x y ho g (128 + 17 * j) (specC B v) hx hy (box_there h (by rw [specC_size hB, kvC_size]; omega)) (by rw [spec_size, specC_size hB]) (specC_one hv) ?_
  rw [hd]
  exact hK _ (h.putS hj hB v) (kept_setCells _ _ _ _)
end Go.Proofs.YtgipngedmblnmaaDoor

namespace Go.Proofs.YtgipngedmblnmaaDoor
open Go.RowKit

theorem zero28 (w : World) : (zeroValue 28).run Tryd.prog w = .ok (specV (List.replicate 16 0) (.slice none 0 0)) w := by kernel_rfl
theorem build28 (w : World) : (Instr.build 28 #[]).run Tryd.prog w = .ok (specV (List.replicate 16 0) (.slice none 0 0)) w := run_build w 28 _ _ (by kernel_rfl)

open Classical in
set_option maxRecDepth 10000 in
set_option maxHeartbeats 6400000 in
theorem refSpecs_any (w : World) (Ks : Nat → Prop) (K : Kv) (X : Nat → Value) (A : Option Addr) (n c : Nat) (l : List Int) (h : Sl w Ks A n c l) (hn : n ≤ 100000) (hK : KnR w K X) : Calls Tryd.prog 66 #[.slice A n c, kvV K X] w (BodyY w X (rdSpecs (l.length + 1) l K)) := by
  obtain ⟨C, hC⟩ : ∃ C, C = (kvC K X).toArray := ⟨_, rfl⟩
  have eC : kvV K X = .agg C := by rw [hC]; rfl
  rw [eC]
  obtain ⟨Z, hZ⟩ : ∃ Z, Z = (kvC kz X0).toArray := ⟨_, rfl⟩
  have hz' : ∀ w, (zeroValue 46).run Tryd.prog w = .ok (.agg Z) w := fun w => by rw [hZ]; exact zero46 w
  have HZs := Lib.hid (show Z.size = 210 by rw [hZ, kvC_size])
  obtain ⟨w2, hw2, b0, b1, k2, hs2⟩ := kv_made w C Z
  rw [hC] at b0
  have HW := Lib.hid (And.intro hw2 (And.intro k2 (And.intro b0 (And.intro b1 hs2))))
  have H2 := Lib.hid (show Rsp w w2 K X Z l A n c from ⟨b0, b1, k2, h.low.kept (Kept.of_below k2 (fun _ => False)) (fun _ _ h => h), hK.kna.on k2⟩)
  obtain ⟨R, hRd⟩ : ∃ R, R = rdSpecs (l.length + 1) l K := ⟨_, rfl⟩
  rw [← hRd]
  have HRd := Lib.hid hRd
  obtain ⟨Zp, hZp⟩ : ∃ Zp, Zp = specC (List.replicate 16 0) (.slice none 0 0) := ⟨_, rfl⟩
  have hzs' : ∀ w, (zeroValue 28).run Tryd.prog w = .ok (.agg Zp) w := fun w => by rw [hZp]; exact zero28 w
  have hbs' : ∀ w, (Instr.build 28 #[]).run Tryd.prog w = .ok (.agg Zp) w := fun w => by rw [hZp]; exact build28 w
  have HZp := Lib.hid hZp
  clear hw2 b0 b1 k2 hs2 hC hZ eC h hK hRd hZp
  go_enter Tryd.func66, Tryd.ntmps66
  go_wp2_with fail
  rw [HW.out.1]
  go_loopw [0] (fun s wr => ∃ f l' A' n' c' K' X', n' ≤ 100000 ∧ l'.length < f ∧ s = .slice A' n' c' ∧ rdSpecs f l' K' = R ∧ Rsp w wr K' X' Z l' A' n' c' ∧ Fr w.heap.size X X') (fun s _ => match s with | .slice _ m _ => m | _ => 0)
  case atStart => exact ⟨l.length + 1, l, A, n, c, K, X, hn, by omega, rfl, HRd.out.symm, H2.out, Fr.refl _ _⟩
  case round =>
    obtain ⟨f, l', A', n', c', K', X', hn', hf, rfl, hR, hS, hFr⟩ := hrel
    have HFr := Lib.hid hFr
    clear hFr
    have hlen := hS.sl.len
    have HS := Lib.hid hS
    have HR := Lib.hid hR
    clear hS hR
    obtain ⟨f, rfl⟩ : ∃ f', f = f' + 1 := ⟨f - 1, by omega⟩
    by_cases h0 : 0 < n'
    · have hne : l' ≠ [] := fun e => by rw [e] at hlen; simp at hlen; omega
      have HE := Lib.hid (And.intro hne hlen)
      clear hne
      by_cases h17 : n' < 17
      · have hr : R = none := by rw [← HR.out]; exact rdSpecs_few HE.out.1 (by rw [HE.out.2]; exact h17)
        have HRn := Lib.hid hr
        clear hr
        have h17' : (n' : Int) < 17 := by omega
        go_upto_region 3 with fail
        obtain ⟨Vk, hVk⟩ : ∃ V, V = kvV K' X' := ⟨_, rfl⟩
        have HV := Lib.hid (And.intro hVk (show (Instr.loadAt 46 (.pointer (some ⟨w.heap.size, 0, none⟩))).run Tryd.prog _ = .ok Vk _ by rw [hVk]; exact Box.loadK HS.out.kv))
        clear hVk
        go_wp2_with (first
          | (with_reducible refine wpList_load_to (op := ⟨some 18, _, _, _, _, _⟩) rfl 46 (.tmp 3) rfl (.pointer (some ⟨w.heap.size, 0, none⟩)) rfl Vk HV.out.2 ?_)
          | ((with_reducible refine wpList_store_kv (o := ⟨none, _, _, _, _, _⟩) rfl (.tmp 4) (.tmp 18) rfl rfl (w.heap.size + 1) K' X' HS.out.kn.one rfl ?hy Z HS.out.res HZs.out ?_)
             case hy => exact HV.out.1
             intro w9 b9 k9
             have H9 := Lib.hid (And.intro b9 (And.intro (HS.out.bel.trans (k9.below HS.out.bel.size (fun i hi e => by omega))) (HS.out.kn.kept (k9.mono (fun i _ e => Or.inr e)))))
             clear b9 k9)
          | fail)
        refine bodyPost_ret (v := .tuple #[kvV K' X', .bool false]) (results_ct (fn := Tryd.f66) Tryd.results66 _ _ (w.heap.size + 1) _ _ rfl rfl (loadVar_kv H9.out.1)) rfl ?_
        exact ⟨K', X', false, rfl, HS.out.kn.one, H9.out.2.1, .inr ⟨rfl, HRn.out⟩⟩
      have h17' : ¬ (n' : Int) < 17 := by omega
      have HN17 := Lib.hid (show ¬ l'.length < 17 by omega)
      obtain ⟨b, off, hA, _⟩ := HS.out.sl.get h0
      subst hA
      have hbw : b < w.heap.size := by
        obtain ⟨b', off', e', h1, h2, h3⟩ := HS.out.sl.bts.at_ (by omega)
        cases e'
        exact h2
      obtain ⟨bb, hbb⟩ : ∃ bb, bb = l'.drop 1 := ⟨_, rfl⟩
      have hbl : 16 ≤ bb.length := by rw [hbb, List.length_drop]; omega
      have hbf : Fit bb := by rw [hbb]; exact HS.out.sl.bts.fit.drop 1
      have HBB := Lib.hid (And.intro hbb (And.intro hbl hbf))
      clear hbb hbl hbf
      go_upto_region 4 with fail
      go_wp2_with (first
        | ((with_reducible refine wpList_store_spec (o := ⟨none, _, _, _, _, _⟩) rfl (.tmp 6) (.tmp 19) rfl rfl wr.heap.size (List.replicate 16 0) (.slice none 0 0) rfl ?hy Zp (Box.made _ _ _) ?hz List.length_replicate rfl ?_)
           case hy => rw [HZp.out]; rfl
           case hz => rw [HZp.out]; exact specC_size List.length_replicate
           intro w5 b5 k5
           have H5 := Lib.hid (And.intro b5 k5)
           clear b5 k5)
        | fail)
      obtain ⟨gp, hgp⟩ : ∃ g, g = wr.heap.size := ⟨_, rfl⟩
      obtain ⟨wo, hwo⟩ : ∃ wo, wo = wr := ⟨_, rfl⟩
      rw [← hgp] at H5 ⊢
      have hgp1 : w.heap.size + 1 < gp := by rw [hgp]; have := HS.out.res.lt; omega
      have k5b : Below gp wr w5 := by
        have ka : Below gp wr (wr.alloc (.cells Zp 28)) := by rw [hgp]; exact on_alloc _ _
        exact ka.trans (H5.out.2.below (by rw [hgp]; exact (on_alloc wr (.cells Zp 28)).size) (fun i hi e => by omega))
      have HSb := Lib.hid (fun (w' : World) (k : Below gp wo w') => HS.out.on (by rw [← hgp]; rw [hwo] at k; exact k))
      rw [← hwo] at k5b
      have HS5 := Lib.hid (And.intro k5b H5.out.1)
      clear hwo
      have hgs : gp ≤ wr.heap.size := by omega
      clear hgp k5b
      go_loopw [7, 8] (fun s i wi => ∃ k : Nat, k ≤ 16 ∧ s = .int .i64 ((allN bb k : Nat) : Int) ∧ i = .int .i64 ((k : Nat) : Int) ∧ Below gp wo wi ∧ Box wi gp 28 (specC (bitsK bb k) (.slice none 0 0))) (fun _ i _ => 16 - (intOf i).toNat)
      case atStart => exact ⟨0, by omega, rfl, rfl, by rw [bitsK_zero]; exact HS5.out⟩
      case round =>
        obtain ⟨k, hk, rfl, rfl, hrk⟩ := hrel
        have HRk := Lib.hid hrk
        clear hrk
        have hal := allN_le HBB.out.2.2 (k := k)
        by_cases hk16 : k < 16
        · have hR1 := HSb.out wr HRk.out.1
          obtain ⟨b2, o2, e2, c2⟩ := hR1.sl.get (show 1 + k < n' by omega)
          cases e2
          have hbz := hR1.sl.bts.fit (l'.getD (1 + k) 0) (by rw [List.getD_eq_getElem?_getD, List.getElem?_eq_getElem (by omega)]; exact List.getElem_mem _)
          have ebb : l'.getD (1 + k) 0 = bb.getD k 0 := by rw [HBB.out.1, List.getD_eq_getElem?_getD, List.getD_eq_getElem?_getD, List.getElem?_drop]
          have hmo := bitsK_more HBB.out.2.1 hk16
          have hpu := fun z => spec_put (bitsK_len HBB.out.2.1 hk) hk16 (.slice none 0 0) z
          have hnx : allN bb (k + 1) = allN bb k + (bb.getD k 0).toNat := rfl
          have c5 := (HRk.out.2.cell k).trans (specC_at (bitsK_len HBB.out.2.1 hk) hk16)
          have f5 := HRk.out.2.free k
          rw [ebb] at c2 hbz
          obtain ⟨z, hz⟩ : ∃ z, z = bb.getD k 0 := ⟨_, rfl⟩
          rw [← hz] at c2 hbz hmo hnx
          obtain ⟨old, hold⟩ : ∃ o, o = (bitsK bb k).getD k 0 := ⟨_, rfl⟩
          rw [← hold] at c5
          have HX := Lib.hid (And.intro hmo (And.intro hpu hnx))
          obtain ⟨S, hS⟩ : ∃ S, S = allN bb k := ⟨_, rfl⟩
          rw [← hS] at HX hal ⊢
          obtain ⟨bz0, bz1⟩ := hbz
          have et : (1 + (k : Int)).toNat = 1 + k := by omega
          have e0 : (0 : Int) ≤ 1 + (k : Int) := by omega
          have e1 : 1 + (k : Int) < (n' : Int) := by omega
          have cz : (wr.setCell ⟨gp, k, none⟩ (.int .i64 z)).cell? ⟨b, off + (1 + k), none⟩ = some (.int .u8 z) := by
            rw [World.cell?_setCell_other _ _ _ _ (fun e => by have e2 : gp = b := congrArg Addr.block e; omega)]
            exact c2
          clear hmo hpu hnx hz hold hS ebb hR1
          go_wp2_with fail
          have hb5 := HRk.out.2.put k (.int .i64 z)
          rw [HX.out.2.1, HX.out.1] at hb5
          have HN := Lib.hid (And.intro (HRk.out.1.trans (((Kept.refl (fun i => i = gp) wr).setCell (p := ⟨gp, k, none⟩) (fun _ => rfl) (.int .i64 z)).below (by have := HRk.out.2.lt; omega) (fun i hi e => by omega))) hb5)
          clear hb5 cz c5 f5 c2
          go_roundw
          case rel => exact ⟨k + 1, by omega, by rw [HX.out.2.2]; go_num, by go_num, HN.out⟩
          case measure => simp [intOf]; omega
        · have ek : k = 16 := by omega
          obtain ⟨S, hS⟩ : ∃ S, S = allN bb 16 := ⟨_, rfl⟩
          have hb16 := HRk.out.2
          rw [ek] at hb16 hal ⊢
          rw [bitsK_all] at hb16
          rw [← hS] at hal ⊢
          have HB16 := Lib.hid (And.intro HRk.out.1 (And.intro hb16 hS))
          clear ek hb16 hS
          by_cases hcut : n' < 17 + S
          · have hr : R = none := by rw [← HR.out]; exact rdSpecs_cut HE.out.1 HN17.out (by rw [HE.out.2, ← HBB.out.1, ← HB16.out.2.2]; exact hcut)
            have HRn := Lib.hid hr
            have HS7 := Lib.hid (HSb.out _ HRk.out.1)
            clear hr
            have hcut' : (n' : Int) < 17 + (S : Int) := by omega
            go_upto_region 12 with fail
            obtain ⟨Vk, hVk⟩ : ∃ V, V = kvV K' X' := ⟨_, rfl⟩
            have HV := Lib.hid (And.intro hVk (show (Instr.loadAt 46 (.pointer (some ⟨w.heap.size, 0, none⟩))).run Tryd.prog _ = .ok Vk _ by rw [hVk]; exact Box.loadK HS7.out.kv))
            clear hVk
            go_wp2_with (first
              | (with_reducible refine wpList_load_to (op := ⟨some 46, _, _, _, _, _⟩) rfl 46 (.tmp 3) rfl (.pointer (some ⟨w.heap.size, 0, none⟩)) rfl Vk HV.out.2 ?_)
              | ((with_reducible refine wpList_store_kv (o := ⟨none, _, _, _, _, _⟩) rfl (.tmp 4) (.tmp 46) rfl rfl (w.heap.size + 1) K' X' HS7.out.kn.one rfl ?hy Z HS7.out.res HZs.out ?_)
                 case hy => exact HV.out.1
                 intro w9 b9 k9
                 have H9 := Lib.hid (And.intro b9 (And.intro (HS7.out.bel.trans (k9.below HS7.out.bel.size (fun i hi e => by omega))) (HS7.out.kn.kept (k9.mono (fun i _ e => Or.inr e)))))
                 clear b9 k9)
              | fail)
            refine bodyPost_ret (v := .tuple #[kvV K' X', .bool false]) (results_ct (fn := Tryd.f66) Tryd.results66 _ _ (w.heap.size + 1) _ _ rfl rfl (loadVar_kv H9.out.1)) rfl ?_
            exact ⟨K', X', false, rfl, HS7.out.kn.one, H9.out.2.1, .inr ⟨rfl, HRn.out⟩⟩
          have hcut' : ¬ (n' : Int) < 17 + (S : Int) := by omega
          have HNC := Lib.hid (show ¬ l'.length < 17 + allN (l'.drop 1) 16 by rw [HE.out.2, ← HBB.out.1, ← HB16.out.2.2]; exact hcut)
          go_upto_region 13 with fail
          go_wp2_with fail
          obtain ⟨V, hV⟩ : ∃ V, V = (l'.drop 17).take S := ⟨_, rfl⟩
          have hVl : V.length = S := by rw [hV, List.length_take, List.length_drop]; omega
          have hVg : ∀ j, j < S → V.getD j 0 = l'.getD (17 + j) 0 := fun j hj => by
            rw [hV, List.getD_eq_getElem?_getD, List.getElem?_take_of_lt hj, List.getElem?_drop, List.getD_eq_getElem?_getD]
          have hBl : (bb.take 16).length = 16 := by rw [List.length_take]; have := HBB.out.2.1; omega
          have HV0 := Lib.hid (And.intro hV (And.intro hVl (And.intro hVg hBl)))
          have HV1 := Lib.hid (show Vst gp wo _ (bb.take 16) V none 0 0 from ⟨HB16.out.1, HB16.out.2.1, World.ownsRow_nil _ _ _ _, by have := HB16.out.2.1.lt; omega⟩)
          clear hV hVl hVg hBl
          go_loopw [9] (fun i wi => ∃ (j : Nat) (A2 : Option Addr) (c2 : Nat), j ≤ S ∧ i = .int .i64 ((j : Nat) : Int) ∧ Vst gp wo wi (bb.take 16) V A2 j c2) (fun i _ => S - (intOf i).toNat)
          case atStart => exact ⟨0, none, 0, by omega, rfl, HV1.out⟩
          case round =>
            obtain ⟨j, A2, c2, hj, rfl, hvs⟩ := hrel
            have HVs := Lib.hid hvs
            clear hvs
            by_cases hjS : j < S
            · have hR1 := HSb.out wr HVs.out.bel
              obtain ⟨b2, o2, e2, cz⟩ := hR1.sl.get (show 17 + j < n' by omega)
              cases e2
              have hbz := hR1.sl.bts.fit (l'.getD (17 + j) 0) (by rw [List.getD_eq_getElem?_getD, List.getElem?_eq_getElem (by omega)]; exact List.getElem_mem _)
              rw [← HV0.out.2.2.1 j hjS] at cz hbz
              have htk := takeOne V (show j < V.length by rw [HV0.out.2.1]; exact hjS)
              obtain ⟨z, hz⟩ : ∃ z, z = V.getD j 0 := ⟨_, rfl⟩
              rw [← hz] at cz hbz htk
              have HX := Lib.hid htk
              obtain ⟨bz0, bz1⟩ := hbz
              have et : (17 + (j : Int)).toNat = 17 + j := by omega
              have e0 : (0 : Int) ≤ 17 + (j : Int) := by omega
              have ew : IntKind.i64.wrap (17 + (j : Int)) = 17 + (j : Int) := wrapI (by omega) (by omega)
              have ez : IntKind.i64.wrap z = z := wrapI (by omega) (by omega)
              have e1 : 17 + (j : Int) < (n' : Int) := by omega
              have c16 : wr.cell? ⟨gp, 16, none⟩ = some (.slice A2 j c2) := (HVs.out.box.cell 16).trans (specC_last HV0.out.2.2.2)
              have c16a : ∀ o, (wr.alloc o).cell? ⟨gp, 16, none⟩ = some (.slice A2 j c2) := fun o => ((HVs.out.on (on_alloc wr o)).box.cell 16).trans (specC_last HV0.out.2.2.2)
              have MA := Lib.hid ((HVs.out.on (on_alloc wr (.cells #[.int .i64 z] 3))).on (on_drew _))
              have hjs : j + 1 ≤ 1000000 := by omega
              clear htk hz hR1
              go_upto_region 16 with fail
              go_region_law
                ((refine step_append_il rfl (.tmp 53) (.tmp 60) rfl (gp + 1) (.slice A2 j c2) j _ rfl MA.out.own (some ⟨wr.heap.size, 0, none⟩) 1 1 [z] rfl (il_one wr z).ia.drew ?hs MA.out.lo (some 61) rfl ?_)
                 case hs => exact hjs
                 intro v7 w7 hown7 bq
                 obtain ⟨A7, c7, hv7⟩ := own_slice hown7
                 subst hv7
                 have B7 := MA.out.box.bel bq (Nat.lt_succ_self gp)
                 have c7 : w7.cell? ⟨gp, 16, none⟩ = some (.slice A2 j c2) := (B7.cell 16).trans (specC_last HV0.out.2.2.2)
                 have f7 : w7.frozen? ⟨gp, 16, none⟩ = false := B7.free 16
                 have H7 := Lib.hid (And.intro hown7 bq)
                 clear hown7 bq B7)
              all_goals
                have ho7 := H7.out.1
                rw [← HX.out] at ho7
                have HN := Lib.hid (MA.out.more HV0.out.2.2.2 ho7 H7.out.2)
                go_wp2_with fail
                go_roundw
                case rel => exact ⟨j + 1, _, _, by omega, by go_num, HN.out⟩
                case measure => simp [intOf]; omega
            · have ej : j = S := by omega
              have hw' := HVs.out.own
              obtain ⟨A9, c9, e9, il9, lo9⟩ := il_of_own hw'
              cases e9
              rw [List.take_of_length_le (by rw [HV0.out.2.1]; omega)] at il9
              obtain ⟨Vs, hVs⟩ : ∃ v, v = specV (bb.take 16) (.slice A2 j c2) := ⟨_, rfl⟩
              have hmay := may_any wr (bb.take 16) V A2 j c2 HV0.out.2.2.2 il9.ia
              rw [← hVs] at hmay
              have HMY := Lib.hid hmay
              have hld := load_spec HVs.out.box HV0.out.2.2.2
              rw [← hVs] at hld
              have HLD := Lib.hid hld
              have HIL := Lib.hid (And.intro il9 (And.intro lo9 (And.intro hVs ej)))
              clear hw' il9 lo9 hVs hmay hld ej
              go_wp2_with (first
                | (with_reducible refine wpList_load_to (op := ⟨some 63, _, _, _, _, _⟩) rfl 28 (.tmp 6) rfl (.pointer (some ⟨gp, 0, none⟩)) rfl Vs HLD.out ?_)
                | fail)
              refine Calls.mono HMY.out ?_
              rintro e w8 ⟨rfl, b8⟩
              have V8 := Lib.hid (HVs.out.on b8)
              have R8 := Lib.hid (HSb.out w8 V8.out.bel)
              have L8 := Lib.hid (HIL.out.1.on b8)
              clear b8
              have HVe := Lib.hid (show (l'.drop 1).take 16 = bb.take 16 ∧ (l'.drop 17).take (allN (l'.drop 1) 16) = V by rw [← HBB.out.1]; exact ⟨rfl, by rw [HV0.out.1, HB16.out.2.2]⟩)
              by_cases hva : Valid (bb.take 16) V
              case neg =>
                have hr : R = none := by rw [← HR.out]; exact rdSpecs_bad HE.out.1 HN17.out HNC.out (by rw [HVe.out.1, HVe.out.2]; exact hva)
                have HRn := Lib.hid hr
                have D := Lib.hid (decide_eq_false hva)
                clear hr hva
                rw [D.out]
                go_upto_region 18 with fail
                obtain ⟨Vk, hVk⟩ : ∃ V, V = kvV K' X' := ⟨_, rfl⟩
                have HV := Lib.hid (And.intro hVk (show (Instr.loadAt 46 (.pointer (some ⟨w.heap.size, 0, none⟩))).run Tryd.prog _ = .ok Vk _ by rw [hVk]; exact Box.loadK R8.out.kv))
                clear hVk
                go_wp2_with (first
                  | (with_reducible refine wpList_load_to (op := ⟨some 66, _, _, _, _, _⟩) rfl 46 (.tmp 3) rfl (.pointer (some ⟨w.heap.size, 0, none⟩)) rfl Vk HV.out.2 ?_)
                  | ((with_reducible refine wpList_store_kv (o := ⟨none, _, _, _, _, _⟩) rfl (.tmp 4) (.tmp 66) rfl rfl (w.heap.size + 1) K' X' R8.out.kn.one rfl ?hy Z R8.out.res HZs.out ?_)
                     case hy => exact HV.out.1
                     intro w9 b9 k9
                     have H9 := Lib.hid (And.intro b9 (And.intro (R8.out.bel.trans (k9.below R8.out.bel.size (fun i hi e => by omega))) (R8.out.kn.kept (k9.mono (fun i _ e => Or.inr e)))))
                     clear b9 k9)
                  | fail)
                refine bodyPost_ret (v := .tuple #[kvV K' X', .bool false]) (results_ct (fn := Tryd.f66) Tryd.results66 _ _ (w.heap.size + 1) _ _ rfl rfl (loadVar_kv H9.out.1)) rfl ?_
                exact ⟨K', X', false, rfl, R8.out.kn.one, H9.out.2.1, .inr ⟨rfl, HRn.out⟩⟩
              have HVA := Lib.hid hva
              have D := Lib.hid (decide_eq_true hva)
              rw [D.out]
              clear hva
              obtain ⟨b2, o2, e2, cb⟩ := R8.out.sl.get h0
              cases e2
              rw [Nat.add_zero] at cb
              have hfit := R8.out.sl.bts.fit (l'.getD 0 0) (by rw [List.getD_eq_getElem?_getD, List.getElem?_eq_getElem (by omega)]; exact List.getElem_mem _)
              obtain ⟨i0, hi0⟩ : ∃ i0 : Nat, (i0 : Int) = l'.getD 0 0 := ⟨(l'.getD 0 0).toNat, by omega⟩
              rw [← hi0] at cb hfit
              have HI0 := Lib.hid hi0
              obtain ⟨wh, hwh⟩ : ∃ q, q = i0 % 16 := ⟨_, rfl⟩
              obtain ⟨kd, hkd⟩ : ∃ q, q = i0 / 16 := ⟨_, rfl⟩
              have em : (i0 : Int) % 16 = (wh : Int) := by omega
              have ed : (i0 : Int) / 16 = (kd : Int) := by omega
              have hn0 : (0 : Int) < (n' : Int) := by omega
              have ewi : IntKind.i64.wrap (i0 : Int) = (i0 : Int) := wrapI (by omega) (by omega)
              have HWK := Lib.hid (And.intro hwh (And.intro hkd (show l'.getD 0 0 % 16 = (wh : Int) ∧ l'.getD 0 0 / 16 = (kd : Int) by rw [← hi0]; exact ⟨em, ed⟩)))
              have wh15 : wh ≤ 15 := by omega
              have kd15 : kd ≤ 15 := by omega
              obtain ⟨i00, i01⟩ := hfit
              clear hwh hkd hi0
              have HG0 := Lib.hid (fun (h4 : 1 < l'.getD 0 0 % 16 ∨ 1 < l'.getD 0 0 / 16) => (show R = none by rw [← HR.out]; exact rdSpecs_who HE.out.1 HN17.out HNC.out (by rw [HVe.out.1, HVe.out.2]; exact HVA.out) h4))
              by_cases hw1 : 1 < wh
              · have HRn := Lib.hid (HG0.out (.inl (by rw [HWK.out.2.2.1]; omega)))
                have f1 : (1 : Int) < (i0 : Int) % 16 := by omega
                go_upto_region 22 with fail
                obtain ⟨Vk, hVk⟩ : ∃ V, V = kvV K' X' := ⟨_, rfl⟩
                have HV := Lib.hid (And.intro hVk (show (Instr.loadAt 46 (.pointer (some ⟨w.heap.size, 0, none⟩))).run Tryd.prog _ = .ok Vk _ by rw [hVk]; exact Box.loadK R8.out.kv))
                clear hVk
                go_wp2_with (first
                  | (with_reducible refine wpList_load_to (op := ⟨some 83, _, _, _, _, _⟩) rfl 46 (.tmp 3) rfl (.pointer (some ⟨w.heap.size, 0, none⟩)) rfl Vk HV.out.2 ?_)
                  | ((with_reducible refine wpList_store_kv (o := ⟨none, _, _, _, _, _⟩) rfl (.tmp 4) (.tmp 83) rfl rfl (w.heap.size + 1) K' X' R8.out.kn.one rfl ?hy Z R8.out.res HZs.out ?_)
                     case hy => exact HV.out.1
                     intro w9 b9 k9
                     have H9 := Lib.hid (And.intro b9 (And.intro (R8.out.bel.trans (k9.below R8.out.bel.size (fun i hi e => by omega))) (R8.out.kn.kept (k9.mono (fun i _ e => Or.inr e)))))
                     clear b9 k9)
                  | fail)
                refine bodyPost_ret (v := .tuple #[kvV K' X', .bool false]) (results_ct (fn := Tryd.f66) Tryd.results66 _ _ (w.heap.size + 1) _ _ rfl rfl (loadVar_kv H9.out.1)) rfl ?_
                exact ⟨K', X', false, rfl, R8.out.kn.one, H9.out.2.1, .inr ⟨rfl, HRn.out⟩⟩
              by_cases hk1 : 1 < kd
              · have HRn := Lib.hid (HG0.out (.inr (by rw [HWK.out.2.2.2]; omega)))
                have f1 : ¬ (1 : Int) < (i0 : Int) % 16 := by omega
                have f2 : (1 : Int) < (kd : Int) := by omega
                go_upto_region 22 with fail
                obtain ⟨Vk, hVk⟩ : ∃ V, V = kvV K' X' := ⟨_, rfl⟩
                have HV := Lib.hid (And.intro hVk (show (Instr.loadAt 46 (.pointer (some ⟨w.heap.size, 0, none⟩))).run Tryd.prog _ = .ok Vk _ by rw [hVk]; exact Box.loadK R8.out.kv))
                clear hVk
                go_wp2_with (first
                  | (with_reducible refine wpList_load_to (op := ⟨some 83, _, _, _, _, _⟩) rfl 46 (.tmp 3) rfl (.pointer (some ⟨w.heap.size, 0, none⟩)) rfl Vk HV.out.2 ?_)
                  | ((with_reducible refine wpList_store_kv (o := ⟨none, _, _, _, _, _⟩) rfl (.tmp 4) (.tmp 83) rfl rfl (w.heap.size + 1) K' X' R8.out.kn.one rfl ?hy Z R8.out.res HZs.out ?_)
                     case hy => exact HV.out.1
                     intro w9 b9 k9
                     have H9 := Lib.hid (And.intro b9 (And.intro (R8.out.bel.trans (k9.below R8.out.bel.size (fun i hi e => by omega))) (R8.out.kn.kept (k9.mono (fun i _ e => Or.inr e)))))
                     clear b9 k9)
                  | fail)
                refine bodyPost_ret (v := .tuple #[kvV K' X', .bool false]) (results_ct (fn := Tryd.f66) Tryd.results66 _ _ (w.heap.size + 1) _ _ rfl rfl (loadVar_kv H9.out.1)) rfl ?_
                exact ⟨K', X', false, rfl, R8.out.kn.one, H9.out.2.1, .inr ⟨rfl, HRn.out⟩⟩
              have f1 : ¬ (1 : Int) < (i0 : Int) % 16 := by omega
              have f2 : ¬ (1 : Int) < (kd : Int) := by omega
              have hrm : R = rdSpecs f (l'.drop (17 + S)) ((K'.setS (2 * kd + wh) (bb.take 16) V).setF (2 + (2 * kd + wh)) true) := by
                rw [← HR.out, rdSpecs_more HE.out.1 HN17.out HNC.out (by rw [HVe.out.1, HVe.out.2]; exact HVA.out) (by rw [HWK.out.2.2.1, HWK.out.2.2.2]; omega), HWK.out.2.2.1, HWK.out.2.2.2, HVe.out.1, HVe.out.2, ← HBB.out.1, ← HB16.out.2.2,
                  show (2 * (kd : Int) + (wh : Int)).toNat = 2 * kd + wh by omega, show (2 + 2 * (kd : Int) + (wh : Int)).toNat = 2 + (2 * kd + wh) by omega]
              have HRM := Lib.hid hrm
              clear hrm
              have hapart : 0 < j → ∀ b off, A2 = some ⟨b, off, none⟩ → b ≠ w.heap.size ∧ b ≠ w.heap.size + 1 := fun _ b off e => by have := HIL.out.2.1 b off e; omega
              have hKA := Lib.hid (R8.out.kn.setS (2 * kd + wh) HV0.out.2.2.2 L8.out.ia hapart)
              have h4 : (wh = 0 ∧ kd = 0) ∨ (wh = 1 ∧ kd = 0) ∨ (wh = 0 ∧ kd = 1) ∨ (wh = 1 ∧ kd = 1) := by omega
              have hld8 := load_spec V8.out.box HV0.out.2.2.2
              rw [← HIL.out.2.2.1] at hld8
              have HLD8 := Lib.hid hld8
              clear hld8 hapart
              rcases h4 with ⟨rfl, rfl⟩ | ⟨rfl, rfl⟩ | ⟨rfl, rfl⟩ | ⟨rfl, rfl⟩
              · obtain rfl : i0 = 0 := by omega
                have hSi : (S : Int) ≤ 4080 := by omega
                have ewS : IntKind.i64.wrap (17 + (S : Int)) = 17 + (S : Int) := wrapI (by omega) (by omega)
                have eS0 : (0 : Int) ≤ 17 + (S : Int) := by omega
                have eS1 : 17 + (S : Int) ≤ (n' : Int) := by omega
                have eST : (17 + (S : Int)).toNat = 17 + S := by omega
                have hcap := R8.out.sl.cap
                go_wp2_with (first
                  | (with_reducible refine wpList_load_to (op := ⟨some 87, _, _, _, _, _⟩) rfl 28 (.tmp 6) rfl (.pointer (some ⟨gp, 0, none⟩)) rfl Vs HLD8.out ?_)
                  | ((with_reducible refine wpList_store_S (o := ⟨none, _, _, _, _, _⟩) rfl (.tmp 90) (.tmp 87) rfl rfl R8.out.kv (j := 0) ?hj (bb.take 16) V HV0.out.2.2.2 (.slice A2 j c2) rfl ?hx ?hy ?_)
                     case hj => omega
                     case hx => rfl
                     case hy => exact HIL.out.2.2.1
                     intro w9 b9 k9
                     have T9 := Lib.hid (R8.out.turn b9 k9 (hKA.out.kept (k9.mono (fun i _ e => Or.inl e))))
                     have cf9 := T9.out.kv.kvF (k := 2) (by omega)
                     have ff9 := T9.out.kv.free 198
                     obtain ⟨fo, hfo⟩ : ∃ fo, fo = (K'.setS 0 (bb.take 16) V).F 2 := ⟨_, rfl⟩
                     rw [← hfo] at cf9
                     clear b9 k9 hfo)
                  | fail)
                have T10 := Lib.hid (T9.out.turn (T9.out.kv.putF (i := 2) (by omega) true) ((Kept.refl (fun i => i = w.heap.size) w9).setCell (p := ⟨w.heap.size, 198, none⟩) (fun _ => rfl) _) ((T9.out.kn.setF 2 true).kept (((Kept.refl (fun i => i = w.heap.size ∨ i = w.heap.size + 1) w9).setCell (p := ⟨w.heap.size, 198, none⟩) (fun _ => Or.inl rfl) _))))
                go_roundw
                case rel =>
                  refine ⟨f, l'.drop (17 + S), (if c' = 17 + S then some ⟨b, off, none⟩ else some ⟨b, off + (17 + S), none⟩), n' - (17 + S), c' - (17 + S), (K'.setS 0 (bb.take 16) V).setF 2 true, updX X' 0 (.slice A2 j c2), by omega, by rw [List.length_drop]; omega, rfl, HRM.out.symm, T10.out.bytes ?_, HFr.out.setS fun b off e => by have := HIL.out.2.1 b off e; omega⟩
                  by_cases hce : c' = 17 + S
                  · rw [if_pos hce, show n' - (17 + S) = 0 by omega, show c' - (17 + S) = 0 by omega, List.drop_eq_nil_of_le (by omega)]
                    exact sl_none_left (Nat.zero_le _) (fun e => by cases e)
                  · rw [if_neg hce]
                    exact sl_drop T10.out.sl (by omega)
                case measure => show n' - (17 + S) < n'; omega
              · obtain rfl : i0 = 1 := by omega
                have hSi : (S : Int) ≤ 4080 := by omega
                have ewS : IntKind.i64.wrap (17 + (S : Int)) = 17 + (S : Int) := wrapI (by omega) (by omega)
                have eS0 : (0 : Int) ≤ 17 + (S : Int) := by omega
                have eS1 : 17 + (S : Int) ≤ (n' : Int) := by omega
                have eST : (17 + (S : Int)).toNat = 17 + S := by omega
                have hcap := R8.out.sl.cap
                go_wp2_with (first
                  | (with_reducible refine wpList_load_to (op := ⟨some 87, _, _, _, _, _⟩) rfl 28 (.tmp 6) rfl (.pointer (some ⟨gp, 0, none⟩)) rfl Vs HLD8.out ?_)
                  | ((with_reducible refine wpList_store_S (o := ⟨none, _, _, _, _, _⟩) rfl (.tmp 90) (.tmp 87) rfl rfl R8.out.kv (j := 1) ?hj (bb.take 16) V HV0.out.2.2.2 (.slice A2 j c2) rfl ?hx ?hy ?_)
                     case hj => omega
                     case hx => rfl
                     case hy => exact HIL.out.2.2.1
                     intro w9 b9 k9
                     have T9 := Lib.hid (R8.out.turn b9 k9 (hKA.out.kept (k9.mono (fun i _ e => Or.inl e))))
                     have cf9 := T9.out.kv.kvF (k := 3) (by omega)
                     have ff9 := T9.out.kv.free 199
                     obtain ⟨fo, hfo⟩ : ∃ fo, fo = (K'.setS 1 (bb.take 16) V).F 3 := ⟨_, rfl⟩
                     rw [← hfo] at cf9
                     clear b9 k9 hfo)
                  | fail)
                have T10 := Lib.hid (T9.out.turn (T9.out.kv.putF (i := 3) (by omega) true) ((Kept.refl (fun i => i = w.heap.size) w9).setCell (p := ⟨w.heap.size, 199, none⟩) (fun _ => rfl) _) ((T9.out.kn.setF 3 true).kept (((Kept.refl (fun i => i = w.heap.size ∨ i = w.heap.size + 1) w9).setCell (p := ⟨w.heap.size, 199, none⟩) (fun _ => Or.inl rfl) _))))
                go_roundw
                case rel =>
                  refine ⟨f, l'.drop (17 + S), (if c' = 17 + S then some ⟨b, off, none⟩ else some ⟨b, off + (17 + S), none⟩), n' - (17 + S), c' - (17 + S), (K'.setS 1 (bb.take 16) V).setF 3 true, updX X' 1 (.slice A2 j c2), by omega, by rw [List.length_drop]; omega, rfl, HRM.out.symm, T10.out.bytes ?_, HFr.out.setS fun b off e => by have := HIL.out.2.1 b off e; omega⟩
                  by_cases hce : c' = 17 + S
                  · rw [if_pos hce, show n' - (17 + S) = 0 by omega, show c' - (17 + S) = 0 by omega, List.drop_eq_nil_of_le (by omega)]
                    exact sl_none_left (Nat.zero_le _) (fun e => by cases e)
                  · rw [if_neg hce]
                    exact sl_drop T10.out.sl (by omega)
                case measure => show n' - (17 + S) < n'; omega
              · obtain rfl : i0 = 16 := by omega
                have hSi : (S : Int) ≤ 4080 := by omega
                have ewS : IntKind.i64.wrap (17 + (S : Int)) = 17 + (S : Int) := wrapI (by omega) (by omega)
                have eS0 : (0 : Int) ≤ 17 + (S : Int) := by omega
                have eS1 : 17 + (S : Int) ≤ (n' : Int) := by omega
                have eST : (17 + (S : Int)).toNat = 17 + S := by omega
                have hcap := R8.out.sl.cap
                go_wp2_with (first
                  | (with_reducible refine wpList_load_to (op := ⟨some 95, _, _, _, _, _⟩) rfl 28 (.tmp 6) rfl (.pointer (some ⟨gp, 0, none⟩)) rfl Vs HLD8.out ?_)
                  | ((with_reducible refine wpList_store_S (o := ⟨none, _, _, _, _, _⟩) rfl (.tmp 98) (.tmp 95) rfl rfl R8.out.kv (j := 2) ?hj (bb.take 16) V HV0.out.2.2.2 (.slice A2 j c2) rfl ?hx ?hy ?_)
                     case hj => omega
                     case hx => rfl
                     case hy => exact HIL.out.2.2.1
                     intro w9 b9 k9
                     have T9 := Lib.hid (R8.out.turn b9 k9 (hKA.out.kept (k9.mono (fun i _ e => Or.inl e))))
                     have cf9 := T9.out.kv.kvF (k := 4) (by omega)
                     have ff9 := T9.out.kv.free 200
                     obtain ⟨fo, hfo⟩ : ∃ fo, fo = (K'.setS 2 (bb.take 16) V).F 4 := ⟨_, rfl⟩
                     rw [← hfo] at cf9
                     clear b9 k9 hfo)
                  | fail)
                have T10 := Lib.hid (T9.out.turn (T9.out.kv.putF (i := 4) (by omega) true) ((Kept.refl (fun i => i = w.heap.size) w9).setCell (p := ⟨w.heap.size, 200, none⟩) (fun _ => rfl) _) ((T9.out.kn.setF 4 true).kept (((Kept.refl (fun i => i = w.heap.size ∨ i = w.heap.size + 1) w9).setCell (p := ⟨w.heap.size, 200, none⟩) (fun _ => Or.inl rfl) _))))
                go_roundw
                case rel =>
                  refine ⟨f, l'.drop (17 + S), (if c' = 17 + S then some ⟨b, off, none⟩ else some ⟨b, off + (17 + S), none⟩), n' - (17 + S), c' - (17 + S), (K'.setS 2 (bb.take 16) V).setF 4 true, updX X' 2 (.slice A2 j c2), by omega, by rw [List.length_drop]; omega, rfl, HRM.out.symm, T10.out.bytes ?_, HFr.out.setS fun b off e => by have := HIL.out.2.1 b off e; omega⟩
                  by_cases hce : c' = 17 + S
                  · rw [if_pos hce, show n' - (17 + S) = 0 by omega, show c' - (17 + S) = 0 by omega, List.drop_eq_nil_of_le (by omega)]
                    exact sl_none_left (Nat.zero_le _) (fun e => by cases e)
                  · rw [if_neg hce]
                    exact sl_drop T10.out.sl (by omega)
                case measure => show n' - (17 + S) < n'; omega
              · obtain rfl : i0 = 17 := by omega
                have hSi : (S : Int) ≤ 4080 := by omega
                have ewS : IntKind.i64.wrap (17 + (S : Int)) = 17 + (S : Int) := wrapI (by omega) (by omega)
                have eS0 : (0 : Int) ≤ 17 + (S : Int) := by omega
                have eS1 : 17 + (S : Int) ≤ (n' : Int) := by omega
                have eST : (17 + (S : Int)).toNat = 17 + S := by omega
                have hcap := R8.out.sl.cap
                go_wp2_with (first
                  | (with_reducible refine wpList_load_to (op := ⟨some 95, _, _, _, _, _⟩) rfl 28 (.tmp 6) rfl (.pointer (some ⟨gp, 0, none⟩)) rfl Vs HLD8.out ?_)
                  | ((with_reducible refine wpList_store_S (o := ⟨none, _, _, _, _, _⟩) rfl (.tmp 98) (.tmp 95) rfl rfl R8.out.kv (j := 3) ?hj (bb.take 16) V HV0.out.2.2.2 (.slice A2 j c2) rfl ?hx ?hy ?_)
                     case hj => omega
                     case hx => rfl
                     case hy => exact HIL.out.2.2.1
                     intro w9 b9 k9
                     have T9 := Lib.hid (R8.out.turn b9 k9 (hKA.out.kept (k9.mono (fun i _ e => Or.inl e))))
                     have cf9 := T9.out.kv.kvF (k := 5) (by omega)
                     have ff9 := T9.out.kv.free 201
                     obtain ⟨fo, hfo⟩ : ∃ fo, fo = (K'.setS 3 (bb.take 16) V).F 5 := ⟨_, rfl⟩
                     rw [← hfo] at cf9
                     clear b9 k9 hfo)
                  | fail)
                have T10 := Lib.hid (T9.out.turn (T9.out.kv.putF (i := 5) (by omega) true) ((Kept.refl (fun i => i = w.heap.size) w9).setCell (p := ⟨w.heap.size, 201, none⟩) (fun _ => rfl) _) ((T9.out.kn.setF 5 true).kept (((Kept.refl (fun i => i = w.heap.size ∨ i = w.heap.size + 1) w9).setCell (p := ⟨w.heap.size, 201, none⟩) (fun _ => Or.inl rfl) _))))
                go_roundw
                case rel =>
                  refine ⟨f, l'.drop (17 + S), (if c' = 17 + S then some ⟨b, off, none⟩ else some ⟨b, off + (17 + S), none⟩), n' - (17 + S), c' - (17 + S), (K'.setS 3 (bb.take 16) V).setF 5 true, updX X' 3 (.slice A2 j c2), by omega, by rw [List.length_drop]; omega, rfl, HRM.out.symm, T10.out.bytes ?_, HFr.out.setS fun b off e => by have := HIL.out.2.1 b off e; omega⟩
                  by_cases hce : c' = 17 + S
                  · rw [if_pos hce, show n' - (17 + S) = 0 by omega, show c' - (17 + S) = 0 by omega, List.drop_eq_nil_of_le (by omega)]
                    exact sl_none_left (Nat.zero_le _) (fun e => by cases e)
                  · rw [if_neg hce]
                    exact sl_drop T10.out.sl (by omega)
                case measure => show n' - (17 + S) < n'; omega
    · obtain rfl : n' = 0 := by omega
      have el : l' = [] := List.eq_nil_of_length_eq_zero hlen
      have hr : R = some K' := by rw [← HR.out, el]; exact rdSpecs_end
      have HRn := Lib.hid hr
      clear hr el
      go_upto_region 29 with fail
      obtain ⟨Vk, hVk⟩ : ∃ V, V = kvV K' X' := ⟨_, rfl⟩
      have HV := Lib.hid (And.intro hVk (show (Instr.loadAt 46 (.pointer (some ⟨w.heap.size, 0, none⟩))).run Tryd.prog _ = .ok Vk _ by rw [hVk]; exact Box.loadK HS.out.kv))
      clear hVk
      go_wp2_with (first
        | (with_reducible refine wpList_load_to (op := ⟨some 106, _, _, _, _, _⟩) rfl 46 (.tmp 3) rfl (.pointer (some ⟨w.heap.size, 0, none⟩)) rfl Vk HV.out.2 ?_)
        | ((with_reducible refine wpList_store_kv (o := ⟨none, _, _, _, _, _⟩) rfl (.tmp 4) (.tmp 106) rfl rfl (w.heap.size + 1) K' X' HS.out.kn.one rfl ?hy Z HS.out.res HZs.out ?_)
           case hy => exact HV.out.1
           intro w9 b9 k9
           have H9 := Lib.hid (And.intro b9 (And.intro (HS.out.bel.trans (k9.below HS.out.bel.size (fun i hi e => by omega))) (HS.out.kn.kept (k9.mono (fun i _ e => Or.inr e)))))
           clear b9 k9)
        | fail)
      refine bodyPost_ret (v := .tuple #[kvV K' X', .bool true]) (results_ct (fn := Tryd.f66) Tryd.results66 _ _ (w.heap.size + 1) _ _ rfl rfl (loadVar_kv H9.out.1)) rfl ?_
      exact ⟨K', X', true, rfl, HS.out.kn.one, H9.out.2.1, .inl ⟨rfl, HRn.out, H9.out.2.2.knr, HFr.out⟩⟩
end Go.Proofs.YtgipngedmblnmaaDoor
