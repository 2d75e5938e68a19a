/-
  The contract of used: the program's tables.
-/
import Derived.Test.YtdnjnbfmmgkpjaaDoorPA
import Derived.Test.YtdnjnbfmmgkpjaaDoorMB
import Derived.Deep.DeepCutAuto
namespace Go.Proofs.YtdnjnbfmmgkpjaaDoor
open Go.RowKit

def nC (K : Int) : Nat := if K = 0 then 1 else 2
theorem nC_le (K : Int) : 1 ≤ nC K ∧ nC K ≤ 2 := by unfold nC; split <;> omega
def OkT (K : Int) (T : Tbs) : Prop := ∀ c, c < nC K → Valid (T.B c) (T.V c) ∧ Valid (T.B (c + 2)) (T.V (c + 2))
/-- a coder's tables in memory -/
def CodR (w : World) (lo N : Nat) (T : Tbs) (P : Nat → Value) (c : Nat) : Prop := ∃ l1 h1 t1 l2 h2 t2, P (2 * c) = .pointer (some ⟨t1, 0, none⟩) ∧ P (2 * c + 1) = .pointer (some ⟨t2, 0, none⟩) ∧
  Tb w l1 h1 t1 (T.B c) (T.V c) (codes (T.B c) (T.V c)) ∧ Tb w l2 h2 t2 (T.B (c + 2)) (T.V (c + 2)) (codes (T.B (c + 2)) (T.V (c + 2))) ∧ lo ≤ l1 ∧ lo ≤ l2 ∧ h1 ≤ N ∧ h2 ≤ N
theorem CodR.on {w w' : World} {lo N : Nat} {T : Tbs} {P : Nat → Value} {c : Nat} (h : CodR w lo N T P c) (k : Below w.heap.size w w') : CodR w' lo N T P c := by
  obtain ⟨l1, h1, t1, l2, h2, t2, e1, e2, b1, b2, r⟩ := h
  exact ⟨l1, h1, t1, l2, h2, t2, e1, e2, b1.on k, b2.on k, r⟩
theorem CodR.kept {S : Nat → Prop} {w w' : World} {lo N : Nat} {T : Tbs} {P : Nat → Value} {c : Nat} (h : CodR w lo N T P c) (k : Kept S w w') (hS : ∀ b, lo ≤ b → b < N → ¬ S b) : CodR w' lo N T P c := by
  obtain ⟨l1, h1, t1, l2, h2, t2, e1, e2, b1, b2, r1, r2, r3, r4⟩ := h
  exact ⟨l1, h1, t1, l2, h2, t2, e1, e2, b1.kept k (fun b hb hb2 => hS b (by omega) (by omega)), b2.kept k (fun b hb hb2 => hS b (by omega) (by omega)), r1, r2, r3, r4⟩
theorem CodR.more {w : World} {lo N N' : Nat} {T : Tbs} {P : Nat → Value} {c : Nat} (h : CodR w lo N T P c) (hN : N ≤ N') : CodR w lo N' T P c := by
  obtain ⟨l1, h1, t1, l2, h2, t2, e1, e2, b1, b2, r1, r2, r3, r4⟩ := h
  exact ⟨l1, h1, t1, l2, h2, t2, e1, e2, b1, b2, r1, r2, by omega, by omega⟩
theorem CodR.less {w : World} {lo lo' N : Nat} {T : Tbs} {P : Nat → Value} {c : Nat} (h : CodR w lo N T P c) (hN : lo' ≤ lo) : CodR w lo' N T P c := by
  obtain ⟨l1, h1, t1, l2, h2, t2, e1, e2, b1, b2, r1, r2, r3, r4⟩ := h
  exact ⟨l1, h1, t1, l2, h2, t2, e1, e2, b1, b2, by omega, by omega, r3, r4⟩
theorem CodR.same {w : World} {lo N : Nat} {T : Tbs} {P P' : Nat → Value} {c : Nat} (h : CodR w lo N T P c) (e : P' (2 * c) = P (2 * c)) (e' : P' (2 * c + 1) = P (2 * c + 1)) : CodR w lo N T P' c := by
  obtain ⟨l1, h1, t1, l2, h2, t2, e1, e2, r⟩ := h
  exact ⟨l1, h1, t1, l2, h2, t2, e.trans e1, e'.trans e2, r⟩
def nilP : Value := .pointer none
def cod4 (P : Nat → Value) : Array Value := #[P 0, P 1, P 2, P 3]
def UsedY (w : World) (K : Int) (T : Tbs) (e : Ending) (w' : World) : Prop := Below w.heap.size w w' ∧
  ((OkT K T ∧ ∃ P : Nat → Value, e = .returned (.tuple #[.agg (cod4 P), .int .i64 0]) ∧ (∀ j, ∃ a, P j = .pointer a) ∧ ∀ c, c < nC K → CodR w' w.heap.size w'.heap.size T P c) ∨ (¬ OkT K T ∧ e = .returned (.tuple #[.agg #[.pointer none, .pointer none, .pointer none, .pointer none], .int .i64 4])))

/-- the loop of used -/
structure LoopU (wr w : World) (g1 g2 g3 : Nat) (T : Tbs) (X P : Nat → Value) (k : Nat) : Prop where
  p : Box wr g3 69 (cod4 P)
  r : Box wr g2 69 #[.pointer none, .pointer none, .pointer none, .pointer none]
  t : Box wr g1 33 (tbC T X).toArray
  bel : Below w.heap.size w wr
  cod : ∀ c, c < k → CodR wr (g3 + 1) wr.heap.size T P c
  ok : ∀ c, c < k → Valid (T.B c) (T.V c) ∧ Valid (T.B (c + 2)) (T.V (c + 2))
  ptr : ∀ j, ∃ a, P j = .pointer a
theorem LoopU.on {wr w w' : World} {g1 g2 g3 : Nat} {T : Tbs} {X P : Nat → Value} {k : Nat} (h : LoopU wr w g1 g2 g3 T X P k) (b : Below wr.heap.size wr w') : LoopU w' w g1 g2 g3 T X P k :=
  ⟨h.p.on b, h.r.on b, h.t.on b, on_trans h.bel b, fun c hc => ((h.cod c hc).on b).more b.size, h.ok, h.ptr⟩
theorem Box.rng {w : World} {g : Nat} {T : Tbs} {X : Nat → Value} (h : Box w g 33 (tbC T X).toArray) : TbR w g T X := fun k u hu => by
  rw [Nat.zero_add, h.cell k, List.getElem?_toArray]
  exact hu
/-- a value is stored whole -/
theorem wpList_store_rowk {ops : Array Oper} {rest : List Oper} {o : Oper} {a : Act} {w : World} {Q : Exit → Act → World → Prop} (hgd : o.guard = none) (ty : TypeId) (x y : Operand) (ho : o.op = .store ty x y) (hd : o.dst = none)
    (g : Nat) (cs : Array Value) (hx : a.eval x = .pointer (some ⟨g, 0, none⟩)) (hy : a.eval y = .agg cs) (hi : (Tryd.prog.info? ty).map (·.size) = some cs.size) (t : TypeId) (old : Array Value) (hg : Box w g t old) (hold : old.size = cs.size) (h1 : cs.all (·.oneCell') = true)
    (h : ∀ w', Box w' g t cs → Kept (fun i => i = g) w w' → wpList Tryd.prog ops Q rest a w') : wpList Tryd.prog ops Q (o :: rest) a w :=
  wpList_plain hgd fun _ hK => wp_store_row ty x y ho g cs hx hy t old hg hi hold h1 (by
    rw [hd]
    exact hK _ _ (h _ (setRow_heap w g old _ t _ hg) ⟨rfl, rfl, rfl, by simp, fun k _ hk => setRow_other w g k _ hk⟩))
/-- two cells are stored in a row -/
theorem wpList_store_two {ops : Array Oper} {rest : List Oper} {op : Oper} {a : Act} {w : World} {Q : Exit → Act → World → Prop} (hgd : op.guard = none) (ty : TypeId) (x y : Operand) (ho : op.op = .store ty x y) (hd : op.dst = none)
    (g o : Nat) (u v : Value) (hx : a.eval x = .pointer (some ⟨g, o, none⟩)) (hy : a.eval y = .agg #[u, v]) (hi : (Tryd.prog.info? ty).map (·.size) = some 2) (t : TypeId) (cs : Array Value) (hg : Box w g t cs) (hs : o + 1 < cs.size) (h1 : u.oneCell' = true) (h2 : v.oneCell' = true)
    (h : ∀ w', Box w' g t ((cs.setIfInBounds o u).setIfInBounds (o + 1) v) → Kept (fun i => i = g) w w' → wpList Tryd.prog ops Q rest a w') : wpList Tryd.prog ops Q (op :: rest) a w :=
  wpList_store_mid hgd ty x y ho g o #[u, v] hx hy (fun j hj => by
    have hj2 : j < 2 := hj
    refine ⟨?_, hg.free _⟩
    rw [hg.cell, Array.getElem?_eq_getElem (show o + j < cs.size by omega)]
    rfl) hi (by simp [h1, h2]) (by
    rw [hd]
    exact h _ ((hg.put o u).put (o + 1) v) (((Kept.refl (fun i => i = g) w).setCell (p := ⟨g, o, none⟩) (fun _ => rfl) u).setCell (p := ⟨g, o + 1, none⟩) (fun _ => rfl) v))
theorem cod_size : (Tryd.prog.info? 69).map (·.size) = some 4 := by kernel_rfl
theorem coder_size : (Tryd.prog.info? 68).map (·.size) = some 2 := by kernel_rfl
theorem loadVar_cod {w : World} {g : Nat} {cs : Array Value} (h : Box w g 69 cs) (hs : cs.size = 4) : (loadVar 69 ⟨g, 0, none⟩).run Tryd.prog w = .ok (.agg cs) w :=
  run_loadVar_row w g 69 69 _ (0, 0) _ h Tryd.underlying69 rfl (by rw [cod_size, hs])
theorem load_cod {w : World} {g : Nat} {cs : Array Value} (h : Box w g 69 cs) (hs : cs.size = 4) : (Instr.loadAt 69 (.pointer (some ⟨g, 0, none⟩))).run Tryd.prog w = .ok (.agg cs) w :=
  run_loadAt_mid w g 0 69 cs.toList _ (fun k u hu => by rw [Nat.zero_add, h.cell k]; simpa using hu) Tryd.underlying69 rfl (by rw [cod_size]; simp [hs])
theorem cod4_size (P : Nat → Value) : (Tryd.prog.info? 69).map (·.size) = some (cod4 P).size := cod_size
abbrev nil4 : Array Value := #[.pointer none, .pointer none, .pointer none, .pointer none]
theorem cod4_nil (P : Nat → Value) : nil4.size = (cod4 P).size := rfl
theorem nil4_size : (Tryd.prog.info? 69).map (·.size) = some nil4.size := cod_size
theorem nil4_one : nil4.all (·.oneCell') = true := by simp [Value.oneCell']
theorem ptr_one (a : Option Addr) : (Value.pointer a).oneCell' = true := rfl
theorem cod4_room (P : Nat → Value) {k : Nat} (hk : k < 2) : k * 2 + 1 < (cod4 P).size := by show k * 2 + 1 < 4; omega
def updP (P : Nat → Value) (k : Nat) (u v : Value) : Nat → Value := fun j => if j = 2 * k then u else if j = 2 * k + 1 then v else P j
theorem cod4_upd (P : Nat → Value) (k : Nat) (hk : k < 2) (u v : Value) : ((cod4 P).setIfInBounds (k * 2) u).setIfInBounds (k * 2 + 1) v = cod4 (updP P k u v) := by
  rcases (show k = 0 ∨ k = 1 by omega) with rfl | rfl <;> simp [cod4, updP]
theorem cod4_one {P : Nat → Value} (h : ∀ j, ∃ a, P j = .pointer a) : (cod4 P).all (·.oneCell') = true := by
  obtain ⟨a0, e0⟩ := h 0
  obtain ⟨a1, e1⟩ := h 1
  obtain ⟨a2, e2⟩ := h 2
  obtain ⟨a3, e3⟩ := h 3
  simp [cod4, e0, e1, e2, e3, Value.oneCell']
set_option maxRecDepth 10000 in
set_option maxHeartbeats 6400000 in
theorem used_any (w : World) (K : Int) (T : Tbs) (X : Nat → Value) (hX : Xs w T X) (hW : Wt T) (h3 : ∀ j, j < 4 → (T.V j).length ≤ 300) : Calls Tryd.prog 21 #[.int .i64 K, tbV T X] w (UsedY w K T) := by
  obtain ⟨C, hC⟩ : ∃ C, C = (tbC T X).toArray := ⟨_, rfl⟩
  have eC : tbV T X = .agg C := by rw [hC]; rfl
  obtain ⟨Z, hZ⟩ : ∃ Z, Z = nil4 := ⟨_, rfl⟩
  obtain ⟨g1, hg1⟩ : ∃ g1, w.heap.size = g1 := ⟨_, rfl⟩
  obtain ⟨w1, hw1⟩ : ∃ w1, w.alloc (.cells C 33) = w1 := ⟨_, rfl⟩
  have b1 : Box w1 g1 33 (tbC T X).toArray := by rw [← hw1, ← hg1, ← hC]; exact Box.made _ _ _
  have k1 : Below w.heap.size w w1 := by rw [← hw1]; exact on_alloc _ _
  obtain ⟨g2, hg2⟩ : ∃ g2, w1.heap.size = g2 := ⟨_, rfl⟩
  obtain ⟨w2, hw2⟩ : ∃ w2, w1.alloc (.cells Z 69) = w2 := ⟨_, rfl⟩
  have b2 : Box w2 g2 69 Z := by rw [← hw2, ← hg2]; exact Box.made _ _ _
  have k2 : Below w1.heap.size w1 w2 := by rw [← hw2]; exact on_alloc _ _
  obtain ⟨g3, hg3⟩ : ∃ g3, w2.heap.size = g3 := ⟨_, rfl⟩
  obtain ⟨w3, hw3⟩ : ∃ w3, w2.alloc (.cells Z 69) = w3 := ⟨_, rfl⟩
  have b3 : Box w3 g3 69 Z := by rw [← hw3, ← hg3]; exact Box.made _ _ _
  have k3 : Below w2.heap.size w2 w3 := by rw [← hw3]; exact on_alloc _ _
  have hz69 : ∀ w, (zeroValue 69).run Tryd.prog w = .ok (.agg Z) w := fun w => by rw [hZ]; kernel_rfl
  have hb69 : ∀ w, (Instr.build 69 #[]).run Tryd.prog w = .ok (.agg Z) w := fun w => by rw [hZ]; exact run_build w 69 _ _ (by show Program.built _ _ _ = _; kernel_rfl)
  have hg12 : g1 < g2 := by rw [← hg2]; exact b1.lt
  have hg23 : g2 < g3 := by rw [← hg3]; exact b2.lt
  have H3 := Lib.hid (And.intro ((b1.on k2).on k3) (And.intro (b2.on k3) (And.intro b3 (And.intro (on_trans (on_trans k1 k2) k3) (And.intro hg1 (And.intro hg12 hg23))))))
  have HX := Lib.hid (And.intro (fun w' (k : Below w.heap.size w w') => hX.on k) (And.intro hW h3))
  have HE := Lib.hid (And.intro eC hC)
  rw [eC]
  have HZ := Lib.hid (And.intro hZ (And.intro (show (Tryd.prog.info? 69).map (·.size) = some Z.size by rw [hZ]; exact nil4_size) (And.intro (show nil4.size = Z.size by rw [hZ]) (show Z.all (·.oneCell') = true by rw [hZ]; exact nil4_one))))
  clear hZ b1 k1 b2 k2 b3 k3 hX hW h3 eC hC hg12 hg23
  obtain ⟨cnt, hcnt⟩ : ∃ cnt, cnt = nC K := ⟨_, rfl⟩
  have hc2 := nC_le K
  rw [← hcnt] at hc2
  have HC := Lib.hid hcnt
  go_enter Tryd.func21, Tryd.ntmps21
  go_upto_if 13 with fail
  go_cut [6] (fun v wx => v = .int .i64 (cnt : Int) ∧ wx = w2)
  case first =>
    by_cases hK : K = 0
    · have hKi : (K != 0) = false := by simpa using hK
      have h1 : cnt = 1 := by rw [hcnt, nC, if_pos hK]
      go_wp2_with fail
      go_meet
      exact ⟨by rw [h1]; rfl, rfl⟩
    · have hKi : (K != 0) = true := by simpa using hK
      have h1 : cnt = 2 := by rw [hcnt, nC, if_neg hK]
      go_wp2_with fail
      go_meet
      exact ⟨by rw [h1]; rfl, rfl⟩
  case rest =>
    obtain ⟨rfl, rfl⟩ := hcut
    clear hcnt
    go_wp2_with fail
    clear hw1 hw2 hw3 hg1 hg2 hg3
    have H4 := Lib.hid (And.intro (show Box w3 g3 69 (cod4 fun _ => .pointer none) by have := H3.out.2.2.1; rw [HZ.out.1] at this; exact this) (And.intro (show Box w3 g2 69 nil4 by have := H3.out.2.1; rw [HZ.out.1] at this; exact this) (And.intro H3.out.1 H3.out.2.2.2.1)))
    go_loopw [15] (fun i wr => ∃ (k : Nat) (P : Nat → Value), k ≤ cnt ∧ i = .int .i64 (k : Int) ∧ LoopU wr w g1 g2 g3 T X P k) (fun i _ => cnt - (intOf i).toNat)
    case atStart => exact ⟨0, fun _ => .pointer none, Nat.zero_le _, rfl, H4.out.1, H4.out.2.1, H4.out.2.2.1, H4.out.2.2.2, (fun c hc => absurd hc (by omega)), (fun c hc => absurd hc (by omega)), fun j => ⟨none, rfl⟩⟩
    case round =>
      obtain ⟨k, P, hk, rfl, hl⟩ := hrel
      have HL := Lib.hid hl
      by_cases hlt : k < cnt
      · have hki : (k : Int) < (cnt : Int) := by omega
        have hk2 : (k : Int) < 2 := by omega
        have hk2n : k < 2 := by omega
        have hld1 : (Instr.loadAt 30 (.pointer (some ⟨g1, 128 + k * 17, none⟩))).run Tryd.prog wr = .ok (specV (T.B k) (X k)) wr := by
          have := (hl.t.rng).loadS HX.out.2.1 (j := k) (by omega)
          rwa [Nat.mul_comm] at this
        obtain ⟨A1, n1, c1, e1, i1⟩ := (HX.out.1 _ hl.bel) k (by omega)
        rw [e1] at hld1
        have HLd1 := Lib.hid hld1
        have HN1 := Lib.hid (new_any wr (T.B k) (T.V k) A1 n1 c1 (HX.out.2.1.sb k (by omega)) i1 (by rw [← i1.len]; exact HX.out.2.2 k (by omega)))
        clear hl hld1 i1
        go_wp2_with (first
          | (with_reducible refine wpList_load_to (op := ⟨some 22, _, _, _, _, _⟩) rfl 30 (.tmp 21) rfl (.pointer (some ⟨g1, 128 + k * 17, none⟩)) rfl (specV (T.B k) (.slice A1 n1 c1)) HLd1.out ?_)
          | fail)
        refine Calls.mono HN1.out ?_
        rintro e w5 ⟨k5, h5⟩
        rcases h5 with ⟨hv, rfl⟩ | ⟨hv, t1, rfl, htb⟩
        · have H5 := Lib.hid (And.intro (show Box w5 g2 69 nil4 from HL.out.r.on k5) (And.intro (on_trans HL.out.bel k5) hv))
          clear k5 hv HLd1 HN1
          go_wp2_with (first
            | ((with_reducible refine wpList_store_rowk (o := ⟨none, _, _, _, _, _⟩) rfl 69 (.tmp 4) (.tmp 28) rfl rfl g2 Z rfl rfl HZ.out.2.1 69 nil4 H5.out.1 HZ.out.2.2.1 HZ.out.2.2.2 ?_)
               intro w9 b9 k9
               have H9 := Lib.hid (And.intro b9 k9)
               clear b9 k9)
            | fail)
          refine bodyPost_ret (v := .tuple #[.agg Z, .int .i64 4]) (results_ct (fn := Tryd.f21) Tryd.results21 _ _ g2 _ _ rfl rfl (loadVar_cod H9.out.1 (by rw [HZ.out.1]; rfl))) rfl ?_
          exact ⟨H5.out.2.1.trans (H9.out.2.below H5.out.2.1.size (fun i hi e => by have := H3.out.2.2.2.2.2; have := H3.out.2.2.2.2.1; omega)), .inr ⟨fun hok => H5.out.2.2 (hok k (by rw [← HC.out]; exact hlt)).1, by rw [HZ.out.1]⟩⟩
        · have hl5 := HL.out.on k5
          have hld2 : (Instr.loadAt 30 (.pointer (some ⟨g1, 162 + k * 17, none⟩))).run Tryd.prog w5 = .ok (specV (T.B (k + 2)) (X (k + 2))) w5 := by
            have := (hl5.t.rng).loadS HX.out.2.1 (j := k + 2) (by omega)
            rwa [show 128 + 17 * (k + 2) = 162 + k * 17 by omega] at this
          obtain ⟨A2, n2, c2, e2, i2⟩ := (HX.out.1 _ hl5.bel) (k + 2) (by omega)
          rw [e2] at hld2
          have HLd2 := Lib.hid hld2
          have HN2 := Lib.hid (new_any w5 (T.B (k + 2)) (T.V (k + 2)) A2 n2 c2 (HX.out.2.1.sb (k + 2) (by omega)) i2 (by rw [← i2.len]; exact HX.out.2.2 (k + 2) (by omega)))
          have H5 := Lib.hid (And.intro hl5 (And.intro hv htb))
          have hsz5 := k5.size
          clear hl5 hld2 i2 hv htb k5 HLd1 HN1
          go_wp2_with (first
            | (with_reducible refine wpList_load_to (op := ⟨some 34, _, _, _, _, _⟩) rfl 30 (.tmp 33) rfl (.pointer (some ⟨g1, 162 + k * 17, none⟩)) rfl (specV (T.B (k + 2)) (.slice A2 n2 c2)) HLd2.out ?_)
            | fail)
          refine Calls.mono HN2.out ?_
          rintro e w6 ⟨k6, h6⟩
          rcases h6 with ⟨hv, rfl⟩ | ⟨hv, t2, rfl, htb2⟩
          · have H6 := Lib.hid (And.intro (show Box w6 g2 69 nil4 from H5.out.1.r.on k6) (And.intro (on_trans H5.out.1.bel k6) hv))
            clear k6 hv HLd2 HN2
            go_wp2_with (first
              | ((with_reducible refine wpList_store_rowk (o := ⟨none, _, _, _, _, _⟩) rfl 69 (.tmp 4) (.tmp 40) rfl rfl g2 Z rfl rfl HZ.out.2.1 69 nil4 H6.out.1 HZ.out.2.2.1 HZ.out.2.2.2 ?_)
                 intro w9 b9 k9
                 have H9 := Lib.hid (And.intro b9 k9)
                 clear b9 k9)
              | fail)
            refine bodyPost_ret (v := .tuple #[.agg Z, .int .i64 4]) (results_ct (fn := Tryd.f21) Tryd.results21 _ _ g2 _ _ rfl rfl (loadVar_cod H9.out.1 (by rw [HZ.out.1]; rfl))) rfl ?_
            exact ⟨H6.out.2.1.trans (H9.out.2.below H6.out.2.1.size (fun i hi e => by have := H3.out.2.2.2.2.2; have := H3.out.2.2.2.2.1; omega)), .inr ⟨fun hok => H6.out.2.2 (hok k (by rw [← HC.out]; exact hlt)).2, by rw [HZ.out.1]⟩⟩
          · have hl6 := H5.out.1.on k6
            have hb68 : ∀ w, (Instr.build 68 #[(0, .pointer (some ⟨t1, 0, none⟩)), (1, .pointer (some ⟨t2, 0, none⟩))]).run Tryd.prog w = .ok (.agg #[.pointer (some ⟨t1, 0, none⟩), .pointer (some ⟨t2, 0, none⟩)]) w := fun w => run_build w 68 _ _ (by show Program.built _ _ _ = _; kernel_rfl)
            have H6 := Lib.hid (And.intro hl6 (And.intro (H5.out.2.2.on k6) (And.intro htb2 (And.intro hv k6.size))))
            clear hl6 hv htb2 k6 HLd2 HN2
            go_wp2_with (first
              | ((with_reducible refine wpList_store_two (op := ⟨none, _, _, _, _, _⟩) rfl 68 (.tmp 46) (.tmp 45) rfl rfl g3 (k * 2) (.pointer (some ⟨t1, 0, none⟩)) (.pointer (some ⟨t2, 0, none⟩)) rfl rfl coder_size 69 (cod4 P) H6.out.1.p (cod4_room P hk2n) (ptr_one _) (ptr_one _) ?_)
                 intro w9 b9 k9
                 have H9 := Lib.hid (And.intro b9 k9)
                 clear b9 k9)
              | fail)
            have hl9 : LoopU w9 w g1 g2 g3 T X (updP P k (.pointer (some ⟨t1, 0, none⟩)) (.pointer (some ⟨t2, 0, none⟩))) (k + 1) := by
              have hg := H3.out.2.2.2.2.2
              have hb9 := H9.out.1
              rw [cod4_upd P k hk2n] at hb9
              have h69 : ∀ {g t : Nat} {cs : Array Value}, Box w6 g t cs → g ≠ g3 → Box w9 g t cs := fun hb hne => H9.out.2.box hb hne
              refine ⟨hb9, h69 H6.out.1.r (by omega), h69 H6.out.1.t (by omega), H6.out.1.bel.trans (H9.out.2.below H6.out.1.bel.size (fun i hi e => by have := H3.out.2.2.2.2.1; omega)), fun c hc => ?_, fun c hc => ?_, fun j => ?_⟩
              · by_cases hck : c < k
                · have h1 := ((H6.out.1.cod c hck).kept H9.out.2 (fun b h1 _ e => by omega)).more H9.out.2.size
                  exact h1.same (by rw [updP, if_neg (by omega), if_neg (by omega)]) (by rw [updP, if_neg (by omega), if_neg (by omega)])
                · obtain rfl : c = k := by omega
                  have hgr := HL.out.p.lt
                  have hs9 := H9.out.2.size
                  have hs6 := H6.out.2.2.2.2
                  refine ⟨_, _, t1, _, _, t2, by rw [updP, if_pos rfl], by rw [updP, if_neg (by omega), if_pos rfl], H6.out.2.1.kept H9.out.2 (fun b h1 _ e => by omega), H6.out.2.2.1.kept H9.out.2 (fun b h1 _ e => by omega), by omega, by omega, by omega, by omega⟩
              · by_cases hck : c < k
                · exact H6.out.1.ok c hck
                · obtain rfl : c = k := by omega
                  exact ⟨H5.out.2.1, H6.out.2.2.2.1⟩
              · unfold updP
                split
                · exact ⟨_, rfl⟩
                · split
                  · exact ⟨_, rfl⟩
                  · exact H6.out.1.ptr j
            exact ⟨⟨k + 1, _, hlt, by push_cast; rfl, hl9⟩, by show cnt - ((k : Int) + 1).toNat < cnt - (k : Int).toNat; omega⟩
      · obtain rfl : k = cnt := by omega
        have HLd := Lib.hid (load_cod hl.p rfl)
        clear hl
        go_wp2_with (first
          | (with_reducible refine wpList_load_to (op := ⟨some 48, _, _, _, _, _⟩) rfl 69 (.tmp 7) rfl (.pointer (some ⟨g3, 0, none⟩)) rfl (.agg (cod4 P)) HLd.out ?_)
          | ((with_reducible refine wpList_store_rowk (o := ⟨none, _, _, _, _, _⟩) rfl 69 (.tmp 4) (.tmp 48) rfl rfl g2 (cod4 P) rfl rfl (cod4_size P) 69 nil4 HL.out.r (cod4_nil P) (cod4_one HL.out.ptr) ?_)
             intro w9 b9 k9
             have H9 := Lib.hid (And.intro b9 k9)
             clear b9 k9)
          | fail)
        refine bodyPost_ret (v := .tuple #[.agg (cod4 P), .int .i64 0]) (results_ct (fn := Tryd.f21) Tryd.results21 _ _ g2 _ _ rfl rfl (loadVar_cod H9.out.1 rfl)) rfl ?_
        have hg := H3.out.2.2.2.2.2
        refine ⟨HL.out.bel.trans (H9.out.2.below HL.out.bel.size (fun i hi e => by have := H3.out.2.2.2.2.1; omega)), .inl ⟨fun c hc => HL.out.ok c (by rw [HC.out]; exact hc), P, rfl, HL.out.ptr, fun c hc => ?_⟩⟩
        exact (((HL.out.cod c (by rw [HC.out]; exact hc)).kept H9.out.2 (fun b h1 _ e => by omega)).more H9.out.2.size).less (by have := H3.out.2.2.2.2.1; omega)
end Go.Proofs.YtdnjnbfmmgkpjaaDoor
