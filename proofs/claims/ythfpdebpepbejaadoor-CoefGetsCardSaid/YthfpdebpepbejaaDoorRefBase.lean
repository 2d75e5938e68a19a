/-
  The contract of the reference's number. The contract of the reference's Get of a block: its parts.
-/
import Derived.Test.YthfpdebpepbejaaDoorGetBlk
import Derived.Test.YthfpdebpepbejaaDoorOrder
import Derived.Test.YthfpdebpepbejaaDoorTables
namespace Go.Proofs.YthfpdebpepbejaaDoor
open Go.RowKit

theorem rd_size : (Tryd.prog.info? 61).map (·.size) = some 3 := by kernel_rfl
theorem load61 {w : World} {g : Nat} {cs : Array Value} (h : Box w g 61 cs) (hs : cs.size = 3) : (Instr.loadAt 61 (.pointer (some ⟨g, 0, none⟩))).run Tryd.prog w = .ok (.agg cs) w := by
  have := run_loadAt_mid w g 0 61 cs.toList _ (fun j u hu => by rw [Nat.zero_add, h.cell j]; simpa using hu) Tryd.underlying61 rfl (by rw [rd_size]; simp [hs])
  simpa using this
theorem wpList_store_61 {ops : Array Oper} {rest : List Oper} {o : Oper} {a : Act} {w : World} {Q : Exit → Act → World → Prop} (hgd : o.guard = none) (x y : Operand) (ho : o.op = .store 61 x y) (hd : o.dst = none)
    (g : Nat) (cs : Array Value) (hx : a.eval x = .pointer (some ⟨g, 0, none⟩)) (hy : a.eval y = .agg cs) (old : Array Value) (hg : Box w g 61 old) (hold : old.size = 3) (hcs : cs.size = 3) (h1 : cs.all (·.oneCell') = true)
    (h : ∀ w', Box w' g 61 cs → Kept (fun i => i = g) w w' → wpList Tryd.prog ops Q rest a w') : wpList Tryd.prog ops Q (o :: rest) a w := by
  refine wpList_plain hgd fun _ hK => ?_
  refine wp_store_row 61 x y ho g cs hx hy 61 old hg (by rw [rd_size, hcs]) (by rw [hold, hcs]) h1 ?_
  rw [hd]
  exact hK _ _ (h _ (setRow_heap w g old _ 61 _ hg) ⟨rfl, rfl, rfl, by simp, fun k _ hk => setRow_other w g k _ hk⟩)
theorem loadVar_61 {w : World} {g : Nat} {cs : Array Value} (h : Box w g 61 cs) (hs : cs.size = 3) : (loadVar 61 ⟨g, 0, none⟩).run Tryd.prog w = .ok (.agg cs) w :=
  run_loadVar_row w g 61 61 _ (0, 0) _ h Tryd.underlying61 rfl (by rw [rd_size, hs])
theorem results_ctt {fn : Func} {p q q' : Tmp} {ty : TypeId} (h : fn.results = #[.cell p ty, .tmp q, .tmp q']) (tmps : Array Value) (w : World) (g : Nat) (x v v' : Value)
    (hp : tmps.getD p undef = .pointer (some ⟨g, 0, none⟩)) (hq : tmps.getD q undef = v) (hq' : tmps.getD q' undef = v') (hl : (loadVar ty ⟨g, 0, none⟩).run Tryd.prog w = .ok x w) : (results fn tmps).run Tryd.prog w = .ok (.tuple #[x, v, v']) w := by
  have e1 : tmps[p]?.getD undef = .pointer (some ⟨g, 0, none⟩) := by simpa using hp
  have e2 : tmps[q]?.getD undef = v := by simpa using hq
  have e3 : tmps[q']?.getD undef = v' := by simpa using hq'
  simp [results, h, e1, e2, e3, asAddr, hl]

/-- a reader's cells, as a name -/
structure RdC (A : Option Addr) (n c : Nat) (s : St) (Al : Option Addr) (cl : Nat) (C : Array Value) : Prop where
  val : refV A n c s Al cl = .agg C
  size : C.size = 3
  one : C.all (·.oneCell') = true
theorem rdC_made (A : Option Addr) (n c : Nat) (s : St) (Al : Option Addr) (cl : Nat) : ∃ C, RdC A n c s Al cl C := ⟨#[.slice A n c, .int .i64 (s.at_ : Int), .slice Al s.c cl], rfl, rfl, by simp [Value.oneCell']⟩
theorem rdC_none : noCells.size = 3 := rfl

theorem il_far61 {w w' : World} {g k cl : Nat} {cs : Array Value} {Al : Option Addr} {xs : List Int} (hI : Il w Al k cl xs) (hb : Box w g 61 cs) (k3 : Kept (fun i => i = g) w w') : Il w' Al k cl xs := by
  refine hI.kept k3 (fun b off e hbg => ?_)
  obtain ⟨cs2, fr, hh⟩ := hI.typ b off e
  rw [hbg] at hh
  have hbb : w.heap[g]? = some (.cells cs 61 (0, 0)) := hb
  rw [hh] at hbb
  cases hbb
theorem goF_err (l : List Int) : ∀ (k : Nat) (s0 s : St) (m : Nat), (goF l s0 k s m).2.2 ≠ 0 → (goF l s0 k s m).2.1 = 0
  | 0, _, _, _, h => absurd rfl h
  | k + 1, s0, s, m, h => by
    unfold goF at h ⊢
    split at h
    · next h1 => rw [if_pos h1]; exact goF_err l k _ _ _ h
    · next h1 => rw [if_neg h1]
theorem getF_err (l : List Int) (s : St) (k : Int) (h : (getF l s k).2.2 ≠ 0) : (getF l s k).2.1 = 0 := by
  unfold getF at h ⊢
  split at h
  · next h1 => rw [if_pos h1]
  · next h1 => rw [if_neg h1]; exact goF_err l _ _ _ _ h
theorem ext_half {v k : Nat} (h : 0 < k) : 2 * v < 2 ^ k ↔ v < 2 ^ (k - 1) := by
  obtain ⟨j, rfl⟩ : ∃ j, k = j + 1 := ⟨k - 1, by omega⟩
  rw [Nat.pow_succ, Nat.add_sub_cancel]
  omega

set_option maxRecDepth 10000 in
set_option maxHeartbeats 1600000 in
theorem refNum_any (w : World) (K : Nat → Prop) (A : Option Addr) (n c : Nat) (l : List Int) (s : St) (Al : Option Addr) (cl k : Nat) (h : Sl w K A n c l) (hI : Il w Al s.c cl (dig s.v s.c)) (hok : s.ok l.length) (hn : n ≤ 5000) (hk : k ≤ 15) :
    Calls Tryd.prog 53 #[refV A n c s Al cl, .int .i64 (k : Int)] w (RefGotT w A n c (numF l s k)) := by
  have hlt := getF_lt h.bts.fit hok k
  obtain ⟨C0, hC0⟩ := rdC_made A n c s Al cl
  rw [hC0.val]
  obtain ⟨N, hN⟩ : ∃ N, N = noCells := ⟨_, rfl⟩
  have hz : ∀ w, (zeroValue 61).run Tryd.prog w = .ok (.agg N) w := fun w => by rw [hN]; kernel_rfl
  obtain ⟨w1, hw1⟩ : ∃ w1, w1 = (w.alloc (.cells C0 61)).alloc (.cells N 61) := ⟨_, rfl⟩
  have bel : Below w.heap.size w w1 := by rw [hw1]; exact on_trans (on_alloc _ _) (on_alloc _ _)
  have b2 : Box w1 w.heap.size 61 C0 := by rw [hw1]; exact (Box.made w 61 C0).alloc _
  have b4 : Box w1 (w.heap.size + 1) 61 N := by rw [hw1]; have := Box.made (w.alloc (.cells C0 61)) 61 N; simpa using this
  have hNs : N.size = 3 := by rw [hN]; rfl
  have H1 := Lib.hid (And.intro b2 (And.intro b4 (And.intro bel (And.intro hw1 (And.intro hNs hC0)))))
  have HL := Lib.hid (load61 b2 hC0.size)
  have HG := Lib.hid (refGet_any w1 (fun _ => True) A n c l s Al cl (k : Int) (h.on bel) (hI.on bel) hok hn)
  obtain ⟨NR, hNR⟩ : ∃ NR, NR = numF l s k := ⟨_, rfl⟩
  rw [← hNR]
  unfold numF at hNR
  have hv0 := getF_err l s (k : Int)
  obtain ⟨R, hR⟩ : ∃ R, R = getF l s (k : Int) := ⟨_, rfl⟩
  rw [← hR] at HG hlt hNR hv0
  rw [hC0.val] at HG
  obtain ⟨s1, v, E⟩ := R
  dsimp only at hlt hNR hv0
  have HV0 := Lib.hid hv0
  clear hv0
  obtain ⟨p, hp⟩ : ∃ p : Nat, p = 2 ^ k := ⟨_, rfl⟩
  have hp1 : p ≤ 32768 := by rw [hp]; exact Nat.le_trans (Nat.pow_le_pow_right (by omega) hk) (by decide)
  have HP := Lib.hid hp
  unfold ext at hNR
  rw [← hp] at hlt hNR
  have HNR := Lib.hid hNR
  clear hNR
  clear hR hp h hI hok hn hN hNs b2 b4 bel hw1 hC0
  go_enter Tryd.func53, Tryd.ntmps53
  go_wp2_with (first
    | (with_reducible refine wpList_load_to (op := ⟨some 10, _, _, _, _, _⟩) rfl 61 (.tmp 2) rfl (.pointer (some ⟨w.heap.size, 0, none⟩)) rfl (.agg C0) (by rw [← H1.out.2.2.2.1]; exact HL.out) ?_)
    | fail)
  rw [← H1.out.2.2.2.1]
  refine HG.out.mono ?_
  rintro e w2 ⟨Al2, cl2, rfl, hI2, bb2⟩
  dsimp only at hI2 ⊢
  obtain ⟨C1, hC1⟩ := rdC_made A n c s1 Al2 cl2
  rw [hC1.val]
  have H2 := Lib.hid (And.intro (H1.out.1.on bb2) (And.intro (H1.out.2.1.on bb2) (And.intro (on_trans H1.out.2.2.1 bb2) (And.intro hI2 hC1))))
  clear hI2 bb2 hC1
  by_cases h0 : E = 0
  · subst h0
    by_cases hk0 : k = 0
    · have hki : ¬ (0 : Int) < (k : Int) := by omega
      have hv0 : v = 0 := by
        have := HP.out
        rw [hk0] at this
        omega
      have hp1' : p = 1 := by rw [HP.out, hk0]
      have HV := Lib.hid (And.intro hv0 hp1')
      clear hv0 hp1' hk0
      go_wp2_with (first
        | ((with_reducible refine wpList_store_61 (o := ⟨none, _, _, _, _, _⟩) rfl (.tmp 2) (.tmp 13) rfl rfl w.heap.size C1 rfl rfl C0 H2.out.1 H1.out.2.2.2.2.2.size H2.out.2.2.2.2.size H2.out.2.2.2.2.one ?_)
           intro w3 b3 k3
           have H3 := Lib.hid (And.intro b3 (And.intro (k3.box H2.out.2.1 (by omega)) (And.intro (H2.out.2.2.1.trans (k3.below H2.out.2.2.1.size (fun i hi e => by omega))) (il_far61 H2.out.2.2.2.1 H2.out.1 k3))))
           clear b3 k3)
        | (with_reducible refine wpList_load_to (op := ⟨some 34, _, _, _, _, _⟩) rfl 61 (.tmp 2) rfl (.pointer (some ⟨w.heap.size, 0, none⟩)) rfl (.agg C1) (load61 H3.out.1 H2.out.2.2.2.2.size) ?_)
        | ((with_reducible refine wpList_store_61 (o := ⟨none, _, _, _, _, _⟩) rfl (.tmp 4) (.tmp 34) rfl rfl (w.heap.size + 1) C1 rfl rfl N H3.out.2.1 H1.out.2.2.2.2.1 H2.out.2.2.2.2.size H2.out.2.2.2.2.one ?_)
           intro w4 b4 k4
           have H4 := Lib.hid (And.intro b4 (And.intro (H3.out.2.2.1.trans (k4.below H3.out.2.2.1.size (fun i hi e => by omega))) (il_far61 H3.out.2.2.2 H3.out.2.1 k4)))
           clear b4 k4)
        | fail)
      rw [HNR.out, HV.out.1, HV.out.2, if_pos trivial, if_pos (by omega)]
      refine bodyPost_ret (v := .tuple #[.agg C1, .int .i64 (0 : Int), .int .i64 0]) (results_ctt (fn := Tryd.f53) Tryd.results53 _ _ (w.heap.size + 1) _ _ _ rfl rfl rfl (loadVar_61 H4.out.1 H2.out.2.2.2.2.size)) rfl ?_
      exact ⟨Al2, cl2, by rw [← H2.out.2.2.2.2.val]; rfl, H4.out.2.2, H4.out.2.1⟩
    · have hki : (0 : Int) < (k : Int) := by omega
      have hPw := power_any w2 (k - 1) (by omega)
      obtain ⟨p2, hp2⟩ : ∃ p2 : Nat, p2 = 2 ^ (k - 1) := ⟨_, rfl⟩
      have hhalf := ext_half (v := v) (k := k) (by omega)
      rw [← HP.out, ← hp2] at hhalf
      have hk1 : ((k - 1 : Nat) : Int) = (k : Int) - 1 := by omega
      have hp3 : p2 ≤ 32768 := by
        have : p = 2 * p2 := by
          obtain ⟨j, hj⟩ : ∃ j, k = j + 1 := ⟨k - 1, by omega⟩
          rw [HP.out, hp2, hj, Nat.pow_succ, Nat.add_sub_cancel, Nat.mul_comm]
        omega
      by_cases hlt2 : v < p2
      · have h2v := hhalf.2 hlt2
        have hlt2i : (v : Int) < (p2 : Int) := by omega
        have HX := Lib.hid (And.intro hp2 (And.intro hhalf hk1))
        clear hhalf hp2 hPw
        go_wp2_with (first
          | ((with_reducible refine wpList_store_61 (o := ⟨none, _, _, _, _, _⟩) rfl (.tmp 2) (.tmp 13) rfl rfl w.heap.size C1 rfl rfl C0 H2.out.1 H1.out.2.2.2.2.2.size H2.out.2.2.2.2.size H2.out.2.2.2.2.one ?_)
             intro w3 b3 k3
             have H3 := Lib.hid (And.intro b3 (And.intro (k3.box H2.out.2.1 (by omega)) (And.intro (H2.out.2.2.1.trans (k3.below H2.out.2.2.1.size (fun i hi e => by omega))) (il_far61 H2.out.2.2.2.1 H2.out.1 k3))))
             clear b3 k3)
          | fail)
        have HQ := Lib.hid (power_any w3 (k - 1) (by omega))
        rw [← HX.out.1, HX.out.2.2] at HQ
        refine HQ.out.mono ?_
        rintro e w9 ⟨rfl, rfl⟩
        clear hk1
        go_wp2_with fail
        have HQ2 := Lib.hid (power_any w3 k (by omega))
        rw [← HP.out] at HQ2
        refine HQ2.out.mono ?_
        rintro e w9 ⟨rfl, rfl⟩
        go_wp2_with (first
          | (with_reducible refine wpList_load_to (op := ⟨some 34, _, _, _, _, _⟩) rfl 61 (.tmp 2) rfl (.pointer (some ⟨w.heap.size, 0, none⟩)) rfl (.agg C1) (load61 H3.out.1 H2.out.2.2.2.2.size) ?_)
          | ((with_reducible refine wpList_store_61 (o := ⟨none, _, _, _, _, _⟩) rfl (.tmp 4) (.tmp 34) rfl rfl (w.heap.size + 1) C1 rfl rfl N H3.out.2.1 H1.out.2.2.2.2.1 H2.out.2.2.2.2.size H2.out.2.2.2.2.one ?_)
             intro w4 b4 k4
             have H4 := Lib.hid (And.intro b4 (And.intro (H3.out.2.2.1.trans (k4.below H3.out.2.2.1.size (fun i hi e => by omega))) (il_far61 H3.out.2.2.2 H3.out.2.1 k4)))
             clear b4 k4)
          | fail)
        rw [HNR.out, if_pos trivial, if_pos h2v]
        refine bodyPost_ret (v := .tuple #[.agg C1, .int .i64 ((v : Int) - p + 1), .int .i64 0]) (results_ctt (fn := Tryd.f53) Tryd.results53 _ _ (w.heap.size + 1) _ _ _ rfl rfl rfl (loadVar_61 H4.out.1 H2.out.2.2.2.2.size)) rfl ?_
        exact ⟨Al2, cl2, by rw [← H2.out.2.2.2.2.val]; show _ = Ending.returned (.tuple #[refV A n c s1 Al2 cl2, .int .i64 ((v : Int) - ((p : Int) - 1)), .int .i64 0]); rw [show (v : Int) - ((p : Int) - 1) = (v : Int) - p + 1 by omega], H4.out.2.2, H4.out.2.1⟩
      · have h2v : ¬ 2 * v < p := fun h => hlt2 (hhalf.1 h)
        have hlt2i : ¬ (v : Int) < (p2 : Int) := by omega
        have HX := Lib.hid (And.intro hp2 (And.intro hhalf hk1))
        clear hhalf hp2 hPw
        go_wp2_with (first
          | ((with_reducible refine wpList_store_61 (o := ⟨none, _, _, _, _, _⟩) rfl (.tmp 2) (.tmp 13) rfl rfl w.heap.size C1 rfl rfl C0 H2.out.1 H1.out.2.2.2.2.2.size H2.out.2.2.2.2.size H2.out.2.2.2.2.one ?_)
             intro w3 b3 k3
             have H3 := Lib.hid (And.intro b3 (And.intro (k3.box H2.out.2.1 (by omega)) (And.intro (H2.out.2.2.1.trans (k3.below H2.out.2.2.1.size (fun i hi e => by omega))) (il_far61 H2.out.2.2.2.1 H2.out.1 k3))))
             clear b3 k3)
          | fail)
        have HQ := Lib.hid (power_any w3 (k - 1) (by omega))
        rw [← HX.out.1, HX.out.2.2] at HQ
        refine HQ.out.mono ?_
        rintro e w9 ⟨rfl, rfl⟩
        clear hk1
        go_wp2_with (first
          | (with_reducible refine wpList_load_to (op := ⟨some 34, _, _, _, _, _⟩) rfl 61 (.tmp 2) rfl (.pointer (some ⟨w.heap.size, 0, none⟩)) rfl (.agg C1) (load61 H3.out.1 H2.out.2.2.2.2.size) ?_)
          | ((with_reducible refine wpList_store_61 (o := ⟨none, _, _, _, _, _⟩) rfl (.tmp 4) (.tmp 34) rfl rfl (w.heap.size + 1) C1 rfl rfl N H3.out.2.1 H1.out.2.2.2.2.1 H2.out.2.2.2.2.size H2.out.2.2.2.2.one ?_)
             intro w4 b4 k4
             have H4 := Lib.hid (And.intro b4 (And.intro (H3.out.2.2.1.trans (k4.below H3.out.2.2.1.size (fun i hi e => by omega))) (il_far61 H3.out.2.2.2 H3.out.2.1 k4)))
             clear b4 k4)
          | fail)
        rw [HNR.out, if_pos trivial, if_neg h2v]
        refine bodyPost_ret (v := .tuple #[.agg C1, .int .i64 (v : Int), .int .i64 0]) (results_ctt (fn := Tryd.f53) Tryd.results53 _ _ (w.heap.size + 1) _ _ _ rfl rfl rfl (loadVar_61 H4.out.1 H2.out.2.2.2.2.size)) rfl ?_
        exact ⟨Al2, cl2, by rw [← H2.out.2.2.2.2.val], H4.out.2.2, H4.out.2.1⟩
  · have e0 : (E == 0) = false := by simpa using h0
    go_wp2_with (first
      | ((with_reducible refine wpList_store_61 (o := ⟨none, _, _, _, _, _⟩) rfl (.tmp 2) (.tmp 13) rfl rfl w.heap.size C1 rfl rfl C0 H2.out.1 H1.out.2.2.2.2.2.size H2.out.2.2.2.2.size H2.out.2.2.2.2.one ?_)
         intro w3 b3 k3
         have H3 := Lib.hid (And.intro b3 (And.intro (k3.box H2.out.2.1 (by omega)) (And.intro (H2.out.2.2.1.trans (k3.below H2.out.2.2.1.size (fun i hi e => by omega))) (il_far61 H2.out.2.2.2.1 H2.out.1 k3))))
         clear b3 k3)
      | (with_reducible refine wpList_load_to (op := ⟨some 34, _, _, _, _, _⟩) rfl 61 (.tmp 2) rfl (.pointer (some ⟨w.heap.size, 0, none⟩)) rfl (.agg C1) (load61 H3.out.1 H2.out.2.2.2.2.size) ?_)
      | ((with_reducible refine wpList_store_61 (o := ⟨none, _, _, _, _, _⟩) rfl (.tmp 4) (.tmp 34) rfl rfl (w.heap.size + 1) C1 rfl rfl N H3.out.2.1 H1.out.2.2.2.2.1 H2.out.2.2.2.2.size H2.out.2.2.2.2.one ?_)
         intro w4 b4 k4
         have H4 := Lib.hid (And.intro b4 (And.intro (H3.out.2.2.1.trans (k4.below H3.out.2.2.1.size (fun i hi e => by omega))) (il_far61 H3.out.2.2.2 H3.out.2.1 k4)))
         clear b4 k4)
      | fail)
    rw [HNR.out, if_neg h0]
    have hv0 : v = 0 := HV0.out h0
    refine bodyPost_ret (v := .tuple #[.agg C1, .int .i64 (v : Int), .int .i64 E]) (results_ctt (fn := Tryd.f53) Tryd.results53 _ _ (w.heap.size + 1) _ _ _ rfl rfl rfl (loadVar_61 H4.out.1 H2.out.2.2.2.2.size)) rfl ?_
    exact ⟨Al2, cl2, by rw [← H2.out.2.2.2.2.val]; rw [hv0]; rfl, H4.out.2.2, H4.out.2.1⟩
end Go.Proofs.YthfpdebpepbejaaDoor

namespace Go.Proofs.YthfpdebpepbejaaDoor
open Go.RowKit

theorem yieldsIf_load {ops : Array Oper} {S : World → Prop} {op : Oper} {a : Act} (hw : Region.wanted op (yielded ops a.tmps) = true) (t : TypeId) (x : Operand) (ho : op.op = .load t x) (u : Value) (hx : a.eval x = u) (v : Value)
    (h : ∀ w, S w → (Instr.loadAt t u).run Tryd.prog w = .ok v w) : YieldsIf Tryd.prog ops S op v a :=
  .inl ⟨hw, fun w hS => by
    unfold execOp
    simp only [ho, hx, Sem.run_bind, h w hS, Result.andThen_ok, Sem.run_pure]⟩
theorem wp_store_61 {o : Oper} {a : Act} {w : World} {K : Act → World → Prop} {Q : Exit → Act → World → Prop} (x y : Operand) (ho : o.op = .store 61 x y) (hd : o.dst = none)
    (g : Nat) (cs : Array Value) (hx : a.eval x = .pointer (some ⟨g, 0, none⟩)) (hy : a.eval y = .agg cs) (old : Array Value) (hg : Box w g 61 old) (hold : old.size = 3) (hcs : cs.size = 3) (h1 : cs.all (·.oneCell') = true)
    (h : ∀ w', Box w' g 61 cs → Kept (fun i => i = g) w w' → K a w') : o.wp Tryd.prog a w K Q := by
  refine wp_store_row 61 x y ho g cs hx hy 61 old hg (by rw [rd_size, hcs]) (by rw [hold, hcs]) h1 ?_
  rw [hd]
  exact h _ (setRow_heap w g old _ 61 _ hg) ⟨rfl, rfl, rfl, by simp, fun k _ hk => setRow_other w g k _ hk⟩
theorem wp_store_blk {t : TypeId} {o : Oper} {a : Act} {w : World} {K : Act → World → Prop} {Q : Exit → Act → World → Prop} (ht : (Tryd.prog.info? t).map (·.size) = some 64) (x y : Operand) (ho : o.op = .store t x y) (hd : o.dst = none)
    (g : Nat) (b : List Int) (hx : a.eval x = .pointer (some ⟨g, 0, none⟩)) (hy : a.eval y = blkV b) (old : Array Value) (hg : Box w g t old) (hold : old.size = 64) (hb : b.length = 64)
    (h : ∀ w', Box w' g t (cellsI b).toArray → Kept (fun i => i = g) w w' → K a w') : o.wp Tryd.prog a w K Q := by
  refine wp_store_row t x y ho g (cellsI b).toArray hx hy t old hg (by rw [ht]; simp [cellsI_len, hb]) (by rw [hold]; simp [cellsI_len, hb]) (all_oneCell_toArray (cellsI_one b)) ?_
  rw [hd]
  exact h _ (setRow_heap w g old _ t _ hg) ⟨rfl, rfl, rfl, by simp, fun k _ hk => setRow_other w g k _ hk⟩
theorem il_far23 {w w' : World} {g k cl : Nat} {cs : Array Value} {Al : Option Addr} {xs : List Int} (hI : Il w Al k cl xs) (hb : Box w g 23 cs) (k3 : Kept (fun i => i = g) w w') : Il w' Al k cl xs := by
  refine hI.kept k3 (fun b off e hbg => ?_)
  obtain ⟨cs2, fr, hh⟩ := hI.typ b off e
  rw [hbg] at hh
  have hbb : w.heap[g]? = some (.cells cs 23 (0, 0)) := hb
  rw [hh] at hbb
  cases hbb

/-- how the reference's Get stands: its reader is at s -/
structure RGS (w wr : World) (g4 g8 g9 g11 : Nat) (A : Option Addr) (n c : Nat) (l : List Int) (N Z : Array Value) (s : St) (Al : Option Addr) (cl : Nat) (C : Array Value) : Prop where
  b4 : Box wr g4 61 C
  rc : RdC A n c s Al cl C
  b8 : Box wr g8 61 N
  b9 : Box wr g9 23 Z
  b11 : Blk wr g11 zeros64
  row : Il wr Al s.c cl (dig s.v s.c)
  ok : s.ok l.length
  bel : Below w.heap.size w wr
section
variable {w wr w' : World} {g4 g8 g9 g11 : Nat} {A : Option Addr} {n c : Nat} {l : List Int} {N Z : Array Value} {s : St} {Al : Option Addr} {cl : Nat} {C : Array Value}
theorem RGS.on (h : RGS w wr g4 g8 g9 g11 A n c l N Z s Al cl C) (k : Below wr.heap.size wr w') : RGS w w' g4 g8 g9 g11 A n c l N Z s Al cl C :=
  ⟨h.b4.on k, h.rc, h.b8.on k, h.b9.on k, h.b11.on k, h.row.on k, h.ok, on_trans h.bel k⟩
/-- the reader is stored anew -/
theorem RGS.move {s' : St} {Al' : Option Addr} {cl' : Nat} {C' : Array Value} (h : RGS w wr g4 g8 g9 g11 A n c l N Z s Al cl C) (k : Kept (fun i => i = g4) wr w') (hb : Box w' g4 61 C') (rc : RdC A n c s' Al' cl' C') (row : Il wr Al' s'.c cl' (dig s'.v s'.c)) (ok : s'.ok l.length)
    (hg : w.heap.size ≤ g4) (h48 : g8 ≠ g4) (h49 : g9 ≠ g4) (h411 : g11 ≠ g4) : RGS w w' g4 g8 g9 g11 A n c l N Z s' Al' cl' C' :=
  ⟨hb, rc, k.box h.b8 h48, k.box h.b9 h49, h.b11.kept k h411, il_far61 row h.b4 k, ok, h.bel.trans (k.below h.bel.size (fun i hi e => by omega))⟩
/-- some other block is stored into -/
theorem RGS.far {S : Nat → Prop} (h : RGS w wr g4 g8 g9 g11 A n c l N Z s Al cl C) (k : Kept S wr w') (hg : ∀ i, S i → w.heap.size ≤ i ∧ i ≠ g4 ∧ i ≠ g8 ∧ i ≠ g9 ∧ i ≠ g11 ∧ ∀ cs fr, wr.heap[i]? ≠ some (.cells cs 3 fr)) : RGS w w' g4 g8 g9 g11 A n c l N Z s Al cl C := by
  refine ⟨k.box h.b4 (fun e => (hg _ e).2.1 rfl), h.rc, k.box h.b8 (fun e => (hg _ e).2.2.1 rfl), k.box h.b9 (fun e => (hg _ e).2.2.2.1 rfl), h.b11.kept k (fun e => (hg _ e).2.2.2.2.1 rfl), h.row.kept k (fun b off e e2 => ?_), h.ok, h.bel.trans (k.below h.bel.size (fun i hi e => by have := (hg _ e).1; omega))⟩
  obtain ⟨cs, fr, hh⟩ := h.row.typ b off e
  exact (hg _ e2).2.2.2.2.2 cs fr hh
end

/-- and its loop: at place k, the block b so far -/
structure RGL (w wr : World) (g4 g8 g9 g11 : Nat) (A : Option Addr) (n c : Nat) (l : List Int) (N Z : Array Value) (s : St) (Al : Option Addr) (cl : Nat) (C : Array Value) (g15 : Nat) (L : List En) (b : List Int) (bo oo c16 : Nat) (O : St × List Int × Int) (k f : Nat) : Prop where
  rgs : RGS w wr g4 g8 g9 g11 A n c l N Z s Al cl C
  out_ : Blk wr g15 b
  ord : Il wr (some ⟨bo, oo, none⟩) 64 c16 zz
  res : othersG L l f k s b = O
  fuel : 64 ≤ k + f
section
variable {w wr w' : World} {g4 g8 g9 g11 : Nat} {A : Option Addr} {n c : Nat} {l : List Int} {N Z : Array Value} {s : St} {Al : Option Addr} {cl : Nat} {C : Array Value} {g15 : Nat} {L : List En} {b : List Int} {bo oo c16 : Nat} {O : St × List Int × Int} {k f : Nat}
theorem RGL.on (h : RGL w wr g4 g8 g9 g11 A n c l N Z s Al cl C g15 L b bo oo c16 O k f) (kk : Below wr.heap.size wr w') : RGL w w' g4 g8 g9 g11 A n c l N Z s Al cl C g15 L b bo oo c16 O k f :=
  ⟨h.rgs.on kk, h.out_.on kk, h.ord.on kk, h.res, h.fuel⟩
end

/-- what the reference's Get tells -/
def RefGotB (w : World) (A : Option Addr) (n c : Nat) (R : St × List Int × Int) (e : Ending) (w' : World) : Prop :=
  ∃ Al cl, e = .returned (.tuple #[refV A n c R.1 Al cl, blkV R.2.1, .int .i64 R.2.2]) ∧ Il w' Al R.1.c cl (dig R.1.v R.1.c) ∧ Below w.heap.size w w'
end Go.Proofs.YthfpdebpepbejaaDoor
