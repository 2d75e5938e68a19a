/-
  The contract of New.
-/
import Derived.Test.YthfpdebpepbejaaDoorCode
namespace Go.Proofs.YthfpdebpepbejaaDoor
open Go.RowKit

set_option maxRecDepth 20000 in
/-- a table of no codes yet, and the code beside it -/
theorem newing_start {w w0 : World} {B V : List Int} {A : Option Addr} {n c : Nat} (hB : B.length = 16) (hn : n ≤ 300) (hA : ∀ b off, A = some ⟨b, off, none⟩ → w.heap.size ≤ b) (hi : Il w0 A n c V) (bel : Below w.heap.size w w0) :
    ∀ wa wb w3 m, wa = w0.alloc (.map #[] 0) → m = w0.heap.size → wb = wa.alloc (.cells (tabC B (.slice A n c) [] m) 119) → w3 = wb.alloc (.cells #[.int .i64 0, .int .i64 0] 116) → Newing w w.heap.size (m + 1 + 1) (m + 1) (m + 1 + 1) B V A n c m [] 0 0 w3 := by
  intro wa wb w3 m ea hm eb e3
  have h1 : Mq wa m [] := by rw [ea, hm]; exact Mq.made w0
  have sa : wa.heap.size = m + 1 := by rw [ea, World.size_alloc, hm]
  have sb : wb.heap.size = m + 1 + 1 := by rw [eb, World.size_alloc, sa]
  have h2 : Box wb (m + 1) 119 (tabC B (.slice A n c) [] m) := by rw [← sa, eb]; exact Box.made _ _ _
  have ba : Below w0.heap.size w0 wa := by rw [ea]; exact on_alloc _ _
  have bb : Below wa.heap.size wa wb := by rw [eb]; exact on_alloc _ _
  have bc : Below wb.heap.size wb w3 := by rw [e3]; exact on_alloc _ _
  have b3 := on_trans (on_trans ba bb) bc
  have b0 := bel.size
  have hq : Box w3 (m + 1 + 1) 116 #[.int .i64 0, .int .i64 0] := by rw [← sb, e3]; exact Box.made _ _ _
  have hmq : Mq w3 m [] := (h1.block (bb.block m (by omega))).block (bc.block m (by omega))
  have e0 : ents V [] = [] := by simp [ents]
  refine ⟨⟨by rw [e0]; exact h2.on bc, hi.on b3, by rw [e0]; exact hmq, ⟨by omega, by omega⟩, ⟨by omega, by omega⟩, fun b off e => ⟨hA b off e, ?_⟩, hB, hn⟩, hq, bel.trans (b3.mono b0), Nat.le_refl _, rfl⟩
  obtain ⟨cs, fr, hh⟩ := hi.typ b off e
  have := (Array.getElem?_eq_some_iff.1 hh).1
  omega

theorem newing_add {w : World} {lo hi t q : Nat} {B V : List Int} {A : Option Addr} {n c m : Nat} {cs : List (Nat × Nat)} {X k : Nat} {wr w2 : World} {e : Ending} (h : Newing w lo hi t q B V A n c m cs X k wr) (h2 : CodeAdded wr q X k 0 e w2) :
    e = .returned (.tuple #[]) ∧ Newing w lo hi t q B V A n c m cs (2 * X) (k + 1) w2 ∧ Kept (fun i => i = q) wr w2 := by
  obtain ⟨he, hb, hk⟩ := h2
  have ho := h.out
  have hl := h.lo_
  have hs := h.tab.tin
  exact ⟨he, ⟨h.tab.kept hk (fun b _ h2 e => by omega), hb, h.bel.trans (hk.below (by have := h.bel.size; omega) (fun i hi e => by omega)), ho, hl⟩, hk⟩
theorem resting_kept {wr w2 : World} {lo hi S nr cr : Nat} {V : List Int} {Ar : Option Addr} {P : Nat → Prop} (h : Resting wr lo hi V S Ar nr cr) (k : Kept P wr w2) (hP : ∀ b off, Ar = some ⟨b, off, none⟩ → ¬ P b) : Resting w2 lo hi V S Ar nr cr :=
  ⟨h.row.kept k hP, h.ain, h.some_⟩

theorem resting_apart {w : World} {lo hi t q : Nat} {B V : List Int} {A : Option Addr} {n c m : Nat} {cs : List (Nat × Nat)} {X k : Nat} {wr : World} {S nr cr : Nat} {Ar : Option Addr} (h : Newing w lo hi t q B V A n c m cs X k wr) (hR : Resting wr lo hi V S Ar nr cr) :
    ∀ b off, Ar = some ⟨b, off, none⟩ → ¬ (b = t ∨ b = m ∨ b = q) := by
  intro b off e
  obtain ⟨cs, fr, hh⟩ := hR.row.typ b off e
  obtain ⟨es, k, hm⟩ := h.tab.map.is
  have hb := h.tab.box
  unfold Box at hb
  rintro (e | e | e)
  · rw [e, hb] at hh; simp at hh
  · rw [e, hm] at hh; cases hh
  · have := hR.ain b _ (by assumption); have := h.out; omega

/-- what one entry asks and gives -/
structure Entry (w : World) (lo hi t q : Nat) (B V : List Int) (A : Option Addr) (n c m : Nat) (cs : List (Nat × Nat)) (x y z : Nat) (wr w1 w2 : World) : Prop where
  eq1 : w1 = ((wr.setCell ⟨t, 17 + z * 2, none⟩ (.int .i64 (x : Int))).setCell ⟨t, 17 + z * 2 + 1, none⟩ (.int .i64 (y : Int))).drew
  q1 : Box w1 q 116 #[.int .i64 (x : Int), .int .i64 (y : Int)]
  m1 : w1.cell? ⟨t, 529, none⟩ = some (.map (some m))
  upd : (Instr.mapUpdate 114 (.map (some m)) (.agg #[.int .i64 (x : Int), .int .i64 (y : Int)]) (.int .i64 (z : Int))).run Tryd.prog w1.drew = .ok () w2
  q2 : Box w2 q 116 #[.int .i64 (x : Int), .int .i64 (y : Int)]
  new : Newing w lo hi t q B V A n c m (cs ++ [(x, y)]) (x + 1) y (w2.setCell ⟨q, 0, none⟩ (.int .i64 ((x + 1 : Nat) : Int)))
  kept : Kept (fun i => i = t ∨ i = m ∨ i = q) wr (w2.setCell ⟨q, 0, none⟩ (.int .i64 ((x + 1 : Nat) : Int)))

theorem entry_of {w : World} {lo hi t q : Nat} {B V : List Int} {A : Option Addr} {n c m : Nat} {cs : List (Nat × Nat)} {x y z : Nat} {wr : World} (h : Newing w lo hi t q B V A n c m cs x y wr) (hV : Diff V) (hlen : cs.length < V.length) (hz : V.getD cs.length 0 = (z : Int)) (hz2 : z < 256)
    (hx : x < 1000000) (hy : y < 1000000) (hnew : (x, y) ∉ cs) : ∃ w1 w2, Entry w lo hi t q B V A n c m cs x y z wr w1 w2 := by
  have hn1 : ∀ e ∈ ents V cs, e.1 ≠ (z : Int) := by
    intro e he
    have h1 := fst_ents he
    have h2 := ((diff_more hlen).1 (diff_take hV _)).2.2
    rw [hz] at h2
    exact fun e' => h2 (e' ▸ h1)
  have hn2 : ∀ e ∈ ents V cs, e.2 ≠ (x, y) := fun e he e' => hnew (e' ▸ (mem_ents he).2)
  have e1 : ents V (cs ++ [(x, y)]) = ents V cs ++ [((z : Int), x, y)] := by rw [ents_more cs V (x, y) hlen, hz]
  have ht := h.tab
  have htq : t ≠ q := by have := h.tab.tin; have := h.out; omega
  have hmq : m ≠ q := by have := h.tab.min; have := h.out; omega
  obtain ⟨b1, m1, k1⟩ := ht.put1 z x y hz2 hn1 _ rfl
  obtain ⟨w1, hw1⟩ : ∃ w1, w1 = ((wr.setCell ⟨t, 17 + z * 2, none⟩ (.int .i64 (x : Int))).setCell ⟨t, 17 + z * 2 + 1, none⟩ (.int .i64 (y : Int))).drew := ⟨_, rfl⟩
  replace b1 : Box w1 t 119 (tabC B (.slice A n c) (ents V cs ++ [((z : Int), x, y)]) m) := by rw [hw1]; exact b1
  replace m1 : Mq w1 m (ents V cs) := by rw [hw1]; exact m1.block rfl
  replace k1 : Kept (fun i => i = t) wr w1 := by rw [hw1]; exact k1.drew
  have hl : (ents V cs).length ≤ 1000 := by rw [ents_len (Nat.le_of_lt hlen)]; have := h.tab.vals.len; have := h.tab.few; omega
  have m1d : Mq w1.drew m (ents V cs) := m1.block rfl
  obtain ⟨w2, hu, m2, g2⟩ := m1d.store (b := x) (s := y) (by omega) (by omega) (z : Int) hl hn2
  have k1d : Kept (fun i => i = t) wr w1.drew := k1.drew
  obtain ⟨t2, k2⟩ := ht.put2 (w1 := w1.drew) (e := ((z : Int), x, y)) b1 k1d m2 g2
  have k2' := k2
  have q1 : Box w1 q 116 #[.int .i64 (x : Int), .int .i64 (y : Int)] := k1.box h.nxt htq.symm
  have q2 : Box w2 q 116 #[.int .i64 (x : Int), .int .i64 (y : Int)] := k2'.box h.nxt (by omega)
  have kq : Kept (fun i => i = q) w2 (w2.setCell ⟨q, 0, none⟩ (.int .i64 ((x + 1 : Nat) : Int))) := (Kept.refl (fun i => i = q) w2).setCell (p := ⟨q, 0, none⟩) (fun _ => rfl) _
  have hk : Kept (fun i => i = t ∨ i = m ∨ i = q) wr (w2.setCell ⟨q, 0, none⟩ (.int .i64 ((x + 1 : Nat) : Int))) :=
    (k2'.mono (S' := fun i => i = t ∨ i = m ∨ i = q) (fun _ _ e => e.elim Or.inl (fun e => Or.inr (Or.inl e)))).trans kq (fun _ _ e => Or.inr (Or.inr e))
  rw [← e1] at t2
  have hlo := h.lo_
  refine ⟨w1, w2, hw1, q1, ?_, hu, q2, ⟨t2.kept kq (fun b _ h2 e => by have := h.out; omega), q2.put 0 _, h.bel.trans (hk.below (by have := h.bel.size; omega) (fun i hi e => ?_)), h.out, hlo⟩, hk⟩
  · rw [b1.cell 529]; exact tabC_map h.tab.len
  · have := h.tab.tin; have := h.tab.min; have := h.out; omega

set_option maxRecDepth 20000 in
set_option maxHeartbeats 4000000 in
theorem new_any (w : World) (B V : List Int) (A : Option Addr) (n c : Nat) (hB : B.length = 16) (h : Il w A n c V) (hn : n ≤ 300) :
    Calls Tryd.prog 37 #[specV B (.slice A n c)] w (Newed w B V) := by
  obtain ⟨C, hC⟩ : ∃ C, C = specC B (.slice A n c) := ⟨_, rfl⟩
  have eV : specV B (.slice A n c) = .agg C := by rw [hC]; rfl
  rw [eV]
  obtain ⟨g, hg⟩ : ∃ g, g = w.heap.size := ⟨_, rfl⟩
  obtain ⟨w1, hw1⟩ : ∃ w1, w1 = w.alloc (.cells C 42) := ⟨_, rfl⟩
  have hb : Box w1 g 42 (specC B (.slice A n c)) := by rw [hw1, hg, ← hC]; exact Box.made _ _ _
  have bel : Below w.heap.size w w1 := by rw [hw1]; exact on_alloc _ _
  have HH := Lib.hid (And.intro hb (And.intro bel (And.intro (h.on bel) (And.intro hw1 (And.intro hg (And.intro hB h.len))))))
  have hL := load_spec hb hB
  rw [hw1, hg] at hL
  have HL := Lib.hid hL
  clear hb bel hw1 hg hC hB h eV hL
  go_enter Tryd.func37, Tryd.ntmps37
  go_wp2_with (first
    | (with_reducible refine wpList_load_to (op := ⟨some 11, _, _, _, _, _⟩) rfl 42 (.tmp 1) rfl (.pointer (some ⟨w.heap.size, 0, none⟩)) rfl (specV B (.slice A n c)) HL.out ?_)
    | fail)
  rw [← HH.out.2.2.2.1, ← HH.out.2.2.2.2.1]
  clear HL
  refine (right_any w1 B V A n c HH.out.2.2.2.2.2.1 HH.out.2.2.1.ia hn).mono ?_
  rintro e w2 ⟨d, rfl, hd, b2⟩
  have H2 := Lib.hid (And.intro hd (And.intro (HH.out.1.on b2) (And.intro (HH.out.2.2.1.on b2) (on_trans HH.out.2.1 b2))))
  clear hd b2
  cases d with
  | false =>
    go_wp2
    go_ret2
    exact ⟨H2.out.2.2.2, .inl ⟨fun hv => absurd (H2.out.1.2 hv) (by simp), rfl⟩⟩
  | true =>
    have HV := Lib.hid (H2.out.1.1 rfl)
    go_wp2_with (first
      | (with_reducible refine wpList_load_to (op := ⟨some 14, _, _, _, _, _⟩) rfl 42 (.tmp 1) rfl (.pointer (some ⟨g, 0, none⟩)) rfl (specV B (.slice A n c)) (load_spec H2.out.2.1 HH.out.2.2.2.2.2.1) ?_)
      | fail)
    refine (copied_any w2 B V A n c HH.out.2.2.2.2.2.1 H2.out.2.2.1 hn).mono ?_
    rintro e w3 ⟨A', c', rfl, hi3, hlo3, b3⟩
    have hs2 := H2.out.2.2.2.size
    have H3 := Lib.hid (And.intro hi3 (And.intro (fun b off e => Nat.le_trans hs2 (hlo3 b off e).1) (And.intro (on_trans H2.out.2.2.2 b3) (H2.out.2.1.on b3))))
    clear hi3 hlo3 b3 hs2
    have hmm : ∀ w, (Instr.makeMap 114 none).run Tryd.prog w = .ok (.map (some w.heap.size)) (w.alloc (.map #[] 0)) := fun w => rfl
    have hz63 : ∀ w, (zeroValue 116).run Tryd.prog w = .ok (.agg #[.int .i64 0, .int .i64 0]) w := fun w => by kernel_rfl
    obtain ⟨m, hm⟩ : ∃ m, m = w3.heap.size := ⟨_, rfl⟩
    obtain ⟨T, hT⟩ : ∃ T, T = tabC B (.slice A' n c') [] m := ⟨_, rfl⟩
    obtain ⟨w4, hw4⟩ : ∃ w4, w4 = ((w3.alloc (.map #[] 0)).alloc (.cells T 119)).alloc (.cells #[.int .i64 0, .int .i64 0] 116) := ⟨_, rfl⟩
    have hN := newing_start HH.out.2.2.2.2.2.1 hn H3.out.2.1 H3.out.1 H3.out.2.2.1 _ _ w4 m rfl hm rfl (by rw [hw4, hT])
    have c16 : w4.cell? ⟨m + 1, 16, none⟩ = some (.slice A' n c') := (hN.tab.box.cell 16).trans (tabC_vals hN.tab.len)
    have hbd : ∀ w', (Instr.build 119 #[(0, specV B (.slice A' n c')), (2, .map (some w3.heap.size))]).run Tryd.prog w' = .ok (.agg T) w' := fun w' => by rw [hT, ← hm]; exact build_tab w' A' n c' m HH.out.2.2.2.2.2.1
    rw [hw4, hm] at c16
    have g4 : Box w4 g 42 (specC B (.slice A n c)) := by rw [hw4]; exact ((H3.out.2.2.2.alloc _).alloc _).alloc _
    have HN := Lib.hid (And.intro hN (And.intro hm (And.intro hw4 (And.intro hbd g4))))
    clear hN hm hT hw4 hbd g4
    go_wp2_with (first
      | (with_reducible refine wpList_build_to (op := ⟨some 17, _, _, _, _, _⟩) rfl 119 _ rfl (.agg T) #[(0, specV B (.slice A' n c')), (2, .map (some w3.heap.size))] (by simp [Act.eval]) (HN.out.2.2.2.1 _) ?_)
      | (refine wpList_load_to (op := ⟨some 25, _, _, _, _, _⟩) rfl 40 (.tmp 24) rfl (.pointer (some ⟨g, 0, none⟩)) rfl (.agg (cellsI B).toArray) (by rw [← HN.out.2.2.1]; exact load_bits HN.out.2.2.2.2 HH.out.2.2.2.2.2.1) ?_)
      | fail)
    rw [← HN.out.2.1, ← HN.out.2.2.1]
    have hrest : Resting w4 w.heap.size (m + 1 + 1) V 0 A' n c' := by
      have hN := HN.out.1
      refine ⟨by rw [List.drop_zero]; exact hN.tab.vals, hN.tab.ain, ?_⟩
      obtain ⟨b, off, e, _⟩ := hN.tab.vals.at_ (by have := HV.out.pos; have := HH.out.2.2.2.2.2.2; omega)
      exact ⟨b, off, e⟩
    have HM := Lib.hid (And.intro HN.out.1 hrest)
    clear hrest c16 hmm HN H3 H2
    obtain ⟨q, hq⟩ : ∃ q, q = m + 1 + 1 := ⟨_, rfl⟩
    obtain ⟨t, ht⟩ : ∃ t, t = m + 1 := ⟨_, rfl⟩
    rw [← ht] at hq
    rw [← ht, ← hq] at HM ⊢
    clear ht hq
    have HB := Lib.hid (And.intro HH.out.2.2.2.2.2.1 HH.out.2.2.2.2.2.2)
    clear HH
    go_loopw [26, 6] (fun i r wr => ∃ (k : Nat) (Ar : Option Addr) (nr cr : Nat), k ≤ 16 ∧ i = .int .i64 k ∧ r = .slice Ar nr cr ∧ Newing w w.heap.size q t q B V A' n c' m (pre (cnt B) k) (nx (cnt B) k) k wr ∧ Resting wr w.heap.size q V (sm (cnt B) k) Ar nr cr) (fun i _ _ => 16 - (intOf i).toNat)
    case atStart => exact ⟨0, A', n, c', Nat.zero_le _, rfl, rfl, HM.out.1, HM.out.2⟩
    case round =>
      obtain ⟨k, Ar, nr, cr, hk, rfl, rfl, hN, hR⟩ := hrel
      by_cases hlt : k < 16
      · obtain ⟨cK, hcK⟩ : ∃ cK, cK = cnt B k := ⟨_, rfl⟩
        obtain ⟨S, hS⟩ : ∃ S, S = sm (cnt B) k := ⟨_, rfl⟩
        obtain ⟨X, hX⟩ : ∃ X, X = nx (cnt B) k := ⟨_, rfl⟩
        have hix := index_bits wr HB.out.1 hlt
        have hv : B.getD k 0 = (cK : Int) := by
          have := HV.out.nn k hlt
          rw [hcK]
          unfold cnt
          omega
        rw [hv] at hix
        have hX16 : X < 65536 := by
          have h1 := HV.out.fits k hlt
          have h2 := pow16 (i := k + 1) (by omega)
          rw [nx, ← hX] at h1
          omega
        have hSc : S + cK ≤ n := by
          have h1 := sm_mono (c := cnt B) (show k + 1 ≤ 16 by omega)
          rw [sm, ← hS, ← hcK, HV.out.sum, HB.out.2] at h1
          exact h1
        have hXc : 2 * X + cK < 131072 := by
          have h1 := HV.out.fits k hlt
          have h2 := pow16 (i := k + 1) (by omega)
          rw [nx, ← hX, ← hcK] at h1
          omega
        rw [← hS] at hR
        rw [← hX] at hN
        have hnr : nr = n - S := by have := hR.row.len; rw [List.length_drop, HB.out.2] at this; omega
        have hcap := hR.row.cap
        obtain ⟨b, off, hAr⟩ := hR.some_
        subst hAr
        have HK := Lib.hid (And.intro hN (And.intro hR (And.intro hcK (And.intro hS (And.intro hX (And.intro hix (And.intro hnr hv)))))))
        have s1 : (cK : Int) ≤ (cr : Int) := by omega
        clear hN hR hcK hS hX hix hv
        go_wp2_with (first
          | (with_reducible refine wpList_index_to (op := ⟨some 28, _, _, _, _, _⟩) rfl 40 (.tmp 25) (.tmp 26) rfl (.agg (cellsI B).toArray) (.int .i64 (k : Int)) rfl rfl _ HK.out.2.2.2.2.2.1 ?_)
          | fail)
        refine (codeAdd_any wr q X k 0 HK.out.1.nxt (by omega) (by omega) (by omega)).mono ?_
        intro e w5 h5
        obtain ⟨he, hN5, k5⟩ := newing_add HK.out.1 h5
        subst he
        have hq5 := HK.out.1.out
        have hR5 := resting_kept HK.out.2.1 k5 (fun b' off' e' hb' => by have := HK.out.2.1.ain b' off' e'; omega)
        have H5 := Lib.hid (And.intro hN5 hR5)
        clear h5 hN5 k5 hR5 hq5
        go_wp2_with fail
        obtain ⟨Y, hY⟩ : ∃ Y, Y = k + 1 := ⟨_, rfl⟩
        rw [← hY] at H5
        have hY17 : Y ≤ 17 := by omega
        have HY := Lib.hid hY
        clear hY
        go_loopw [34] (fun i w6 => ∃ j : Nat, j ≤ cK ∧ i = .int .i64 j ∧ Newing w w.heap.size q t q B V A' n c' m (pre (cnt B) k ++ row (cnt B) k j) (2 * X + j) Y w6 ∧ Resting w6 w.heap.size q V S (some ⟨b, off, none⟩) (n - S) cr) (fun i _ => cK - (intOf i).toNat)
        case atStart => exact ⟨0, Nat.zero_le _, rfl, by rw [show row (cnt B) k 0 = [] from rfl, List.append_nil]; exact H5.out.1, by rw [← HK.out.2.2.2.2.2.2.1]; exact H5.out.2⟩
        case round =>
          obtain ⟨j, hj, rfl, hN, hR⟩ := hrel
          by_cases hjl : j < cK
          · have hcslen : (pre (cnt B) k ++ row (cnt B) k j).length = S + j := by rw [List.length_append, pre_len, row_len, ← HK.out.2.2.2.1]
            obtain ⟨v, hv⟩ : ∃ v, v = V.getD (S + j) 0 := ⟨_, rfl⟩
            have hvV : v ∈ V := by
              have : S + j < V.length := by rw [HB.out.2]; omega
              rw [hv, List.getD_eq_getElem?_getD, List.getElem?_eq_getElem this]
              exact List.getElem_mem this
            have hv2 := HV.out.rng v hvV
            obtain ⟨z, rfl⟩ := Int.eq_ofNat_of_zero_le hv2.1
            have hz : z < 256 := by omega
            have hrow := (il_head hR.row (show cK ≤ n - S by omega))
            obtain ⟨b', off', e', _, hc⟩ := hrow.at_ (by omega)
            cases e'
            have c10 := hc j hjl
            have hg : ((V.drop S).take cK).getD j 0 = (z : Int) := by
              rw [hv]
              simp only [List.getD_eq_getElem?_getD]
              rw [List.getElem?_take_of_lt hjl, List.getElem?_drop]
            rw [hg] at c10
            obtain ⟨x, hx⟩ : ∃ x, x = 2 * X + j := ⟨_, rfl⟩
            rw [← hx] at hN
            obtain ⟨w7, w8, hE⟩ := entry_of hN HV.out.diff (by rw [hcslen, HB.out.2]; omega) (by rw [hcslen]; exact hv.symm) hz (by omega) (by omega) (by
              have := row_new (c := cnt B) k j
              rw [hx, HY.out, HK.out.2.2.2.2.1]
              exact this)
            have c0 : wr.cell? ⟨q, 0, none⟩ = some (.int .i64 (x : Int)) := hN.nxt.cell 0
            have c1 : wr.cell? ⟨q, 1, none⟩ = some (.int .i64 (Y : Int)) := hN.nxt.cell 1
            have t0 := hN.tab.box.cell (17 + z * 2)
            have t1 := hN.tab.box.cell (17 + z * 2 + 1)
            rw [tabC_num HB.out.1 (show z * 2 < 512 by omega)] at t0
            rw [Nat.add_assoc, tabC_num HB.out.1 (show z * 2 + 1 < 512 by omega), ← Nat.add_assoc] at t1
            have f0 := hN.tab.box.free (17 + z * 2)
            have f1 := hN.tab.box.free (17 + z * 2 + 1)
            have htq : t ≠ q := by have := hN.tab.tin; omega
            have HA := Lib.hid (resting_apart hN hR)
            have HE := Lib.hid (And.intro hE (And.intro hR (And.intro hv hx)))
            have zi : (z : Int) < 256 := by omega
            clear hN hR hE hrow hc hg hv hx hvV hv2 hcslen
            go_wp2_with fail
            go_region
            go_wp2_with fail
            rw [← HE.out.1.eq1]
            clear c0 c1 t0 t1 f0 f1
            have d0 : w7.cell? ⟨q, 0, none⟩ = some (.int .i64 (x : Int)) := HE.out.1.q1.cell 0
            have d1 : w7.cell? ⟨q, 1, none⟩ = some (.int .i64 (Y : Int)) := HE.out.1.q1.cell 1
            have d2 := HE.out.1.m1
            have hu := HE.out.1.upd
            go_region
            all_goals
              (clear d0 d1 d2 hu
               have g0 : w8.cell? ⟨q, 0, none⟩ = some (.int .i64 (x : Int)) := HE.out.1.q2.cell 0
               have g1 := HE.out.1.q2.free 0
               have hx6 : x < 200000 := by have := HE.out.2.2.2; omega
               go_wp2
               go_roundw
               case rel =>
                 have hN := HE.out.1.new
                 have hx := HE.out.2.2.2
                 have hY := HY.out
                 refine ⟨j + 1, by omega, by go_num, ?_, ?_⟩
                 · have e1 : row (cnt B) k (j + 1) = row (cnt B) k j ++ [(x, Y)] := by rw [row_more, hx, hY, ← HK.out.2.2.2.2.1]
                   rw [e1, ← List.append_assoc, show 2 * X + (j + 1) = x + 1 by omega]
                   exact hN
                 · exact resting_kept HE.out.2.1 HE.out.1.kept HA.out
               case measure => simp [intOf]; omega)
          · have ej : j = cK := by omega
            have HE := Lib.hid (And.intro hN (And.intro hR ej))
            clear hN hR ej
            have s2 : (cK : Int) ≤ ((n - S : Nat) : Int) := by omega
            have HX : Resting wr w.heap.size q V (S + cK) (some ⟨b, if cr = cK then off else off + cK, none⟩) (n - S - cK) (cr - cK) := by
              have hR := HE.out.2.1
              have h1 := il_rest hR.row (show cK ≤ n - S by omega)
              rw [List.drop_drop] at h1
              exact ⟨h1, (fun b2 off2 e2 => by cases e2; exact hR.ain b off rfl), ⟨_, _, rfl⟩⟩
            have HZ := Lib.hid HX
            clear HX
            have hfin : ∀ k', k' = k + 1 → Newing w w.heap.size q t q B V A' n c' m (pre (cnt B) k') (nx (cnt B) k') k' wr ∧ sm (cnt B) k' = S + cK := by
              intro k' hk'
              have hN := HE.out.1
              rw [HE.out.2.2] at hN
              rw [hk', pre, nx, sm, ← HK.out.2.2.1, ← HK.out.2.2.2.1, ← HK.out.2.2.2.2.1, ← HY.out]
              exact ⟨hN, rfl⟩
            have HF := Lib.hid hfin
            clear hfin
            by_cases hcc : cr = cK
            · have hcc2 : (cr : Int) = (cK : Int) := by omega
              have hZ := HZ.out
              rw [if_pos hcc, show cr - cK = 0 by omega] at hZ
              have HZ2 := Lib.hid hZ
              clear hZ HZ
              go_wp2
              go_roundw
              case rel =>
                obtain ⟨h1, h2⟩ := HF.out (k + 1) rfl
                exact ⟨k + 1, _, _, _, by omega, by go_num, rfl, h1, by rw [h2]; exact HZ2.out⟩
              case measure => simp [intOf]; omega
            · have hcc2 : ¬ (cr : Int) = (cK : Int) := by omega
              have hZ := HZ.out
              rw [if_neg hcc] at hZ
              have HZ2 := Lib.hid hZ
              clear hZ HZ
              go_wp2
              go_roundw
              case rel =>
                obtain ⟨h1, h2⟩ := HF.out (k + 1) rfl
                exact ⟨k + 1, _, _, _, by omega, by go_num, rfl, h1, by rw [h2]; exact HZ2.out⟩
              case measure => simp [intOf]; omega
      · have ek : k = 16 := by omega
        have HE := Lib.hid hN
        clear hN hR
        subst ek
        go_wp2
        go_ret2
        have hN := HE.out
        refine ⟨hN.bel, .inr ⟨HV.out, t, rfl, Tb.more ⟨A', n, c', m, hN.tab⟩ (Nat.le_trans hN.out (Nat.le_of_lt hN.nxt.lt))⟩⟩
end Go.Proofs.YthfpdebpepbejaaDoor
