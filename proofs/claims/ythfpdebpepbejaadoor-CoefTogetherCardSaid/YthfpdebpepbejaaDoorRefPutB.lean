/-
  The contract of the reference's Put of a block.
-/
import Derived.Test.YthfpdebpepbejaaDoorPutBlk
import Derived.Test.YthfpdebpepbejaaDoorSymbols
namespace Go.Proofs.YthfpdebpepbejaaDoor
open Go.RowKit

/-- an append of numbers to a row of one's own: only the row's own block turns -/
theorem run_append_ik (w : World) (ty : TypeId) (base : Nat) (v : Value) (n : Nat) (l : List Int) (hown : w.ownsRow base 3 1 v n (cellsI l)) (A : Option Addr) (m c : Nat) (r : List Int) (hr : Ia w A m c r) (h63 : n + m ≤ 1000000) (hbase : base ≤ w.heap.size) :
    ∃ v' w', (Builtin.append_ #[24, 24] ty #[v, .slice A m c]).run Tryd.prog w = .ok v' w' ∧ w'.ownsRow base 3 1 v' (n + m) (cellsI (l ++ r)) ∧ Kept (fun i => v.ownBlock = some i) w w' := by
  obtain ⟨i0, hi0, hz0, hz1, hz2⟩ := info_parts int_info
  cases A with
  | none =>
    obtain rfl : c = 0 := hr.nil rfl
    obtain rfl : m = 0 := by have := hr.cap; omega
    have hl : r = [] := List.eq_nil_of_length_eq_zero hr.len
    subst hl
    exact ⟨v, w, run_append_owned_none (P := Tryd.prog) (w := w) base 24 ty 3 i0 1 Tryd.underlying24 hi0 v n (cellsI l) hown, by simpa using hown, Kept.refl _ _⟩
  | some ad =>
    obtain ⟨v', w', h0, h1, h2, _⟩ := run_append_own (P := Tryd.prog) w base 24 ty 3 i0 (.int .i64 0) 1 8 Tryd.underlying24 hi0 hz0 hz1 hz2 rfl (by omega) v n (cellsI l) hown ad m c (cellsI r) (by rw [cellsI_len, hr.len, Nat.mul_one]) hr.read (cellsI_one r) (by simp only [maxLen]; omega) (by omega) hbase
    have e : cellsI l ++ cellsI r = cellsI (l ++ r) := by simp [cellsI]
    rw [e] at h1
    exact ⟨v', w', h0, h1, ⟨h2.os, h2.tape, h2.output, h2.size, fun k hk hn => h2.block k hk (fun e => hn e.symm)⟩⟩
theorem wpList_append_ik {w : World} {ops : Array Oper} {rest : List Oper} {o : Oper} {a : Act} {Q : Exit → Act → World → Prop} (hgd : o.guard = none) (s x : Operand)
    (ho : o.op = .call { callee := .builtin .append, args := #[s, x], argTypes := #[24, 24] })
    (base : Nat) (v : Value) (n : Nat) (l : List Int) (hs : a.eval s = v) (hown : w.ownsRow base 3 1 v n (cellsI l)) (A : Option Addr) (m c : Nat) (r : List Int)
    (hx : a.eval x = .slice A m c) (hr : Ia w A m c r) (h63 : n + m ≤ 1000000) (hbase : base ≤ w.heap.size)
    (h : ∀ v' w', w'.ownsRow base 3 1 v' (n + m) (cellsI (l ++ r)) → Kept (fun i => v.ownBlock = some i) w w' → wpList Tryd.prog ops Q rest (a.put o.dst v') w') : wpList Tryd.prog ops Q (o :: rest) a w :=
  wpList_plain hgd fun _ hQ => by
    obtain ⟨v', w', h0, h1, h2⟩ := run_append_ik w o.type base v n l hown A m c r hr h63 hbase
    unfold Oper.wp
    simp [execOp, ho, resolve, invoke, builtin, hs, hx, h0, Result.andThen]
    exact hQ _ _ (h v' w' h1 h2)
theorem step_append_ik {ops : Array Oper} {o : Oper} {a : Act} {w : World} {K : Act → World → Prop} {Q : Exit → Act → World → Prop} {E : Prop} (hgd : o.guard = none) (s x : Operand)
    (ho : o.op = .call { callee := .builtin .append, args := #[s, x], argTypes := #[24, 24] })
    (base : Nat) (v : Value) (n : Nat) (l : List Int) (hs : a.eval s = v) (hown : w.ownsRow base 3 1 v n (cellsI l))
    (A : Option Addr) (m c : Nat) (r : List Int) (hx : a.eval x = .slice A m c) (hr : Ia w A m c r) (h63 : n + m ≤ 1000000) (hbase : base ≤ w.heap.size) (d : Option Tmp) (hd : o.dst = d)
    (h : ∀ v' w', w'.ownsRow base 3 1 v' (n + m) (cellsI (l ++ r)) → Kept (fun i => v.ownBlock = some i) w w' → K (a.put d v') w') :
    if Region.wanted o (yielded ops a.tmps) = true then Oper.wp Tryd.prog o a w K Q else E := by
  have hw : Region.wanted o (yielded ops a.tmps) = true := by simp [Region.wanted, hgd]
  rw [if_pos hw]
  subst hd
  obtain ⟨v', w', h0, h1, h2⟩ := run_append_ik w o.type base v n l hown A m c r hr h63 hbase
  unfold Oper.wp
  simp [execOp, ho, resolve, invoke, builtin, hs, hx, h0, Result.andThen]
  exact h v' w' h1 h2
theorem own_block3 {w : World} {base e size n i : Nat} {v : Value} {xs : List Value} (h : w.ownsRow base e size v n xs) (hi : v.ownBlock = some i) : base ≤ i ∧ ∃ cs, w.heap[i]? = some (.cells cs e (0, 0)) := by
  rcases h.2 with ⟨rfl, _⟩ | ⟨g, cap, cur, rfl, hg, hh, _⟩
  · cases hi
  · cases hi
    exact ⟨hg, _, hh⟩

theorem rput3 {w2 w3 : World} {v3 : Value} {n : Nat} {bs : List Int} (ho : w3.ownsRow w2.heap.size 3 1 v3 (0 + n) (cellsI ([] ++ bs))) (k : Kept (fun i => (Value.slice (some ⟨w2.heap.size, 0, none⟩) 0 0).ownBlock = some i) (w2.alloc (.cells #[] 3)) w3) :
    w3.ownsRow w2.heap.size 3 1 v3 n (cellsI bs) ∧ Below w2.heap.size w2 w3 :=
  ⟨by rw [Nat.zero_add, List.nil_append] at ho; exact ho, (on_alloc _ _).trans (k.below (by simp) (fun i hi e => by cases e; exact Nat.lt_irrefl _ hi))⟩
/-- the row of bits so far, and the symbols -/
structure RPut (w wr : World) (v : Value) (l : List Int) (As : Option Addr) (ns : Nat) (S : List Sym) : Prop where
  own : wr.ownsRow w.heap.size 3 1 v l.length (cellsI l)
  bel : Below w.heap.size w wr
  sy : Te wr As ns (S.map syE)
  typ : ∀ bb off, As = some ⟨bb, off, none⟩ → ∃ cs fr, wr.heap[bb]? = some (.cells cs 38 fr)
section
variable {w wr w' : World} {v v' : Value} {l r : List Int} {As : Option Addr} {ns : Nat} {S : List Sym}
theorem RPut.on (h : RPut w wr v l As ns S) (k : Below wr.heap.size wr w') : RPut w w' v l As ns S :=
  ⟨ownsRow_block h.own fun g _ _ hb => k.block g (Array.getElem?_eq_some_iff.1 hb).1, on_trans h.bel k, h.sy.on k, fun bb off e => by
    obtain ⟨cs, fr, hh⟩ := h.typ bb off e
    exact ⟨cs, fr, (k.block bb (Array.getElem?_eq_some_iff.1 hh).1).trans hh⟩⟩
theorem RPut.apart (h : RPut w wr v l As ns S) : ∀ bb off, As = some ⟨bb, off, none⟩ → ¬ v.ownBlock = some bb := fun bb off e e2 => by
  obtain ⟨_, cs, h1⟩ := own_block3 h.own e2
  obtain ⟨cs2, fr, h2⟩ := h.typ bb off e
  rw [h1] at h2
  simp at h2
theorem te_keep {S' : Nat → Prop} {A : Option Addr} {n : Nat} {L : List En} (h : Te wr A n L) (k : Kept S' wr w') (hS : ∀ b off, A = some ⟨b, off, none⟩ → ¬ S' b) : Te w' A n L :=
  ⟨h.len, fun h0 => by
    obtain ⟨b, off, e, hb, hc⟩ := h.at_ h0
    have hs := hS b off e
    exact ⟨b, off, e, Nat.lt_of_lt_of_le hb k.size, fun i e he => ⟨(k.cell (p := ⟨b, off + i * 3, none⟩) hb hs).trans (hc i e he).1, (k.cell (p := ⟨b, off + i * 3 + 1, none⟩) hb hs).trans (hc i e he).2.1, (k.cell (p := ⟨b, off + i * 3 + 2, none⟩) hb hs).trans (hc i e he).2.2⟩⟩⟩
theorem RPut.grow (h : RPut w wr v l As ns S) (hown : w'.ownsRow w.heap.size 3 1 v' (l.length + r.length) (cellsI (l ++ r))) (k : Kept (fun i => v.ownBlock = some i) wr w') : RPut w w' v' (l ++ r) As ns S :=
  ⟨by rw [List.length_append]; exact hown, h.bel.trans (k.below h.bel.size (fun i hi e => by have := (own_block3 h.own e).1; omega)), te_keep h.sy k h.apart, fun bb off e => by
    obtain ⟨cs, fr, hh⟩ := h.typ bb off e
    exact ⟨cs, fr, (k.block bb (Array.getElem?_eq_some_iff.1 hh).1 (h.apart bb off e)).trans hh⟩⟩
end

theorem cells_sy {w : World} {bb off ns : Nat} {S : List Sym} {k : Nat} {s : Sym} (h : Te w (some ⟨bb, off, none⟩) ns (S.map syE)) (hk : k < ns) (hs : S[k]? = some s) :
    w.cell? ⟨bb, off + k * 3, none⟩ = some (.int .i64 (s.2.1 : Int)) ∧ w.cell? ⟨bb, off + k * 3 + 1, none⟩ = some (.int .i64 (numB s.2.2 : Int)) ∧ w.cell? ⟨bb, off + k * 3 + 2, none⟩ = some (.int .i64 (sz s.2.2 : Int)) := by
  obtain ⟨b', off', e, _, hc⟩ := h.at_ (by omega)
  cases e
  exact hc k (syE s) (by rw [List.getElem?_map, hs]; rfl)
theorem take_succ {S : List Sym} {k : Nat} {s : Sym} (h : S[k]? = some s) : S.take (k + 1) = S.take k ++ [s] := by
  rw [List.take_add_one, h]
  rfl
theorem allS_tab {prev : Int} {b : List Int} (hr : RightB b) {k : Nat} {s : Sym} (h1 : (allS prev b)[k]? = some s) : s.1 = if k = 0 then 0 else 1 := by
  unfold allS at h1
  cases k with
  | zero => simp at h1; rw [← h1]; rfl
  | succ k =>
    rw [List.getElem?_cons_succ] at h1
    rw [if_neg (by omega)]
    exact (symsF_ok hr 63 1 0 (by omega) s (List.mem_of_getElem? h1)).2
theorem all_not {f : Sym → Bool} {S : List Sym} {k : Nat} {s : Sym} (h : S[k]? = some s) (hf : f s = false) : S.all f = false := by
  cases ha : S.all f with
  | false => rfl
  | true =>
    have := List.all_eq_true.1 ha s (List.mem_of_getElem? h)
    rw [hf] at this
    cases this
/-- what the reference's Put of a block tells -/
def RefPutB (w : World) (A : Option Addr) (Ld La : List En) (prev : Int) (b bs : List Int) (e : Ending) (w' : World) : Prop :=
  ∃ A' m c', e = .returned (.tuple #[.slice A' m c', .int .i64 (putBE Ld La prev b)]) ∧ Il w' A' m c' (putBL Ld La bs prev b) ∧ (A' = A ∨ ∀ b off, A' = some ⟨b, off, none⟩ → w.heap.size ≤ b) ∧ Below w.heap.size w w'

section
variable (w : World) (Ac : Option Addr) (nc cc : Nat) (Ac' : Option Addr) (nc' cc' : Nat) (B V B' V' : List Int) (A : Option Addr) (n c : Nat) (bs : List Int) (prev : Int) (b : List Int)
set_option maxRecDepth 10000 in
set_option maxHeartbeats 6400000 in
theorem refPutB_any (hb : b.length = 64) (h : Te w Ac nc (codes B V)) (hnc : nc ≤ 256) (hv : Valid B V) (h' : Te w Ac' nc' (codes B' V')) (hnc' : nc' ≤ 256) (hv' : Valid B' V') (hI : Il w A n c bs) (hn : n ≤ 170) :
    Calls Tryd.prog 24 #[.slice A n c, .slice Ac nc cc, .slice Ac' nc' cc', .int .i64 prev, blkV b] w (RefPutB w A (codes B V) (codes B' V') prev b bs) := by
  unfold RefPutB
  obtain ⟨cs, hcs⟩ : ∃ cs, cs = (cellsI b).toArray := ⟨_, rfl⟩
  have hvc : blkV b = .agg cs := by rw [hcs]; rfl
  obtain ⟨w1, hw1⟩ : ∃ w1, w1 = w.alloc (.cells cs 23) := ⟨_, rfl⟩
  have bel : Below w.heap.size w w1 := by rw [hw1]; exact on_alloc _ _
  have hB : Blk w1 w.heap.size b := ⟨by rw [hw1, ← hcs]; exact Box.made _ _ _, hb⟩
  have HB := Lib.hid (And.intro hB (And.intro bel (And.intro hw1 (And.intro (h.on bel) (And.intro (h'.on bel) (hI.on bel))))))
  have HI := Lib.hid (And.intro hb (And.intro hv (And.intro hv' (And.intro hnc (And.intro hnc' hn)))))
  have HL := Lib.hid (show (Instr.loadAt 23 (.pointer (some ⟨w.heap.size, 0, none⟩))).run Tryd.prog w1 = .ok (blkV b) w1 from hB.load)
  have HV := Lib.hid hvc
  rw [hvc]
  clear hvc hcs hw1 bel hB hb h hnc hv h' hnc' hv' hI hn
  by_cases hin : In prev
  · have hd1 : decide (In prev) = true := by simpa using hin
    have HD := Lib.hid (And.intro hd1 hin)
    clear hd1 hin
    go_enter Tryd.func24, Tryd.ntmps24
    go_wp2_with fail
    rw [← HB.out.2.2.1]
    refine (refIn_any _ prev).mono ?_
    rintro e w2 ⟨rfl, rfl⟩
    rw [HD.out.1]
    go_wp2_with (first
      | ((with_reducible refine wpList_load_when (op := ⟨some 22, _, _, _, _, _⟩) ?hw 23 (.tmp 9) rfl (.pointer (some ⟨w.heap.size, 0, none⟩)) rfl (blkV b) HL.out ?_)
         case hw => rfl)
      | fail)
    refine (refRight_any _ b HI.out.1).mono ?_
    rintro e w2 ⟨rfl, b2⟩
    have H2 := Lib.hid b2
    clear b2
    by_cases hr : RightB b
    · have hd1 : decide (RightB b) = true := by simpa using hr
      rw [hd1]
      have HR := Lib.hid hr
      clear hd1 hr
      go_wp2_with (first
        | (at_builtin; refine wpList_append_ik (o := ⟨some 29, _, _, _, _, _⟩) rfl (.tmp 27) (.tmp 28) rfl w2.heap.size (.slice (some ⟨w2.heap.size, 0, none⟩) 0 0) 0 [] rfl (World.ownsRow_made w2 #[] 0 (Nat.le_refl _) (Nat.zero_le _) rfl) A n c bs rfl ((HB.out.2.2.2.2.2.on H2.out).ia.on (on_alloc _ _)) (by have := HI.out.2.2.2.2.2; omega) (by simp) ?_; intro v3 w3 ho3 k3; have H3 := Lib.hid (rput3 ho3 k3); clear ho3 k3)
        | (with_reducible refine wpList_load_to (op := ⟨some 31, _, _, _, _, _⟩) rfl 23 (.tmp 9) rfl (.pointer (some ⟨w.heap.size, 0, none⟩)) rfl (blkV b) ((HB.out.1.on H2.out).on H3.out.2).load ?_)
        | fail)
      refine (symbols_any w3 prev b HI.out.1 HR.out HD.out.2).mono ?_
      rintro e w4 ⟨As, ns, csn, rfl, hTe, hns, hlo, b4⟩
      have hns64 : ns ≤ 64 := by have := allS_len prev b; omega
      have hbn : bs.length = n := HB.out.2.2.2.2.2.len
      have HR1 := Lib.hid HR.out
      have H4 := Lib.hid (And.intro (RPut.mk (w := w2) (v := v3) (l := bs) (by rw [hbn]; exact ownsRow_block H3.out.1 fun g _ _ hb => b4.block g (Array.getElem?_eq_some_iff.1 hb).1) (on_trans H3.out.2 b4) hTe (fun bb off e => (hlo bb off e).2)) (And.intro hns hbn))
      clear hTe hns hlo b4 hbn HR
      go_wp2_with fail
      go_loopw [12, 14] (fun v i wr => ∃ k : Nat, k ≤ ns ∧ i = .int .i64 (k : Int) ∧ RPut w2 wr v (bs ++ bitsOf (codes B V) (codes B' V') ((allS prev b).take k)) As ns (allS prev b) ∧ ((allS prev b).take k).all (foundS (codes B V) (codes B' V')) = true) (fun _ i _ => ns - (intOf i).toNat)
      case atStart => exact ⟨0, by omega, rfl, by simpa [bitsOf] using H4.out.1, rfl⟩
      case round vr iv wr =>
        obtain ⟨k, hk, rfl, hP, hall⟩ := hrel
        have HR := Lib.hid (And.intro hP hall)
        clear hP hall
        by_cases hlt : k < ns
        · have hka : k < (allS prev b).length := by have := H4.out.2.1; omega
          obtain ⟨s, hs⟩ : ∃ s, s = (allS prev b)[k]'hka := ⟨_, rfl⟩
          have hget : (allS prev b)[k]? = some s := by rw [List.getElem?_eq_getElem hka, hs]
          have htab := allS_tab HR1.out hget
          have hsok := allS_ok HR1.out HD.out.2 s (List.mem_of_getElem? hget)
          have hsnum := hsok.num
          obtain ⟨bb, off, rfl, _, _⟩ := HR.out.1.sy.at_ (by omega)
          obtain ⟨s0, _, _⟩ := cells_sy HR.out.1.sy hlt hget
          obtain ⟨v, hv0⟩ : ∃ v, v = s.2.1 := ⟨_, rfl⟩
          obtain ⟨y1, hy1⟩ : ∃ y1, y1 = numB s.2.2 := ⟨_, rfl⟩
          obtain ⟨y2, hy2⟩ : ∃ y2, y2 = sz s.2.2 := ⟨_, rfl⟩
          have hy11 : y2 ≤ 11 := by rw [hy2]; exact diff_size hsnum
          have hy12 : y1 ≤ 2048 := by
            have h1 := numB_lt s.2.2
            rw [← hy1, ← hy2] at h1
            have := Nat.pow_le_pow_right (n := 2) (by omega) hy11
            have e11 : 2 ^ 11 = 2048 := by decide
            omega
          have HY := Lib.hid (And.intro hy1.symm (And.intro hy2.symm True.intro))
          rw [← hv0] at s0
          obtain ⟨LL, hLL⟩ : ∃ LL, LL = bs ++ bitsOf (codes B V) (codes B' V') ((allS prev b).take k) := ⟨_, rfl⟩
          have hLn : LL.length ≤ 10000 := by
            have h1 := bitsOf_len HI.out.2.1 HI.out.2.2.1 ((allS prev b).take k) (fun x hx => allS_ok HR1.out HD.out.2 x (List.mem_of_mem_take hx))
            have h2 : ((allS prev b).take k).length ≤ 64 := by rw [List.length_take]; omega
            have h3 := H4.out.2.2
            have h4 := HI.out.2.2.2.2.2
            rw [hLL, List.length_append]
            omega
          rw [← hLL] at HR
          obtain ⟨Ar, cr, rfl, _, _⟩ := il_of_own HR.out.1.own
          have HLN := Lib.hid hLn
          have HLL := Lib.hid hLL
          have HLEN := Lib.hid (show ∀ m, m ≤ 24 → LL.length + m ≤ 1000000 from fun m hm => by omega)
          clear hs hka hsok hLL hLn
          by_cases hk0 : k = 0
          · rw [if_pos hk0] at htab
            subst hk0
            have hfs : foundS (codes B V) (codes B' V') s = (fnd (codes B V) (v : Int)).isSome := by unfold foundS; rw [if_pos htab, hv0]
            have hsb : symB (codes B V) (codes B' V') s = dig (codeOf (codes B V) (v : Int)).1 (codeOf (codes B V) (v : Int)).2 ++ dig y1 y2 := by unfold symB symBits; rw [if_pos htab, hv0, hy1, hy2]
            rw [Nat.zero_mul, Nat.add_zero] at s0
            have HK := Lib.hid (And.intro hfs (And.intro hsb (And.intro hget hsnum)))
            clear hfs hsb htab hget hsnum hv0 hy1 hy2
            have HFI := Lib.hid (fun w' (b : Below w2.heap.size w2 w') => find_any w' Ac nc cc (codes B V) (v : Int) ((HB.out.2.2.2.1.on H2.out).on b) (by have := HI.out.2.2.2.1; omega))
            obtain ⟨fo, hfo⟩ : ∃ fo, fo = fnd (codes B V) (v : Int) := ⟨_, rfl⟩
            rw [← hfo] at HFI
            go_wp2_with fail
            refine (HFI.out wr HR.out.1.bel).mono ?_
            rintro e w5 ⟨rfl, b5⟩
            have H5 := Lib.hid (HR.out.1.on b5)
            have HFO := Lib.hid hfo
            clear b5 hfo s0
            cases fo with
            | none =>
              have hE : putBE (codes B V) (codes B' V') prev b = 6 := by
                have h1 : (allS prev b).all (foundS (codes B V) (codes B' V')) = false := all_not HK.out.2.2.1 (by rw [HK.out.1, ← HFO.out]; rfl)
                unfold putBE
                rw [if_pos ⟨HD.out.2, HR1.out⟩, h1]
                rfl
              have HE := Lib.hid hE
              clear hE
              have hz95 : ∀ w, (zeroValue 95).run Tryd.prog w = .ok (.agg #[.int .i64 0, .int .i64 0, .int .i64 0]) w := fun w => by kernel_rfl
              simp only [enV, Option.isSome_none]
              go_wp2
              go_ret2
              unfold putBL
              rw [HE.out, if_neg (by decide)]
              have b5 := on_trans HB.out.2.1 (on_trans H2.out (H5.out.bel.trans ((on_alloc w5 (.cells #[.int .i64 0, .int .i64 0, .int .i64 0] 95)).mono H5.out.bel.size)))
              exact ⟨A, n, c, rfl, HB.out.2.2.2.2.2.on (on_trans H2.out (H5.out.bel.trans ((on_alloc w5 (.cells #[.int .i64 0, .int .i64 0, .int .i64 0] 95)).mono H5.out.bel.size))), .inl rfl, b5⟩
            | some en =>
              obtain ⟨z, x, y⟩ := en
              have hcode : codeOf (codes B V) (v : Int) = (x, y) := by unfold codeOf; rw [← HFO.out]; rfl
              obtain ⟨_, hy16, hxy, _⟩ := HI.out.2.1.code (fnd_some HFO.out.symm).1
              dsimp only at hy16 hxy
              have hx16 : x ≤ 65536 := by
                have := Nat.pow_le_pow_right (n := 2) (by omega) hy16
                have e16 : 2 ^ 16 = 65536 := by decide
                omega
              have HXY := Lib.hid (And.intro hcode (And.intro hy16 hx16))
              clear hcode hxy
              have hz95 : ∀ w, (zeroValue 95).run Tryd.prog w = .ok (.agg #[.int .i64 0, .int .i64 0, .int .i64 0]) w := fun w => by kernel_rfl
              simp only [enV, Option.isSome_some]
              go_wp2_with fail
              have H6 := Lib.hid (H5.out.on (on_alloc w5 (.cells #[.int .i64 z, .int .i64 (x : Int), .int .i64 (y : Int)] 95)))
              refine (digits_any _ x y (by omega) (by omega)).mono ?_
              rintro e w7 ⟨A7, c7, rfl, hI7, b7⟩
              have H7 := Lib.hid (And.intro (H6.out.on b7) hI7)
              clear hI7 b7
              go_wp2_with (first
                | (at_builtin; refine wpList_append_ik (o := ⟨some 62, _, _, _, _, _⟩) rfl (.tmp 56) (.tmp 61) rfl w2.heap.size (.slice Ar LL.length cr) _ _ rfl H7.out.1.own A7 y c7 (dig x y) rfl H7.out.2.ia (HLEN.out y (by omega)) H7.out.1.bel.size ?_; intro v8 w8 ho8 k8; have H8 := Lib.hid (H7.out.1.grow (r := dig x y) (by rw [dig_len]; exact ho8) k8); clear ho8 k8)
                | fail)
              have HC8 := Lib.hid (fun w' (kk : Kept (fun i => v8.ownBlock = some i) w8 w') => cells_sy (te_keep H8.out.sy kk H8.out.apart) hlt HK.out.2.2.1)
              rw [HY.out.1, HY.out.2.1] at HC8
              have HLEN8 := Lib.hid (show ∀ m, m ≤ 24 → (LL ++ dig x y).length + m ≤ 1000000 from fun m hm => by have := HLEN.out m hm; have := HLEN.out y (by omega); have := HLEN.out 0 (by omega); rw [List.length_append, dig_len]; have := HLN.out; omega)

              have q0 : Hid (Kept (fun i => v8.ownBlock = some i) w8 w8.drew) := Lib.hid (Kept.of_below (on_drew w8) _)
              refine wp_region_held_drew (S := fun w' => Hid (Kept (fun i => v8.ownBlock = some i) w8 w')) (by kernel_rfl) q0 fun q0 => ?_
              refine take_to (i := 0) (v := v8) rfl (by kernel_rfl) (by kernel_rfl) (by kernel_rfl) (fun _ _ _ h => h) (Or.inl ⟨by rfl, fun w' hS => by go_simp⟩) q0 (some 63) rfl ?_
              try simp only [Act.put, List.setIfInBounds_toArray, List.set_cons_zero, List.set_cons_succ]
              refine take_to (i := 1) (v := .slice (some ⟨bb, off, none⟩) ns csn) rfl (by kernel_rfl) (by kernel_rfl) (by kernel_rfl) (fun _ _ _ h => h) (Or.inl ⟨by rfl, fun w' hS => by go_simp⟩) q0 (some 64) rfl ?_
              try simp only [Act.put, List.setIfInBounds_toArray, List.set_cons_zero, List.set_cons_succ]
              refine take_to (i := 2) (v := .int .i64 ((0 : Nat) : Int)) rfl (by kernel_rfl) (by kernel_rfl) (by kernel_rfl) (fun _ _ _ h => h) (Or.inl ⟨by rfl, fun w' hS => by go_simp⟩) q0 (some 65) rfl ?_
              try simp only [Act.put, List.setIfInBounds_toArray, List.set_cons_zero, List.set_cons_succ]
              refine take_to (i := 3) (v := .pointer (some ⟨bb, off, none⟩)) rfl (by kernel_rfl) (by kernel_rfl) (by kernel_rfl) (fun _ _ _ h => h) (Or.inl ⟨by rfl, fun w' hS => by go_simp⟩) q0 (some 66) rfl ?_
              try simp only [Act.put, List.setIfInBounds_toArray, List.set_cons_zero, List.set_cons_succ]
              refine take_to (i := 4) (v := .pointer (some ⟨bb, off + 1, none⟩)) rfl (by kernel_rfl) (by kernel_rfl) (by kernel_rfl) (fun _ _ _ h => h) (Or.inl ⟨by rfl, fun w' hS => by go_simp⟩) q0 (some 67) rfl ?_
              try simp only [Act.put, List.setIfInBounds_toArray, List.set_cons_zero, List.set_cons_succ]
              refine take_to (i := 5) (v := .int .i64 (y1 : Int)) rfl (by kernel_rfl) (by kernel_rfl) (by kernel_rfl) (fun _ _ _ h => h) (Or.inl ⟨by rfl, fun w' hS => by have := (HC8.out w' hS.out).2.1; rw [Nat.zero_mul, Nat.add_zero] at this; go_simp⟩) q0 (some 68) rfl ?_
              try simp only [Act.put, List.setIfInBounds_toArray, List.set_cons_zero, List.set_cons_succ]
              refine take_to (i := 6) (v := .slice (some ⟨bb, off, none⟩) ns csn) rfl (by kernel_rfl) (by kernel_rfl) (by kernel_rfl) (fun _ _ _ h => h) (Or.inl ⟨by rfl, fun w' hS => by go_simp⟩) q0 (some 69) rfl ?_
              try simp only [Act.put, List.setIfInBounds_toArray, List.set_cons_zero, List.set_cons_succ]
              refine take_to (i := 7) (v := .int .i64 ((0 : Nat) : Int)) rfl (by kernel_rfl) (by kernel_rfl) (by kernel_rfl) (fun _ _ _ h => h) (Or.inl ⟨by rfl, fun w' hS => by go_simp⟩) q0 (some 70) rfl ?_
              try simp only [Act.put, List.setIfInBounds_toArray, List.set_cons_zero, List.set_cons_succ]
              refine take_to (i := 8) (v := .pointer (some ⟨bb, off, none⟩)) rfl (by kernel_rfl) (by kernel_rfl) (by kernel_rfl) (fun _ _ _ h => h) (Or.inl ⟨by rfl, fun w' hS => by go_simp⟩) q0 (some 71) rfl ?_
              try simp only [Act.put, List.setIfInBounds_toArray, List.set_cons_zero, List.set_cons_succ]
              refine take_to (i := 9) (v := .pointer (some ⟨bb, off + 2, none⟩)) rfl (by kernel_rfl) (by kernel_rfl) (by kernel_rfl) (fun _ _ _ h => h) (Or.inl ⟨by rfl, fun w' hS => by go_simp⟩) q0 (some 72) rfl ?_
              try simp only [Act.put, List.setIfInBounds_toArray, List.set_cons_zero, List.set_cons_succ]
              refine take_to (i := 10) (v := .int .i64 (y2 : Int)) rfl (by kernel_rfl) (by kernel_rfl) (by kernel_rfl) (fun _ _ _ h => h) (Or.inl ⟨by rfl, fun w' hS => by have := (HC8.out w' hS.out).2.2; rw [Nat.zero_mul, Nat.add_zero] at this; go_simp⟩) q0 (some 73) rfl ?_
              try simp only [Act.put, List.setIfInBounds_toArray, List.set_cons_zero, List.set_cons_succ]
              refine wpAnyH_ready (rs := [11]) (by kernel_rfl) (by simp) ?_
              refine AllReadyH.cons rfl (fun K hK => ?_) AllReadyH.nil
              go_simp
              refine (digits_any _ y1 y2 (by omega) (by omega)).mono ?_
              rintro e w9 ⟨A9, c9, rfl, hI9, b9⟩
              have H9 := Lib.hid (And.intro (H8.out.on (on_trans (on_drew w8) b9)) hI9)
              have q1 : Hid (Kept (fun i => v8.ownBlock = some i) w8 w9) := Lib.hid (Kept.of_below (on_trans (on_drew w8) b9) _)
              clear hI9 b9
              refine hK.out _ _ q1 fun _ => ?_
              clear hK K
              try simp only [Act.put, List.setIfInBounds_toArray, List.set_cons_zero, List.set_cons_succ]
              refine wpAnyH_ready (rs := [12]) (by kernel_rfl) (by simp) ?_
              refine AllReadyH.cons rfl (fun K hK => ?_) AllReadyH.nil
              refine step_append_ik rfl (.tmp 63) (.tmp 74) rfl w2.heap.size v8 _ _ rfl H9.out.1.own A9 y2 c9 (dig y1 y2) rfl H9.out.2.ia (HLEN8.out y2 (by omega)) H9.out.1.bel.size (some 75) rfl ?_
              intro v10 w10 ho10 k10
              have H10 := Lib.hid (H9.out.1.grow (r := dig y1 y2) (by rw [dig_len]; exact ho10) k10)
              have q2 : Hid (Kept (fun i => v8.ownBlock = some i) w8 w10) := Lib.hid (q1.out.trans k10 (fun _ _ h => h))
              clear ho10 k10
              try simp only [Act.put, List.setIfInBounds_toArray, List.set_cons_zero, List.set_cons_succ]
              refine hK.out _ _ q2 fun _ => ?_
              clear hK K
              try simp only [Act.put, List.setIfInBounds_toArray, List.set_cons_zero, List.set_cons_succ]
              refine take_to (i := 13) (v := v10) rfl (by kernel_rfl) (by kernel_rfl) (by kernel_rfl) (fun _ _ _ h => h) (Or.inl ⟨by rfl, fun w' hS => by go_simp⟩) q2 (some 12) rfl ?_
              try simp only [Act.put, List.setIfInBounds_toArray, List.set_cons_zero, List.set_cons_succ]
              refine wpAnyH_done (by kernel_rfl) ?_ _
              clear q0 q1 q2
              go_wp2_with fail
              go_roundw
              case rel =>
                refine ⟨0 + 1, by omega, by go_num, ?_, ?_⟩
                · have h10 := H10.out
                  rw [take_succ HK.out.2.2.1, bitsOf_snoc, HK.out.2.1, HXY.out.1, ← List.append_assoc, ← List.append_assoc]
                  rw [← HLL.out]
                  exact h10
                · rw [take_succ HK.out.2.2.1, List.all_append, HR.out.2, List.all_cons, List.all_nil, HK.out.1, ← HFO.out]
                  rfl
              case measure => simp [intOf]; omega
          · rw [if_neg hk0] at htab
            have hk0i : ¬ (k : Int) = 0 := by omega
            have hfs : foundS (codes B V) (codes B' V') s = (fnd (codes B' V') (v : Int)).isSome := by unfold foundS; rw [if_neg (by rw [htab]; decide), hv0]
            have hsb : symB (codes B V) (codes B' V') s = dig (codeOf (codes B' V') (v : Int)).1 (codeOf (codes B' V') (v : Int)).2 ++ dig y1 y2 := by unfold symB symBits; rw [if_neg (by rw [htab]; decide), hv0, hy1, hy2]
            have HK := Lib.hid (And.intro hfs (And.intro hsb (And.intro hget hsnum)))
            clear hfs hsb htab hget hsnum hv0 hy1 hy2
            have HFI := Lib.hid (fun w' (b : Below w2.heap.size w2 w') => find_any w' Ac' nc' cc' (codes B' V') (v : Int) ((HB.out.2.2.2.2.1.on H2.out).on b) (by have := HI.out.2.2.2.2.1; omega))
            obtain ⟨fo, hfo⟩ : ∃ fo, fo = fnd (codes B' V') (v : Int) := ⟨_, rfl⟩
            rw [← hfo] at HFI
            go_wp2_with fail
            refine (HFI.out wr HR.out.1.bel).mono ?_
            rintro e w5 ⟨rfl, b5⟩
            have H5 := Lib.hid (HR.out.1.on b5)
            have HFO := Lib.hid hfo
            clear b5 hfo s0
            cases fo with
            | none =>
              have hE : putBE (codes B V) (codes B' V') prev b = 6 := by
                have h1 : (allS prev b).all (foundS (codes B V) (codes B' V')) = false := all_not HK.out.2.2.1 (by rw [HK.out.1, ← HFO.out]; rfl)
                unfold putBE
                rw [if_pos ⟨HD.out.2, HR1.out⟩, h1]
                rfl
              have HE := Lib.hid hE
              clear hE
              have hz95 : ∀ w, (zeroValue 95).run Tryd.prog w = .ok (.agg #[.int .i64 0, .int .i64 0, .int .i64 0]) w := fun w => by kernel_rfl
              simp only [enV, Option.isSome_none]
              go_wp2
              go_ret2
              unfold putBL
              rw [HE.out, if_neg (by decide)]
              have b5 := on_trans HB.out.2.1 (on_trans H2.out (H5.out.bel.trans ((on_alloc w5 (.cells #[.int .i64 0, .int .i64 0, .int .i64 0] 95)).mono H5.out.bel.size)))
              exact ⟨A, n, c, rfl, HB.out.2.2.2.2.2.on (on_trans H2.out (H5.out.bel.trans ((on_alloc w5 (.cells #[.int .i64 0, .int .i64 0, .int .i64 0] 95)).mono H5.out.bel.size))), .inl rfl, b5⟩
            | some en =>
              obtain ⟨z, x, y⟩ := en
              have hcode : codeOf (codes B' V') (v : Int) = (x, y) := by unfold codeOf; rw [← HFO.out]; rfl
              obtain ⟨_, hy16, hxy, _⟩ := HI.out.2.2.1.code (fnd_some HFO.out.symm).1
              dsimp only at hy16 hxy
              have hx16 : x ≤ 65536 := by
                have := Nat.pow_le_pow_right (n := 2) (by omega) hy16
                have e16 : 2 ^ 16 = 65536 := by decide
                omega
              have HXY := Lib.hid (And.intro hcode (And.intro hy16 hx16))
              clear hcode hxy
              have hz95 : ∀ w, (zeroValue 95).run Tryd.prog w = .ok (.agg #[.int .i64 0, .int .i64 0, .int .i64 0]) w := fun w => by kernel_rfl
              simp only [enV, Option.isSome_some]
              go_wp2_with fail
              have H6 := Lib.hid (H5.out.on (on_alloc w5 (.cells #[.int .i64 z, .int .i64 (x : Int), .int .i64 (y : Int)] 95)))
              refine (digits_any _ x y (by omega) (by omega)).mono ?_
              rintro e w7 ⟨A7, c7, rfl, hI7, b7⟩
              have H7 := Lib.hid (And.intro (H6.out.on b7) hI7)
              clear hI7 b7
              go_wp2_with (first
                | (at_builtin; refine wpList_append_ik (o := ⟨some 62, _, _, _, _, _⟩) rfl (.tmp 56) (.tmp 61) rfl w2.heap.size (.slice Ar LL.length cr) _ _ rfl H7.out.1.own A7 y c7 (dig x y) rfl H7.out.2.ia (HLEN.out y (by omega)) H7.out.1.bel.size ?_; intro v8 w8 ho8 k8; have H8 := Lib.hid (H7.out.1.grow (r := dig x y) (by rw [dig_len]; exact ho8) k8); clear ho8 k8)
                | fail)
              have HC8 := Lib.hid (fun w' (kk : Kept (fun i => v8.ownBlock = some i) w8 w') => cells_sy (te_keep H8.out.sy kk H8.out.apart) hlt HK.out.2.2.1)
              rw [HY.out.1, HY.out.2.1] at HC8
              have HLEN8 := Lib.hid (show ∀ m, m ≤ 24 → (LL ++ dig x y).length + m ≤ 1000000 from fun m hm => by have := HLEN.out m hm; have := HLEN.out y (by omega); have := HLEN.out 0 (by omega); rw [List.length_append, dig_len]; have := HLN.out; omega)

              have q0 : Hid (Kept (fun i => v8.ownBlock = some i) w8 w8.drew) := Lib.hid (Kept.of_below (on_drew w8) _)
              refine wp_region_held_drew (S := fun w' => Hid (Kept (fun i => v8.ownBlock = some i) w8 w')) (by kernel_rfl) q0 fun q0 => ?_
              refine take_to (i := 0) (v := v8) rfl (by kernel_rfl) (by kernel_rfl) (by kernel_rfl) (fun _ _ _ h => h) (Or.inl ⟨by rfl, fun w' hS => by go_simp⟩) q0 (some 63) rfl ?_
              try simp only [Act.put, List.setIfInBounds_toArray, List.set_cons_zero, List.set_cons_succ]
              refine take_to (i := 1) (v := .slice (some ⟨bb, off, none⟩) ns csn) rfl (by kernel_rfl) (by kernel_rfl) (by kernel_rfl) (fun _ _ _ h => h) (Or.inl ⟨by rfl, fun w' hS => by go_simp⟩) q0 (some 64) rfl ?_
              try simp only [Act.put, List.setIfInBounds_toArray, List.set_cons_zero, List.set_cons_succ]
              refine take_to (i := 2) (v := .int .i64 (k : Int)) rfl (by kernel_rfl) (by kernel_rfl) (by kernel_rfl) (fun _ _ _ h => h) (Or.inl ⟨by rfl, fun w' hS => by go_simp⟩) q0 (some 65) rfl ?_
              try simp only [Act.put, List.setIfInBounds_toArray, List.set_cons_zero, List.set_cons_succ]
              refine take_to (i := 3) (v := .pointer (some ⟨bb, off + k * 3, none⟩)) rfl (by kernel_rfl) (by kernel_rfl) (by kernel_rfl) (fun _ _ _ h => h) (Or.inl ⟨by rfl, fun w' hS => by go_simp⟩) q0 (some 66) rfl ?_
              try simp only [Act.put, List.setIfInBounds_toArray, List.set_cons_zero, List.set_cons_succ]
              refine take_to (i := 4) (v := .pointer (some ⟨bb, off + k * 3 + 1, none⟩)) rfl (by kernel_rfl) (by kernel_rfl) (by kernel_rfl) (fun _ _ _ h => h) (Or.inl ⟨by rfl, fun w' hS => by go_simp⟩) q0 (some 67) rfl ?_
              try simp only [Act.put, List.setIfInBounds_toArray, List.set_cons_zero, List.set_cons_succ]
              refine take_to (i := 5) (v := .int .i64 (y1 : Int)) rfl (by kernel_rfl) (by kernel_rfl) (by kernel_rfl) (fun _ _ _ h => h) (Or.inl ⟨by rfl, fun w' hS => by have := (HC8.out w' hS.out).2.1; go_simp⟩) q0 (some 68) rfl ?_
              try simp only [Act.put, List.setIfInBounds_toArray, List.set_cons_zero, List.set_cons_succ]
              refine take_to (i := 6) (v := .slice (some ⟨bb, off, none⟩) ns csn) rfl (by kernel_rfl) (by kernel_rfl) (by kernel_rfl) (fun _ _ _ h => h) (Or.inl ⟨by rfl, fun w' hS => by go_simp⟩) q0 (some 69) rfl ?_
              try simp only [Act.put, List.setIfInBounds_toArray, List.set_cons_zero, List.set_cons_succ]
              refine take_to (i := 7) (v := .int .i64 (k : Int)) rfl (by kernel_rfl) (by kernel_rfl) (by kernel_rfl) (fun _ _ _ h => h) (Or.inl ⟨by rfl, fun w' hS => by go_simp⟩) q0 (some 70) rfl ?_
              try simp only [Act.put, List.setIfInBounds_toArray, List.set_cons_zero, List.set_cons_succ]
              refine take_to (i := 8) (v := .pointer (some ⟨bb, off + k * 3, none⟩)) rfl (by kernel_rfl) (by kernel_rfl) (by kernel_rfl) (fun _ _ _ h => h) (Or.inl ⟨by rfl, fun w' hS => by go_simp⟩) q0 (some 71) rfl ?_
              try simp only [Act.put, List.setIfInBounds_toArray, List.set_cons_zero, List.set_cons_succ]
              refine take_to (i := 9) (v := .pointer (some ⟨bb, off + k * 3 + 2, none⟩)) rfl (by kernel_rfl) (by kernel_rfl) (by kernel_rfl) (fun _ _ _ h => h) (Or.inl ⟨by rfl, fun w' hS => by go_simp⟩) q0 (some 72) rfl ?_
              try simp only [Act.put, List.setIfInBounds_toArray, List.set_cons_zero, List.set_cons_succ]
              refine take_to (i := 10) (v := .int .i64 (y2 : Int)) rfl (by kernel_rfl) (by kernel_rfl) (by kernel_rfl) (fun _ _ _ h => h) (Or.inl ⟨by rfl, fun w' hS => by have := (HC8.out w' hS.out).2.2; go_simp⟩) q0 (some 73) rfl ?_
              try simp only [Act.put, List.setIfInBounds_toArray, List.set_cons_zero, List.set_cons_succ]
              refine wpAnyH_ready (rs := [11]) (by kernel_rfl) (by simp) ?_
              refine AllReadyH.cons rfl (fun K hK => ?_) AllReadyH.nil
              go_simp
              refine (digits_any _ y1 y2 (by omega) (by omega)).mono ?_
              rintro e w9 ⟨A9, c9, rfl, hI9, b9⟩
              have H9 := Lib.hid (And.intro (H8.out.on (on_trans (on_drew w8) b9)) hI9)
              have q1 : Hid (Kept (fun i => v8.ownBlock = some i) w8 w9) := Lib.hid (Kept.of_below (on_trans (on_drew w8) b9) _)
              clear hI9 b9
              refine hK.out _ _ q1 fun _ => ?_
              clear hK K
              try simp only [Act.put, List.setIfInBounds_toArray, List.set_cons_zero, List.set_cons_succ]
              refine wpAnyH_ready (rs := [12]) (by kernel_rfl) (by simp) ?_
              refine AllReadyH.cons rfl (fun K hK => ?_) AllReadyH.nil
              refine step_append_ik rfl (.tmp 63) (.tmp 74) rfl w2.heap.size v8 _ _ rfl H9.out.1.own A9 y2 c9 (dig y1 y2) rfl H9.out.2.ia (HLEN8.out y2 (by omega)) H9.out.1.bel.size (some 75) rfl ?_
              intro v10 w10 ho10 k10
              have H10 := Lib.hid (H9.out.1.grow (r := dig y1 y2) (by rw [dig_len]; exact ho10) k10)
              have q2 : Hid (Kept (fun i => v8.ownBlock = some i) w8 w10) := Lib.hid (q1.out.trans k10 (fun _ _ h => h))
              clear ho10 k10
              try simp only [Act.put, List.setIfInBounds_toArray, List.set_cons_zero, List.set_cons_succ]
              refine hK.out _ _ q2 fun _ => ?_
              clear hK K
              try simp only [Act.put, List.setIfInBounds_toArray, List.set_cons_zero, List.set_cons_succ]
              refine take_to (i := 13) (v := v10) rfl (by kernel_rfl) (by kernel_rfl) (by kernel_rfl) (fun _ _ _ h => h) (Or.inl ⟨by rfl, fun w' hS => by go_simp⟩) q2 (some 12) rfl ?_
              try simp only [Act.put, List.setIfInBounds_toArray, List.set_cons_zero, List.set_cons_succ]
              refine wpAnyH_done (by kernel_rfl) ?_ _
              clear q0 q1 q2
              go_wp2_with fail
              go_roundw
              case rel =>
                refine ⟨k + 1, by omega, by go_num, ?_, ?_⟩
                · have h10 := H10.out
                  rw [take_succ HK.out.2.2.1, bitsOf_snoc, HK.out.2.1, HXY.out.1, ← List.append_assoc, ← List.append_assoc]
                  rw [← HLL.out]
                  exact h10
                · rw [take_succ HK.out.2.2.1, List.all_append, HR.out.2, List.all_cons, List.all_nil, HK.out.1, ← HFO.out]
                  rfl
              case measure => simp [intOf]; omega
        · have hkn : k = ns := by omega
          have HR2 := Lib.hid (by have h1 := HR.out; rw [hkn, H4.out.2.1, List.take_length] at h1; exact h1)
          have hE : putBE (codes B V) (codes B' V') prev b = 0 := by unfold putBE; rw [if_pos ⟨HD.out.2, HR1.out⟩, HR2.out.2]; rfl
          have HE := Lib.hid hE
          clear hE HR hkn
          obtain ⟨A9, c9, rfl, hI9, hlo9⟩ := il_of_own HR2.out.1.own
          have H9 := Lib.hid (And.intro hI9 hlo9)
          clear hI9 hlo9
          go_wp2_with fail
          go_ret2
          unfold putBL
          rw [HE.out, if_pos rfl]
          have bb := on_trans HB.out.2.1 (on_trans H2.out HR2.out.1.bel)
          have hsz := (on_trans HB.out.2.1 H2.out).size
          exact ⟨A9, _, c9, rfl, H9.out.1, .inr (fun b off e => by have := H9.out.2 b off e; omega), bb⟩
    · have hd1 : decide (RightB b) = false := by simpa using hr
      rw [hd1]
      have hE : putBE (codes B V) (codes B' V') prev b = 2 := by unfold putBE; rw [if_neg (fun e => hr e.2)]
      have HE := Lib.hid hE
      clear hd1 hr hE
      go_wp2
      go_ret2
      unfold putBL
      rw [HE.out, if_neg (by decide)]
      exact ⟨A, n, c, rfl, HB.out.2.2.2.2.2.on H2.out, .inl rfl, on_trans HB.out.2.1 H2.out⟩
  · have hd1 : decide (In prev) = false := by simpa using hin
    have HD := Lib.hid hd1
    have hE : putBE (codes B V) (codes B' V') prev b = 2 := by unfold putBE; rw [if_neg (fun e => hin e.1)]
    have HE := Lib.hid hE
    clear hd1 hin hE
    go_enter Tryd.func24, Tryd.ntmps24
    go_wp2_with fail
    rw [← HB.out.2.2.1]
    refine (refIn_any _ prev).mono ?_
    rintro e w2 ⟨rfl, rfl⟩
    rw [HD.out]
    go_wp2
    go_ret2
    unfold putBL
    rw [HE.out, if_neg (by decide)]
    exact ⟨A, n, c, rfl, HB.out.2.2.2.2.2, .inl rfl, HB.out.2.1⟩
end
end Go.Proofs.YthfpdebpepbejaaDoor
