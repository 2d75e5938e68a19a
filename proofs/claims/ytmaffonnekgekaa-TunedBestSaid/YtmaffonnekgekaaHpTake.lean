/-
  Heaps in memory; the contract of the reference's before. Rows of heaps. The contract of the reference's take.
-/
import Derived.Test.YtmaffonnekgekaaStand
import Derived.Test.YtmaffonnekgekaaOrderT
import Derived.BigQuiet
import Derived.Test.YtmaffonnekgekaaFind
namespace Go.Proofs.Ytmaffonnekgekaa
open Go.RowKit

/-- a heap's fields: its count, and where its values lie -/
structure Hp where
  cnt : Int
  A : Option Addr
  n : Nat
  c : Nat
/-- a heap's cells -/
def hpC (h : Hp) : List Value := [.int .i64 h.cnt, .slice h.A h.n h.c]
/-- a heap as a value -/
def hpV (h : Hp) : Value := .agg #[.int .i64 h.cnt, .slice h.A h.n h.c]
/-- a heap reads as a tree of values T and the count x; its values do not lie in block o -/
structure Reads (w : World) (o : Nat) (h : Hp) (cn : Nat → Nat) (T : List Nat) : Prop where
  cnt : h.cnt = (wOf cn T : Int)
  vals : Il w h.A h.n h.c (ints T)
  apart : ∀ b off, h.A = some ⟨b, off, none⟩ → b ≠ o
  rises : T.Pairwise (· < ·)
  some_ : T ≠ []
theorem Reads.on {w w' : World} {o : Nat} {h : Hp} {cn : Nat → Nat} {T : List Nat} (r : Reads w o h cn T) (k : Below w.heap.size w w') : Reads w' o h cn T := ⟨r.cnt, r.vals.on k, r.apart, r.rises, r.some_⟩
theorem Reads.len {w : World} {o : Nat} {h : Hp} {cn : Nat → Nat} {T : List Nat} (r : Reads w o h cn T) : T.length = h.n ∧ 0 < h.n := by
  have h1 := r.vals.len
  rw [ints_len] at h1
  have := List.length_pos_iff.2 r.some_
  omega
theorem ints_getD (T : List Nat) (i : Nat) (h : i < T.length) : (ints T).getD i 0 = ((T.getD i 0 : Nat) : Int) := by
  simp [ints, List.getD_eq_getElem?_getD, List.getElem?_eq_getElem h]
/-- the last of a rising list is its greatest one -/
theorem last_top : ∀ {T : List Nat}, T.Pairwise (· < ·) → T ≠ [] → T.getD (T.length - 1) 0 = top T
  | [], _, h => absurd rfl h
  | [x], _, _ => by simp [top]
  | x :: y :: T, h, _ => by
    rw [List.pairwise_cons] at h
    have h1 := last_top h.2 (by simp)
    have h2 : x < top (y :: T) := h.1 _ (top_mem (by simp))
    have h3 : top (x :: y :: T) = top (y :: T) := by
      show max x (top (y :: T)) = top (y :: T)
      omega
    rw [h3, ← h1]
    simp

/-- what before answers -/
def BeforeIs (w : World) (cn : Nat → Nat) (A B : List Nat) (e : Ending) (w' : World) : Prop := ∃ b, e = .returned (.bool b) ∧ (b = true ↔ Bef cn A B) ∧ Below w.heap.size w w'

set_option maxRecDepth 20000 in
set_option maxHeartbeats 1600000 in
theorem before_any (w : World) (o : Nat) (a b : Hp) (cn : Nat → Nat) (A B : List Nat) (ha : Reads w o a cn A) (hb : Reads w o b cn B) (hla : A.length ≤ 300) (hlb : B.length ≤ 300) :
    Calls Try.prog 36 #[hpV a, hpV b] w (BeforeIs w cn A B) := by
  obtain ⟨w1, hw1⟩ : ∃ w1, w1 = (w.alloc (.cells #[.int .i64 a.cnt, .slice a.A a.n a.c] 69)).alloc (.cells #[.int .i64 b.cnt, .slice b.A b.n b.c] 69) := ⟨_, rfl⟩
  have bel : Below w.heap.size w w1 := by rw [hw1]; exact on_trans (on_alloc _ _) (on_alloc _ _)
  obtain ⟨g, hg⟩ : ∃ g, g = w.heap.size := ⟨_, rfl⟩
  have b1 : Box w1 g 69 #[.int .i64 a.cnt, .slice a.A a.n a.c] := by rw [hw1, hg]; exact (Box.made w 69 _).alloc _
  have b2 : Box w1 (g + 1) 69 #[.int .i64 b.cnt, .slice b.A b.n b.c] := by
    rw [hw1, hg]
    have := Box.made (w.alloc (.cells #[.int .i64 a.cnt, .slice a.A a.n a.c] 69)) 69 #[.int .i64 b.cnt, .slice b.A b.n b.c]
    simpa using this
  have c0 : w1.cell? ⟨g, 0, none⟩ = some (.int .i64 a.cnt) := b1.cell 0
  have c1 : w1.cell? ⟨g, 1, none⟩ = some (.slice a.A a.n a.c) := b1.cell 1
  have d0 : w1.cell? ⟨g + 1, 0, none⟩ = some (.int .i64 b.cnt) := b2.cell 0
  have d1 : w1.cell? ⟨g + 1, 1, none⟩ = some (.slice b.A b.n b.c) := b2.cell 1
  obtain ⟨la, la0⟩ := ha.len
  obtain ⟨lb, lb0⟩ := hb.len
  obtain ⟨ba, oa, eA, _, ca⟩ := (ha.vals.on bel).at_ la0
  obtain ⟨bb, ob, eB, _, cb⟩ := (hb.vals.on bel).at_ lb0
  have ta := ca (a.n - 1) (by omega)
  have tb := cb (b.n - 1) (by omega)
  rw [ints_getD _ _ (by omega), ← la, last_top ha.rises ha.some_] at ta
  rw [ints_getD _ _ (by omega), ← lb, last_top hb.rises hb.some_] at tb
  have hca := ha.cnt
  have hcb := hb.cnt
  obtain ⟨x, hx⟩ : ∃ x, x = wOf cn A := ⟨_, rfl⟩
  obtain ⟨y, hy⟩ : ∃ y, y = wOf cn B := ⟨_, rfl⟩
  obtain ⟨p, hp⟩ : ∃ p, p = top A := ⟨_, rfl⟩
  obtain ⟨q, hq⟩ : ∃ q, q = top B := ⟨_, rfl⟩
  rw [← hx] at hca
  rw [← hy] at hcb
  rw [← hp] at ta
  rw [← hq] at tb
  obtain ⟨ca', A', na, cca⟩ := a
  obtain ⟨cb', B', nb, ccb⟩ := b
  dsimp only at *
  subst eA eB hca hcb
  have HB := Lib.hid (show Bef cn A B ↔ (x < y ∨ (x = y ∧ q < p)) by rw [hx, hy, hp, hq]; rfl)
  have HW := Lib.hid (And.intro hw1 (And.intro hg bel))
  rw [la] at ta
  rw [lb] at tb
  obtain ⟨na1, hna1⟩ : ∃ na1, na1 = na - 1 := ⟨_, rfl⟩
  obtain ⟨nb1, hnb1⟩ : ∃ nb1, nb1 = nb - 1 := ⟨_, rfl⟩
  rw [← hna1] at ta
  rw [← hnb1] at tb
  have ena : (na : Int) - 1 = (na1 : Int) := by omega
  have enb : (nb : Int) - 1 = (nb1 : Int) := by omega
  have i1 : na1 < na := by omega
  have i2 : nb1 < nb := by omega
  have i3 : na ≤ 300 := by omega
  have i4 : nb ≤ 300 := by omega
  rw [hw1, hg] at c0 c1 d0 d1
  rw [hw1] at ta tb
  clear ha hb hla hlb hx hy hp hq b1 b2 ca cb bel hw1 hg la lb hna1 hnb1
  unfold hpV
  dsimp only
  by_cases hxy : x = y
  · subst hxy
    go_enter Try.func36, Try.ntmps36
    go_wp2_with fail
    go_quiet (fail)
    go_wp2
    go_ret
    have hb := HW.out.2.2
    rw [HW.out.1] at hb
    refine ⟨decide (q < p), rfl, ⟨fun h => HB.out.2 (.inr ⟨trivial, of_decide_eq_true h⟩), fun h => decide_eq_true ?_⟩, on_trans hb (below_drewN_refl _ _)⟩
    rcases HB.out.1 h with h | h
    · omega
    · exact h.2
  · have g1 : ¬ (x : Int) = (y : Int) := by omega
    have g2 : ((x : Int) == (y : Int)) = false := beq_eq_false_iff_ne.2 g1
    go_enter Try.func36, Try.ntmps36
    go_wp2_with fail
    go_ret
    have hb := HW.out.2.2
    rw [HW.out.1] at hb
    refine ⟨decide (x < y), rfl, ⟨fun h => HB.out.2 (.inl (of_decide_eq_true h)), fun h => decide_eq_true ?_⟩, hb⟩
    rcases HB.out.1 h with h | h
    · exact h
    · exact absurd h.1 hxy
end Go.Proofs.Ytmaffonnekgekaa

namespace Go.Proofs.Ytmaffonnekgekaa
open Go.RowKit

/-- a heap and its tree -/
abbrev Ht := Hp × List Nat
/-- the cells of heaps -/
def cellsH (L : List Ht) : List Value := L.flatMap fun x => hpC x.1
theorem cellsH_len : ∀ L : List Ht, (cellsH L).length = L.length * 2
  | [] => rfl
  | e :: L => by
    have e1 : cellsH (e :: L) = hpC e.1 ++ cellsH L := by simp [cellsH]
    have e2 : (hpC e.1).length = 2 := rfl
    rw [e1, List.length_append, cellsH_len L, e2, List.length_cons]
    omega
theorem cellsH_app (L M : List Ht) : cellsH (L ++ M) = cellsH L ++ cellsH M := by simp [cellsH]
theorem cellsH_at : ∀ (L : List Ht) (i : Nat) (e : Ht), L[i]? = some e → (cellsH L)[i * 2]? = some (.int .i64 e.1.cnt) ∧ (cellsH L)[i * 2 + 1]? = some (.slice e.1.A e.1.n e.1.c)
  | [], i, e, h => by cases h
  | a :: L, 0, e, h => by
    simp at h
    subst h
    exact ⟨rfl, rfl⟩
  | a :: L, i + 1, e, h => by
    have := cellsH_at L i e (by simpa using h)
    have e1 : cellsH (a :: L) = hpC a.1 ++ cellsH L := by simp [cellsH]
    have hl : (hpC a.1).length = 2 := rfl
    rw [e1]
    refine ⟨?_, ?_⟩
    · rw [List.getElem?_append_right (by omega), hl, show (i + 1) * 2 - 2 = i * 2 by omega]; exact this.1
    · rw [List.getElem?_append_right (by omega), hl, show (i + 1) * 2 + 1 - 2 = i * 2 + 1 by omega]; exact this.2
theorem cellsH_one (L : List Ht) : ∀ u ∈ cellsH L, u.oneCell' = true := by
  intro u hu
  obtain ⟨x, _, hx⟩ := List.mem_flatMap.1 hu
  simp [hpC] at hx
  rcases hx with rfl | rfl <;> rfl

/-- a slice that reads as a list of heaps -/
structure Hr (w : World) (A : Option Addr) (n : Nat) (L : List Ht) : Prop where
  len : L.length = n
  at_ : 0 < n → ∃ b off, A = some ⟨b, off, none⟩ ∧ b < w.heap.size ∧ ∀ (i : Nat) (e : Ht), L[i]? = some e → w.cell? ⟨b, off + i * 2, none⟩ = some (.int .i64 e.1.cnt) ∧ w.cell? ⟨b, off + i * 2 + 1, none⟩ = some (.slice e.1.A e.1.n e.1.c)
theorem Hr.on {w w' : World} {A : Option Addr} {n : Nat} {L : List Ht} (h : Hr w A n L) (k : Below w.heap.size w w') : Hr w' A n L :=
  ⟨h.len, fun h0 => by
    obtain ⟨b, off, e, hb, hc⟩ := h.at_ h0
    exact ⟨b, off, e, Nat.lt_of_lt_of_le hb k.size, fun i e he => ⟨(k.cell (p := ⟨b, off + i * 2, none⟩) hb).trans (hc i e he).1, (k.cell (p := ⟨b, off + i * 2 + 1, none⟩) hb).trans (hc i e he).2⟩⟩⟩
theorem Hr.drew {w : World} {A : Option Addr} {n : Nat} {L : List Ht} (h : Hr w A n L) : Hr w.drew A n L := ⟨h.len, h.at_⟩
theorem Hr.head {w : World} {A : Option Addr} {n : Nat} {L : List Ht} (h : Hr w A n L) {k : Nat} (hk : k ≤ n) : Hr w A k (L.take k) := by
  refine ⟨by have := h.len; rw [List.length_take]; omega, fun h0 => ?_⟩
  obtain ⟨b, off, e, hb, hc⟩ := h.at_ (by omega)
  refine ⟨b, off, e, hb, fun i x hx => hc i x ?_⟩
  have hi : i < k := by
    have := (List.getElem?_eq_some_iff.1 hx).1
    rw [List.length_take] at this
    omega
  rwa [List.getElem?_take_of_lt hi] at hx
theorem hr_tail {w : World} {b off n c : Nat} {L : List Ht} (h : Hr w (some ⟨b, off, none⟩) n L) {k : Nat} (hk : k ≤ n) (hc : n ≤ c) : Hr w (some ⟨b, if c = k then off else off + k * 2, none⟩) (n - k) (L.drop k) := by
  refine ⟨by have := h.len; rw [List.length_drop]; omega, fun h0 => ?_⟩
  obtain ⟨b', off', e, hb, hcell⟩ := h.at_ (by omega)
  cases e
  refine ⟨b, _, rfl, hb, fun i x hx => ?_⟩
  rw [List.getElem?_drop] at hx
  have := hcell (k + i) x hx
  rw [if_neg (by omega), show off + k * 2 + i * 2 = off + (k + i) * 2 by omega]
  exact this
theorem Hr.read {w : World} {ad : Addr} {n : Nat} {L : List Ht} (h : Hr w (some ad) n L) : ∀ j u, (cellsH L)[j]? = some u → w.cell? (ad.add j) = some u := by
  intro j u hu
  have hj : j < (cellsH L).length := (List.getElem?_eq_some_iff.1 hu).1
  rw [cellsH_len] at hj
  have hl := h.len
  obtain ⟨b, off, e, _, hc⟩ := h.at_ (by omega)
  injection e with e
  subst e
  rw [plain_add]
  obtain ⟨x, hx⟩ : ∃ x, L[j / 2]? = some x := ⟨L[j / 2]'(by omega), List.getElem?_eq_getElem (by omega)⟩
  have h1 := cellsH_at L _ _ hx
  have h2 := hc _ _ hx
  rcases Nat.mod_two_eq_zero_or_one j with hm | hm
  · have e2 : j = j / 2 * 2 := by omega
    rw [← e2] at h1 h2
    rw [h2.1, ← h1.1, hu]
  · have e2 : j = j / 2 * 2 + 1 := by omega
    rw [← e2] at h1
    rw [Nat.add_assoc, ← e2] at h2
    rw [h2.2, ← h1.2, hu]
theorem hr_of_own {w : World} {base : Nat} {v : Value} {n : Nat} {L : List Ht} (h : w.ownsRow base 69 2 v n (cellsH L)) : ∃ A c, v = .slice A n c ∧ n ≤ c ∧ Hr w A n L ∧ ∀ b off, A = some ⟨b, off, none⟩ → base ≤ b := by
  have hl : L.length = n := by have := h.1; rw [cellsH_len] at this; omega
  have hown := h
  rcases h.2 with ⟨rfl, rfl⟩ | ⟨g, cap, cur, rfl, hg, hh, hn, hm, _, _⟩
  · exact ⟨_, 0, rfl, Nat.le_refl _, ⟨hl, fun h0 => by omega⟩, fun b off e => by cases e⟩
  · refine ⟨some ⟨g, 0, none⟩, cap, rfl, hn, ⟨hl, fun _ => ⟨g, 0, rfl, (Array.getElem?_eq_some_iff.1 hh).1, fun i e he => ?_⟩⟩, fun b off e => by cases e; exact hg⟩
    have hi : i < n := by have := (List.getElem?_eq_some_iff.1 he).1; omega
    obtain ⟨h1, h2⟩ := cellsH_at L i e he
    exact ⟨by rw [Nat.zero_add, hown.cellAt (i * 2) (by omega), h1], by rw [Nat.zero_add, hown.cellAt (i * 2 + 1) (by omega), h2]⟩

theorem hp_info : (Try.prog.info? 69).map (fun i => (i.zero, i.size, i.bytes)) = some (some (.agg #[.int .i64 0, .slice none 0 0]), 2, 32) := by kernel_rfl
theorem info_partsH : ∃ i, Try.prog.info? 69 = some i ∧ i.zero = some (.agg #[.int .i64 0, .slice none 0 0]) ∧ i.size = 2 ∧ i.bytes = 32 := by
  obtain ⟨i, h1, h2⟩ := Option.map_eq_some_iff.1 hp_info
  simp only [Prod.mk.injEq] at h2
  exact ⟨i, h1, h2.1, h2.2.1, h2.2.2⟩
/-- what is appended to a row of one's own -/
theorem run_append_h (w : World) (ty : TypeId) (base : Nat) (v : Value) (n : Nat) (L : List Ht) (hown : w.ownsRow base 69 2 v n (cellsH L)) (ad : Addr) (m c : Nat) (M : List Ht) (hr : Hr w (some ad) m M) (h63 : n + m ≤ 1000000) (hbase : base ≤ w.heap.size) :
    ∃ v' w', (Builtin.append_ #[67, 67] ty #[v, .slice (some ad) m c]).run Try.prog w = .ok v' w' ∧ w'.ownsRow base 69 2 v' (n + m) (cellsH (L ++ M)) ∧ Below base w w' := by
  obtain ⟨i0, hi0, hz0, hz1, hz2⟩ := info_partsH
  obtain ⟨v', w', h0, h1, h2, _⟩ := run_append_own (P := Try.prog) w base 67 ty 69 i0 _ 2 32 Try.underlying67 hi0 hz0 hz1 hz2 rfl (by omega) v n (cellsH L) hown ad m c (cellsH M) (by rw [cellsH_len, hr.len]) hr.read (cellsH_one M) (by simp only [maxLen]; omega) (by omega) hbase
  rw [← cellsH_app] at h1
  exact ⟨v', w', h0, h1, (Below.refl base w).grown h2 hbase (fun j hj => (hown.lt j hj).1)⟩
theorem wpList_append_h {w : World} {ops : Array Oper} {rest : List Oper} {o : Oper} {a : Act} {Q : Exit → Act → World → Prop} (hgd : o.guard = none) (s x : Operand)
    (ho : o.op = .call { callee := .builtin .append, args := #[s, x], argTypes := #[67, 67] })
    (base : Nat) (v : Value) (n : Nat) (L : List Ht) (hs : a.eval s = v) (hown : w.ownsRow base 69 2 v n (cellsH L)) (ad : Addr) (m c : Nat) (M : List Ht)
    (hx : a.eval x = .slice (some ad) m c) (hr : Hr w (some ad) m M) (h63 : n + m ≤ 1000000) (hbase : base ≤ w.heap.size)
    (h : ∀ v' w', w'.ownsRow base 69 2 v' (n + m) (cellsH (L ++ M)) → Below base w w' → wpList Try.prog ops Q rest (a.put o.dst v') w') : wpList Try.prog ops Q (o :: rest) a w :=
  wpList_plain hgd fun _ hQ => by
    obtain ⟨v', w', h0, h1, h2⟩ := run_append_h w o.type base v n L hown ad m c M hr h63 hbase
    unfold Oper.wp
    simp [execOp, ho, resolve, invoke, builtin, hs, hx, h0, Result.andThen]
    exact hQ _ _ (h v' w' h1 h2)
theorem step_append_h {ops : Array Oper} {o : Oper} {a : Act} {w : World} {K : Act → World → Prop} {Q : Exit → Act → World → Prop} {E : Prop} (hgd : o.guard = none) (s x : Operand)
    (ho : o.op = .call { callee := .builtin .append, args := #[s, x], argTypes := #[67, 67] })
    (base : Nat) (v : Value) (n : Nat) (L : List Ht) (hs : a.eval s = v) (hown : w.ownsRow base 69 2 v n (cellsH L)) (ad : Addr) (m c : Nat) (M : List Ht)
    (hx : a.eval x = .slice (some ad) m c) (hr : Hr w (some ad) m M) (h63 : n + m ≤ 1000000) (hbase : base ≤ w.heap.size) (d : Option Tmp) (hd : o.dst = d)
    (h : ∀ v' w', w'.ownsRow base 69 2 v' (n + m) (cellsH (L ++ M)) → Below base w w' → K (a.put d v') w') :
    if Region.wanted o (yielded ops a.tmps) = true then Oper.wp Try.prog o a w K Q else E := by
  have hw : Region.wanted o (yielded ops a.tmps) = true := by simp [Region.wanted, hgd]
  rw [if_pos hw]
  subst hd
  obtain ⟨v', w', h0, h1, h2⟩ := run_append_h w o.type base v n L hown ad m c M hr h63 hbase
  unfold Oper.wp
  simp [execOp, ho, resolve, invoke, builtin, hs, hx, h0, Result.andThen]
  exact h v' w' h1 h2
/-- a heap in a new block -/
theorem hr_one (w : World) (x : Ht) : Hr (w.alloc (.cells (hpC x.1).toArray 69)) (some ⟨w.heap.size, 0, none⟩) 1 [x] := by
  refine ⟨rfl, fun _ => ⟨w.heap.size, 0, rfl, by simp, fun i e he => ?_⟩⟩
  have hb := Box.made w 69 (hpC x.1).toArray
  cases i with
  | zero =>
    simp at he
    subst he
    exact ⟨hb.cell 0, hb.cell 1⟩
  | succ i => simp at he
theorem hpC_one (h : Hp) : (hpC h).toArray.all (·.oneCell') = true := all_oneCell_toArray fun u hu => by
  simp [hpC] at hu
  rcases hu with rfl | rfl <;> rfl
/-- a row of one's own is as it was where only other blocks have turned -/
theorem own_kept {w w' : World} {base e size n : Nat} {v : Value} {xs : List Value} (h : w.ownsRow base e size v n xs) {S : Nat → Prop} (k : Kept S w w') (hS : ∀ g, base ≤ g → ¬ S g) : w'.ownsRow base e size v n xs := by
  refine ⟨h.1, ?_⟩
  rcases h.2 with ⟨a, b⟩ | ⟨g, cap, cur, hv, hg, hh, rest⟩
  · exact .inl ⟨a, b⟩
  · exact .inr ⟨g, cap, cur, hv, hg, (k.block g (Array.getElem?_eq_some_iff.1 hh).1 (hS g hg)).trans hh, rest⟩
theorem own_mono {w : World} {base base' e size n : Nat} {v : Value} {xs : List Value} (h : w.ownsRow base e size v n xs) (hb : base' ≤ base) : w.ownsRow base' e size v n xs := by
  refine ⟨h.1, ?_⟩
  rcases h.2 with ⟨a, b⟩ | ⟨g, cap, cur, hv, hg, rest⟩
  · exact .inl ⟨a, b⟩
  · exact .inr ⟨g, cap, cur, hv, Nat.le_trans hb hg, rest⟩
theorem hp_size : (Try.prog.info? 69).map (·.size) = some 2 := by kernel_rfl
/-- a heap is read whole -/
theorem Hr.range {w : World} {b off n : Nat} {L : List Ht} (h : Hr w (some ⟨b, off, none⟩) n L) {i : Nat} {x : Ht} (hx : L[i]? = some x) : w.rangeAt b (off + i * 2) (hpC x.1) := by
  have hi := (List.getElem?_eq_some_iff.1 hx).1
  have hl := h.len
  obtain ⟨b', off', e, _, hc⟩ := h.at_ (by omega)
  cases e
  have := hc i x hx
  intro j u hu
  match j, hu with
  | 0, hu => simp [hpC] at hu; subst hu; exact this.1
  | 1, hu => simp [hpC] at hu; subst hu; exact this.2
theorem range_on {w w' : World} {b o : Nat} {cs : List Value} (h : w.rangeAt b o cs) (k : Below w.heap.size w w') : w'.rangeAt b o cs := fun j u hu =>
  (k.cell (World.block_lt_of_cell? w ⟨b, o + j, none⟩ (h j u hu))).trans (h j u hu)
end Go.Proofs.Ytmaffonnekgekaa

namespace Go.Proofs.Ytmaffonnekgekaa
open Go.RowKit

/-- what the reference's take tells -/
def TookH (w : World) (cn : Nat → Nat) (L : List Ht) (e : Ending) (w' : World) : Prop :=
  ∃ (a : Ht) (rest : List Ht) (A : Option Addr) (c : Nat), e = .returned (.tuple #[hpV a.1, .slice A rest.length c]) ∧ L.Perm (a :: rest) ∧ (∀ x ∈ rest, ¬ Bef cn x.2 a.2) ∧ w'.ownsRow w.heap.size 69 2 (.slice A rest.length c) rest.length (cellsH rest) ∧ Below w.heap.size w w'

/-- the first k do not go ahead of the one at p -/
def Least (cn : Nat → Nat) (L : List Ht) (k p : Nat) : Prop := ∀ j x y, j < k → L[j]? = some x → L[p]? = some y → ¬ Bef cn x.2 y.2
theorem Least.yes {cn : Nat → Nat} {L : List Ht} {k p : Nat} {x y : Ht} (h : Least cn L k p) (hk : L[k]? = some x) (hp : L[p]? = some y) (hb : Bef cn x.2 y.2) : Least cn L (k + 1) k := by
  intro j u v hj hu hv
  rw [hk] at hv
  cases hv
  rcases Nat.lt_or_ge j k with h' | h'
  · have h1 := h j u y h' hu hp
    unfold Bef at *
    omega
  · obtain rfl : j = k := by omega
    rw [hk] at hu
    cases hu
    unfold Bef
    omega
theorem Least.no {cn : Nat → Nat} {L : List Ht} {k p : Nat} {x y : Ht} (h : Least cn L k p) (hk : L[k]? = some x) (hp : L[p]? = some y) (hb : ¬ Bef cn x.2 y.2) : Least cn L (k + 1) p := by
  intro j u v hj hu hv
  rcases Nat.lt_or_ge j k with h' | h'
  · exact h j u v h' hu hv
  · obtain rfl : j = k := by omega
    rw [hk] at hu
    cases hu
    rw [hp] at hv
    cases hv
    exact hb
theorem split_at {L : List Ht} {p : Nat} {a : Ht} (h : L[p]? = some a) : L.Perm (a :: (L.take p ++ L.drop (p + 1))) ∧ L = L.take p ++ a :: L.drop (p + 1) := by
  obtain ⟨hi, he⟩ := List.getElem?_eq_some_iff.1 h
  have e1 : L = L.take p ++ a :: L.drop (p + 1) := by rw [← he, List.getElem_cons_drop, List.take_append_drop]
  refine ⟨?_, e1⟩
  have := List.perm_middle (a := a) (l₁ := L.take p) (l₂ := L.drop (p + 1))
  rw [← e1] at this
  exact this
theorem run_slice_hp (w : World) (b off n c q : Nat) (hq : q ≤ n) : (Instr.slice 67 (.slice (some ⟨b, off, none⟩) n c) (some (.int .i64 (q : Int))) none none).run Try.prog w = .ok (.slice (some ⟨b, if c = q then off else off + q * 2, none⟩) (n - q) (c - q)) w := by
  have hs : ∀ w, (sizeOf (Try.prog.elem 67)).run Try.prog w = .ok 2 w := fun w => by kernel_rfl
  rw [run_slice_l (P := Try.prog) (w := w) 67 (some ⟨b, off, none⟩) n c Try.underlying67 .i64 (q : Int) (by omega) (by omega)]
  rw [hs]
  simp only [Result.andThen_ok, sliced, Int.toNat_natCast]
  by_cases h : c = q
  · rw [if_pos h, if_pos h]
  · rw [if_neg h, if_neg h]
    simp only [Option.map_some, plain_add]
theorem zero69 (w : World) : (zeroValue 69).run Try.prog w = .ok (.agg #[.int .i64 0, .slice none 0 0]) w := by kernel_rfl

set_option linter.unusedSimpArgs false in
set_option maxRecDepth 20000 in
set_option maxHeartbeats 3200000 in
theorem takeH_any (w : World) (o : Nat) (cn : Nat → Nat) (L : List Ht) (A : Option Addr) (n c : Nat) (h : Hr w A n L) (hn0 : 0 < n) (hn : n ≤ 300) (hc : n ≤ c) (hr : ∀ x ∈ L, Reads w o x.1 cn x.2 ∧ x.2.length ≤ 300) :
    Calls Try.prog 30 #[.slice A n c] w (TookH w cn L) := by
  have hz := zero69
  obtain ⟨b, off, hA, hbl, _⟩ := h.at_ hn0
  subst hA
  obtain ⟨r, hrr⟩ : ∃ r, r = w.heap.size := ⟨_, rfl⟩
  obtain ⟨w1, hw1⟩ : ∃ w1, w1 = w.alloc (.cells #[.int .i64 0, .slice none 0 0] 69) := ⟨_, rfl⟩
  have b1 : Box w1 r 69 #[.int .i64 0, .slice none 0 0] := by rw [hw1, hrr]; exact Box.made _ _ _
  have bel : Below w.heap.size w w1 := by rw [hw1]; exact on_alloc _ _
  have H1 := Lib.hid (And.intro b1 (And.intro bel (And.intro (h.on bel) (And.intro hw1 (And.intro hrr (And.intro h.len (fun x hx => And.intro ((hr x hx).1.on bel) (hr x hx).2)))))))
  have hne : b ≠ r := by omega
  clear b1 bel hw1 hrr h hr hbl
  go_enter Try.func30, Try.ntmps30
  go_wp2
  rw [← H1.out.2.2.2.1, ← H1.out.2.2.2.2.1]
  go_loopw [5, 4] (fun i q wr => ∃ k p : Nat, k ≤ n ∧ p < k ∧ i = .int .i64 k ∧ q = .int .i64 p ∧ Least cn L k p ∧ Below w1.heap.size w1 wr) (fun i _ _ => n - (intOf i).toNat)
  case atStart =>
    refine ⟨1, 0, by omega, by omega, rfl, rfl, fun j x y hj hx hy => ?_, Below.refl _ _⟩
    obtain rfl : j = 0 := by omega
    rw [hx] at hy
    cases hy
    unfold Bef
    omega
  case round =>
    obtain ⟨k, p, hk, hp, rfl, rfl, hL, hB⟩ := hrel
    have hH := H1.out.2.2.1.on hB
    have hl := H1.out.2.2.2.2.2.1
    obtain ⟨y, hy⟩ : ∃ y, L[p]? = some y := ⟨L[p]'(by omega), List.getElem?_eq_getElem (by omega)⟩
    have hry := hH.range hy
    by_cases hlt : k < n
    · have hlti : (k : Int) < (n : Int) := by omega
      have hpi : (p : Int) < (n : Int) := by omega
      obtain ⟨x, hx⟩ : ∃ x, L[k]? = some x := ⟨L[k]'(by omega), List.getElem?_eq_getElem (by omega)⟩
      have hrx := hH.range hx
      have hxR := H1.out.2.2.2.2.2.2 x (List.mem_of_getElem? hx)
      have hyR := H1.out.2.2.2.2.2.2 y (List.mem_of_getElem? hy)
      have HR := Lib.hid (And.intro hL (And.intro hB (And.intro hx (And.intro hy (And.intro hxR hyR)))))
      have HS := Lib.hid (And.intro hrx hry)
      clear hL hB hx hy hxR hyR hrx hry hH
      go_wp2_with fail
      refine wp_region_held_drew (S := fun w' => w'.rangeAt b (off + k * 2) (hpC x.1) ∧ w'.rangeAt b (off + p * 2) (hpC y.1)) (by kernel_rfl) HS.out fun s0 => ?_
      refine take_to (i := 0) (v := .slice (some ⟨b, off, none⟩) n c) rfl (by kernel_rfl) (by kernel_rfl) (by kernel_rfl) (fun _ _ _ h => h) (Or.inl ⟨by rfl, fun w' _ => by go_simp⟩) s0 (some 13) rfl ?_
      simp only [Act.put, List.setIfInBounds_toArray, List.set_cons_zero, List.set_cons_succ]
      refine take_to (i := 1) (v := .int .i64 (k : Int)) rfl (by kernel_rfl) (by kernel_rfl) (by kernel_rfl) (fun _ _ _ h => h) (Or.inl ⟨by rfl, fun w' _ => by go_simp⟩) s0 (some 14) rfl ?_
      simp only [Act.put, List.setIfInBounds_toArray, List.set_cons_zero, List.set_cons_succ]
      refine take_to (i := 2) (v := .pointer (some ⟨b, off + k * 2, none⟩)) rfl (by kernel_rfl) (by kernel_rfl) (by kernel_rfl) (fun _ _ _ h => h) (Or.inl ⟨by rfl, fun w' _ => by go_simp⟩) s0 (some 15) rfl ?_
      simp only [Act.put, List.setIfInBounds_toArray, List.set_cons_zero, List.set_cons_succ]
      refine take_to (i := 3) rfl (by kernel_rfl) (by kernel_rfl) (by kernel_rfl) (fun _ _ _ h => h) (yieldsIf_load_mid (by rfl) 69 _ rfl b (off + k * 2) rfl (hpC x.1) _ (fun w' h => h.1) Try.underlying69 rfl (by rw [hp_size]; rfl)) s0 (some 16) rfl ?_
      simp only [Act.put, List.setIfInBounds_toArray, List.set_cons_zero, List.set_cons_succ]
      refine take_to (i := 4) (v := .slice (some ⟨b, off, none⟩) n c) rfl (by kernel_rfl) (by kernel_rfl) (by kernel_rfl) (fun _ _ _ h => h) (Or.inl ⟨by rfl, fun w' _ => by go_simp⟩) s0 (some 17) rfl ?_
      simp only [Act.put, List.setIfInBounds_toArray, List.set_cons_zero, List.set_cons_succ]
      refine take_to (i := 5) (v := .int .i64 (p : Int)) rfl (by kernel_rfl) (by kernel_rfl) (by kernel_rfl) (fun _ _ _ h => h) (Or.inl ⟨by rfl, fun w' _ => by go_simp⟩) s0 (some 18) rfl ?_
      simp only [Act.put, List.setIfInBounds_toArray, List.set_cons_zero, List.set_cons_succ]
      refine take_to (i := 6) (v := .pointer (some ⟨b, off + p * 2, none⟩)) rfl (by kernel_rfl) (by kernel_rfl) (by kernel_rfl) (fun _ _ _ h => h) (Or.inl ⟨by rfl, fun w' _ => by go_simp⟩) s0 (some 19) rfl ?_
      simp only [Act.put, List.setIfInBounds_toArray, List.set_cons_zero, List.set_cons_succ]
      refine take_to (i := 7) rfl (by kernel_rfl) (by kernel_rfl) (by kernel_rfl) (fun _ _ _ h => h) (yieldsIf_load_mid (by rfl) 69 _ rfl b (off + p * 2) rfl (hpC y.1) _ (fun w' h => h.2) Try.underlying69 rfl (by rw [hp_size]; rfl)) s0 (some 20) rfl ?_
      simp only [Act.put, List.setIfInBounds_toArray, List.set_cons_zero, List.set_cons_succ]
      refine wpAnyH_ready (rs := [8]) (by kernel_rfl) (by simp) ?_
      refine AllReadyH.cons rfl (fun K hK => ?_) AllReadyH.nil
      go_simp
      have HB := Lib.hid (before_any wr.drew o x.1 y.1 cn x.2 y.2 (HR.out.2.2.2.2.1.1.on ⟨HR.out.2.1.os, HR.out.2.1.tape, HR.out.2.1.output, HR.out.2.1.size, HR.out.2.1.block⟩) (HR.out.2.2.2.2.2.1.on ⟨HR.out.2.1.os, HR.out.2.1.tape, HR.out.2.1.output, HR.out.2.1.size, HR.out.2.1.block⟩) HR.out.2.2.2.2.1.2 HR.out.2.2.2.2.2.2)
      refine HB.out.mono ?_
      rintro e w3 ⟨d, rfl, hd, b3⟩
      have hB3 : Below w1.heap.size w1 w3 := on_trans HR.out.2.1 ⟨b3.os, b3.tape, b3.output, b3.size, b3.block⟩
      have H3 := Lib.hid (And.intro hd hB3)
      refine hK.out _ _ ⟨range_on s0.1 b3, range_on s0.2 b3⟩ fun s1 => ?_
      clear hK K s0 b3 hd hB3 HB
      refine wpAnyH_done (by kernel_rfl) ?_ _
      clear s1
      cases d with
      | true =>
        go_wp2
        go_roundw
        case rel => exact ⟨k + 1, k, by omega, by omega, by go_num, rfl, HR.out.1.yes HR.out.2.2.1 HR.out.2.2.2.1 (H3.out.1.1 rfl), H3.out.2⟩
        case measure => simp [intOf]; omega
      | false =>
        go_wp2
        go_roundw
        case rel => exact ⟨k + 1, p, by omega, by omega, by go_num, rfl, HR.out.1.no HR.out.2.2.1 HR.out.2.2.2.1 (fun h => absurd (H3.out.1.2 h) (by simp)), H3.out.2⟩
        case measure => simp [intOf]; omega
    · have ek : k = n := by omega
      subst ek
      obtain ⟨hperm, hsplit⟩ := split_at hy
      have hb1 := H1.out.1.on hB
      have hxa : ∀ x ∈ L.take p ++ L.drop (p + 1), ¬ Bef cn x.2 y.2 := fun x hx => by
        obtain ⟨j, hj⟩ := List.getElem?_of_mem (hperm.mem_iff.2 (List.mem_cons_of_mem _ hx))
        exact hL j x y (by have := (List.getElem?_eq_some_iff.1 hj).1; omega) hj hy
      obtain ⟨q, hq⟩ : ∃ q, q = p + 1 := ⟨_, rfl⟩
      have hqi : (p : Int) + 1 = (q : Int) := by omega
      have hpi : (p : Int) < (k : Int) := by omega
      have hpc : (p : Int) ≤ (c : Int) := by omega
      have hqk : q ≤ k := by omega
      rw [← hq] at hperm hxa hsplit
      have HR := Lib.hid (And.intro hperm (And.intro hxa (And.intro hH (And.intro hb1 (And.intro hB (And.intro hq hy))))))
      have HT := Lib.hid (And.intro (hH.head (show p ≤ k by omega)) hry)
      clear hperm hxa hH hb1 hB hq hy hL hry hsplit
      go_wp2_with (first
        | (at_builtin; refine wpList_append_h (o := ⟨some 27, _, _, _, _, _⟩) rfl (.tmp 23) (.tmp 26) rfl wr.heap.size (.slice (some ⟨wr.heap.size, 0, none⟩) 0 0) 0 [] rfl (World.ownsRow_made (base := wr.heap.size) (e := 69) (size := 2) wr #[] 0 (Nat.le_refl _) (Nat.zero_le _) rfl) ⟨b, off, none⟩ p c (L.take p) rfl (HT.out.1.on (on_alloc _ _)) (by omega) (by simp) ?_; intro v6 w6 hown6 b6; rw [Nat.zero_add, List.nil_append] at hown6; have H6 := Lib.hid (And.intro hown6 ((on_alloc wr _).trans b6)); clear hown6 b6)
        | fail)
      obtain ⟨A6, c6, hv6⟩ := own_slice H6.out.1
      subst hv6
      have hbw : b < wr.heap.size := by
        obtain ⟨b', off', e, hb', _⟩ := HR.out.2.2.1.at_ (by omega)
        cases e
        exact hb'
      have hrw : r < wr.heap.size := HR.out.2.2.2.1.lt
      have b6 := H6.out.2
      have HS := Lib.hid (show w6.rangeAt b (off + p * 2) (hpC y.1) ∧ Box w6 r 69 #[.int .i64 0, .slice none 0 0] from ⟨range_on HT.out.2 b6, HR.out.2.2.2.1.on b6⟩)
      have hkc : k ≤ c := by omega
      clear b6
      refine wp_region_held_drew (S := fun w' => w'.rangeAt b (off + p * 2) (hpC y.1)) (by kernel_rfl) HS.out.1 fun s0 => ?_
      refine take_to (i := 0) (v := .slice (some ⟨b, off, none⟩) k c) rfl (by kernel_rfl) (by kernel_rfl) (by kernel_rfl) (fun _ _ _ h => h) (Or.inl ⟨by rfl, fun w' _ => by go_simp⟩) s0 (some 28) rfl ?_
      simp only [Act.put, List.setIfInBounds_toArray, List.set_cons_zero, List.set_cons_succ]
      refine take_to (i := 1) (v := .int .i64 (p : Int)) rfl (by kernel_rfl) (by kernel_rfl) (by kernel_rfl) (fun _ _ _ h => h) (Or.inl ⟨by rfl, fun w' _ => by go_simp⟩) s0 (some 29) rfl ?_
      simp only [Act.put, List.setIfInBounds_toArray, List.set_cons_zero, List.set_cons_succ]
      refine take_to (i := 2) (v := .pointer (some ⟨b, off + p * 2, none⟩)) rfl (by kernel_rfl) (by kernel_rfl) (by kernel_rfl) (fun _ _ _ h => h) (Or.inl ⟨by rfl, fun w' _ => by go_simp⟩) s0 (some 30) rfl ?_
      simp only [Act.put, List.setIfInBounds_toArray, List.set_cons_zero, List.set_cons_succ]
      refine take_to (i := 3) rfl (by kernel_rfl) (by kernel_rfl) (by kernel_rfl) (fun _ _ _ h => h) (yieldsIf_load_mid (by rfl) 69 _ rfl b (off + p * 2) rfl (hpC y.1) _ (fun w' h => h) Try.underlying69 rfl (by rw [hp_size]; rfl)) s0 (some 31) rfl ?_
      simp only [Act.put, List.setIfInBounds_toArray, List.set_cons_zero, List.set_cons_succ]
      refine take_to (i := 4) (v := .slice A6 p c6) rfl (by kernel_rfl) (by kernel_rfl) (by kernel_rfl) (fun _ _ _ h => h) (Or.inl ⟨by rfl, fun w' _ => by go_simp⟩) s0 (some 32) rfl ?_
      simp only [Act.put, List.setIfInBounds_toArray, List.set_cons_zero, List.set_cons_succ]
      refine take_to (i := 5) (v := .slice (some ⟨b, off, none⟩) k c) rfl (by kernel_rfl) (by kernel_rfl) (by kernel_rfl) (fun _ _ _ h => h) (Or.inl ⟨by rfl, fun w' _ => by go_simp⟩) s0 (some 33) rfl ?_
      simp only [Act.put, List.setIfInBounds_toArray, List.set_cons_zero, List.set_cons_succ]
      refine take_to (i := 6) (v := .int .i64 (p : Int)) rfl (by kernel_rfl) (by kernel_rfl) (by kernel_rfl) (fun _ _ _ h => h) (Or.inl ⟨by rfl, fun w' _ => by go_simp⟩) s0 (some 34) rfl ?_
      simp only [Act.put, List.setIfInBounds_toArray, List.set_cons_zero, List.set_cons_succ]
      refine take_to (i := 7) (v := .int .i64 (q : Int)) rfl (by kernel_rfl) (by kernel_rfl) (by kernel_rfl) (fun _ _ _ h => h) (Or.inl ⟨by rfl, fun w' _ => by have hw := wrap_small (z := (q : Int)) (by omega) (by omega); go_simp⟩) s0 (some 35) rfl ?_
      simp only [Act.put, List.setIfInBounds_toArray, List.set_cons_zero, List.set_cons_succ]
      refine take_to (i := 8) (v := .slice (some ⟨b, if c = q then off else off + q * 2, none⟩) (k - q) (c - q)) rfl (by kernel_rfl) (by kernel_rfl) (by kernel_rfl) (fun _ _ _ h => h) (Or.inl ⟨by rfl, fun w' _ => by have := run_slice_hp w' b off k c q hqk; go_simp⟩) s0 (some 36) rfl ?_
      simp only [Act.put, List.setIfInBounds_toArray, List.set_cons_zero, List.set_cons_succ]
      refine wpAnyH_ready (rs := [9]) (by kernel_rfl) (by simp) ?_
      refine AllReadyH.cons rfl (fun K hK => ?_) AllReadyH.nil
      refine step_append_h rfl (.tmp 32) (.tmp 36) rfl wr.heap.size (.slice A6 p c6) p (L.take p) rfl H6.out.1 ⟨b, if c = q then off else off + q * 2, none⟩ (k - q) (c - q) (L.drop q) rfl (hr_tail (HR.out.2.2.1.on H6.out.2).drew hqk hkc) (by omega) (Nat.le_trans H6.out.2.size (Nat.le_refl _)) (some 37) rfl ?_
      intro v9 w9 hown9 b9
      have hb9 : Below wr.heap.size w6 w9 := ⟨b9.os, b9.tape, b9.output, b9.size, b9.block⟩
      have h9 : w9.rangeAt b (off + p * 2) (hpC y.1) ∧ Box w9 r 69 #[.int .i64 0, .slice none 0 0] := ⟨fun j u hu => (hb9.cell (p := ⟨b, off + p * 2 + j, none⟩) hbw).trans (HS.out.1 j u hu), HS.out.2.bel hb9 hrw⟩
      have H9 := Lib.hid (And.intro hown9 (And.intro (H6.out.2.trans hb9) h9.2))
      simp only [Act.put, List.setIfInBounds_toArray, List.set_cons_zero, List.set_cons_succ]
      refine hK.out _ _ h9.1 fun s1 => ?_
      clear hK K s0 hown9 b9 hb9 h9
      refine wpAnyH_ready (rs := [10]) (by kernel_rfl) (by simp) ?_
      refine AllReadyH.cons rfl (fun K hK => ?_) AllReadyH.nil
      rw [if_pos (by rfl)]
      refine wp_store_row 69 (.tmp 2) (.tmp 31) rfl r (hpC y.1).toArray rfl rfl 69 #[.int .i64 0, .slice none 0 0] H9.out.2.2 (by rw [hp_size]; rfl) rfl (hpC_one y.1) ?_
      obtain ⟨w10, hw10⟩ : ∃ w10, w10 = w9.setRow r (hpC y.1).toArray := ⟨_, rfl⟩
      rw [← hw10]
      have h10 : Box w10 r 69 (hpC y.1).toArray := by rw [hw10]; exact setRow_heap w9 r _ _ 69 _ H9.out.2.2
      have k10 : Kept (fun i => i = r) w9 w10 := by rw [hw10]; exact ⟨rfl, rfl, rfl, by simp, fun k _ hk => setRow_other w9 r k _ hk⟩
      have d0 : w10.cell? ⟨r, 0, none⟩ = some (.int .i64 y.1.cnt) := h10.cell 0
      have d1 : w10.cell? ⟨r, 1, none⟩ = some (.slice y.1.A y.1.n y.1.c) := h10.cell 1
      have hown10 := own_kept H9.out.1 k10 (fun g hg e => by omega)
      have e10 : (L.take p ++ L.drop q).length = p + (k - q) := by
        have := H1.out.2.2.2.2.2.1
        rw [List.length_append, List.length_take, List.length_drop]
        omega
      rw [← e10] at hown10
      obtain ⟨Af, cf, hvf⟩ := own_slice hown10
      subst hvf
      have hbel10 : Below w.heap.size w w10 := by
        have h1 := on_trans H1.out.2.1 HR.out.2.2.2.2.1
        have h2 := h1.trans (H9.out.2.1.mono h1.size)
        have hrr := H1.out.2.2.2.2.1
        exact h2.trans (k10.below h2.size (fun i hi e => by omega))
      have H10 := Lib.hid (And.intro hown10 hbel10)
      have s10 : w10.rangeAt b (off + p * 2) (hpC y.1) := by
        intro j u hu
        have h1 := s1 j u hu
        exact (k10.cell (p := ⟨b, off + p * 2 + j, none⟩) (World.block_lt_of_cell? w9 _ h1) hne).trans h1
      refine hK.out _ _ s10 fun s2 => ?_
      clear hK K s1 hown10 hbel10 h10 k10 hw10 s10
      show wpAnyH Try.prog .any _ _ _ _ _ _ w10
      refine take_to (i := 11) (v := .slice Af (L.take p ++ L.drop q).length cf) rfl (by kernel_rfl) (by kernel_rfl) (by kernel_rfl) (fun _ _ _ h => h) (Or.inl ⟨by rfl, fun w' _ => by go_simp⟩) s2 (some 3) rfl ?_
      simp only [Act.put, List.setIfInBounds_toArray, List.set_cons_zero, List.set_cons_succ]
      refine wpAnyH_done (by kernel_rfl) ?_ _
      clear s2
      go_wp2
      all_goals
        (refine bodyPost_ret (v := .tuple #[hpV y.1, .slice Af (p + (k - q)) cf]) (by simp [hpV, results, Try.results30, go_sem, d0, d1]) rfl ?_
         refine ⟨y, L.take p ++ L.drop q, Af, cf, ?_, HR.out.1, HR.out.2.1, own_mono H10.out.1 (on_trans H1.out.2.1 HR.out.2.2.2.2.1).size, H10.out.2⟩
         rw [e10])
end Go.Proofs.Ytmaffonnekgekaa
