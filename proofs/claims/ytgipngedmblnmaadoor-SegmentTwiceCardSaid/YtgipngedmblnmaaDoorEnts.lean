/-
  The reference's list of codes in memory. The contracts of the reference's Power, Digits and Put. The contract of the reference's Bytes. The contract of Right. A map from codes to values, in memory.
-/
import Derived.Test.YtgipngedmblnmaaDoorHMath
namespace Go.Proofs.YtgipngedmblnmaaDoor
open Go.RowKit

/-- the cells of an entry, and of a list of them -/
def cellsEn (e : En) : List Value := [.int .i64 e.1, .int .i64 (e.2.1 : Int), .int .i64 (e.2.2 : Int)]
def cellsE (L : List En) : List Value := L.flatMap cellsEn
theorem cellsE_len : ∀ L : List En, (cellsE L).length = L.length * 3
  | [] => rfl
  | e :: L => by
    have := cellsE_len L
    simp only [cellsE] at this
    simp [cellsE, cellsEn, this]
    omega
theorem cellsE_app (L M : List En) : cellsE (L ++ M) = cellsE L ++ cellsE M := by simp [cellsE]
theorem cellsE_at : ∀ (L : List En) (i : Nat) (e : En), L[i]? = some e → (cellsE L)[i * 3]? = some (.int .i64 e.1) ∧ (cellsE L)[i * 3 + 1]? = some (.int .i64 (e.2.1 : Int)) ∧ (cellsE L)[i * 3 + 2]? = some (.int .i64 (e.2.2 : Int))
  | [], i, e, h => by cases h
  | a :: L, 0, e, h => by
    simp at h
    subst h
    exact ⟨rfl, rfl, rfl⟩
  | a :: L, i + 1, e, h => by
    have := cellsE_at L i e (by simpa using h)
    have e1 : cellsE (a :: L) = cellsEn a ++ cellsE L := by simp [cellsE]
    have hl : (cellsEn a).length = 3 := rfl
    rw [e1]
    refine ⟨?_, ?_, ?_⟩
    · rw [List.getElem?_append_right (by omega), hl, show (i + 1) * 3 - 3 = i * 3 by omega]; exact this.1
    · rw [List.getElem?_append_right (by omega), hl, show (i + 1) * 3 + 1 - 3 = i * 3 + 1 by omega]; exact this.2.1
    · rw [List.getElem?_append_right (by omega), hl, show (i + 1) * 3 + 2 - 3 = i * 3 + 2 by omega]; exact this.2.2

/-- a slice that reads as a list of entries -/
structure Te (w : World) (A : Option Addr) (n : Nat) (L : List En) : Prop where
  len : L.length = n
  at_ : 0 < n → ∃ b off, A = some ⟨b, off, none⟩ ∧ b < w.heap.size ∧ ∀ (i : Nat) (e : En), L[i]? = some e →
    w.cell? ⟨b, off + i * 3, none⟩ = some (.int .i64 e.1) ∧ w.cell? ⟨b, off + i * 3 + 1, none⟩ = some (.int .i64 (e.2.1 : Int)) ∧ w.cell? ⟨b, off + i * 3 + 2, none⟩ = some (.int .i64 (e.2.2 : Int))
theorem Te.on {w w' : World} {A : Option Addr} {n : Nat} {L : List En} (h : Te w A n L) (k : Below w.heap.size w w') : Te w' A n L :=
  ⟨h.len, fun h0 => by
    obtain ⟨b, off, e, hb, hc⟩ := h.at_ h0
    exact ⟨b, off, e, Nat.lt_of_lt_of_le hb k.size, fun i e he => ⟨(k.cell (p := ⟨b, off + i * 3, none⟩) hb).trans (hc i e he).1, (k.cell (p := ⟨b, off + i * 3 + 1, none⟩) hb).trans (hc i e he).2.1, (k.cell (p := ⟨b, off + i * 3 + 2, none⟩) hb).trans (hc i e he).2.2⟩⟩⟩
theorem Te.kept {w w' : World} {S : Nat → Prop} {A : Option Addr} {n : Nat} {L : List En} (h : Te w A n L) (k : Kept S w w') (hS : ∀ b, b < w.heap.size → ¬ S b) : Te w' A n L :=
  ⟨h.len, fun h0 => by
    obtain ⟨b, off, e, hb, hc⟩ := h.at_ h0
    exact ⟨b, off, e, Nat.lt_of_lt_of_le hb k.size, fun i e he => ⟨(k.cell (p := ⟨b, off + i * 3, none⟩) hb (hS b hb)).trans (hc i e he).1, (k.cell (p := ⟨b, off + i * 3 + 1, none⟩) hb (hS b hb)).trans (hc i e he).2.1, (k.cell (p := ⟨b, off + i * 3 + 2, none⟩) hb (hS b hb)).trans (hc i e he).2.2⟩⟩⟩
theorem te_of_own {w : World} {base : Nat} {v : Value} {n : Nat} {L : List En} (h : w.ownsRow base 108 3 v n (cellsE L)) : ∃ A c, v = .slice A n c ∧ Te w A n L ∧ ∀ b off, A = some ⟨b, off, none⟩ → base ≤ b := by
  have hl : L.length = n := by have := h.1; rw [cellsE_len] at this; omega
  have hown := h
  rcases h.2 with ⟨rfl, rfl⟩ | ⟨g, cap, cur, rfl, hg, hh, hn, hm, _, _⟩
  · exact ⟨_, 0, rfl, ⟨hl, fun h0 => by omega⟩, fun b off e => by cases e⟩
  · refine ⟨some ⟨g, 0, none⟩, cap, rfl, ⟨hl, fun _ => ⟨g, 0, rfl, (Array.getElem?_eq_some_iff.1 hh).1, fun i e he => ?_⟩⟩, fun b off e => by cases e; exact hg⟩
    have hi : i < n := by have := (List.getElem?_eq_some_iff.1 he).1; omega
    obtain ⟨h1, h2, h3⟩ := cellsE_at L i e he
    refine ⟨?_, ?_, ?_⟩
    · rw [Nat.zero_add, hown.cellAt (i * 3) (by omega), h1]
    · rw [Nat.zero_add, hown.cellAt (i * 3 + 1) (by omega), h2]
    · rw [Nat.zero_add, hown.cellAt (i * 3 + 2) (by omega), h3]

theorem en_info : (Tryd.prog.info? 108).map (fun i => (i.zero, i.size, i.bytes)) = some (some (.agg #[.int .i64 0, .int .i64 0, .int .i64 0]), 3, 24) := by kernel_rfl
theorem info_parts3 : ∃ i, Tryd.prog.info? 108 = some i ∧ i.zero = some (.agg #[.int .i64 0, .int .i64 0, .int .i64 0]) ∧ i.size = 3 ∧ i.bytes = 24 := by
  obtain ⟨i, h1, h2⟩ := Option.map_eq_some_iff.1 en_info
  simp only [Prod.mk.injEq] at h2
  exact ⟨i, h1, h2.1, h2.2.1, h2.2.2⟩
/-- an append of one entry to a row of one's own -/
theorem wpList_append_en {w : World} {ops : Array Oper} {rest : List Oper} {o : Oper} {a : Act} {Q : Exit → Act → World → Prop} (hgd : o.guard = none) (s x : Operand)
    (ho : o.op = .call { callee := .builtin .append, args := #[s, x], argTypes := #[84, 84] })
    (base : Nat) (v : Value) (n : Nat) (L : List En) (e : En) (hs : a.eval s = v) (hown : w.ownsRow base 108 3 v n (cellsE L)) (g : Nat)
    (hx : a.eval x = .slice (some ⟨g, 0, none⟩) 1 1) (hb : Box w g 108 (cellsEn e).toArray) (hn : n ≤ 1000) (hbase : base ≤ w.heap.size)
    (h : ∀ v' w', w'.ownsRow base 108 3 v' (n + 1) (cellsE (L ++ [e])) → Below base w w' → wpList Tryd.prog ops Q rest (a.put o.dst v') w') : wpList Tryd.prog ops Q (o :: rest) a w := by
  obtain ⟨i0, hi0, hz0, hz1, hz2⟩ := info_parts3
  refine wpList_append_own _ hgd s x 84 ho base 108 i0 _ 3 24 Tryd.underlying84 hi0 hz0 hz1 hz2 rfl (by omega) v n (cellsE L) hs hown ⟨g, 0, none⟩ 1 1 (cellsEn e) hx rfl ?_ ?_ (by unfold maxLen; omega) (by omega) hbase ?_
  · intro j u hu
    rw [plain_add, Nat.zero_add, hb.cell j]
    simpa using hu
  · intro u hu
    simp [cellsEn] at hu
    rcases hu with rfl | rfl | rfl <;> rfl
  · intro v' w' h1 h2 _
    have e1 : cellsE (L ++ [e]) = cellsE L ++ cellsEn e := by rw [cellsE_app]; simp [cellsE]
    rw [← e1] at h1
    exact h v' w' h1 ((Below.refl base w).grown h2 hbase (fun j hj => (hown.lt j hj).1))
theorem ents_nil_own (w : World) (base : Nat) : w.ownsRow base 108 3 (.slice none 0 0) 0 (cellsE []) := ⟨rfl, .inl ⟨rfl, rfl⟩⟩
end Go.Proofs.YtgipngedmblnmaaDoor

namespace Go.Proofs.YtgipngedmblnmaaDoor
open Go.RowKit

set_option maxHeartbeats 400000 in
theorem power_any (w : World) (n : Nat) (hn : n ≤ 24) : Calls Tryd.prog 69 #[.int .i64 (n : Int)] w fun e w' => e = .returned (.int .i64 ((2 ^ n : Nat) : Int)) ∧ w = w' := by
  go_enter Tryd.func69, Tryd.ntmps69
  go_wp2
  go_loop [3, 4] (fun p i => ∃ k : Nat, k ≤ n ∧ p = .int .i64 ((2 ^ k : Nat) : Int) ∧ i = .int .i64 k) (fun _ i => n - (intOf i).toNat)
  case atStart => exact ⟨0, Nat.zero_le _, rfl, rfl⟩
  case round =>
    obtain ⟨k, hk, rfl, rfl⟩ := hrel
    obtain ⟨q, hq⟩ : ∃ q, q = 2 ^ k := ⟨_, rfl⟩
    have hq1 : q ≤ 16777216 := by rw [hq]; exact Nat.le_trans (Nat.pow_le_pow_right (by omega) (show k ≤ 24 by omega)) (by decide)
    rw [← hq]
    have HQ := Lib.hid hq
    clear hq
    by_cases hlt : k < n
    · go_wp2
      go_round
      case rel =>
        refine ⟨k + 1, by omega, ?_, by go_num⟩
        rw [Nat.pow_succ, ← HQ.out]
        congr 1
      case measure => simp [intOf]; omega
    · have ek : k = n := by omega
      have HE := Lib.hid ek
      clear ek
      go_wp2
      go_ret
      obtain rfl := HE.out
      exact ⟨by rw [HQ.out]; simp, rfl⟩

end Go.Proofs.YtgipngedmblnmaaDoor

namespace Go.Proofs.YtgipngedmblnmaaDoor
open Go.RowKit

theorem Valid.diff {B V : List Int} (h : Valid B V) : Diff V := ⟨h.rng, h.dif⟩
theorem Valid.fit {B V : List Int} (h : Valid B V) : FitOk B V.length := ⟨h.nn, h.sum, h.pos, h.fits⟩
/-- a new block of one byte -/
theorem sl_byte (w : World) (z : Int) (h0 : 0 ≤ z) (h1 : z ≤ 255) : Sl (w.alloc (.cells #[.int .u8 z] 5)) (fun _ => True) (some ⟨w.heap.size, 0, none⟩) 1 1 [z] :=
  sl_of_box (l := [z]) (Box.made w 5 #[.int .u8 z]) (fun y hy => by simp at hy; subst hy; exact ⟨h0, h1⟩) rfl (by unfold maxLen; omega) trivial
/-- a new block of one number -/
theorem il_one (w : World) (z : Int) : Il (w.alloc (.cells #[.int .i64 z] 3)) (some ⟨w.heap.size, 0, none⟩) 1 1 [z] :=
  ⟨rfl, Nat.le_refl _, by unfold maxLen; omega, (fun e => by cases e), (fun b off e => by cases e; exact ⟨_, _, Box.made w 3 #[.int .i64 z]⟩), fun _ => ⟨w.heap.size, 0, rfl, by simp, fun i hi => by
    obtain rfl : i = 0 := by omega
    exact (Box.made w 3 #[.int .i64 z]).cell 0⟩⟩

/-- a row of bytes of one's own, and what is older is as it was -/
structure Row (w wr : World) (v : Value) (n : Nat) (l : List Int) : Prop where
  own : wr.ownsRow w.heap.size 5 1 v n (cellsOf l)
  bel : Below w.heap.size w wr

end Go.Proofs.YtgipngedmblnmaaDoor

namespace Go.Proofs.YtgipngedmblnmaaDoor
open Go.RowKit

/-- a load that is wanted, at a region's list -/
theorem wpList_load_when {ops : Array Oper} {rest : List Oper} {op : Oper} {a : Act} {w : World} {Q : Exit → Act → World → Prop} (hw : Region.wanted op (yielded ops a.tmps) = true) (ty : TypeId) (x : Operand) (ho : op.op = .load ty x)
    (u : Value) (hx : a.eval x = u) (v : Value) (hl : (Instr.loadAt ty u).run Tryd.prog w = .ok v w)
    (hK : wpList Tryd.prog ops Q rest (a.put op.dst v) w) : wpList Tryd.prog ops Q (op :: rest) a w :=
  wpList_step fun _ hQ => by
    rw [if_pos hw]
    unfold Oper.wp execOp
    simp only [ho, hx, Sem.run_bind, hl, Result.andThen_ok]
    exact hQ _ _ hK

theorem valid_of {B V : List Int} (h : Diff V) (h' : FitOk B V.length) : Valid B V :=
  ⟨h'.nn, h'.sum, h'.pos, nodup_few 256 V h.2 (fun v hv => by have := h.1 v hv; omega), h.1, h.2, h'.fits⟩
/-- what Right answers -/
def Righted (w : World) (B V : List Int) (e : Ending) (w' : World) : Prop := ∃ b, e = .returned (.bool b) ∧ (b = true ↔ Valid B V) ∧ Below w.heap.size w w'

set_option maxRecDepth 20000 in
set_option maxHeartbeats 1600000 in
theorem hright_any (w : World) (B V : List Int) (A : Option Addr) (n c : Nat) (hB : B.length = 16) (h : Ia w A n c V) (hn : n ≤ 5000) :
    Calls Tryd.prog 22 #[specV B (.slice A n c)] w (Righted w B V) := by
  obtain ⟨C, hC⟩ : ∃ C, C = specC B (.slice A n c) := ⟨_, rfl⟩
  unfold specV
  rw [← hC]
  obtain ⟨w1, hw1⟩ : ∃ w1, w1 = w.alloc (.cells C 28) := ⟨_, rfl⟩
  have hb : Box w1 w.heap.size 28 C := by rw [hw1]; exact Box.made _ _ _
  have bel : Below w.heap.size w w1 := by rw [hw1]; exact on_alloc _ _
  have c1 : w1.cell? ⟨w.heap.size, 16, none⟩ = some (.slice A n c) := by rw [hb.cell 16, hC]; exact specC_last hB
  have hi := h.on bel
  have hl := h.len
  rw [hw1] at c1
  have HH := Lib.hid (And.intro hb (And.intro bel (And.intro hi (And.intro hw1 (And.intro hC (And.intro hl hB))))))
  clear hb bel hi hw1 hC hl hB h
  go_enter Tryd.func22, Tryd.ntmps22
  go_wp2_with fail
  rw [← HH.out.2.2.2.1]
  rw [← HH.out.2.2.2.1] at c1
  refine (differ_any w1 A n c V HH.out.2.2.1 hn).mono ?_
  rintro e w2 ⟨d, rfl, hd, b2⟩
  have h2 : Box w2 w.heap.size 28 (specC B (.slice A n c)) := by rw [← HH.out.2.2.2.2.1]; exact HH.out.1.on b2
  have c2 : w2.cell? ⟨w.heap.size, 16, none⟩ = some (.slice A n c) := by rw [h2.cell 16]; exact specC_last HH.out.2.2.2.2.2.2
  have H2 := Lib.hid (And.intro h2 (And.intro hd (on_trans HH.out.2.1 b2)))
  clear h2 hd b2 c1
  cases d with
  | false =>
    go_wp2
    go_ret
    refine ⟨false, rfl, ⟨(fun e => by cases e), fun hv => ?_⟩, H2.out.2.2⟩
    exact absurd (H2.out.2.1.2 hv.diff) (by simp)
  | true =>
    go_wp2_with (first
      | (refine wpList_load_when (op := ⟨some 8, _, _, _, _, _⟩) (by rfl) 25 (.tmp 7) rfl (.pointer (some ⟨w.heap.size, 0, none⟩)) rfl (.agg (cellsI B).toArray) (load_bits H2.out.1 HH.out.2.2.2.2.2.2) ?_)
      | fail)
    refine (fit_any w2 B n HH.out.2.2.2.2.2.2 hn).mono ?_
    rintro e w3 ⟨f, rfl, hf, b3⟩
    have H3 := Lib.hid (And.intro hf (on_trans H2.out.2.2 b3))
    clear hf b3
    go_wp2
    go_ret
    have hl := HH.out.2.2.2.2.2.1
    refine ⟨f, rfl, ⟨fun e => valid_of (H2.out.2.1.1 trivial) (by rw [hl]; exact H3.out.1.1 e), fun hv => H3.out.1.2 (by rw [← hl]; exact hv.fit)⟩, H3.out.2⟩
end Go.Proofs.YtgipngedmblnmaaDoor
