/-
  The contracts of the reference's Last and Bytes, where nothing is pending.
-/
import Derived.Test.YtghnhabpcikhgaaOf
import Derived.Laws.AppendOwnNone
namespace Go.Proofs.Ytghnhabpcikhgaa
open Go.RowKit Go.Maps

/-- a slice of cnt slices of bytes, each a sector of f -/
def Done (w : World) (A : Option Addr) (cnt : Nat) (f : Nat → List Int) : Prop := ∀ i, i < cnt → ∃ b Ai ci, A = some ⟨b, 0, none⟩ ∧ w.cell? ⟨b, i, none⟩ = some (.slice Ai 128 ci) ∧ Sl w (fun _ => True) Ai 128 ci (f i)
theorem Done.on {w w' : World} {A : Option Addr} {cnt : Nat} {f : Nat → List Int} (h : Done w A cnt f) (k : Below w.heap.size w w') : Done w' A cnt f := fun i hi => by
  obtain ⟨b, Ai, ci, e, hc, hs⟩ := h i hi
  exact ⟨b, Ai, ci, e, (k.cell (p := ⟨b, i, none⟩) (World.block_lt_of_cell? w _ hc)).trans hc, hs.on k⟩
/-- the reference's disk -/
def refD (A : Option Addr) (cnt c : Nat) : Value := .agg #[.slice A cnt c, .slice none 0 0, .int .i64 0, .int .u64 0, .bool false, .bool false]

set_option maxRecDepth 10000 in
set_option maxHeartbeats 800000 in
theorem refLast_any (w : World) (A : Option Addr) (cnt c i : Nat) (f : Nat → List Int) (h : Done w A cnt f) (hi : i < cnt) :
    Calls Try.prog 33 #[.agg #[.slice A cnt c, .slice none 0 0, .int .i64 0, .int .u64 0, .bool false, .bool false], .int .i64 (i : Int)] w fun e w' => ∃ Ai ci, e = .returned (.slice Ai 128 ci) ∧ Sl w' (fun _ => True) Ai 128 ci (f i) ∧ Below w.heap.size w w' := by
  obtain ⟨b, Ai, ci, rfl, hcell, hs⟩ := h i hi
  have lb := World.block_lt_of_cell? w _ hcell
  have HS := Lib.hid hs
  clear h hs
  go_enter Try.func33, Try.ntmps33
  go_wp2
  go_loop [5, 6] (fun v k => v = .slice Ai 128 ci ∧ k = .int .i64 0) (fun _ _ => 0)
  case atStart => exact ⟨rfl, rfl⟩
  case round =>
    obtain ⟨rfl, rfl⟩ := hrel
    go_wp2
    go_ret
    exact ⟨Ai, ci, rfl, HS.out.on (on_alloc _ _), on_alloc _ _⟩

/-- an append of bytes to a row of one's own -/
theorem wpList_append_sl {w : World} {ops : Array Oper} {rest : List Oper} {o : Oper} {a : Act} {Q : Exit → Act → World → Prop} (hgd : o.guard = none) (s x : Operand)
    (ho : o.op = .call { callee := .builtin .append, args := #[s, x], argTypes := #[22, 22] })
    (base : Nat) (v : Value) (n : Nat) (l : List Int) (hs : a.eval s = v) (hown : w.ownsRow base 5 1 v n (cellsOf l))
    (K : Nat → Prop) (A : Option Addr) (m c : Nat) (r : List Int) (hx : a.eval x = .slice A m c) (hr : Sl w K A m c r) (h63 : n + m ≤ 140737488351232) (hbase : base ≤ w.heap.size)
    (h : ∀ v' w', w'.ownsRow base 5 1 v' (n + m) (cellsOf (l ++ r)) → Below base w w' → wpList Try.prog ops Q rest (a.put o.dst v') w') : wpList Try.prog ops Q (o :: rest) a w := by
  obtain ⟨i0, hi0, hz0, hz1, hz2⟩ := info_parts byte_info
  cases A with
  | none =>
    obtain rfl : c = 0 := hr.nil rfl
    obtain rfl : m = 0 := by have := hr.cap; omega
    have hl : r = [] := List.eq_nil_of_length_eq_zero hr.len
    subst hl
    exact wpList_append_own_none hgd s x 22 ho base 5 i0 1 Try.underlying22 hi0 v n (cellsOf l) hs hown hx (h v w (by simpa using hown) (Below.refl _ _))
  | some ad =>
    refine wpList_append_own _ hgd s x 22 ho base 5 i0 (.int .u8 0) 1 1 Try.underlying22 hi0 hz0 hz1 hz2 rfl (by omega) v n (cellsOf l) hs hown ad m c (cellsOf r) hx (by rw [cellsOf_len, hr.len, Nat.mul_one]) hr.bts.read (cellsOf_one r) (by simp only [maxLen]; omega) (by omega) hbase ?_
    intro v' w' h1 h2 _
    have e : cellsOf l ++ cellsOf r = cellsOf (l ++ r) := by simp [cellsOf]
    rw [e] at h1
    exact h v' w' h1 ((Below.refl base w).grown h2 hbase (fun j hj => (hown.lt j hj).1))

set_option maxRecDepth 10000 in
set_option maxHeartbeats 1600000 in
theorem refBytes_any (w : World) (A : Option Addr) (cnt c : Nat) (f : Nat → List Int) (h : Done w A cnt f) (hg : Good cnt f) (hc : cnt ≤ 4096) :
    Calls Try.prog 26 #[.agg #[.slice A cnt c, .slice none 0 0, .int .i64 0, .int .u64 0, .bool false, .bool false]] w fun e w' => ∃ B b, e = .returned (.slice B (cnt * 128) b) ∧ Sl w' (fun _ => True) B (cnt * 128) b (flat cnt f) ∧ Below w.heap.size w w' := by
  have HD := Lib.hid (And.intro h hg)
  clear h hg
  go_enter Try.func26, Try.ntmps26
  go_wp2
  obtain ⟨b0, hb0⟩ : ∃ b, b = w.heap.size := ⟨_, rfl⟩
  obtain ⟨w1, hw1⟩ : ∃ w1, w1 = w.alloc (.cells #[.slice A cnt c, .slice none 0 0, .int .i64 0, .int .u64 0, .bool false, .bool false] 30) := ⟨_, rfl⟩
  have hbox := Box.made w 30 #[.slice A cnt c, .slice none 0 0, .int .i64 0, .int .u64 0, .bool false, .bool false]
  have b1 : Below w.heap.size w w1 := by rw [hw1]; exact on_alloc _ _
  rw [← hw1, ← hb0] at hbox ⊢
  have H1 := Lib.hid (And.intro hbox b1)
  clear hw1 hb0 hbox b1
  go_loopw [3, 4] (fun v i wr => ∃ k : Nat, k ≤ cnt ∧ i = .int .i64 k ∧ wr.ownsRow w1.heap.size 5 1 v (k * 128) (cellsOf (flat k f)) ∧ Below w1.heap.size w1 wr) (fun _ i _ => cnt - (intOf i).toNat)
  case atStart => exact ⟨0, Nat.zero_le _, rfl, ⟨rfl, .inl ⟨rfl, rfl⟩⟩, Below.refl _ _⟩
  case round =>
    obtain ⟨k, hk, rfl, hown, hbel⟩ := hrel
    have hbx := H1.out.1.on hbel
    have q0 : wr.cell? ⟨b0, 0, none⟩ = some (.slice A cnt c) := hbx.cell 0
    have q1 : wr.cell? ⟨b0, 1, none⟩ = some (.slice none 0 0) := hbx.cell 1
    have q2 : wr.cell? ⟨b0, 2, none⟩ = some (.int .i64 0) := hbx.cell 2
    have q3 : wr.cell? ⟨b0, 3, none⟩ = some (.int .u64 0) := hbx.cell 3
    have q4 : wr.cell? ⟨b0, 4, none⟩ = some (.bool false) := hbx.cell 4
    have q5 : wr.cell? ⟨b0, 5, none⟩ = some (.bool false) := hbx.cell 5
    have HW := Lib.hid (And.intro hown hbel)
    clear hown hbel hbx
    by_cases hlt : k < cnt
    · go_wp2_with fail
      refine (refLast_any wr A cnt c k f ((HD.out.1.on H1.out.2).on HW.out.2) hlt).mono ?_
      rintro e w2 ⟨Ai, ci, rfl, hs2, b2⟩
      have H2 := Lib.hid (And.intro hs2 b2)
      have hrow : w2.ownsRow w1.heap.size 5 1 u3 (k * 128) (cellsOf (flat k f)) := ownsRow_block HW.out.1 fun g _ _ hb => b2.block g (Array.getElem?_eq_some_iff.1 hb).1
      have HROW := Lib.hid hrow
      clear hs2 b2 hrow
      go_wp2_with (first | fail | (at_builtin; refine wpList_append_sl rfl (.tmp 12) (.tmp 15) rfl w1.heap.size u3 (k * 128) (flat k f) rfl HROW.out _ Ai 128 ci (f k) rfl H2.out.1 (by omega) (Nat.le_trans HW.out.2.size H2.out.2.size) ?_; intro v3 w3 hown3 b3; have H3 := Lib.hid (And.intro hown3 b3); clear hown3 b3))
      go_roundw
      case rel =>
        refine ⟨k + 1, by omega, by go_num, ?_, (HW.out.2.trans (H2.out.2.mono HW.out.2.size)).trans H3.out.2⟩
        have := H3.out.1
        rw [← flat_succ] at this
        rw [Nat.succ_mul]
        exact this
      case measure => simp [intOf]; omega
    · have ek : k = cnt := by omega
      have HE := Lib.hid ek
      clear ek
      go_wp2
      go_ret
      have hown := HW.out.1
      rw [HE.out] at hown
      obtain ⟨B, b, rfl, hs⟩ := sl_of_own hown (flat_fit HD.out.2)
      exact ⟨B, b, rfl, hs.mono (fun _ _ _ => trivial), H1.out.2.trans (HW.out.2.mono H1.out.2.size)⟩

end Go.Proofs.Ytghnhabpcikhgaa
