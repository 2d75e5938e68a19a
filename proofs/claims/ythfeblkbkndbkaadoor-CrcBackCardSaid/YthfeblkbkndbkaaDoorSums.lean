/-
  CrcSums: the walk.
-/
import Derived.Test.YthfeblkbkndbkaaDoorAwake
namespace Go.Proofs.YthfeblkbkndbkaaDoor
open Go.RowKit

theorem on_trans {w w1 w2 : World} (a : Below w.heap.size w w1) (b : Below w1.heap.size w1 w2) : Below w.heap.size w w2 := a.trans (b.mono a.size)
theorem on_alloc (w : World) (o : Obj) : Below w.heap.size w (w.alloc o) := (Below.refl _ _).alloc (Nat.le_refl _) _
theorem on_drew (w : World) : Below w.heap.size w w.drew := (Below.refl _ _).drew
/-- what reads as bytes reads so when only new memory has come -/
theorem Sl.on {w w' : World} {K : Nat → Prop} {A : Option Addr} {n c : Nat} {l : List Int} (h : Sl w K A n c l) (k : Below w.heap.size w w') : Sl w' (fun _ => True) A n c l :=
  ((h.mono (K' := fun b => b < w.heap.size) (fun _ hb _ => hb)).below k (fun _ _ h => h)).mono (fun _ _ _ => trivial)

/-- what the laws answer -/
def Law (w : World) (e : Ending) (w' : World) : Prop := e = .returned (.bool true) ∧ Below w.heap.size w w'

/-- an append of bytes, nil or not, to a row of one's own -/
theorem wpList_append_sl {w : World} {ops : Array Oper} {rest : List Oper} {o : Oper} {a : Act} {Q : Exit → Act → World → Prop} (hgd : o.guard = none) (s x : Operand)
    (ho : o.op = .call { callee := .builtin .append, args := #[s, x], argTypes := #[22, 22] })
    (base : Nat) (v : Value) (n : Nat) (l : List Int) (hs : a.eval s = v) (hown : w.ownsRow base 5 1 v n (cellsOf l))
    (K : Nat → Prop) (A : Option Addr) (m c : Nat) (r : List Int) (hx : a.eval x = .slice A m c) (hr : Sl w K A m c r) (h63 : n + m ≤ 140737488351232) (hbase : base ≤ w.heap.size)
    (h : ∀ v' w', w'.ownsRow base 5 1 v' (n + m) (cellsOf (l ++ r)) → Below base w w' → wpList Tryd.prog ops Q rest (a.put o.dst v') w') : wpList Tryd.prog ops Q (o :: rest) a w := by
  obtain ⟨i0, hi0, hz0, hz1, hz2⟩ := info_parts byte_info
  cases A with
  | none =>
    obtain rfl : c = 0 := hr.nil rfl
    obtain rfl : m = 0 := by have := hr.cap; omega
    have hl : r = [] := List.eq_nil_of_length_eq_zero hr.len
    subst hl
    exact wpList_append_own_none hgd s x 22 ho base 5 i0 1 Tryd.underlying22 hi0 v n (cellsOf l) hs hown hx (h v w (by simpa using hown) (Below.refl _ _))
  | some ad =>
    refine wpList_append_own _ hgd s x 22 ho base 5 i0 (.int .u8 0) 1 1 Tryd.underlying22 hi0 hz0 hz1 hz2 rfl (by omega) v n (cellsOf l) hs hown ad m c (cellsOf r) hx (by rw [cellsOf_len, hr.len, Nat.mul_one]) hr.bts.read (cellsOf_one r) (by simp only [maxLen]; omega) (by omega) hbase ?_
    intro v' w' h1 h2 _
    rw [cellsOf_app2] at h1
    exact h v' w' h1 ((Below.refl base w).grown h2 hbase (fun j hj => (hown.lt j hj).1))

/-- a sum is told, and only new memory has come -/
def Summed (w : World) (s : Nat) (e : Ending) (w' : World) : Prop := e = .returned (.int .u32 (s : Int)) ∧ Below w.heap.size w w'

section
variable (w : World) {K1 K2 K3 : Nat → Prop} {A1 A2 A3 : Option Addr} {n1 c1 n2 c2 n3 c3 : Nat} {l1 l2 l3 : List Int}
theorem sum_one_on (s : Nat) (hs : s = sum l1) (hT : Tab w) (h1 : Sl w K1 A1 n1 c1 l1) :
    Calls Tryd.prog 12 #[.slice (some ⟨w.heap.size, 0, none⟩) 1 1] (w.alloc (.cells #[.slice A1 n1 c1] 22)) (Summed w s) := by
  refine (sum_one w _ rfl hT h1).mono ?_
  rintro e w' ⟨rfl, rfl⟩
  exact ⟨by rw [hs], on_alloc _ _⟩
theorem sum_two_on (s : Nat) (hs : s = sum (l1 ++ l2)) (hT : Tab w) (h1 : Sl w K1 A1 n1 c1 l1) (h2 : Sl w K2 A2 n2 c2 l2) :
    Calls Tryd.prog 12 #[.slice (some ⟨w.heap.size, 0, none⟩) 2 2] (w.alloc (.cells #[.slice A1 n1 c1, .slice A2 n2 c2] 22)) (Summed w s) := by
  refine (sum_two w _ rfl hT h1 h2).mono ?_
  rintro e w' ⟨rfl, rfl⟩
  exact ⟨by rw [hs], on_alloc _ _⟩
theorem sum_three_on (s : Nat) (hs : s = sum (l1 ++ (l2 ++ l3))) (hT : Tab w) (h1 : Sl w K1 A1 n1 c1 l1) (h2 : Sl w K2 A2 n2 c2 l2) (h3 : Sl w K3 A3 n3 c3 l3) :
    Calls Tryd.prog 12 #[.slice (some ⟨w.heap.size, 0, none⟩) 3 3] (w.alloc (.cells #[.slice A1 n1 c1, .slice A2 n2 c2, .slice A3 n3 c3] 22)) (Summed w s) := by
  refine (sum_three_parts w _ rfl hT h1 h2 h3).mono ?_
  rintro e w' ⟨rfl, rfl⟩
  exact ⟨by rw [hs], on_alloc _ _⟩
theorem more_on (s s' : Nat) (hs : s' = reg (s ^^^ 4294967295) l1 ^^^ 4294967295) (hs2 : s < 4294967296) (hT : Tab w) (h1 : Sl w K1 A1 n1 c1 l1) :
    Calls Tryd.prog 13 #[.int .u32 (s : Int), .slice A1 n1 c1] w fun e w' => e = .returned (.int .u32 (s' : Int)) ∧ w = w' := by
  refine (more_any w K1 A1 n1 c1 l1 s hT h1 hs2).mono ?_
  rintro e w' ⟨rfl, rfl⟩
  exact ⟨by rw [hs], rfl⟩
end

/-- what CrcSums holds on to -/
structure SumsAt (w w' : World) (A1 A2 X1 X2 : Option Addr) (n1 c1 n2 c2 d1 d2 : Nat) (l1 l2 : List Int) : Prop where
  bel : Below w.heap.size w w'
  tab : Tab w'
  a : Sl w' (fun _ => True) A1 n1 c1 l1
  b : Sl w' (fun _ => True) A2 n2 c2 l2
  x : Sl w' (fun _ => True) X1 n1 d1 l1
  y : Sl w' (fun _ => True) X2 n2 d2 l2
theorem SumsAt.on {w w' w2 : World} {A1 A2 X1 X2 : Option Addr} {n1 c1 n2 c2 d1 d2 : Nat} {l1 l2 : List Int} (h : SumsAt w w' A1 A2 X1 X2 n1 c1 n2 c2 d1 d2 l1 l2) (k : Below w'.heap.size w' w2) : SumsAt w w2 A1 A2 X1 X2 n1 c1 n2 c2 d1 d2 l1 l2 :=
  ⟨on_trans h.bel k, h.tab.below k, h.a.on k, h.b.on k, h.x.on k, h.y.on k⟩

set_option maxHeartbeats 1000000 in
theorem sums_any (w : World) (K1 K2 : Nat → Prop) (A1 A2 : Option Addr) (n1 c1 n2 c2 : Nat) (l1 l2 : List Int) (hT : Tab w) (h1 : Sl w K1 A1 n1 c1 l1) (h2 : Sl w K2 A2 n2 c2 l2) (hn1 : n1 ≤ 4000) (hn2 : n2 ≤ 4000) :
    Calls Tryd.prog 3 #[.slice A1 n1 c1, .slice A2 n2 c2] w (Law w) := by
  have HT := Lib.hid hT
  have H1 := Lib.hid h1
  have H2 := Lib.hid h2
  have hn1' : ¬ (4000 : Int) < (n1 : Int) := by omega
  have hn2' : ¬ (4000 : Int) < (n2 : Int) := by omega
  obtain ⟨s, hs⟩ : ∃ s, s = sum (l1 ++ l2) := ⟨_, rfl⟩
  obtain ⟨s1, hs1⟩ : ∃ s1, s1 = sum l1 := ⟨_, rfl⟩
  have hs12 : s1 < 4294967296 := by rw [hs1]; exact sum_lt h1.bts.fit.toNat
  have HS := Lib.hid (And.intro hs hs1)
  obtain ⟨S1, hS1⟩ : ∃ S, S = strOfNums l1 := ⟨_, rfl⟩
  obtain ⟨S2, hS2⟩ : ∃ S, S = strOfNums l2 := ⟨_, rfl⟩
  have HSt := Lib.hid (And.intro hS1 hS2)
  clear hT h1 h2 hs hs1 hS1 hS2
  go_enter Tryd.func3, Tryd.ntmps3
  go_wp2_with fail
  refine (own_any w _ A1 n1 c1 l1 H1.out (by omega)).mono ?_
  rintro e w1 ⟨X1, d1, rfl, x1, b1⟩
  have HX1 := Lib.hid (And.intro x1 b1)
  clear x1 b1
  go_wp2_with fail
  refine (own_any w1 _ A2 n2 c2 l2 (H2.out.on HX1.out.2) (by omega)).mono ?_
  rintro e w2 ⟨X2, d2, rfl, x2, b2⟩
  have HX2 := Lib.hid (And.intro x2 (on_trans HX1.out.2 b2))
  have HX1' := Lib.hid (HX1.out.1.on b2)
  clear x2 b2 HX1
  go_wp2_with fail
  refine (own_row w2 _ A1 n1 c1 l1 (H1.out.on HX2.out.2) (by omega)).mono ?_
  rintro e w3 ⟨v3, rfl, o3, f3, b3⟩
  have HX3 := Lib.hid (And.intro o3 (And.intro f3 (And.intro (on_trans HX2.out.2 b3) b3)))
  clear o3 f3 b3
  go_wp2_with (at_builtin; refine wpList_append_sl rfl (.tmp 23) (.tmp 24) rfl w2.heap.size v3 n1 l1 rfl HX3.out.1 _ A2 n2 c2 l2 rfl (H2.out.on HX3.out.2.2.1) (by omega) HX3.out.2.2.2.size ?_; intro v4 w4 o4 b4; have HX4 := Lib.hid (And.intro o4 b4); clear o4 b4)
  obtain ⟨A4, c4, rfl, s4⟩ := sl_of_own HX4.out.1 (H1.out.bts.fit.app H2.out.bts.fit)
  have b24 : Below w2.heap.size w2 w4 := HX3.out.2.2.2.trans HX4.out.2
  have bw4 : Below w.heap.size w w4 := on_trans HX2.out.2 b24
  have F := Lib.hid (SumsAt.mk bw4 (HT.out.below bw4) (H1.out.on bw4) (H2.out.on bw4) (HX1'.out.on b24) (HX2.out.1.on b24))
  have S4 := Lib.hid s4
  clear s4 b24 bw4 HX1' HX2 HX3 HX4 HT H1 H2
  refine (refSum_any w4 _ A4 (n1 + n2) c4 _ S4.out).mono ?_
  rw [← HS.out.1]
  rintro e w4' ⟨rfl, rfl⟩
  go_wp2_with fail
  refine (sum_one_on w4 s HS.out.1 F.out.tab S4.out).mono ?_
  rintro e w5 ⟨rfl, b5⟩
  have F5 := Lib.hid (F.out.on b5)
  clear b5 S4 F
  go_wp2_with fail
  refine (sum_two_on w5 s HS.out.1 F5.out.tab F5.out.x F5.out.y).mono ?_
  rintro e w6 ⟨rfl, b6⟩
  have F6 := Lib.hid (F5.out.on b6)
  clear b6 F5
  go_wp2_with fail
  refine (sum_one_on w6 s1 HS.out.2 F6.out.tab F6.out.x).mono ?_
  rintro e w7 ⟨rfl, b7⟩
  have F7 := Lib.hid (F6.out.on b7)
  clear b7 F6
  go_wp2_with fail
  refine (more_on w7 s1 s (by rw [HS.out.1, HS.out.2]; exact sum_append _ _) hs12 F7.out.tab F7.out.y).mono ?_
  rintro e w7' ⟨rfl, rfl⟩
  have cv1 := sl_str F7.out.x
  have cv2 := sl_str F7.out.a
  have cv3 := sl_str F7.out.y
  have cv4 := sl_str F7.out.b
  rw [← HSt.out.1] at cv1 cv2
  rw [← HSt.out.2] at cv3 cv4
  go_wp2_with fail
  refine (awake_any w7 F7.out.tab).mono ?_
  rintro e w8 ⟨rfl, b8⟩
  have F8 := Lib.hid (on_trans F7.out.bel b8)
  clear b8 F7
  go_wp2
  go_ret
  exact ⟨rfl, F8.out⟩

set_option maxHeartbeats 400000 in
theorem sums_long (w : World) (A1 A2 : Option Addr) (n1 c1 n2 c2 : Nat) (hT : Tab w) (hn : 4000 < n1 ∨ 4000 < n2) :
    Calls Tryd.prog 3 #[.slice A1 n1 c1, .slice A2 n2 c2] w (Law w) := by
  have HT := Lib.hid hT
  clear hT
  by_cases h1 : 4000 < n1
  · have h1' : (4000 : Int) < (n1 : Int) := by omega
    go_enter Tryd.func3, Tryd.ntmps3
    go_wp2_with fail
    refine (awake_any w HT.out).mono ?_
    rintro e w8 ⟨rfl, b8⟩
    have F8 := Lib.hid b8
    clear b8
    go_wp2
    go_ret
    exact ⟨rfl, F8.out⟩
  · have h1' : ¬ (4000 : Int) < (n1 : Int) := by omega
    have h2' : (4000 : Int) < (n2 : Int) := by omega
    go_enter Tryd.func3, Tryd.ntmps3
    go_wp2_with fail
    refine (awake_any w HT.out).mono ?_
    rintro e w8 ⟨rfl, b8⟩
    have F8 := Lib.hid b8
    clear b8
    go_wp2
    go_ret
    exact ⟨rfl, F8.out⟩

end Go.Proofs.YthfeblkbkndbkaaDoor
