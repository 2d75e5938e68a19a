/-
  The map's replace: some of its free extents give way to others.
-/
import Derived.Test.YtcgajomngcgchaaNew
import Derived.Deep.RegionLaw
namespace Go.Proofs.Ytcgajomngcgchaa
open Go.RowKit

theorem step_append_rd {ty e : TypeId} {z : Value} {size bytes : Nat} (E : Elems ty e z size bytes) {ops : Array Oper} {o : Oper} {a : Act} {w : World} {K : Act → World → Prop} {Q : Exit → Act → World → Prop} {F : Prop} (hgd : o.guard = none) (s x : Operand)
    (ho : o.op = .call { callee := .builtin .append, args := #[s, x], argTypes := #[ty, ty] }) (K1 : Nat → Prop) (A : Option Addr) (n c : Nat) (xs : List Value) (hs : a.eval s = .slice A n c) (hd : Rd size K1 w A n c xs) (K2 : Nat → Prop) (A2 : Option Addr) (m c2 : Nat) (ys : List Value)
    (hx : a.eval x = .slice A2 m c2) (hr : Rd size K2 w A2 m c2 ys) (h1 : ∀ u ∈ ys, u.oneCell' = true) (h63 : n + m ≤ 1000000) (hfull : 0 < m → c < n + m) (d : Option Tmp) (hd2 : o.dst = d)
    (h : ∀ A' c' w', Rd size (fun b => K1 b ∨ w.heap.size ≤ b) w' A' (n + m) c' (xs ++ ys) → Below w.heap.size w w' → (0 < m → (n + m ≤ c' ∧ w'.ownsRow w.heap.size e size (.slice A' (n + m) c') (n + m) (xs ++ ys))) → (m = 0 → c' = c) → K (a.put d (.slice A' (n + m) c')) w') :
    if Region.wanted o (yielded ops a.tmps) = true then Oper.wp Try.prog o a w K Q else F := by
  have hw : Region.wanted o (yielded ops a.tmps) = true := by simp [Region.wanted, hgd]
  rw [if_pos hw]
  subst hd2
  obtain ⟨A', c', w', h0, h1, h2, h3, h4⟩ := run_append_rd E w o.type K1 A n c xs hd K2 A2 m c2 ys hr h1 h63 hfull
  unfold Oper.wp
  simp [execOp, ho, resolve, invoke, builtin, hs, hx, h0, Result.andThen]
  exact h A' c' w' h1 h2 h3 h4
theorem step_append_own2 {ty e : TypeId} {z : Value} {size bytes : Nat} (E : Elems ty e z size bytes) {ops : Array Oper} {o : Oper} {a : Act} {w : World} {K : Act → World → Prop} {Q : Exit → Act → World → Prop} {F : Prop} (hgd : o.guard = none) (s x : Operand)
    (ho : o.op = .call { callee := .builtin .append, args := #[s, x], argTypes := #[ty, ty] }) (base : Nat) (v : Value) (n : Nat) (xs : List Value) (hs : a.eval s = v) (hown : w.ownsRow base e size v n xs) (K2 : Nat → Prop) (A2 : Option Addr) (m c2 : Nat) (ys : List Value)
    (hx : a.eval x = .slice A2 m c2) (hr : Rd size K2 w A2 m c2 ys) (h1 : ∀ u ∈ ys, u.oneCell' = true) (h63 : n + m ≤ 1000000) (hbase : base ≤ w.heap.size) (d : Option Tmp) (hd2 : o.dst = d)
    (h : ∀ v' w', w'.ownsRow base e size v' (n + m) (xs ++ ys) → Kept (fun i => v.ownBlock = some i) w w' → K (a.put d v') w') :
    if Region.wanted o (yielded ops a.tmps) = true then Oper.wp Try.prog o a w K Q else F := by
  have hw : Region.wanted o (yielded ops a.tmps) = true := by simp [Region.wanted, hgd]
  rw [if_pos hw]
  subst hd2
  obtain ⟨v', w', h0, h1, h2, _⟩ := run_append_own2 E w o.type base v n xs hown K2 A2 m c2 ys hr h1 h63 hbase
  unfold Oper.wp
  simp [execOp, ho, resolve, invoke, builtin, hs, hx, h0, Result.andThen]
  exact h v' w' h1 h2
theorem Rd.head {n c m : Nat} {K : Nat → Prop} {w : World} {A : Option Addr} {l : List X} (h : Xl K w A n c l) (hm : m ≤ n) : Xl K w A m m (l.take m) := by
  refine ⟨by rw [cellsX_len, List.length_take, h.lenX]; rw [Nat.min_eq_left hm], Nat.le_refl _, by have := h.cap; have := h.max; omega, fun e => by have := h.nil e; have := h.cap; omega, fun h0 => ?_⟩
  obtain ⟨b, off, e, hb, hk, hc⟩ := h.at_ (by omega)
  exact ⟨b, off, e, hb, hk, fun i hi => by rw [hc i (by omega), ← cellsX_take, List.getElem?_take_of_lt hi]⟩

theorem xl_tail {n c j : Nat} {K : Nat → Prop} {w : World} {A A2 : Option Addr} {l : List X} (hA : (if c = j then A else A.map (fun x => x.add (j * 2))) = A2) (h : Xl K w A n c l) (hj : j ≤ n) : Xl K w A2 (n - j) (c - j) (l.drop j) := by
  have := h.cutX (k := j) (m := n - j) (c' := c - j) (by omega) (by have := h.cap; omega) (by have := h.cap; omega)
  rw [List.take_of_length_le (by rw [List.length_drop, h.lenX]; exact Nat.le_refl _)] at this
  subst hA
  exact this
def Replaced (g : Nat) (m : Int) (K0 : Nat → Prop) (fs : List X) (w : World) (e : Ending) (w' : World) : Prop := e = .returned (.tuple #[]) ∧ (∃ A n c, Mm w' g m fs A n c ∧ Xl (fun b => K0 b ∨ w.heap.size ≤ b) w' A n c fs) ∧ Kept (fun i => i = g) w w'

theorem replaced_fin {w w5 : World} {g : Nat} {m : Int} {fs l : List X} {A A5 : Option Addr} {n c N c5 : Nat} {K K0 : Nat → Prop} (hM : Mm w5 g m fs A n c) (hr : Rd 2 K w5 A5 N c5 (cellsX l)) (hK : ∀ b, K b → K0 b ∨ w.heap.size ≤ b) (h0 : ∀ b, K0 b → b ≠ g) (hg : g < w.heap.size) (hb : Below w.heap.size w w5) :
    Replaced g m K0 l w (.returned (.tuple #[])) (w5.setCell ⟨g, 1, none⟩ (.slice A5 N c5)) := by
  have k : Kept (fun i => i = g) w5 (w5.setCell ⟨g, 1, none⟩ (.slice A5 N c5)) := Kept.setCell (S := fun i => i = g) (p := ⟨g, 1, none⟩) (Kept.refl _ _) (fun _ => rfl) _
  have hn : ∀ b, K b → b ≠ g := fun b h => by
    rcases hK b h with h | h
    · exact h0 b h
    · omega
  refine ⟨rfl, ⟨A5, N, c5, ⟨by have := hM.box.put 1 (.slice A5 N c5); simpa using this, (hr.mono (fun b _ h => hn b h)).kept k (fun b h => h)⟩, (hr.kept k hn).mono (fun b _ h => hK b h)⟩, (Kept.of_below hb _).trans k (fun _ _ h => h)⟩

set_option maxHeartbeats 3200000 in
theorem replace_any (w : World) (g : Nat) (m : Int) (fs : List X) (A : Option Addr) (n c : Nat) (hM : Mm w g m fs A n c) (K0 : Nat → Prop) (hx0 : Xl K0 w A n c fs) (h0 : ∀ b, K0 b → b ≠ g) (hn : n ≤ 10000) (i j : Nat) (hi : i ≤ n) (hj : j ≤ n) (A3 : Option Addr) (n3 c3 : Nat) (l3 : List X) (h3 : Xl (fun _ => True) w A3 n3 c3 l3) (hn3 : n3 ≤ 10000) :
    Calls Try.prog 37 #[.pointer (some ⟨g, 0, none⟩), .int .i64 i, .int .i64 j, .slice A3 n3 c3] w (Replaced g m K0 (fs.take i ++ l3 ++ fs.drop j) w) := by
  have r0 : w.drew.cell? ⟨g, 1, none⟩ = some (.slice A n c) := (hM.on (on_drew w)).box.cell 1
  have hcap := hM.row.cap
  have hmax := hM.row.max
  unfold maxLen at hmax
  have i0 : (0 : Int) ≤ (i : Int) := by omega
  have i1 : (i : Int) ≤ (c : Int) := by omega
  have j0 : (0 : Int) ≤ (j : Int) := by omega
  have j1 : (j : Int) ≤ (n : Int) := by omega
  obtain ⟨A2, hA2⟩ : ∃ A2, (if c = j then A else A.map (fun x => x.add (j * 2))) = A2 := ⟨_, rfl⟩
  have HM := Lib.hid (And.intro (hM.on (on_drew w)) (And.intro (h3.on (on_drew w)) (And.intro (hx0.on (on_drew w)) h0)))
  have HA := Lib.hid (And.intro hA2 hM.row.lenX)
  clear hM h3 hx0 h0
  rcases Nat.eq_zero_or_pos n3 with hz | hp
  · have HZ := Lib.hid hz
    clear hz
    go_enter Try.func37, Try.ntmps37
    go_region_law
      (first
        | ((refine step_append_rd el_ext rfl (.tmp 15) (.tmp 16) rfl _ A i i (cellsX (fs.take i)) rfl (Rd.head HM.out.2.2.1 hi) _ A3 n3 c3 (cellsX l3) rfl HM.out.2.1 (cellsX_one _) (by omega) (fun h => by omega) (some 17) rfl ?_)
           intro A4 c4 w4 hx4 b4 o4 e4
           have r4 : w4.cell? ⟨g, 1, none⟩ = some (.slice A n c) := on_cell r0 b4
           have M4 := HM.out.1.on b4
           have H4 := Lib.hid (And.intro hx4 (And.intro b4 (And.intro o4 (And.intro e4 M4))))
           clear hx4 b4 o4 e4 M4)
        | ((refine step_append_rd el_ext rfl (.tmp 17) (.tmp 23) rfl _ A4 (i + n3) c4 (cellsX (fs.take i) ++ cellsX l3) rfl H4.out.1 _ A2 (n - j) (c - j) (cellsX (fs.drop j)) rfl (xl_tail HA.out.1 H4.out.2.2.2.2.row hj) (cellsX_one _) (by omega) (fun h => by have := H4.out.2.2.2.1 HZ.out; have := HZ.out; omega) (some 24) rfl ?_)
           intro A5 c5 w5 hx5 b5 _ _
           have M5 := H4.out.2.2.2.2.on b5
           have r5 : w5.cell? ⟨g, 1, none⟩ = some (.slice A n c) := M5.box.cell 1
           have f5 : w5.frozen? ⟨g, 1, none⟩ = false := M5.box.free 1
           have H5 := Lib.hid (And.intro hx5 (And.intro b5 M5))
           clear hx5 b5 M5))
    all_goals
      go_end0
      have hg : g < w.drew.heap.size := HM.out.1.box.lt
      have hg4 := H4.out.2.1.size
      have e : cellsX (fs.take i) ++ cellsX l3 ++ cellsX (fs.drop j) = cellsX (fs.take i ++ l3 ++ fs.drop j) := by rw [cellsX_app, cellsX_app]
      have hx5 := H5.out.1
      rw [e] at hx5
      exact replaced_fin H5.out.2.2 hx5 (fun b h => h.elim (fun h => h.elim .inl .inr) (fun h => .inr (Nat.le_trans hg4 h))) HM.out.2.2.2 hg (on_trans (on_trans (on_drew w) H4.out.2.1) H5.out.2.1)
  · have HZ := Lib.hid hp
    clear hp
    go_enter Try.func37, Try.ntmps37
    go_region_law
      (first
        | ((refine step_append_rd el_ext rfl (.tmp 15) (.tmp 16) rfl _ A i i (cellsX (fs.take i)) rfl (Rd.head HM.out.2.2.1 hi) _ A3 n3 c3 (cellsX l3) rfl HM.out.2.1 (cellsX_one _) (by omega) (fun h => by omega) (some 17) rfl ?_)
           intro A4 c4 w4 _ b4 o4 _
           have r4 : w4.cell? ⟨g, 1, none⟩ = some (.slice A n c) := on_cell r0 b4
           have M4 := HM.out.1.on b4
           have H4 := Lib.hid (And.intro (o4 HZ.out).2 (And.intro b4 M4))
           clear b4 o4 M4)
        | ((refine step_append_own2 el_ext rfl (.tmp 17) (.tmp 23) rfl w.heap.size (.slice A4 (i + n3) c4) (i + n3) (cellsX (fs.take i) ++ cellsX l3) rfl H4.out.1 _ A2 (n - j) (c - j) (cellsX (fs.drop j)) rfl (xl_tail HA.out.1 H4.out.2.2.row hj) (cellsX_one _) (by omega) H4.out.2.1.size (some 24) rfl ?_)
           intro v5 w5 hown5 k5
           obtain ⟨A5, c5, hv5, hx5⟩ := rd_of_own hown5
           subst hv5
           have k5' : Below w.heap.size w4 w5 := k5.below H4.out.2.1.size (fun i hi e => by have := own_lo H4.out.1 e; have : w.drew.heap.size = w.heap.size := rfl; omega)
           have M5 : Mm w5 g m fs A n c := HM.out.1.on (H4.out.2.1.trans k5')
           have r5 : w5.cell? ⟨g, 1, none⟩ = some (.slice A n c) := M5.box.cell 1
           have f5 : w5.frozen? ⟨g, 1, none⟩ = false := M5.box.free 1
           have H5 := Lib.hid (And.intro hx5 (And.intro k5' M5))
           clear hx5 hown5 k5 k5' M5))
    all_goals
      go_end0
      have hg : g < w.drew.heap.size := HM.out.1.box.lt
      have hg4 := H4.out.2.1.size
      have e : cellsX (fs.take i) ++ cellsX l3 ++ cellsX (fs.drop j) = cellsX (fs.take i ++ l3 ++ fs.drop j) := by rw [cellsX_app, cellsX_app]
      have hx5 := H5.out.1
      rw [e] at hx5
      have hs : w.drew.heap.size = w.heap.size := rfl
      exact replaced_fin H5.out.2.2 hx5 (fun b h => .inr h) HM.out.2.2.2 hg ((on_trans (on_drew w) H4.out.2.1).trans H5.out.2.1)
end Go.Proofs.Ytcgajomngcgchaa
