/-
  The contract of the reference's Find.
-/
import Derived.Test.YthfpdebpepbejaaDoorEnts
namespace Go.Proofs.YthfpdebpepbejaaDoor
open Go.RowKit

/-- an entry, or none, as a value -/
def enV : Option En → Value
  | some e => .agg #[.int .i64 e.1, .int .i64 (e.2.1 : Int), .int .i64 (e.2.2 : Int)]
  | none => .agg #[.int .i64 0, .int .i64 0, .int .i64 0]
/-- what Find tells -/
def Found (w : World) (o : Option En) (e : Ending) (w' : World) : Prop := e = .returned (.tuple #[enV o, .bool o.isSome]) ∧ Below w.heap.size w w'

theorem find_at {p : En → Bool} {L : List En} {i : Nat} {e : En} (h : L[i]? = some e) (hp : p e = true) (hb : ∀ (q : Nat) (y : En), q < i → L[q]? = some y → p y = false) : L.find? p = some e := by
  obtain ⟨hi, he⟩ := List.getElem?_eq_some_iff.1 h
  have e1 : L = L.take i ++ e :: L.drop (i + 1) := by
    rw [← he, List.getElem_cons_drop, List.take_append_drop]
  have hn : (L.take i).find? p = none := List.find?_eq_none.2 (fun y hy => by
    obtain ⟨q, hq⟩ := List.getElem?_of_mem hy
    have hql : q < i := by
      have := (List.getElem?_eq_some_iff.1 hq).1
      rw [List.length_take] at this
      omega
    rw [List.getElem?_take_of_lt hql] at hq
    simp [hb q y hql hq])
  rw [e1, List.find?_append, hn]
  simp [hp]
theorem find_none {p : En → Bool} {L : List En} (hb : ∀ (q : Nat) (y : En), L[q]? = some y → p y = false) : L.find? p = none :=
  List.find?_eq_none.2 (fun y hy => by
    obtain ⟨q, hq⟩ := List.getElem?_of_mem hy
    simp [hb q y hq])

theorem Te.get {w : World} {A : Option Addr} {n : Nat} {L : List En} (h : Te w A n L) {i : Nat} (hi : i < n) : ∃ e b off, L[i]? = some e ∧ A = some ⟨b, off, none⟩ ∧ b < w.heap.size ∧
    w.cell? ⟨b, off + i * 3, none⟩ = some (.int .i64 e.1) ∧ w.cell? ⟨b, off + i * 3 + 1, none⟩ = some (.int .i64 (e.2.1 : Int)) ∧ w.cell? ⟨b, off + i * 3 + 2, none⟩ = some (.int .i64 (e.2.2 : Int)) := by
  obtain ⟨b, off, hA, hb, hc⟩ := h.at_ (by omega)
  have he : L[i]? = some (L[i]'(by have := h.len; omega)) := List.getElem?_eq_getElem _
  obtain ⟨c1, c2, c3⟩ := hc i _ he
  exact ⟨_, b, off, he, hA, hb, c1, c2, c3⟩

set_option maxHeartbeats 1600000 in
theorem find_any (w : World) (A : Option Addr) (n c : Nat) (L : List En) (v : Int) (h : Te w A n L) (hn : n ≤ 1000) : Calls Tryd.prog 45 #[.slice A n c, .int .i64 v] w (Found w (fnd L v)) := by
  have hz39 : ∀ w, (zeroValue 95).run Tryd.prog w = .ok (.agg #[.int .i64 0, .int .i64 0, .int .i64 0]) w := fun w => by kernel_rfl
  obtain ⟨g, hg⟩ : ∃ g, g = w.heap.size := ⟨_, rfl⟩
  obtain ⟨w1, hw1⟩ : ∃ w1, w1 = w.alloc (.cells #[.int .i64 0, .int .i64 0, .int .i64 0] 95) := ⟨_, rfl⟩
  have hb : Box w1 g 95 #[.int .i64 0, .int .i64 0, .int .i64 0] := by rw [hw1, hg]; exact Box.made _ _ _
  have bel : Below w.heap.size w w1 := by rw [hw1]; exact on_alloc _ _
  have hT := h.on bel
  have hlow : ∀ b off, A = some ⟨b, off, none⟩ → 0 < n → b ≠ g := by
    intro b off e h0
    obtain ⟨b', off', e', hb', _⟩ := h.at_ h0
    rw [e] at e'
    cases e'
    omega
  have HH := Lib.hid (And.intro hb (And.intro bel (And.intro hT (And.intro hw1 (And.intro hg hlow)))))
  clear hb bel hT hw1 hg h hlow
  go_enter Tryd.func45, Tryd.ntmps45
  go_wp2
  rw [← HH.out.2.2.2.1, ← HH.out.2.2.2.2.1]
  go_loopw [6] (fun i wr => ∃ k : Nat, k ≤ n ∧ i = .int .i64 k ∧ (∀ (q : Nat) (y : En), q < k → L[q]? = some y → (y.1 == v) = false) ∧ wr = w1) (fun i _ => n - (intOf i).toNat)
  case atStart => exact ⟨0, Nat.zero_le _, rfl, fun q _ hq => absurd hq (by omega), rfl⟩
  case round =>
    obtain ⟨k, hk, rfl, hQ, rfl⟩ := hrel
    have HQ := Lib.hid hQ
    clear hQ
    have d0 := HH.out.1.cell 0
    have d1 := HH.out.1.cell 1
    have d2 := HH.out.1.cell 2
    have f0 := HH.out.1.free 0
    have f1 := HH.out.1.free 1
    have f2 := HH.out.1.free 2
    by_cases hlt : k < n
    · obtain ⟨e, b, off, he, hA, _, c0, c1, c2⟩ := HH.out.2.2.1.get hlt
      have hne := HH.out.2.2.2.2.2 b off hA (by omega)
      obtain ⟨e1, e2, e3⟩ := e
      dsimp only at c0 c1 c2
      have HE := Lib.hid he
      subst hA
      clear he
      by_cases hv : e1 = v
      · subst hv
        go_wp2
        refine bodyPost_ret (v := .tuple #[enV (some (e1, e2, e3)), .bool true]) (by simp [enV, results, Tryd.results45, go_sem, d0, d1, d2]) rfl ?_
        have hf : fnd L e1 = some (e1, e2, e3) := find_at HE.out (by simp) HQ.out
        rw [hf]
        refine ⟨rfl, ?_⟩
        have hg := HH.out.2.2.2.2.1
        exact ((HH.out.2.1.setCell (p := ⟨g, 0, none⟩) (by show w.heap.size ≤ g; omega) _).setCell (p := ⟨g, 1, none⟩) (by show w.heap.size ≤ g; omega) _).setCell (p := ⟨g, 2, none⟩) (by show w.heap.size ≤ g; omega) _
      · have g1 : (e1 == v) = false := by simpa using hv
        go_wp2
        go_roundw
        case rel =>
          refine ⟨k + 1, by omega, by go_num, fun q y hq hy => ?_, trivial⟩
          rcases Nat.lt_or_ge q k with h' | h'
          · exact HQ.out q y h' hy
          · obtain rfl : q = k := by omega
            rw [HE.out] at hy
            cases hy
            simpa using hv
        case measure => simp [intOf]; omega
    · have hbz : ∀ w, (Instr.build 95 #[]).run Tryd.prog w = .ok (.agg #[.int .i64 0, .int .i64 0, .int .i64 0]) w := fun w => run_build w 95 _ _ (by kernel_rfl)
      go_wp2
      refine bodyPost_ret (v := .tuple #[enV none, .bool false]) (by simp [enV, results, Tryd.results45, go_sem, d0, d1, d2]) rfl ?_
      have hf : fnd L v = none := find_none (fun q y hy => HQ.out q y (by
        have h1 := (List.getElem?_eq_some_iff.1 hy).1
        have h2 := HH.out.2.2.1.len
        omega) hy)
      rw [hf]
      refine ⟨rfl, ?_⟩
      have hg := HH.out.2.2.2.2.1
      exact ((HH.out.2.1.setCell (p := ⟨g, 0, none⟩) (by show w.heap.size ≤ g; omega) _).setCell (p := ⟨g, 1, none⟩) (by show w.heap.size ≤ g; omega) _).setCell (p := ⟨g, 2, none⟩) (by show w.heap.size ≤ g; omega) _
end Go.Proofs.YthfpdebpepbejaaDoor
