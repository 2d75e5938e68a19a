/-
  The contract of Sum, of one part and of more.
-/
import Derived.Test.YthfeblkbkndbkaaDoorMore
namespace Go.Proofs.YthfeblkbkndbkaaDoor
open Go.RowKit

theorem sum_nil : sum [] = 0 := by simp [sum, reg]

/-- a part: a slice, and what it reads as -/
structure Part where
  A : Option Addr
  n : Nat
  c : Nat
  l : List Int
/-- the parts in a row -/
def flat (ps : List Part) : List Int := (ps.map Part.l).flatten

/-- the parts lie in a block of slices -/
def Parts (w : World) (b : Nat) (ps : List Part) : Prop := ∀ i, i < ps.length → ∃ p, ps[i]? = some p ∧ w.cell? ⟨b, i, none⟩ = some (.slice p.A p.n p.c) ∧ Sl w (fun _ => True) p.A p.n p.c p.l

theorem Tab.below {w w' : World} (h : Tab w) (k : Below w.heap.size w w') : Tab w' := fun i hi => by
  have h1 := h i hi
  have h0 : 0 < w.heap.size := World.block_lt_of_cell? w ⟨0, i, none⟩ h1
  exact (k.cell (p := ⟨0, i, none⟩) h0).trans h1

theorem Parts.fit {w : World} {b : Nat} {ps : List Part} (h : Parts w b ps) (k : Nat) : Fit (flat (ps.take k)) := by
  intro z hz
  obtain ⟨l, hl, hz⟩ := List.mem_flatten.1 hz
  obtain ⟨p, hp, rfl⟩ := List.mem_map.1 hl
  obtain ⟨i, hi, e⟩ := List.mem_iff_getElem.1 (List.mem_of_mem_take hp)
  obtain ⟨q, hq, _, hs⟩ := h i hi
  rw [List.getElem?_eq_getElem hi, e] at hq
  cases hq
  exact hs.bts.fit z hz
theorem flat_more {ps : List Part} {k : Nat} {p : Part} (h : ps[k]? = some p) : flat (ps.take (k + 1)) = flat (ps.take k) ++ p.l := by
  obtain ⟨hk, e⟩ := List.getElem?_eq_some_iff.1 h
  rw [List.take_succ_eq_append_getElem hk, e]
  simp [flat]

set_option maxHeartbeats 400000 in
theorem sum_parts (w : World) (b m : Nat) (ps : List Part) (hT : Tab w) (hp : Parts w b ps) (hm : ps.length = m) (hm2 : m ≤ 100) :
    Calls Tryd.prog 12 #[.slice (some ⟨b, 0, none⟩) m m] w fun e w' => e = .returned (.int .u32 ((sum (flat ps) : Nat) : Int)) ∧ w = w' := by
  have HT := Lib.hid hT
  have H := Lib.hid (And.intro hp hm)
  clear hT hp hm
  go_enter Tryd.func12, Tryd.ntmps12
  go_wp2
  go_loop [3, 8] (fun v i => ∃ k : Nat, k ≤ m ∧ i = .int .i64 k ∧ v = .int .u32 ((sum (flat (ps.take k)) : Nat) : Int)) (fun _ i => m - (intOf i).toNat)
  case atStart => exact ⟨0, Nat.zero_le _, rfl, by simp [flat, sum_nil]⟩
  case round =>
    obtain ⟨k, hk, rfl, rfl⟩ := hrel
    obtain ⟨y, hy⟩ : ∃ y, y = sum (flat (ps.take k)) := ⟨_, rfl⟩
    have hy2 : y < 4294967296 := by rw [hy]; exact sum_lt (H.out.1.fit k).toNat
    rw [← hy]
    by_cases hlt : k < m
    · obtain ⟨p, hpk, hcell, hsl⟩ := H.out.1 k (by rw [H.out.2]; exact hlt)
      obtain ⟨A, n, c, l⟩ := p
      have HM := Lib.hid (more_any w _ A n c l y HT.out hsl hy2)
      have HP := Lib.hid (And.intro hpk hy)
      clear hpk hsl hy
      go_wp2_with (go_at_call 13; refine HM.out.mono ?_; rintro r w' ⟨rfl, rfl⟩)
      go_round
      case rel =>
        refine ⟨k + 1, by omega, by go_num, ?_⟩
        rw [flat_more HP.out.1, sum_append, ← HP.out.2]
      case measure => simp [intOf]; omega
    · have ek : k = ps.length := by rw [H.out.2]; omega
      have HY := Lib.hid (And.intro hy ek)
      clear hy ek
      go_wp2
      go_ret
      exact ⟨ret_num (by rw [HY.out.1, HY.out.2, List.take_length]), rfl⟩

set_option maxHeartbeats 400000 in
theorem sum_nothing (w : World) : Calls Tryd.prog 12 #[.slice none 0 0] w fun e w' => e = .returned (.int .u32 0) ∧ w = w' := by
  go_enter Tryd.func12, Tryd.ntmps12
  go_wp2
  go_loop [3, 8] (fun v i => v = .int .u32 0 ∧ i = .int .i64 0) (fun _ _ => 0)
  case atStart => exact ⟨rfl, rfl⟩
  case round =>
    obtain ⟨rfl, rfl⟩ := hrel
    go_wp2
    go_ret
    exact ⟨rfl, rfl⟩

theorem Sl.alloc {w : World} {K : Nat → Prop} {A : Option Addr} {n c : Nat} {l : List Int} (h : Sl w K A n c l) (o : Obj) : Sl (w.alloc o) K A n c l := h.kept ((Kept.refl (fun _ => False) w).alloc o) (fun _ _ h => h)
theorem Tab.alloc {w : World} (h : Tab w) (o : Obj) : Tab (w.alloc o) := h.below ((Below.refl _ _).alloc (Nat.le_refl _) _)
theorem Tab.drew {w : World} (h : Tab w) : Tab w.drew := h

section
variable (w : World) {K1 K2 K3 : Nat → Prop} {A1 A2 A3 : Option Addr} {n1 c1 n2 c2 n3 c3 : Nat} {l1 l2 l3 : List Int}

theorem sum_one (g : Nat) (hg : w.heap.size = g) (hT : Tab w) (h1 : Sl w K1 A1 n1 c1 l1) :
    Calls Tryd.prog 12 #[.slice (some ⟨g, 0, none⟩) 1 1] (w.alloc (.cells #[.slice A1 n1 c1] 22)) fun e w' => e = .returned (.int .u32 ((sum l1 : Nat) : Int)) ∧ w.alloc (.cells #[.slice A1 n1 c1] 22) = w' := by
  subst hg
  have hb := Box.made w 22 #[.slice A1 n1 c1]
  have := sum_parts (w.alloc (.cells #[.slice A1 n1 c1] 22)) w.heap.size 1 [⟨A1, n1, c1, l1⟩] (hT.alloc _) (fun i hi => by
    obtain rfl : i = 0 := by simp at hi; omega
    exact ⟨_, rfl, hb.cell 0, (h1.alloc _).mono (fun _ _ _ => trivial)⟩) rfl (by omega)
  simpa [flat] using this
theorem sum_two (g : Nat) (hg : w.heap.size = g) (hT : Tab w) (h1 : Sl w K1 A1 n1 c1 l1) (h2 : Sl w K2 A2 n2 c2 l2) :
    Calls Tryd.prog 12 #[.slice (some ⟨g, 0, none⟩) 2 2] (w.alloc (.cells #[.slice A1 n1 c1, .slice A2 n2 c2] 22)) fun e w' => e = .returned (.int .u32 ((sum (l1 ++ l2) : Nat) : Int)) ∧ w.alloc (.cells #[.slice A1 n1 c1, .slice A2 n2 c2] 22) = w' := by
  subst hg
  have hb := Box.made w 22 #[.slice A1 n1 c1, .slice A2 n2 c2]
  have := sum_parts (w.alloc (.cells #[.slice A1 n1 c1, .slice A2 n2 c2] 22)) w.heap.size 2 [⟨A1, n1, c1, l1⟩, ⟨A2, n2, c2, l2⟩] (hT.alloc _) (fun i hi => by
    have hi2 : i = 0 ∨ i = 1 := by simp at hi; omega
    rcases hi2 with rfl | rfl
    · exact ⟨_, rfl, hb.cell 0, (h1.alloc _).mono (fun _ _ _ => trivial)⟩
    · exact ⟨_, rfl, hb.cell 1, (h2.alloc _).mono (fun _ _ _ => trivial)⟩) rfl (by omega)
  simpa [flat] using this
theorem sum_three_parts (g : Nat) (hg : w.heap.size = g) (hT : Tab w) (h1 : Sl w K1 A1 n1 c1 l1) (h2 : Sl w K2 A2 n2 c2 l2) (h3 : Sl w K3 A3 n3 c3 l3) :
    Calls Tryd.prog 12 #[.slice (some ⟨g, 0, none⟩) 3 3] (w.alloc (.cells #[.slice A1 n1 c1, .slice A2 n2 c2, .slice A3 n3 c3] 22)) fun e w' => e = .returned (.int .u32 ((sum (l1 ++ (l2 ++ l3)) : Nat) : Int)) ∧ w.alloc (.cells #[.slice A1 n1 c1, .slice A2 n2 c2, .slice A3 n3 c3] 22) = w' := by
  subst hg
  have hb := Box.made w 22 #[.slice A1 n1 c1, .slice A2 n2 c2, .slice A3 n3 c3]
  have := sum_parts (w.alloc (.cells #[.slice A1 n1 c1, .slice A2 n2 c2, .slice A3 n3 c3] 22)) w.heap.size 3 [⟨A1, n1, c1, l1⟩, ⟨A2, n2, c2, l2⟩, ⟨A3, n3, c3, l3⟩] (hT.alloc _) (fun i hi => by
    have hi2 : i = 0 ∨ i = 1 ∨ i = 2 := by simp at hi; omega
    rcases hi2 with rfl | rfl | rfl
    · exact ⟨_, rfl, hb.cell 0, (h1.alloc _).mono (fun _ _ _ => trivial)⟩
    · exact ⟨_, rfl, hb.cell 1, (h2.alloc _).mono (fun _ _ _ => trivial)⟩
    · exact ⟨_, rfl, hb.cell 2, (h3.alloc _).mono (fun _ _ _ => trivial)⟩) rfl (by omega)
  simpa [flat] using this
end

end Go.Proofs.YthfeblkbkndbkaaDoor
