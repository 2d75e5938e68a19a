/-
  slices.Clone, the map's Free, Left.
-/
import Derived.Test.YtcgajomngcgchaaPreds
import Derived.Lib.SliceRun
namespace Go.Proofs.Ytcgajomngcgchaa
open Go.RowKit

/-- a list of extents in new memory -/
def News (l : List X) (w : World) (r : Ending) (w' : World) : Prop := ∃ v, r = .returned v ∧ w'.ownsRow w.heap.size 42 2 v l.length (cellsX l) ∧ Below w.heap.size w w'

theorem empty_own (w : World) {e size : Nat} : (w.alloc (.cells #[] e)).ownsRow w.heap.size e size (.slice (some ⟨w.heap.size, 0, none⟩) 0 0) 0 [] :=
  World.ownsRow_lit w #[] 0 (Nat.le_refl _) (Nat.zero_le _) (by simp)
theorem below_kept {w w1 w2 : World} {S : Nat → Prop} (h : Below w.heap.size w w1) (k : Kept S w1 w2) (hS : ∀ i, i < w.heap.size → ¬ S i) : Below w.heap.size w w2 :=
  h.trans (k.below h.size hS)

/-- a list of extents in a block of its own, in new memory -/
def NewIn (l : List X) (w : World) (r : Ending) (w' : World) : Prop := ∃ g c, r = .returned (.slice (some ⟨g, 0, none⟩) l.length c) ∧ w'.ownsRow w.heap.size 42 2 (.slice (some ⟨g, 0, none⟩) l.length c) l.length (cellsX l) ∧ Below w.heap.size w w' ∧ w.heap.size ≤ g ∧ g < w'.heap.size
theorem ownsRow_some {w : World} {lo e size n : Nat} {v : Value} {xs : List Value} (h : w.ownsRow lo e size v n xs) (hn : v ≠ .slice none 0 0) : ∃ g c, v = .slice (some ⟨g, 0, none⟩) n c ∧ lo ≤ g ∧ g < w.heap.size := by
  rcases h.2 with ⟨rfl, _⟩ | ⟨g, cap, cur, rfl, hg, hh, _⟩
  · exact absurd rfl hn
  · exact ⟨g, cap, rfl, hg, (Array.getElem?_eq_some_iff.1 hh).1⟩
set_option maxHeartbeats 800000 in
theorem clone_some (w : World) (K : Nat → Prop) (ad : Addr) (n c : Nat) (l : List X) (hx : Xl K w (some ad) n c l) (hn : n ≤ 10000) : Calls Try.prog 40 #[.slice (some ad) n c] w (NewIn l w) := by
  have hl := hx.lenX
  have hq := fun (w : World) (a : Option Addr) (n c : Nat) => Lib.run_eql_slice_nil (P := Try.prog) w 22 42 a n c 0 0 Try.underlying22
  have HX := Lib.hid (And.intro hl hx)
  clear hl hx
  go_enter Try.func40, Try.ntmps40
  go_wp2_with (first
    | ((with_reducible refine wpList_append_own2 (o := ⟨some 7, _, _, _, _, _⟩) el_ext rfl (.tmp 5) (.tmp 6) rfl w.heap.size (.slice (some ⟨w.heap.size, 0, none⟩) 0 0) 0 [] rfl (empty_own w) K (some ad) n c (cellsX l) rfl (HX.out.2.on (on_alloc _ _)) (cellsX_one _) (by omega) (by simp) ?_)
       intro v' w1 hown hk hnil
       have H1 := Lib.hid (And.intro hown (And.intro hk hnil))
       clear hown hk hnil)
    | fail)
  go_ret
  obtain ⟨h1, h2, h3⟩ := H1.out
  rw [Nat.zero_add, List.nil_append] at h1
  obtain ⟨g, c1, hv, hg, hlt⟩ := ownsRow_some h1 (fun e => by have := h3.1 e; simp at this)
  subst hv
  have e := HX.out.1
  refine ⟨g, c1, by rw [e]; rfl, by rw [e]; exact h1, below_kept (on_alloc _ _) h2 (fun i hi e => by have h9 : w.heap.size = i := (by simpa [Value.ownBlock] using e); omega), hg, hlt⟩
theorem clone_any (w : World) (K : Nat → Prop) (A : Option Addr) (n c : Nat) (l : List X) (hx : Xl K w A n c l) (hn : n ≤ 10000) : Calls Try.prog 40 #[.slice A n c] w (News l w) := by
  cases A with
  | some ad => exact (clone_some w K ad n c l hx hn).mono fun r w' ⟨g, c1, h1, h2, h3, _⟩ => ⟨_, h1, h2, h3⟩
  | none =>
    have hl := hx.lenX
    have hq := fun (w : World) (a : Option Addr) (n c : Nat) => Lib.run_eql_slice_nil (P := Try.prog) w 22 42 a n c 0 0 Try.underlying22
    have hc := hx.nil rfl
    have hcap := hx.cap
    obtain rfl : n = 0 := by omega
    subst hc
    obtain rfl : l = [] := List.eq_nil_of_length_eq_zero hl
    clear hx hl hn hcap
    go_enter Try.func40, Try.ntmps40
    go_wp2
    go_ret
    exact ⟨_, rfl, World.ownsRow_nil _ _ _ _, Below.refl _ _⟩

/-- Free of a map -/
theorem mfree_any (w : World) (g : Nat) (n : Int) (fs : List X) (A : Option Addr) (k c : Nat) (hm : Mm w g n fs A k c) (hk : k ≤ 10000) : Calls Try.prog 23 #[.pointer (some ⟨g, 0, none⟩)] w (News fs w) := by
  have c1 : w.cell? ⟨g, 1, none⟩ = some (.slice A k c) := hm.box.cell 1
  have HI := Lib.hid (clone_any w _ A k c fs hm.row hk)
  clear hm
  go_enter Try.func23, Try.ntmps23
  go_wp2_with (go_at_call 40; refine HI.out.mono ?_; rintro e w6 ⟨v, rfl, h6⟩; have H6 := Lib.hid h6; clear h6)
  go_ret
  exact ⟨v, rfl, H6.out⟩
theorem nilFree_any (w : World) : Calls Try.prog 23 #[.pointer none] w fun r w' => r = .returned (.slice none 0 0) ∧ w' = w := by
  go_enter Try.func23, Try.ntmps23
  go_wp2
  go_ret
  exact ⟨rfl, rfl⟩
theorem nilLeft_any (w : World) : Calls Try.prog 24 #[.pointer none] w fun r w' => r = .returned (.int .i64 0) ∧ w' = w := by
  go_enter Try.func24, Try.ntmps24
  go_wp2
  go_ret
  exact ⟨rfl, rfl⟩
theorem nilEnd_any (w : World) : Calls Try.prog 26 #[.pointer none] w fun r w' => r = .returned (.int .i64 0) ∧ Below w.heap.size w w' := by
  go_enter Try.func26, Try.ntmps26
  go_wp2
  go_ret
  exact ⟨rfl, on_alloc _ _⟩
theorem nilCopy_any (w : World) : Calls Try.prog 28 #[.pointer none] w fun r w' => r = .returned (.pointer none) ∧ w' = w := by
  go_enter Try.func28, Try.ntmps28
  go_wp2
  go_ret
  exact ⟨rfl, rfl⟩
theorem nilTake_any (w : World) (size : Int) : Calls Try.prog 21 #[.pointer none, .int .i64 size] w fun r w' => r = .returned (.tuple #[extV (0, 0), .int .i64 1]) ∧ Below w.heap.size w w' := by
  go_enter Try.func21, Try.ntmps21
  go_wp2
  exact bodyPost_ret (v := .tuple #[extV (0, 0), .int .i64 1]) (by simp [results, Try.results21, go_sem, extV]) rfl ⟨rfl, on_trans (on_alloc _ _) (on_alloc _ _)⟩
theorem nilGive_any (w : World) (x y : Int) : Calls Try.prog 19 #[.pointer none, .agg #[.int .i64 x, .int .i64 y]] w fun r w' => r = .returned (.int .i64 1) ∧ Below w.heap.size w w' := by
  go_enter Try.func19, Try.ntmps19
  go_wp2
  go_ret
  exact ⟨rfl, on_alloc _ _⟩
end Go.Proofs.Ytcgajomngcgchaa
