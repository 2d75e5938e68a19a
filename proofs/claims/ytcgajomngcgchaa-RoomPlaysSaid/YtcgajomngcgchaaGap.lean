/-
  room.sorted as a call; Free's gap.
-/
import Derived.Test.YtcgajomngcgchaaSort
namespace Go.Proofs.Ytcgajomngcgchaa
open Go.RowKit Go.Shelf Go.Proofs

theorem eg43 (args : Array Value) (w : World) : (callFunc 43 args).run Try.prog w = .ok (.enter 43 args) w := enters_of Try.func43 (by kernel_rfl) rfl args w
theorem sort_any (w w1 : World) (g c n : Nat) (l : List X) (hn : l.length = n) (hn2 : n ≤ 10000) (hown : w1.ownsRow w.heap.size 42 2 (.slice (some ⟨g, 0, none⟩) n c) n (cellsX l)) (hb : Below w.heap.size w w1) (hg : w.heap.size ≤ g) (hlt : g < w1.heap.size) :
    Calls Try.prog 42 #[.slice (some ⟨g, 0, none⟩) n c, .func (.func 43) #[] #[]] w1 fun e w' => e = .returned (.tuple #[]) ∧ Sorted l w (.returned (.slice (some ⟨g, 0, none⟩) n c)) w' := by
  subst hn
  have hcon := AnyQ.slices_SortFunc Try.sortX 2 Try.isAgg42 Try.sizeOf42 encX (fun _ => rfl) (fun x v hv => by simp [encX] at hv; rcases hv with rfl | rfl <;> rfl) cmpX swoX 43 #[] g 0 c l.toArray w1 eg43 (cmp_lays g 0 _ w1) (holds_own hown) hlt (by simp; omega)
  refine Calls.mono (show Calls Try.prog 42 #[.slice (some ⟨g, 0, none⟩) l.length c, .func (.func 43) #[] #[]] w1 _ from hcon) ?_
  rintro e w' ⟨rfl, d', q, os, hp, hs, rfl⟩
  exact ⟨rfl, sorted_fin hown hb hg hlt hp hs⟩

set_option maxHeartbeats 800000 in
theorem sorted_any (w : World) (K : Nat → Prop) (ad : Addr) (n c : Nat) (l : List X) (hx : Xl K w (some ad) n c l) (hn : n ≤ 10000) : Calls Try.prog 31 #[.slice (some ad) n c] w (Sorted l w) := by
  have hl := hx.lenX
  subst hl
  have HI := Lib.hid (clone_some w K ad _ c l hx hn)
  have HN := Lib.hid hn
  clear hx hn
  go_enter Try.func31, Try.ntmps31
  go_wp2_with (first
    | (go_at_call 40
       refine HI.out.mono ?_
       rintro e w6 ⟨g, c1, rfl, h6, h7, h8, h9⟩
       have H6 := Lib.hid (sort_any w w6 g c1 _ l rfl HN.out h6 h7 h8 h9)
       clear h6 h7 h8 h9)
    | (go_at_call 42
       refine H6.out.mono ?_
       rintro e w7 ⟨rfl, h7⟩
       have H7 := Lib.hid h7
       clear h7))
  go_ret
  exact H7.out

/-- what lies ahead of a place, if anything does -/
def gapX (fr : List X) (from_ to_ : Int) : List X := if from_ < to_ then fr ++ [(from_, to_ - from_)] else fr
/-- the list so far, in a variable of its own -/
structure Fl (lo b1 b2 : Nat) (w : World) (from_ : Int) (v : Value) (fr : List X) : Prop where
  fr1 : Box w b1 3 #[.int .i64 from_]
  fr2 : Box w b2 22 #[v]
  own : w.ownsRow lo 42 2 v fr.length (cellsX fr)
  ord : b1 < lo ∧ b2 < lo ∧ lo ≤ w.heap.size

/-- a block of cells as a slice that reads -/
theorem rd_of_box {w : World} {K : Nat → Prop} {size g e n : Nat} {cs : List Value} (h : Box w g e cs.toArray) (hl : cs.length = n * size) (hm : n ≤ maxLen) (hK : K g) : Rd size K w (some ⟨g, 0, none⟩) n n cs :=
  ⟨hl, Nat.le_refl _, hm, (fun e => by cases e), fun _ => ⟨g, 0, rfl, h.lt, hK, fun i _ => by rw [Nat.zero_add, h.cell i]; simp⟩⟩
theorem own_lo {w : World} {lo e size n : Nat} {v : Value} {xs : List Value} (h : w.ownsRow lo e size v n xs) {i : Nat} (hi : v.ownBlock = some i) : lo ≤ i := by
  rcases h.2 with ⟨rfl, _⟩ | ⟨g, cap, cur, rfl, hg, _⟩
  · cases hi
  · have : g = i := by simpa [Value.ownBlock] using hi
    omega
theorem own_lt {w : World} {lo e size n : Nat} {v : Value} {xs : List Value} (h : w.ownsRow lo e size v n xs) {i : Nat} (hi : v.ownBlock = some i) : i < w.heap.size := by
  rcases h.2 with ⟨rfl, _⟩ | ⟨g, cap, cur, rfl, _, hh, _⟩
  · cases hi
  · have : g = i := by simpa [Value.ownBlock] using hi
    subst this
    exact (Array.getElem?_eq_some_iff.1 hh).1
/-- what sorted answers, its length named -/
def SortedN (n : Nat) (l : List X) (w : World) (r : Ending) (w' : World) : Prop :=
  ∃ A c l', r = .returned (.slice A n c) ∧ l'.Perm l ∧ l'.Pairwise (fun a b => a.1 ≤ b.1) ∧ Xl (fun b => w.heap.size ≤ b) w' A n c l' ∧ Below w.heap.size w w'
theorem sortedN_any (w : World) (K : Nat → Prop) (ad : Addr) (n c : Nat) (l : List X) (hx : Xl K w (some ad) n c l) (hn : n ≤ 10000) : Calls Try.prog 31 #[.slice (some ad) n c] w (SortedN n l w) := by
  have hl := hx.lenX
  subst hl
  exact sorted_any w K ad _ c l hx hn
theorem Fl.on {lo b1 b2 : Nat} {w w' : World} {f : Int} {v : Value} {fr : List X} (h : Fl lo b1 b2 w f v fr) (k : Below w.heap.size w w') : Fl lo b1 b2 w' f v fr :=
  ⟨h.fr1.on k, h.fr2.on k, ownsRow_block h.own (fun g _ _ hh => k.block g (Array.getElem?_eq_some_iff.1 hh).1), h.ord.1, h.ord.2.1, Nat.le_trans h.ord.2.2 k.size⟩

def Gapped (lo b1 b2 : Nat) (w : World) (from_ : Int) (v : Value) (fr : List X) (e : Ending) (w' : World) : Prop :=
  e = .returned (.tuple #[]) ∧ ∃ v', Fl lo b1 b2 w' from_ v' fr ∧ Kept (fun i => i = b2 ∨ v.ownBlock = some i) w w'
set_option maxHeartbeats 800000 in
theorem gap_any (lo b1 b2 : Nat) (w : World) (f t : Int) (v : Value) (fr : List X) (h : Fl lo b1 b2 w f v fr) (hf : 0 ≤ f ∧ f ≤ 10000) (ht : 0 ≤ t ∧ t ≤ 10000) (hl : fr.length ≤ 10000) :
    Calls Try.prog 30 #[.int .i64 t, .pointer (some ⟨b1, 0, none⟩), .pointer (some ⟨b2, 0, none⟩)] w (Gapped lo b1 b2 w f v (gapX fr f t)) := by
  obtain ⟨f0, f1⟩ := hf
  obtain ⟨t0, t1⟩ := ht
  have c1 : w.cell? ⟨b1, 0, none⟩ = some (.int .i64 f) := h.fr1.cell 0
  have c2 : w.cell? ⟨b2, 0, none⟩ = some v := h.fr2.cell 0
  have z2 : w.frozen? ⟨b2, 0, none⟩ = false := h.fr2.free 0
  have hlt1 := h.fr1.lt
  have hlt2 := h.fr2.lt
  obtain ⟨A, n, c, hv⟩ : ∃ A n c, v = .slice A n c := by obtain ⟨A, c, e⟩ := own_slice h.own; exact ⟨A, _, c, e⟩
  subst hv
  have H := Lib.hid h
  have HL := Lib.hid hl
  clear h hl
  by_cases hft : f < t
  · obtain ⟨w1, hw1⟩ : ∃ w1, w.alloc (.cells #[.int .i64 f, .int .i64 (t - f)] 42) = w1 := ⟨_, rfl⟩
    have k1 : Below w.heap.size w w1 := by rw [← hw1]; exact on_alloc _ _
    have bx : Box w1 w.heap.size 42 #[.int .i64 f, .int .i64 (t - f)] := by rw [← hw1]; exact Box.made _ _ _
    have HB := Lib.hid (And.intro k1 bx)
    clear k1 bx
    go_enter Try.func30, Try.ntmps30
    go_wp2_with (first
      | ((with_reducible refine wpList_append_own2 (o := ⟨some 14, _, _, _, _, _⟩) el_ext rfl (.tmp 7) (.tmp 13) rfl lo (.slice A n c) fr.length (cellsX fr) rfl (ownsRow_block H.out.own (fun g _ _ hh => HB.out.1.block g (Array.getElem?_eq_some_iff.1 hh).1)) (fun _ => True) (some ⟨w.heap.size, 0, none⟩) 1 1 (cellsX [(f, t - f)]) rfl (rd_of_box HB.out.2 rfl (by decide) trivial) (cellsX_one _) (by have := HL.out; omega) (by have := H.out.ord.2.2; have := HB.out.1.size; omega) ?_)
         intro v' w2 hown hk hnil
         obtain ⟨A', c', hv'⟩ := own_slice hown
         subst hv'
         have hk2 : Kept (fun i => lo ≤ i) w1 w2 := hk.mono (fun i _ hi => own_lo H.out.own hi)
         have bx1 := hk2.box (H.out.fr1.on HB.out.1) (by have := H.out.ord.1; omega)
         have bx2 := hk2.box (H.out.fr2.on HB.out.1) (by have := H.out.ord.2.1; omega)
         have y2 : w2.cell? ⟨b2, 0, none⟩ = some (.slice A n c) := bx2.cell 0
         have y3 : w2.frozen? ⟨b2, 0, none⟩ = false := bx2.free 0
         have H2 := Lib.hid (And.intro hown (And.intro hk (And.intro bx1 bx2)))
         clear hown hk hnil hk2 bx1 bx2)
      | fail)
    go_end0
    obtain ⟨h1, h2, h3, h4⟩ := H2.out
    obtain ⟨o1, o2, o3⟩ := H.out.ord
    have hne : b1 ≠ b2 := fun e => by
      subst e
      have a := H.out.fr1.cell 0
      have b := H.out.fr2.cell 0
      rw [a] at b
      cases b
    have e : gapX fr f t = fr ++ [(f, t - f)] := by unfold gapX; rw [if_pos hft]
    rw [e]
    have e2 : cellsX fr ++ cellsX [(f, t - f)] = cellsX (fr ++ [(f, t - f)]) := (cellsX_app _ _).symm
    rw [e2] at h1
    refine ⟨rfl, _, ⟨h3.beside hne _, by have := h4.put 0 (.slice A' (fr.length + 1) c'); simpa using this, by rw [List.length_append]; exact ownsRow_setCell_below h1 o2 _, o1, o2, ?_⟩, ?_⟩
    · have := h2.size; have := HB.out.1.size; simp [World.setCell]; omega
    · exact Kept.setCell (S := fun i => i = b2 ∨ (Value.slice A n c).ownBlock = some i) (p := ⟨b2, 0, none⟩) ((Kept.of_below HB.out.1 _).trans h2 (fun i _ hi => Or.inr hi)) (fun _ => Or.inl rfl) _
  · have e : gapX fr f t = fr := by unfold gapX; rw [if_neg hft]
    rw [e]
    clear e
    go_enter Try.func30, Try.ntmps30
    go_wp2
    go_end0
    exact ⟨rfl, _, H.out, Kept.refl _ _⟩
end Go.Proofs.Ytcgajomngcgchaa
