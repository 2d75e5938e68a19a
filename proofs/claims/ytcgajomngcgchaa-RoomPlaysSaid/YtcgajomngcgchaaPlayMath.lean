/-
  Give and Take of the map and of the reference, under one roof.
-/
import Derived.Test.YtcgajomngcgchaaRefGive
import Derived.Test.YtcgajomngcgchaaRefTake
import Derived.Test.YtcgajomngcgchaaLBase
namespace Go.Proofs.Ytcgajomngcgchaa
open Go.RowKit

/-- no sector of an extent is free -/
def Full (u : List Bool) (e : X) : Prop := ∀ k : Nat, k < u.length → e.1 ≤ (k : Int) → (k : Int) < e.1 + e.2 → u.getD k true = true
def Given (u : List Bool) (e : X) (z : Int) (u' : List Bool) : Prop := (¬ Ok u.length e ∧ z = 11 ∧ u' = u) ∨ (Ok u.length e ∧ ¬ Full u e ∧ z = 13 ∧ u' = u) ∨ (Ok u.length e ∧ Full u e ∧ z = 0 ∧ u' = mark u e false)
theorem Given.only {u : List Bool} {e : X} {z z' : Int} {u' u'' : List Bool} (h : Given u e z u') (k : Given u e z' u'') : z' = z ∧ u'' = u' := by
  rcases h with ⟨a, rfl, rfl⟩ | ⟨a, b, rfl, rfl⟩ | ⟨a, b, rfl, rfl⟩ <;> rcases k with ⟨c, rfl, rfl⟩ | ⟨c, d, rfl, rfl⟩ | ⟨c, d, rfl, rfl⟩ <;> first | exact ⟨rfl, rfl⟩ | contradiction
theorem Given.len {u : List Bool} {e : X} {z : Int} {u' : List Bool} (h : Given u e z u') : u'.length = u.length := by
  rcases h with ⟨_, _, rfl⟩ | ⟨_, _, _, rfl⟩ | ⟨_, _, _, rfl⟩ <;> simp [mark_len]
theorem not_full {u : List Bool} {e : X} (h : ∃ k : Nat, k < u.length ∧ (e.1 ≤ (k : Int) ∧ (k : Int) < e.1 + e.2) ∧ u.getD k true = false) : ¬ Full u e := fun f => by
  obtain ⟨k, h1, h2, h3⟩ := h
  rw [f k h1 h2.1 h2.2] at h3
  cases h3
theorem full_of {u : List Bool} {e : X} (h : ¬ ∃ k : Nat, k < u.length ∧ (e.1 ≤ (k : Int) ∧ (k : Int) < e.1 + e.2) ∧ u.getD k true = false) : Full u e := fun k h1 h2 h3 => by
  cases hu : u.getD k true with
  | true => rfl
  | false => exact absurd ⟨k, h1, ⟨h2, h3⟩, hu⟩ h
def GiveO (g : Nat) (m : Int) (u : List Bool) (e : X) (w : World) (r : Ending) (w' : World) : Prop := ∃ z u' fs' A n c, r = .returned (.int .i64 z) ∧ Given u e z u' ∧ Mm w' g m fs' A n c ∧ Can u' fs' ∧ Kept (fun i => i = g) w w'
theorem give_one (w : World) (g : Nat) (m : Int) (fs : List X) (A : Option Addr) (n c : Nat) (hM : Mm w g m fs A n c) (u : List Bool) (hu : Can u fs) (hul : (u.length : Int) = m) (hm : 0 ≤ m ∧ m ≤ 4096) (x y : Int) (hy : y ≤ 9223372036854775807) :
    Calls Try.prog 19 #[.pointer (some ⟨g, 0, none⟩), .agg #[.int .i64 x, .int .i64 y]] w (GiveO g m u (x, y) w) := by
  by_cases h : Ok m (x, y)
  · have hok : Ok u.length (x, y) := by rw [hul]; exact h
    have hn : n ≤ 9000 := by have := can_len hu; have := hM.row.lenX; omega
    refine (give_any w g m fs A n c hM u hu hul hm hn x y h).mono fun r w' hr => ?_
    rcases hr with ⟨hme, rfl, hb⟩ | ⟨hno, rfl, ⟨A', n', c', hm'⟩, hk⟩
    · exact ⟨13, u, fs, A, n, c, rfl, .inr (.inl ⟨hok, not_full ((hu.meets hok).1 hme), rfl, rfl⟩), hM.on hb, hu, Kept.of_below hb _⟩
    · refine ⟨0, _, _, A', n', c', rfl, .inr (.inr ⟨hok, full_of fun hx => ?_, rfl, rfl⟩), hm', ?_, hk⟩
      · obtain ⟨f, hf, hmt⟩ := (hu.meets hok).2 hx
        exact hno f hf hmt
      · have := hu.give hok hno
        unfold giveL
        simpa using this
  · refine (give_not w g m fs A n c hM hm x y hy h).mono fun r w' ⟨hr, hb⟩ => ?_
    exact ⟨11, u, fs, A, n, c, hr, .inl ⟨by rw [hul]; exact h, rfl, rfl⟩, hM.on hb, hu, Kept.of_below hb _⟩
def RGiveO (u : List Bool) (e : X) (w : World) (r : Ending) (w' : World) : Prop := ∃ z u' A n c, r = .returned (.tuple #[.agg #[.slice A n c], .int .i64 z]) ∧ Given u e z u' ∧ Bl (fun _ => True) w' A n c u' ∧ Below w.heap.size w w'
theorem refGive_one (w : World) (K : Nat → Prop) (A : Option Addr) (n c : Nat) (u : List Bool) (hx : Bl K w A n c u) (hn : n ≤ 4096) (x y : Int) : Calls Try.prog 20 #[.agg #[.slice A n c], .agg #[.int .i64 x, .int .i64 y]] w (RGiveO u (x, y) w) := by
  refine (refGive_any w K A n c u hx hn x y).mono fun r w' hr => ?_
  rcases hr with ⟨h, hr, hb⟩ | ⟨h, hf, hr, hb⟩ | ⟨h, hf, A', n', c', hr, hx', hb⟩
  · exact ⟨11, u, A, n, c, hr, .inl ⟨h, rfl, rfl⟩, (hx.on hb).mono (fun _ _ _ => trivial), hb⟩
  · exact ⟨13, u, A, n, c, hr, .inr (.inl ⟨h, not_full hf, rfl, rfl⟩), (hx.on hb).mono (fun _ _ _ => trivial), hb⟩
  · exact ⟨0, _, A', n', c', hr, .inr (.inr ⟨h, hf, rfl, rfl⟩), hx'.mono (fun _ _ _ => trivial), hb⟩

def Taken (u : List Bool) (fs : List X) (size : Int) (x : X) (z : Int) (u' : List Bool) : Prop := (size < 1 ∧ x = (0, 0) ∧ z = 1 ∧ u' = u) ∨ (1 ≤ size ∧ takeI fs size = fs.length ∧ x = (0, 0) ∧ z = 9 ∧ u' = u) ∨
  (1 ≤ size ∧ takeI fs size < fs.length ∧ x = ((fs.getD (takeI fs size) (0, 0)).1, size) ∧ z = 0 ∧ u' = mark u ((fs.getD (takeI fs size) (0, 0)).1, size) true)
theorem Taken.only {u : List Bool} {fs : List X} {size : Int} {x x' : X} {z z' : Int} {u' u'' : List Bool} (h : Taken u fs size x z u') (k : Taken u fs size x' z' u'') : x' = x ∧ z' = z ∧ u'' = u' := by
  rcases h with ⟨a, rfl, rfl, rfl⟩ | ⟨a, b, rfl, rfl, rfl⟩ | ⟨a, b, rfl, rfl, rfl⟩ <;> rcases k with ⟨c, rfl, rfl, rfl⟩ | ⟨c, d, rfl, rfl, rfl⟩ | ⟨c, d, rfl, rfl, rfl⟩ <;> first | exact ⟨rfl, rfl, rfl⟩ | (exfalso; omega)
theorem Taken.len {u : List Bool} {fs : List X} {size : Int} {x : X} {z : Int} {u' : List Bool} (h : Taken u fs size x z u') : u'.length = u.length := by
  rcases h with ⟨_, _, _, rfl⟩ | ⟨_, _, _, _, rfl⟩ | ⟨_, _, _, _, rfl⟩ <;> simp [mark_len]
def TakeO (g : Nat) (m : Int) (u : List Bool) (fs : List X) (size : Int) (w : World) (r : Ending) (w' : World) : Prop := ∃ x y z u' fs' A n c, r = .returned (.tuple #[.agg #[.int .i64 x, .int .i64 y], .int .i64 z]) ∧ Taken u fs size (x, y) z u' ∧ Mm w' g m fs' A n c ∧ Can u' fs' ∧ Kept (fun i => i = g) w w'
theorem take_one (w : World) (g : Nat) (m : Int) (fs : List X) (A : Option Addr) (n c : Nat) (hM : Mm w g m fs A n c) (u : List Bool) (hu : Can u fs) (hul : (u.length : Int) = m) (hm : 0 ≤ m ∧ m ≤ 4096) (size : Int) :
    Calls Try.prog 21 #[.pointer (some ⟨g, 0, none⟩), .int .i64 size] w (TakeO g m u fs size w) := by
  have hn : n ≤ 9000 := by have := can_len hu; have := hM.row.lenX; omega
  have hr0 : Rise m 0 fs := by rw [← hul]; exact hu.rise
  refine (take_all w g m fs A n c hM hr0 hm hn size).mono fun r w' hr => ?_
  rcases hr with ⟨h, rfl, hb⟩ | ⟨h, hi, rfl, hb⟩ | ⟨h, hi, rfl, ⟨A', n', c', hm'⟩, hk⟩
  · exact ⟨0, 0, 1, u, fs, A, n, c, rfl, .inl ⟨h, rfl, rfl, rfl⟩, hM.on hb, hu, Kept.of_below hb _⟩
  · exact ⟨0, 0, 9, u, fs, A, n, c, rfl, .inr (.inl ⟨h, hi, rfl, rfl, rfl⟩), hM.on hb, hu, Kept.of_below hb _⟩
  · exact ⟨_, _, 0, _, _, A', n', c', rfl, .inr (.inr ⟨h, hi, rfl, rfl, rfl⟩), hm', (can_take hu h hi).2, hk⟩
def RTakeO (u : List Bool) (fs : List X) (size : Int) (w : World) (r : Ending) (w' : World) : Prop := ∃ x y z u' A n c, r = .returned (.tuple #[.agg #[.slice A n c], .agg #[.int .i64 x, .int .i64 y], .int .i64 z]) ∧ Taken u fs size (x, y) z u' ∧ Bl (fun _ => True) w' A n c u' ∧ Below w.heap.size w w'
theorem refTake_one (w : World) (K : Nat → Prop) (A : Option Addr) (n c : Nat) (u : List Bool) (fs : List X) (hc : Can u fs) (hx : Bl K w A n c u) (hn : n ≤ 4096) (size : Int) : Calls Try.prog 22 #[.agg #[.slice A n c], .int .i64 size] w (RTakeO u fs size w) := by
  refine (refTake_any w K A n c u fs hc hx hn size).mono fun r w' hr => ?_
  rcases hr with ⟨h, hr, hb⟩ | ⟨h, hi, hr, hb⟩ | ⟨h, hi, A', n', c', hr, hx', hb⟩
  · exact ⟨0, 0, 1, u, A, n, c, hr, .inl ⟨h, rfl, rfl, rfl⟩, (hx.on hb).mono (fun _ _ _ => trivial), hb⟩
  · exact ⟨0, 0, 9, u, A, n, c, hr, .inr (.inl ⟨h, hi, rfl, rfl, rfl⟩), (hx.on hb).mono (fun _ _ _ => trivial), hb⟩
  · exact ⟨_, _, 0, _, A', n', c', hr, .inr (.inr ⟨h, hi, rfl, rfl, rfl⟩), hx'.mono (fun _ _ _ => trivial), hb⟩

/-- what is read lies beside a block that holds nothing of the kind -/
theorem rd_beside {size : Nat} {K : Nat → Prop} {w : World} {A : Option Addr} {n c : Nat} {cells : List Value} (h : Rd size K w A n c cells) {g : Nat} {t : TypeId} {cs : Array Value} (hb : Box w g t cs) (hs : 0 < size) (hne : ∀ v ∈ cells, ∀ j : Nat, cs[j]? ≠ some v) :
    Rd size (fun b => K b ∧ b ≠ g) w A n c cells := by
  refine ⟨h.len, h.cap, h.max, h.nil, fun h0 => ?_⟩
  obtain ⟨b, off, e, hbs, hk, hc⟩ := h.at_ h0
  refine ⟨b, off, e, hbs, ⟨hk, fun e2 => ?_⟩, hc⟩
  subst e2
  have hp : 0 < n * size := Nat.mul_pos h0 hs
  have h1 := hc 0 hp
  rw [hb.cell] at h1
  have hl : 0 < cells.length := by rw [h.len]; exact hp
  rw [List.getElem?_eq_getElem hl] at h1
  exact hne _ (List.getElem_mem hl) _ h1
theorem cellsB_ne {u : List Bool} {cs : Array Value} (h : ∀ (i : Nat) (b : Bool), cs[i]? ≠ some (.bool b)) : ∀ v ∈ cellsB u, ∀ j : Nat, cs[j]? ≠ some v := by
  intro v hv j
  obtain ⟨b, _, rfl⟩ := List.mem_map.1 hv
  exact h j b
theorem cellsX_ne {l : List X} {A : Option Addr} {n c : Nat} : ∀ v ∈ cellsX l, ∀ j : Nat, (#[.slice A n c] : Array Value)[j]? ≠ some v := by
  intro v hv j
  obtain ⟨x, _, hx⟩ := List.mem_flatMap.1 hv
  simp only [cells2, List.mem_cons, List.not_mem_nil, or_false] at hx
  rcases j with _ | j <;> rcases hx with rfl | rfl <;> simp
/-- the map stays when another block is written -/
theorem Mm.kept {w w' : World} {g : Nat} {n : Int} {fs : List X} {A : Option Addr} {k c : Nat} (h : Mm w g n fs A k c) {S : Nat → Prop} (hk : Kept S w w') (hg : ¬ S g) (hr : Xl (fun b => b ≠ g ∧ ¬ S b) w A k c fs) : Mm w' g n fs A k c :=
  ⟨hk.box h.box hg, (hr.kept hk (fun _ hb => hb.2)).mono (fun _ _ hb => hb.1)⟩
end Go.Proofs.Ytcgajomngcgchaa
