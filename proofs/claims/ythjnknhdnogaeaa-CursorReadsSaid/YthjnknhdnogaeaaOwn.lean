/-
  The contract of the laws' own: bytes in memory of their own.
-/
import Derived.Test.YthjnknhdnogaeaaAwake
import Derived.Laws.AppendOwnNone
namespace Go.Proofs.Ythjnknhdnogaeaa
open Go.RowKit

/-- a slice of bytes that reads as l; its block is one of K's -/
structure Sl (w : World) (K : Nat → Prop) (A : Option Addr) (n c : Nat) (l : List Int) : Prop where
  bts : Bts w K A l
  len : l.length = n
  cap : n ≤ c
  max : c ≤ maxLen
  nil : A = none → c = 0

theorem Sl.kept {S : Nat → Prop} {w w' : World} {K : Nat → Prop} {A : Option Addr} {n c : Nat} {l : List Int} (h : Sl w K A n c l) (k : Kept S w w') (hS : ∀ b, K b → ¬ S b) : Sl w' K A n c l :=
  ⟨h.bts.kept k hS, h.len, h.cap, h.max, h.nil⟩
theorem Sl.drewN {w : World} {K : Nat → Prop} {A : Option Addr} {n c : Nat} {l : List Int} (h : Sl w K A n c l) (k : Nat) : Sl (w.drewN k) K A n c l := ⟨h.bts.drewN k, h.len, h.cap, h.max, h.nil⟩
theorem Bts.mono {w : World} {K K' : Nat → Prop} {A : Option Addr} {l : List Int} (h : Bts w K A l) (hK : ∀ b, b < w.heap.size → K b → K' b) : Bts w K' A l :=
  ⟨h.fit, fun h0 => by obtain ⟨b, off, e, hb, hk, hc⟩ := h.at_ h0; exact ⟨b, off, e, hb, hK b hb hk, hc⟩⟩
theorem Sl.mono {w : World} {K K' : Nat → Prop} {A : Option Addr} {n c : Nat} {l : List Int} (h : Sl w K A n c l) (hK : ∀ b, b < w.heap.size → K b → K' b) : Sl w K' A n c l := ⟨h.bts.mono hK, h.len, h.cap, h.max, h.nil⟩
theorem Bts.below {B : Nat} {w w' : World} {A : Option Addr} {l : List Int} {K : Nat → Prop} (h : Bts w K A l) (k : Below B w w') (hB : ∀ b, b < w.heap.size → K b → b < B) : Bts w' K A l :=
  ⟨h.fit, fun h0 => by
    obtain ⟨b, off, e, hb, hk, hc⟩ := h.at_ h0
    exact ⟨b, off, e, Nat.lt_of_lt_of_le hb k.size, hk, fun i hi => (k.cell (p := ⟨b, off + i, none⟩) (hB b hb hk)).trans (hc i hi)⟩⟩
theorem Sl.below {B : Nat} {w w' : World} {A : Option Addr} {n c : Nat} {l : List Int} {K : Nat → Prop} (h : Sl w K A n c l) (k : Below B w w') (hB : ∀ b, b < w.heap.size → K b → b < B) : Sl w' K A n c l := ⟨h.bts.below k hB, h.len, h.cap, h.max, h.nil⟩

/-- the cells of bytes -/
def cellsOf (l : List Int) : List Value := l.map (Value.int .u8)

theorem sl_of_own {w : World} {base : Nat} {v : Value} {n : Nat} {l : List Int} (h : w.ownsRow base 5 1 v n (cellsOf l)) (hf : Fit l) : ∃ A c, v = .slice A n c ∧ Sl w (fun b => base ≤ b) A n c l := by
  have hl : l.length = n := by have := h.1; simpa [cellsOf] using this
  have hown := h
  rcases h.2 with ⟨rfl, rfl⟩ | ⟨g, cap, cur, rfl, hg, hh, hn, hm, _, _⟩
  · exact ⟨none, 0, rfl, ⟨hf, fun h0 => by omega⟩, hl, Nat.le_refl _, Nat.zero_le _, fun _ => rfl⟩
  · refine ⟨some ⟨g, 0, none⟩, cap, rfl, ⟨hf, fun _ => ⟨g, 0, rfl, (Array.getElem?_eq_some_iff.1 hh).1, hg, fun i hi => ?_⟩⟩, hl, hn, hm, fun e => by cases e⟩
    rw [Nat.zero_add, hown.cellAt i (by omega)]
    simp [cellsOf, List.getD_eq_getElem?_getD, List.getElem?_eq_getElem hi]

theorem Bts.read {w : World} {K : Nat → Prop} {ad : Addr} {l : List Int} (h : Bts w K (some ad) l) : ∀ j u, (cellsOf l)[j]? = some u → w.cell? (ad.add j) = some u := by
  intro j u hu
  have hj : j < l.length := by
    have := (List.getElem?_eq_some_iff.1 hu).1
    simpa [cellsOf] using this
  obtain ⟨b, off, e, _, _, hc⟩ := h.at_ (by omega)
  injection e with e
  subst e
  have h1 := hc j hj
  have h2 : (⟨b, off, none⟩ : Addr).add j = ⟨b, off + j, none⟩ := by
    unfold Addr.add
    split
    · next h => subst h; simp
    · rfl
  rw [h2, h1]
  simp only [cellsOf, List.getElem?_map, List.getElem?_eq_getElem hj, Option.map_some, Option.some.injEq] at hu
  subst hu
  simp [List.getD_eq_getElem?_getD, List.getElem?_eq_getElem hj]

theorem cellsOf_one (l : List Int) : ∀ u ∈ cellsOf l, u.oneCell' = true := by
  intro u hu
  obtain ⟨z, _, rfl⟩ := List.mem_map.1 hu
  rfl

theorem byte_info : (Try.prog.info? 5).map (fun i => (i.zero, i.size, i.bytes)) = some (some (.int .u8 0), 1, 1) := by kernel_rfl

/-- what own answers -/
def Owned (w : World) (n : Nat) (l : List Int) (e : Ending) (w' : World) : Prop := ∃ A c, e = .returned (.slice A n c) ∧ Sl w' (fun b => w.heap.size ≤ b) A n c l ∧ Below w.heap.size w w'

set_option maxHeartbeats 400000 in
theorem own_any (w : World) (K : Nat → Prop) (A : Option Addr) (n c : Nat) (l : List Int) (h : Sl w K A n c l) (hn : n ≤ 140737488351232) :
    Calls Try.prog 11 #[.slice A n c] w (Owned w n l) := by
  obtain ⟨i0, hi0, hz0, hz1, hz2⟩ := info_parts byte_info
  cases A with
  | none =>
    obtain rfl : c = 0 := h.nil rfl
    obtain rfl : n = 0 := by have := h.cap; omega
    have hl : l = [] := List.eq_nil_of_length_eq_zero h.len
    have H := Lib.hid (And.intro h hl)
    clear h hl
    go_enter Try.func11, Try.ntmps11
    go_wp2
    go_ret
    refine ⟨some ⟨w.heap.size, 0, none⟩, 0, rfl, ?_, (Below.refl _ _).alloc (Nat.le_refl _) _⟩
    rw [H.out.2]
    exact ⟨⟨(fun z hz => by cases hz), fun h0 => absurd h0 (by simp)⟩, rfl, Nat.le_refl _, Nat.zero_le _, fun _ => rfl⟩
  | some ad =>
    have hr := (h.bts.kept ((Kept.refl (fun _ => False) w).alloc (.cells #[] 5)) (fun _ _ h => h)).read
    have hlen : (cellsOf l).length = n * 1 := by simp [cellsOf, h.len]
    have H := Lib.hid h
    have HR := Lib.hid (And.intro hr hlen)
    clear h hr hlen
    go_enter Try.func11, Try.ntmps11
    go_wp2_with (at_builtin; refine wpList_append_own _ rfl (.tmp 3) (.tmp 4) 22 rfl w.heap.size 5 i0 (.int .u8 0) 1 1 Try.underlying22 hi0 hz0 hz1 hz2 rfl (by omega) (.slice (some ⟨w.heap.size, 0, none⟩) 0 0) 0 [] rfl (World.ownsRow_made w #[] 0 (Nat.le_refl _) (Nat.zero_le _) rfl) ad n c (cellsOf l) rfl HR.out.2 HR.out.1 (cellsOf_one l) ?_ ?_ ?_ ?_; (simp only [maxLen]; omega); omega; simp; intro v' w1 hown hgrow _; have HO := Lib.hid (And.intro hown hgrow); clear hown hgrow)
    go_ret
    obtain ⟨hown, hgrow⟩ := HO.out
    simp only [Nat.zero_add, List.nil_append] at hown
    obtain ⟨A', c', e, hs⟩ := sl_of_own hown H.out.bts.fit
    subst e
    exact ⟨A', c', rfl, hs, ((Below.refl _ _).alloc (Nat.le_refl _) _).grown hgrow (by simp) (by simp [Value.ownBlock])⟩

end Go.Proofs.Ythjnknhdnogaeaa
