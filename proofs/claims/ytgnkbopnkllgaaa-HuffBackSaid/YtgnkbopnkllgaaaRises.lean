/-
  HuffRises: the walk.
-/
import Derived.Test.YtgnkbopnkllgaaaAgain
namespace Go.Proofs.Ytgnkbopnkllgaaa
open Go.RowKit

theorem nodup_inj {V : List Int} (h : V.Nodup) {i j : Nat} (hi : i < V.length) (hj : j < V.length) (e : V[i] = V[j]) : i = j := by
  rcases Nat.lt_trichotomy i j with h1 | h1 | h1
  · exact absurd e (List.pairwise_iff_getElem.1 h i j hi hj h1)
  · exact h1
  · exact absurd e.symm (List.pairwise_iff_getElem.1 h j i hj hi h1)
/-- a value's code is the one in its place -/
theorem code_at {B V : List Int} (h : Valid B V) {p : Nat} (hp : p < V.length) : ∃ x, (pre (cnt B) 16)[p]? = some x ∧ codeOf (codes B V) (V.getD p 0) = x := by
  have hl := h.lens
  have hx : (pre (cnt B) 16)[p]? = some ((pre (cnt B) 16)[p]'(by omega)) := List.getElem?_eq_getElem (by omega)
  generalize (pre (cnt B) 16)[p]'(by omega) = x at hx
  refine ⟨x, hx, ?_⟩
  have hv : V[p]? = some (V.getD p 0) := by rw [List.getD_eq_getElem?_getD, List.getElem?_eq_getElem hp]; rfl
  have he : (codes B V)[p]? = some (V.getD p 0, x) := ents_at.2 ⟨hv, hx⟩
  have hs : (fnd (codes B V) (V.getD p 0)).isSome = true := by
    unfold fnd
    rw [List.find?_isSome]
    exact ⟨_, List.mem_of_getElem? he, by simp⟩
  obtain ⟨e, hf⟩ := Option.isSome_iff_exists.1 hs
  obtain ⟨h1, h2⟩ := fnd_some hf
  obtain ⟨j, hj⟩ := List.getElem?_of_mem h1
  obtain ⟨h3, h4⟩ := ents_at.1 hj
  obtain ⟨hjl, h3'⟩ := List.getElem?_eq_some_iff.1 h3
  have ej : j = p := nodup_inj h.dif hjl hp (by
    rw [h3', h2, List.getD_eq_getElem?_getD, List.getElem?_eq_getElem hp]
    rfl)
  subst ej
  rw [hx] at h4
  unfold codeOf
  rw [hf]
  exact (Option.some.inj h4).symm

/-- what the laws that look at codes hold on to -/
structure Looking (w wr : World) (g lo hi t : Nat) (B V : List Int) (A : Option Addr) (n c : Nat) : Prop where
  box : Boxed w wr g B V A n c
  tab : Tb wr lo hi t B V (codes B V)
theorem Looking.on {w w1 w2 : World} {g lo hi t : Nat} {B V : List Int} {A : Option Addr} {n c : Nat} (h : Looking w w1 g lo hi t B V A n c) (k : Below w1.heap.size w1 w2) : Looking w w2 g lo hi t B V A n c := ⟨h.box.on k, h.tab.on k⟩

theorem Ia.get {w : World} {b off n c k : Nat} {V : List Int} (h : Ia w (some ⟨b, off, none⟩) n c V) (hk : k < n) : w.cell? ⟨b, off + k, none⟩ = some (.int .i64 (V.getD k 0)) := by
  obtain ⟨b', off', e, _, hc⟩ := h.at_ (by omega)
  cases e
  exact hc k hk
/-- Code tells a value's code -/
def CodedIn (w : World) (x : Nat × Nat) (e : Ending) (w' : World) : Prop := e = .returned (.tuple #[.int .i64 (x.1 : Int), .int .i64 (x.2 : Int), .bool true]) ∧ Below w.heap.size w w'
theorem code_in (w : World) (lo hi t : Nat) (B V : List Int) (p : Nat) (x : Nat × Nat) (v : Int) (h : Tb w lo hi t B V (codes B V)) (hv : Valid B V) (hx : (pre (cnt B) 16)[p]? = some x) (hc : codeOf (codes B V) v = x) :
    Calls Try.prog 15 #[.pointer (some ⟨t, 0, none⟩), .int .i64 v] w (CodedIn w x) := by
  refine (code_any w lo hi t B V _ v h (valid_vals hv)).mono ?_
  rintro e w' ⟨rfl, b⟩
  rw [hc]
  have := (mem_pre (List.mem_of_getElem? hx)).1
  exact ⟨by rw [show decide (0 < x.2) = true from decide_eq_true (by omega)], b⟩

set_option maxRecDepth 20000 in
set_option maxHeartbeats 1600000 in
theorem rises_calls (w : World) (B V : List Int) (A : Option Addr) (n c : Nat) (hB : B.length = 16) (h : Ia w A n c V) : Calls Try.prog 9 #[specV B (.slice A n c)] w (Law w) := by
  obtain ⟨C, hC⟩ : ∃ C, C = specC B (.slice A n c) := ⟨_, rfl⟩
  have eV : specV B (.slice A n c) = .agg C := by rw [hC]; rfl
  rw [eV]
  obtain ⟨g, hg⟩ : ∃ g, g = w.heap.size := ⟨_, rfl⟩
  obtain ⟨w1, hw1⟩ : ∃ w1, w1 = w.alloc (.cells C 25) := ⟨_, rfl⟩
  have hb := boxed_made (w1 := w1) (g := g) hB h (by rw [hw1, hC]) hg
  have c16 := hb.slice
  rw [hw1, hg] at c16
  have HB := Lib.hid (And.intro hb (And.intro hw1 (And.intro hg h.len)))
  clear hb hw1 hg hC eV h hB
  by_cases hn : 300 < n
  · go_enter Try.func9, Try.ntmps9
    go_wp2_with fail
    rw [← HB.out.2.1]
    refine (awake5_any w1).mono ?_
    rintro e w2 ⟨rfl, b2⟩
    have H2 := Lib.hid (on_trans HB.out.1.bel b2)
    clear b2
    go_wp2
    go_ret
    exact ⟨rfl, H2.out⟩
  have hn3 : ¬ (300 : Int) < (n : Int) := by omega
  have HL := Lib.hid (load_spec HB.out.1.box HB.out.1.len)
  go_enter Try.func9, Try.ntmps9
  go_wp2_with (first
    | (refine wpList_load_to (op := ⟨some 18, _, _, _, _, _⟩) rfl 25 (.tmp 1) rfl (.pointer (some ⟨w.heap.size, 0, none⟩)) rfl (specV B (.slice A n c)) (by rw [← HB.out.2.1, ← HB.out.2.2.1]; exact HL.out) ?_)
    | fail)
  rw [← HB.out.2.1, ← HB.out.2.2.1]
  clear c16
  refine (own_any w1 B V A n c HB.out.1.len HB.out.1.vals (by omega)).mono ?_
  rintro e w2 ⟨A2, c2, rfl, hi2, _, b2⟩
  have H2 := Lib.hid (And.intro hi2 (HB.out.1.on b2))
  clear hi2 b2
  go_wp2_with fail
  refine (new_any w2 B V A2 n c2 HB.out.1.len H2.out.1 (by omega)).mono ?_
  rintro e w3 ⟨b3, ⟨hv, rfl⟩ | ⟨hv, t, rfl, hT⟩⟩
  · have H3 := Lib.hid (H2.out.2.on b3)
    clear b3 hv
    go_wp2_with fail
    refine (awake5_any w3).mono ?_
    rintro e w4 ⟨rfl, b4⟩
    have H4 := Lib.hid (H3.out.on b4)
    clear b4
    go_wp2
    go_ret
    exact ⟨rfl, H4.out.bel⟩
  · have HV := Lib.hid hv
    have hK : Looking w w3 g w2.heap.size w3.heap.size t B V A n c := ⟨H2.out.2.on b3, hT⟩
    generalize w2.heap.size = lo at hK
    generalize w3.heap.size = hi at hK
    have HK := Lib.hid hK
    clear b3 hv hT hK
    go_wp2
    go_loopw [5] (fun i wr => ∃ k : Nat, k ≤ n ∧ 1 ≤ k ∧ i = .int .i64 k ∧ Looking w wr g lo hi t B V A n c) (fun i _ => n - (intOf i).toNat)
    case atStart =>
      refine ⟨1, ?_, Nat.le_refl _, rfl, HK.out⟩
      have := HV.out.pos
      have := HB.out.2.2.2
      omega
    case round =>
      obtain ⟨i, hi1, hi2, rfl, hR⟩ := hrel
      have c16 := hR.box.slice
      have HR := Lib.hid hR
      by_cases hlt : i < n
      · obtain ⟨k, rfl⟩ : ∃ k, i = k + 1 := ⟨i - 1, by omega⟩
        obtain ⟨b, off, hA, _, hc⟩ := hR.box.vals.at_ (by omega)
        have hc0 := hc k (by omega)
        have hk1 : (((k + 1 : Nat) : Int)) - 1 = (k : Int) := by omega
        have hlen := HB.out.2.2.2
        obtain ⟨x, hx1, hx2⟩ := code_at HV.out (p := k) (by omega)
        obtain ⟨y, hy1, hy2⟩ := code_at HV.out (p := k + 1) (by omega)
        obtain ⟨v, hv⟩ : ∃ v, v = V.getD k 0 := ⟨_, rfl⟩
        obtain ⟨u, hu⟩ : ∃ u, u = V.getD (k + 1) 0 := ⟨_, rfl⟩
        rw [← hv] at hc0 hx2
        rw [← hu] at hy2
        have hnext := pre_next 16 k x y hx1 hy1
        have hxb := mem_pre (List.mem_of_getElem? hx1)
        have hyb := mem_pre (List.mem_of_getElem? hy1)
        have hxf := HV.out.fits (x.2 - 1) (by omega)
        have hxp := pow16 (i := x.2) (by omega)
        rw [show x.2 - 1 + 1 = x.2 by omega] at hxf
        have hx20 : x.1 < 100000 := by omega
        have hx17 : x.2 ≤ 16 := hxb.2.1
        have HX := Lib.hid (And.intro hx2 (And.intro hy2 (And.intro hx1 (And.intro hy1 hu))))
        subst hA
        clear hx2 hy2 hx1 hy1 hxb hyb hxf hxp hv hR hlen hc
        go_wp2_with fail
        refine (code_in wr lo hi t B V k x v HR.out.tab HV.out HX.out.2.2.1 HX.out.1).mono ?_
        rintro e w4 ⟨rfl, b4⟩
        have hR4 := HR.out.on b4
        have d16 := hR4.box.slice
        have e1 := hR4.box.vals.get (show k + 1 < n by omega)
        rw [← HX.out.2.2.2.2] at e1
        have H4 := Lib.hid hR4
        clear b4 hR4 c16 hc0 hk1 hu
        go_wp2_with fail
        refine (code_in w4 lo hi t B V (k + 1) y u H4.out.tab HV.out HX.out.2.2.2.1 HX.out.2.1).mono ?_
        rintro e w5 ⟨rfl, b5⟩
        have H5 := Lib.hid (H4.out.on b5)
        clear b5 d16 e1
        obtain ⟨x1, x2⟩ := x
        obtain ⟨y1, y2⟩ := y
        dsimp only at hnext hx20 hx17 ⊢
        rcases hnext with h1 | ⟨h1, h2⟩
        · have g1 : ¬ (y2 : Int) < (x2 : Int) := by omega
          have g2 : ((y2 : Int) == (x2 : Int)) = false := by simp; omega
          have g3 : ¬ (y2 : Int) = (x2 : Int) := by omega
          go_wp2
          go_roundw
          case rel => exact ⟨k + 1 + 1, by omega, by omega, by go_num, H5.out⟩
          case measure => simp [intOf]; omega
        · subst h1 h2
          have g4 : ((x1 + 1 : Nat) : Int) = (x1 : Int) + 1 := by omega
          go_wp2
          go_roundw
          case rel => exact ⟨k + 1 + 1, by omega, by omega, by go_num, H5.out⟩
          case measure => simp [intOf]; omega
      · clear hR
        go_wp2_with fail
        refine (awake5_any wr).mono ?_
        rintro e w8 ⟨rfl, b8⟩
        have H8 := Lib.hid (HR.out.on b8)
        clear b8
        go_wp2
        go_ret
        exact ⟨rfl, H8.out.box.bel⟩
end Go.Proofs.Ytgnkbopnkllgaaa
