/-
  HuffAgain: the walk.
-/
import Derived.Test.YtgnkbopnkllgaaaAwake5
namespace Go.Proofs.Ytgnkbopnkllgaaa
open Go.RowKit

/-- a law's specification in memory -/
structure Boxed (w w1 : World) (g : Nat) (B V : List Int) (A : Option Addr) (n c : Nat) : Prop where
  box : Box w1 g 25 (specC B (.slice A n c))
  vals : Ia w1 A n c V
  bel : Below w.heap.size w w1
  len : B.length = 16
theorem Boxed.on {w w1 w2 : World} {g : Nat} {B V : List Int} {A : Option Addr} {n c : Nat} (h : Boxed w w1 g B V A n c) (k : Below w1.heap.size w1 w2) : Boxed w w2 g B V A n c :=
  ⟨h.box.on k, h.vals.on k, on_trans h.bel k, h.len⟩
theorem boxed_made {w w1 : World} {g : Nat} {B V : List Int} {A : Option Addr} {n c : Nat} (hB : B.length = 16) (h : Ia w A n c V) (hw : w1 = w.alloc (.cells (specC B (.slice A n c)) 25)) (hg : g = w.heap.size) : Boxed w w1 g B V A n c := by
  subst hw hg
  exact ⟨Box.made _ _ _, h.alloc _, on_alloc _ _, hB⟩
theorem Boxed.slice {w w1 : World} {g : Nat} {B V : List Int} {A : Option Addr} {n c : Nat} (h : Boxed w w1 g B V A n c) : w1.cell? ⟨g, 16, none⟩ = some (.slice A n c) := (h.box.cell 16).trans (specC_last h.len)
theorem spec_any (w : World) (lo hi t : Nat) (B V : List Int) (L : List En) (h : Tb w lo hi t B V L) :
    Calls Try.prog 17 #[.pointer (some ⟨t, 0, none⟩)] w fun e w' => ∃ n, n ≤ 300 ∧ V.length = n ∧ OwnSpec w B n V e w' := by
  obtain ⟨A, n, c, m, h⟩ := h
  exact (spec_at w lo hi t B V L A n c m h).mono fun e w' hO => ⟨n, h.few, h.vals.len, hO⟩

set_option maxRecDepth 20000 in
set_option maxHeartbeats 1600000 in
theorem again_calls (w : World) (B V : List Int) (A : Option Addr) (n c : Nat) (v : Int) (hB : B.length = 16) (h : Ia w A n c V) : Calls Try.prog 8 #[specV B (.slice A n c), .int .i64 v] w (Law w) := by
  obtain ⟨C, hC⟩ : ∃ C, C = specC B (.slice A n c) := ⟨_, rfl⟩
  have eV : specV B (.slice A n c) = .agg C := by rw [hC]; rfl
  rw [eV]
  obtain ⟨g, hg⟩ : ∃ g, g = w.heap.size := ⟨_, rfl⟩
  obtain ⟨w1, hw1⟩ : ∃ w1, w1 = w.alloc (.cells C 25) := ⟨_, rfl⟩
  have hb := boxed_made (w1 := w1) (g := g) hB h (by rw [hw1, hC]) hg
  have c16 := hb.slice
  rw [hw1, hg] at c16
  have HB := Lib.hid (And.intro hb (And.intro hw1 hg))
  clear hb hw1 hg hC eV h hB
  by_cases hn : 300 < n
  · go_enter Try.func8, Try.ntmps8
    go_wp2_with fail
    rw [← HB.out.2.1]
    refine (awake5_any w1).mono ?_
    rintro e w2 ⟨rfl, b2⟩
    have H2 := Lib.hid (on_trans HB.out.1.bel b2)
    clear b2
    go_wp2
    go_ret
    exact ⟨rfl, H2.out⟩
  have hn3 : ¬ (300 : Int) < (n : Int) := by omega
  have HL := Lib.hid (load_spec HB.out.1.box HB.out.1.len)
  go_enter Try.func8, Try.ntmps8
  go_wp2_with (first
    | (refine wpList_load_to (op := ⟨some 21, _, _, _, _, _⟩) rfl 25 (.tmp 2) rfl (.pointer (some ⟨w.heap.size, 0, none⟩)) rfl (specV B (.slice A n c)) (by rw [← HB.out.2.1, ← HB.out.2.2]; exact HL.out) ?_)
    | fail)
  rw [← HB.out.2.1, ← HB.out.2.2]
  clear c16
  refine (own_any w1 B V A n c HB.out.1.len HB.out.1.vals (by omega)).mono ?_
  rintro e w2 ⟨A2, c2, rfl, hi2, _, b2⟩
  have H2 := Lib.hid (And.intro hi2 (And.intro (HB.out.1.on b2) b2))
  clear hi2 b2
  go_wp2_with fail
  refine (new_any w2 B V A2 n c2 HB.out.1.len H2.out.1 (by omega)).mono ?_
  rintro e w3 ⟨b3, ⟨hv, rfl⟩ | ⟨hv, t, rfl, hT⟩⟩
  · have H3 := Lib.hid (And.intro hv (H2.out.2.1.on b3))
    clear b3 hv
    go_wp2_with fail
    refine (spec_nil w3).mono ?_
    rintro e w4 ⟨A4, c4, rfl, hi4, _, b4⟩
    have H4 := Lib.hid (And.intro hi4 (H3.out.2.on b4))
    clear hi4 b4
    go_wp2_with fail
    refine (new_any w4 (List.replicate 16 0) [] A4 0 c4 rfl H4.out.1 (by omega)).mono ?_
    rintro e w5 ⟨b5, ⟨_, rfl⟩ | ⟨hv5, _⟩⟩
    · have H5 := Lib.hid (H4.out.2.on b5)
      clear b5
      go_wp2_with fail
      refine (awake5_any w5).mono ?_
      rintro e w6 ⟨rfl, b6⟩
      have H6 := Lib.hid (H5.out.on b6)
      clear b6
      go_wp2
      go_ret
      exact ⟨rfl, H6.out.bel⟩
    · exact absurd hv5 valid0
  · have H3 := Lib.hid (And.intro hv (And.intro hT (H2.out.2.1.on b3)))
    clear b3 hv hT
    go_wp2_with fail
    refine (spec_any w3 _ _ t B V _ H3.out.2.1).mono ?_
    rintro e w4 ⟨n4, hn4, hV4, A4, c4, rfl, hi4, _, b4⟩
    have H4 := Lib.hid (And.intro hi4 (And.intro (H3.out.2.1.on b4) (And.intro (H3.out.2.2.on b4) hn4)))
    clear hi4 b4 hV4 hn4
    go_wp2_with fail
    refine (new_any w4 B V A4 n4 c4 HB.out.1.len H4.out.1 H4.out.2.2.2).mono ?_
    rintro e w5 ⟨b5, ⟨hv5, rfl⟩ | ⟨_, u, rfl, hU⟩⟩
    · exact absurd H3.out.1 hv5
    · have H5 := Lib.hid (And.intro hU (And.intro (H4.out.2.1.on b5) (H4.out.2.2.1.on b5)))
      clear b5 hU
      go_wp2_with fail
      refine (code_any w5 _ _ t B V _ v H5.out.2.1 (valid_vals H3.out.1)).mono ?_
      rintro e w6 ⟨rfl, b6⟩
      have H6 := Lib.hid (And.intro (H5.out.1.on b6) (H5.out.2.2.on b6))
      clear b6
      obtain ⟨x, hx⟩ : ∃ x, x = codeOf (codes B V) v := ⟨_, rfl⟩
      have HX := Lib.hid hx
      rw [← hx]
      clear hx
      go_wp2_with fail
      refine (code_any w6 _ _ u B V _ v H6.out.1 (valid_vals H3.out.1)).mono ?_
      rw [← HX.out]
      rintro e w7 ⟨rfl, b7⟩
      have H7 := Lib.hid (H6.out.2.on b7)
      clear b7
      go_wp2_with fail
      refine (awake5_any w7).mono ?_
      rintro e w8 ⟨rfl, b8⟩
      have H8 := Lib.hid (H7.out.on b8)
      clear b8
      go_wp2
      go_ret
      exact ⟨rfl, H8.out.bel⟩
end Go.Proofs.Ytgnkbopnkllgaaa
