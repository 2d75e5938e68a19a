/-
  The contract of differ.
-/
import Derived.Test.YthfpdebpepbejaaDoorCopied
namespace Go.Proofs.YthfpdebpepbejaaDoor
open Go.RowKit

/-- numbers of 0 to 255, no two alike -/
def Diff (V : List Int) : Prop := (∀ v ∈ V, 0 ≤ v ∧ v ≤ 255) ∧ V.Nodup
/-- which numbers are in a list -/
def seenC (L : List Int) : Array Value := ((List.range 256).map fun i : Nat => Value.bool (decide ((i : Int) ∈ L))).toArray
theorem seenC_at (L : List Int) {i : Nat} (hi : i < 256) : (seenC L)[i]? = some (.bool (decide ((i : Int) ∈ L))) := by
  simp [seenC, hi]
theorem seenC_put (L : List Int) (i : Nat) : (seenC L).setIfInBounds i (.bool true) = seenC (L ++ [(i : Int)]) := by
  unfold seenC
  rw [List.setIfInBounds_toArray]
  congr 1
  apply List.ext_getElem?
  intro k
  rw [List.getElem?_set]
  by_cases hk : k < 256
  · by_cases e : i = k
    · subst e
      simp [hk]
    · simp [hk, e]
      intro h
      exact absurd (by omega) e
  · simp [hk]
    omega
theorem zero91 (w : World) : (zeroValue 137).run Tryd.prog w = .ok (.agg (seenC [])) w := by kernel_rfl

/-- what differ answers -/
def Differ (w : World) (V : List Int) (e : Ending) (w' : World) : Prop := ∃ b, e = .returned (.bool b) ∧ (b = true ↔ Diff V) ∧ Below w.heap.size w w'
structure Diffing (w wr : World) (g : Nat) (V : List Int) (k : Nat) : Prop where
  box : Box wr g 137 (seenC (V.take k))
  dif : Diff (V.take k)
  bel : Below w.heap.size w wr
  new : w.heap.size ≤ g
theorem diff_take {V : List Int} (h : Diff V) (k : Nat) : Diff (V.take k) := ⟨fun v hv => h.1 v (List.mem_of_mem_take hv), h.2.sublist (List.take_sublist _ _)⟩
theorem diff_more {V : List Int} {k : Nat} (hk : k < V.length) : Diff (V.take (k + 1)) ↔ Diff (V.take k) ∧ (0 ≤ V.getD k 0 ∧ V.getD k 0 ≤ 255) ∧ V.getD k 0 ∉ V.take k := by
  rw [take_more V k hk]
  unfold Diff
  rw [List.nodup_append]
  constructor
  · rintro ⟨h1, h2, _, h3⟩
    exact ⟨⟨fun v hv => h1 v (List.mem_append_left _ hv), h2⟩, h1 _ (by simp), fun hm => h3 _ hm _ (by simp) rfl⟩
  · rintro ⟨⟨h1, h2⟩, h3, h4⟩
    refine ⟨fun v hv => ?_, h2, by simp, fun a ha b hb e => ?_⟩
    · rcases List.mem_append.1 hv with hv | hv
      · exact h1 v hv
      · simp only [List.mem_singleton] at hv; rw [hv]; exact h3
    · simp only [List.mem_singleton] at hb
      rw [← e] at hb
      subst hb
      exact h4 ha

set_option maxRecDepth 20000 in
set_option maxHeartbeats 1600000 in
theorem differ_any (w : World) (A : Option Addr) (n c : Nat) (V : List Int) (h : Ia w A n c V) (hn : n ≤ 300) :
    Calls Tryd.prog 63 #[.slice A n c] w (Differ w V) := by
  have hz := zero91
  obtain ⟨Z, hZ⟩ : ∃ Z, Z = seenC [] := ⟨_, rfl⟩
  rw [← hZ] at hz
  have hD : Diffing w (w.alloc (.cells Z 137)) w.heap.size V 0 := ⟨by rw [hZ]; exact Box.made _ _ _, ⟨(fun v hv => by cases hv), List.Pairwise.nil⟩, on_alloc _ _, Nat.le_refl _⟩
  have HD := Lib.hid hD
  have HL := Lib.hid h.len
  have HI := Lib.hid h
  clear hD hZ h
  go_enter Tryd.func63, Tryd.ntmps63
  go_wp2_with fail
  generalize hg : w.heap.size = g at HD ⊢
  have HG := Lib.hid hg
  clear hg hz
  go_loopw [8] (fun i wr => ∃ k : Nat, k ≤ n ∧ i = .int .i64 k ∧ Diffing w wr g V k) (fun i _ => n - (intOf i).toNat)
  case atStart => exact ⟨0, Nat.zero_le _, rfl, HD.out⟩
  case round =>
    obtain ⟨k, hk, rfl, hR⟩ := hrel
    by_cases hlt : k < n
    · obtain ⟨b, off, hA, _, hc⟩ := (HI.out.on hR.bel).at_ (by omega)
      have hck := hc k hlt
      obtain ⟨v, hv⟩ : ∃ v, v = V.getD k 0 := ⟨_, rfl⟩
      rw [← hv] at hck
      have hmore := diff_more (V := V) (k := k) (by have := HL.out; omega)
      rw [← hv] at hmore
      have HR := Lib.hid (And.intro hR (And.intro hmore hv))
      clear hc hR hmore hv
      subst hA
      by_cases h0 : v < 0
      · go_wp2
        go_ret
        refine ⟨false, rfl, ⟨(fun e => by cases e), fun hd => ?_⟩, HR.out.1.bel⟩
        have := (HR.out.2.1.1 (diff_take hd _)).2.1
        omega
      by_cases h1 : 256 ≤ v
      · go_wp2
        go_ret
        refine ⟨false, rfl, ⟨(fun e => by cases e), fun hd => ?_⟩, HR.out.1.bel⟩
        have := (HR.out.2.1.1 (diff_take hd _)).2.1
        omega
      obtain ⟨m, rfl⟩ := Int.eq_ofNat_of_zero_le (show 0 ≤ v by omega)
      have hm : m < 256 := by omega
      have s1 : wr.cell? ⟨g, m, none⟩ = some (.bool (decide ((m : Int) ∈ V.take k))) := (HR.out.1.box.cell m).trans (seenC_at _ hm)
      by_cases h2 : (m : Int) ∈ V.take k
      · rw [decide_eq_true h2] at s1
        have H2 := Lib.hid h2
        clear h2
        go_wp2
        go_ret
        refine ⟨false, rfl, ⟨(fun e => by cases e), fun hd => ?_⟩, HR.out.1.bel⟩
        exact absurd H2.out (HR.out.2.1.1 (diff_take hd _)).2.2
      · rw [decide_eq_false h2] at s1
        have H2 := Lib.hid h2
        have f1 := HR.out.1.box.free m
        clear h2
        go_wp2
        go_roundw
        case rel =>
          refine ⟨k + 1, by omega, by go_num, ?_⟩
          have hb := HR.out.1.box.put m (.bool true)
          rw [seenC_put, HR.out.2.2, ← take_more V k (by have := HL.out; omega)] at hb
          exact ⟨hb, HR.out.2.1.2 ⟨HR.out.1.dif, by omega, H2.out⟩, HR.out.1.bel.setCell (p := ⟨g, m, none⟩) HR.out.1.new _, HR.out.1.new⟩
        case measure => simp [intOf]; omega
    · have ek : k = n := by omega
      have HE := Lib.hid (And.intro hR ek)
      clear hR ek
      go_wp2
      go_ret
      obtain ⟨hR, ek⟩ := HE.out
      have hd := hR.dif
      rw [ek, List.take_of_length_le (by have := HL.out; omega)] at hd
      exact ⟨true, rfl, ⟨fun _ => hd, fun _ => rfl⟩, hR.bel⟩
end Go.Proofs.YthfpdebpepbejaaDoor
