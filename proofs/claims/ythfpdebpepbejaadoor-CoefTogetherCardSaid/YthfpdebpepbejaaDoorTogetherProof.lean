/-
  From an argument's reading to a slice of blocks. CoefTogether: for every two specifications and every slice of blocks, called with any memory in which the program's one listed variable reads as its text lays it, the law returns true, and each argument reads afterwards as it read before. The variable is tied to the program's text by the card. No other condition.
-/
import Derived.Test.YthfpdebpepbejaaDoorFrame7
import Derived.Test.YthfpdebpepbejaaDoorOneBlk
import Derived.Deep.Slices
import Derived.Test.YthfpdebpepbejaaDoorTogether
namespace Go.Proofs.YthfpdebpepbejaaDoor
open Go.ChangeShapes Go.WideShapes Go.ChangeAt Go.RowKit

theorem blocks_of_trod {H : Type} {enc : TypeId × Value → H} {W : World} {a : Option Addr} {len cap : Nat} {d : DataW H} {p : List MemPlace} {b : Nat} {sp : Bool}
    (h : DataW.Trod enc Tryd.prog W b (fun _ => true) sp 67 (.slice a len cap) d p) : ∃ bl, Bs W a len bl := by
  obtain ⟨fuel, hf⟩ := h
  rcases Go.Deep.open_slice Tryd.underlying67 hf with ⟨hcs, _⟩ | ⟨x, l, c, m, n, D, Pl, hcs, _, hl, _, hm, _, hx⟩
  · simp [Value.cells] at hcs
    obtain ⟨rfl, rfl, rfl⟩ := hcs
    exact ⟨[], rfl, (fun x hx => by cases hx), fun h => absurd h (by omega)⟩
  · simp [Value.cells] at hcs
    obtain ⟨rfl, rfl, rfl⟩ := hcs
    simp at hm
    rcases Nat.eq_zero_or_pos len with h0 | h0
    · subst h0
      exact ⟨[], rfl, (fun x hx => by cases hx), fun h => absurd h (by omega)⟩
    · obtain ⟨b0, off, spot⟩ := x
      have each : ∀ i, i < len → ∃ z : List Int, z.length = 64 ∧ ∀ j, j < 64 → W.cell? (((⟨b0, off, spot⟩ : Addr).add (i * 64)).add j) = some (.int .i64 (z.getD j 0)) := by
        intro i hi
        obtain ⟨cs', h1, h2⟩ := hx i (by omega)
        rw [cells23'] at h1
        obtain ⟨z, hz, rfl⟩ := block_cells h2
        refine ⟨z, hz, fun j hj => ?_⟩
        obtain ⟨_, _, h3⟩ := World.cells?_some h1
        rw [h3 j hj, cellsI_get _ _ (by omega)]
      obtain ⟨z, hz⟩ := Go.Deep.choose_lt each
      have h1 := (hz 0 h0).2 0 (by omega)
      have hs : spot = none := by simpa [Addr.add] using World.cell?_spot h1
      subst hs
      refine ⟨(List.range len).map z, by simp, fun y hy => ?_, fun _ => ⟨b0, off, rfl, ?_, fun i y hy j hj => ?_⟩⟩
      · obtain ⟨i, hi, rfl⟩ := List.mem_map.1 hy
        exact (hz i (List.mem_range.1 hi)).1
      · exact World.block_lt_of_cell? W ⟨b0, off, none⟩ (by simpa [Addr.add] using h1)
      · have hi : i < len := by
          have := (List.getElem?_eq_some_iff.1 hy).1
          simpa using this
        have hy2 : y = z i := by
          rw [List.getElem?_map, List.getElem?_range hi] at hy
          exact (Option.some.inj hy).symm
        have h2 := (hz i hi).2 j hj
        rw [plain_add, plain_add] at h2
        rw [h2, hy2]
end Go.Proofs.YthfpdebpepbejaaDoor

namespace Go.Proofs.YthfpdebpepbejaaDoor
open Go.ChangeShapes Go.WideShapes Go.ChangeAt Go.RowKit

set_option maxRecDepth 100000 in
theorem coefTogether_lifted (os : Os) (started : os.Started) (H : Type) (enc : TypeId × Value → H) :
    ReturnsInHanded {} Tryd.checked os 8 .any (fun w args => (Rows.coefTogetherSpec.pre enc Tryd.prog Tryd.f8 [] false w args ∧ laidMetH Tryd.prog laid1 w) ∧ sizedMet enc Tryd.prog Tryd.f8 (OpenSpec.ofChange Rows.coefTogetherSpec) false w args)
      (Rows.coefTogetherSpec.post enc Tryd.prog Tryd.f8 false true false false) := by
  refine returnsInHanded_of_change_and (C := Tryd.checked) (X := fun w _ => laidMetH Tryd.prog laid1 w) (fun _ _ _ hh h => h.of_heap hh) own_knob started (by kernel_rfl) Tryd.func8
    (ChangeSpec.witness_shaped (enc := enc) (C := Tryd.checked) (os := os) (X := fun w _ => laidMetH Tryd.prog laid1 w) false (World.doorLaid Tryd.prog 14 os) #[.agg zeroC, .agg zeroC, .slice none 0 0] 8 rfl (World.shaped_of_RefB (by kernel_rfl) (by kernel_rfl)) (by kernel_rfl) (by kernel_rfl) (by kernel_rfl) (door_met os _)) ?_
  intro W base args ds gs before hval0 hW _ _ hL _
  have hval : ∀ (j : Nat) t v, Tryd.f8.params[j]? = some t → args[j]? = some v → Value.okWide Tryd.prog W .any base t v := hval0
  have hW' := hW
  obtain ⟨p, q, hA0, hV, rfl, _, _⟩ := hW
  have hA : DataW.TrodAll enc Tryd.prog W 0 (fun _ => true) true Tryd.f8.params.toList args.toList ds p := hA0
  rw [Tryd.params8] at hA hval
  obtain ⟨v0, v1, v2, d0, d1, d2, p0, p1, p2, rfl, rfl, rfl, h0, h1, h2⟩ := trodAll_three hA
  obtain ⟨rfl, rfl⟩ := trodVars_none hV
  obtain ⟨B0, a0, len0, cap0, l0, rfl, hB0, s0⟩ := spec_value (hval 0 42 v0 rfl rfl) h0
  have lt0 : ∀ x ∈ p0, x.block < W.heap.size := by obtain ⟨m, hm⟩ := h0; exact DataW.trod_lt m _ _ _ hm
  obtain ⟨B1, a1, len1, cap1, l1, rfl, hB1, s1⟩ := spec_value (hval 1 42 v1 rfl rfl) h1
  have lt1 : ∀ x ∈ p1, x.block < W.heap.size := by obtain ⟨m, hm⟩ := h1; exact DataW.trod_lt m _ _ _ hm
  obtain ⟨a2, len2, cap2, rfl⟩ := okWide_slice Tryd.underlying67 (hval 2 67 v2 rfl rfl)
  have lt2 : ∀ x ∈ p2, x.block < W.heap.size := by obtain ⟨m, hm⟩ := h2; exact DataW.trod_lt m _ _ _ hm
  obtain ⟨l2, s2⟩ := blocks_of_trod h2
  clear hA0 hval0
  refine (together_calls W B0 l0 a0 len0 cap0 B1 l1 a1 len1 cap1 a2 len2 cap2 l2 (tab_of_laid hL) hB0 s0 hB1 s1 s2).mono fun e W' ⟨he, bel⟩ => ?_
  subst he
  exact ⟨_, rfl, _, _, _, [], _, [], hW', trodAll_mk1 (shut_bool Tryd.underlying4 _), (trodAll_mk3 (Below.trod laid_out (by kernel_rfl) (of_decide_eq_true (by kernel_rfl)) h0 bel lt0) (Below.trod laid_out (by kernel_rfl) (of_decide_eq_true (by kernel_rfl)) h1 bel lt1) (Below.trod laid_out (by kernel_rfl) (of_decide_eq_true (by kernel_rfl)) h2 bel lt2)), rfl, bel.frame _, fun h => by cases h⟩

theorem coefTogether_holds : Rows.CoefTogetherSaid :=
  OpenClaim.holds_of_wide 8 Tryd.f8 rfl rfl rfl rfl rfl rfl rfl ⟨rfl, rfl, rfl, rfl, rfl⟩ rfl rfl rfl rfl rfl (by kernel_rfl) Tryd.func8 (by kernel_rfl)
    (of_decide_eq_true (by kernel_rfl)) (by unfold Func.isWrapper; first | (rw [if_pos (by decide +kernel)]; kernel_rfl) | (rw [if_neg (by decide +kernel)]; exact ⟨rfl, rfl⟩))
    (fun os started H enc _ => coefTogether_lifted os started H enc)

theorem coefTogether_card : Rows.CoefTogetherCardSaid :=
  Claim7.holds_tied_plain_at .later [] [.data] true (true, "0dd3a78de650885f3d376844b57224d3abcfd68da1f4deeaaf59d46b90cbcf37") false
    coefTogether_holds (fun _ h => by cases h) (by kernel_rfl) (fun _ h => by cases h) coefTogether_row_tie rfl ⟨rfl, rfl⟩ (by kernel_rfl) rfl
    (fun f fn hf hfn => by
      obtain rfl : f = 8 := Option.some.inj ((show Tryd.prog.funcNamed "clerestory/clerestorylaw07.CoefTogether" = some 8 by kernel_rfl).symm.trans hf) |>.symm
      obtain rfl : fn = Tryd.f8 := (Option.some.inj (Tryd.func8.symm.trans hfn)).symm
      exact ⟨by kernel_rfl, fun j t ht => by
        rw [Tryd.params8] at ht
        have hm : t ∈ [42, 42, 67] := by simpa using Array.mem_of_getElem? ht
        have hall : ([42, 42, 67].all fun u => !Tryd.prog.wantsStandIn u) = true := by kernel_rfl
        exact (show Tryd.prog.wantsStandIn t = false by simpa using List.all_eq_true.1 hall t hm)⟩)
    (by kernel_rfl)

#print axioms coefTogether_card
end Go.Proofs.YthfpdebpepbejaaDoor
