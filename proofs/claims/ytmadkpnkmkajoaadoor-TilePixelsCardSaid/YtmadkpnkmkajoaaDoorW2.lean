/-
  TilePixels: the walk.
-/
import Derived.Test.YtmadkpnkmkajoaaDoorTP
import Derived.Test.YtmadkpnkmkajoaaDoorTQ
import Derived.Test.YtmadkpnkmkajoaaDoorTL
namespace Go.Proofs.YtmadkpnkmkajoaaDoor
open Go.RowKit
set_option maxRecDepth 20000

/-- what both tell: pixels and an error -/
def PY (w : World) (N : Nat) (E : Int) (f : Nat → Nat → Int) (e : Ending) (w' : World) : Prop := ∃ A c, e = .returned (.tuple #[.slice A N c, .int .i64 E]) ∧ Px3 w' A N f ∧ Below w.heap.size w w'
theorem both_any (W H T K Q : Int) (B : Bool) (n : Nat) (tl : List (List (List Int))) : ∃ (N : Nat) (E : Int) (f : Nat → Nat → Int), N ≤ 1024 ∧
    (∀ (w : World) (A : Option Addr) (c : Nat) (L : List (Option Addr × Nat × Nat)), Ti w A n L tl → Tab w → Tab9_ w → TabP w → Calls Tryd.prog 20 #[geoV W H T K Q B, tileV A n c] w (PY w N E f)) ∧
    (∀ (w : World) (A : Option Addr) (c : Nat) (L : List (Option Addr × Nat × Nat)), Ti w A n L tl → Calls Tryd.prog 21 #[geoV W H T K Q B, tileV A n c] w (PY w N E f)) := by
  by_cases hok : OkT W H T K Q tl
  · obtain ⟨hG, hR⟩ := hok
    obtain ⟨T', rfl⟩ : ∃ T' : Nat, T = (T' : Int) := ⟨T.toNat, by obtain ⟨_, _, h3, _⟩ := hG; omega⟩
    have hT : T' = 16 ∨ T' = 32 := by obtain ⟨_, _, h3, _⟩ := hG; omega
    refine ⟨T' * T', 0, pxc K T' Q tl, by rcases hT with rfl | rfl <;> omega, fun w A c L hTi h1 h2 h3 => ?_, fun w A c L hTi => ?_⟩
    · refine (pixels_good w W H T' K Q B A n c L tl hG hTi hR h1 h2 h3).mono ?_
      rintro e w' ⟨g, rfl, ht, _, k⟩
      exact ⟨_, _, rfl, ht.px3, k⟩
    · refine (refPixels_good w W H T' K Q B A n c L tl hG hTi hR).mono ?_
      rintro e w' ⟨A', c', rfl, ht, k⟩
      exact ⟨_, _, rfl, ht, k⟩
  · refine ⟨0, 1, fun _ _ => 0, by omega, fun w A c L hTi h1 h2 h3 => ?_, fun w A c L hTi => ?_⟩
    · refine (pixels_bad w W H T K Q B A n c L tl hTi hok).mono ?_
      rintro e w' ⟨rfl, k⟩
      exact ⟨_, _, rfl, fun h => absurd h (by omega), k⟩
    · refine (refPixels_bad w W H T K Q B A n c L tl hTi hok).mono ?_
      rintro e w' ⟨rfl, k⟩
      exact ⟨_, _, rfl, fun h => absurd h (by omega), k⟩
set_option maxHeartbeats 12800000 in
theorem pixelsLaw_calls (w : World) (W H T K Q : Int) (B : Bool) (A : Option Addr) (n c : Nat) (L : List (Option Addr × Nat × Nat)) (tl : List (List (List Int))) (hTb : Tab w) (hT9 : Tab9_ w) (hTP : TabP w) (hTi : Ti w A n L tl) : Calls Tryd.prog 4 #[geoV W H T K Q B, tileV A n c] w (Law w) := by
  obtain ⟨g1, hg1⟩ : ∃ g1, w.heap.size = g1 := ⟨_, rfl⟩
  obtain ⟨w0, hw0⟩ : ∃ w1, (w.alloc (.cells #[.int .i64 W, .int .i64 H, .int .i64 T, .int .i64 K, .int .i64 Q, .bool B] 23)).alloc (.cells #[.slice A n c] 35) = w1 := ⟨_, rfl⟩
  have b1 : Box w0 g1 23 #[.int .i64 W, .int .i64 H, .int .i64 T, .int .i64 K, .int .i64 Q, .bool B] := by rw [← hw0, ← hg1]; exact (Box.made _ _ _).alloc _
  have b2 : Box w0 (g1 + 1) 35 #[.slice A n c] := by rw [← hw0, ← hg1]; have := Box.made (w.alloc (.cells #[.int .i64 W, .int .i64 H, .int .i64 T, .int .i64 K, .int .i64 Q, .bool B] 23)) 35 #[.slice A n c]; simpa using this
  have k1 : Below w.heap.size w w0 := by rw [← hw0]; exact on_trans (on_alloc _ _) (on_alloc _ _)
  obtain ⟨w1, hw1⟩ : ∃ w1, w0.alloc (.cells #[.slice A n c] 35) = w1 := ⟨_, rfl⟩
  obtain ⟨g3, hg3⟩ : ∃ g, w0.heap.size = g := ⟨_, rfl⟩
  have b3 : Box w1 g3 35 #[.slice A n c] := by rw [← hw1, ← hg3]; exact Box.made _ _ _
  have k2 : Below w0.heap.size w0 w1 := by rw [← hw1]; exact on_alloc _ _
  have htl : Tls w1 g3 0 1 (fun _ => (A, n, c)) (fun _ => L) (fun _ => tl) := by
    refine ⟨b3.lt, fun i hi => ?_, fun i hi => hTi.on (on_trans k1 k2)⟩
    obtain rfl : i = 0 := by omega
    exact b3.cell 0
  have HF := Lib.hid (fews_any w1 g3 0 1 1 _ _ _ htl (by omega))
  have HL := Lib.hid (load_tile b2)
  have HB := Lib.hid (And.intro (b1.on k2) (And.intro (b2.on k2) (on_trans k1 k2)))
  have HT := Lib.hid (And.intro hTb (And.intro hT9 (And.intro hTP hTi)))
  have HA := Lib.hid (fun (w1 : World) (k : Below w.heap.size w w1) => awake_any w1 (hTb.on k) (hT9.on k) (hTP.on k))
  obtain ⟨N, E, f, hN, hP1, hP2⟩ := both_any W H T K Q B n tl
  have HP := Lib.hid (And.intro hP1 (And.intro hP2 hN))
  unfold FewsY at HF
  unfold WokeT at HA
  unfold PY at HP
  unfold geoV tileV at HP
  unfold geoV tileV
  clear b1 b2 b3 k1 k2 htl hTb hT9 hTP hTi hP1 hP2
  go_enter Tryd.func4, Tryd.ntmps4
  go_wp2_with (first
    | (with_reducible refine wpList_load_to (op := ⟨some 10, _, _, _, _, _⟩) rfl 35 (.tmp 3) rfl (.pointer (some ⟨g1 + 1, 0, none⟩)) ?hx (.agg #[.slice A n c]) HL.out ?_)
    | fail)
  all_goals try (case hx => simp [Act.eval])
  clear hw0 hw1
  refine HF.out.mono ?_
  rintro e w2 ⟨r, rfl, hr, k2⟩
  have H2 := Lib.hid (And.intro (HB.out.1.on k2) (And.intro (HB.out.2.1.on k2) (on_trans HB.out.2.2 k2)))
  clear k2 HF HL
  cases r with
  | false =>
    clear hr
    go_wp2_with fail
    refine (HA.out w2 H2.out.2.2).mono ?_
    rintro e w3 ⟨rfl, k3⟩
    have H3 := Lib.hid (on_trans H2.out.2.2 k3)
    clear k3
    go_wp2_with fail
    go_ret
    exact ⟨rfl, H3.out⟩
  | true =>
    have hfew := hr rfl 0 (by omega)
    have hlen := HT.out.2.2.2.len
    have HO := Lib.hid (own_any w2 A n c L tl (HT.out.2.2.2.on H2.out.2.2) (by rw [← hlen]; exact hfew.1) (fun t ht => by
      obtain ⟨p, hp⟩ := List.mem_iff_getElem?.1 ht
      exact Nat.le_trans (hfew.2 p t hp) (by omega)))
    have HFw := Lib.hid (And.intro (show n ≤ 4 by rw [← hlen]; exact hfew.1) (show ∀ t ∈ tl, t.length ≤ 100 from fun t ht => by
      obtain ⟨p, hp⟩ := List.mem_iff_getElem?.1 ht
      exact Nat.le_trans (hfew.2 p t hp) (by omega)))
    unfold OwnT at HO
    unfold tileV at HO
    have r2 : w2.cell? ⟨g1 + 1, 0, none⟩ = some (.slice A n c) := H2.out.2.1.cell 0
    clear hr hfew hlen
    go_wp2_with fail
    refine HO.out.mono ?_
    rintro e w3 ⟨A', c', L', rfl, ti3, k3⟩
    obtain ⟨w4, hw4⟩ : ∃ w4, w3.alloc (.cells #[.slice A' n c'] 35) = w4 := ⟨_, rfl⟩
    obtain ⟨g5, hg5⟩ : ∃ g, w3.heap.size = g := ⟨_, rfl⟩
    have k4 : Below w3.heap.size w3 w4 := by rw [← hw4]; exact on_alloc _ _
    have b5 : Box w4 g5 35 #[.slice A' n c'] := by rw [← hw4, ← hg5]; exact Box.made _ _ _
    have k34 := on_trans k3 k4
    have H4 := Lib.hid (And.intro (H2.out.1.on k34) (And.intro (H2.out.2.1.on k34) (And.intro (on_trans H2.out.2.2 k34) (And.intro b5 (ti3.on k4)))))
    have d0 : w4.cell? ⟨g1, 0, none⟩ = some (.int .i64 W) := H4.out.1.cell 0
    have d1 : w4.cell? ⟨g1, 1, none⟩ = some (.int .i64 H) := H4.out.1.cell 1
    have d2 : w4.cell? ⟨g1, 2, none⟩ = some (.int .i64 T) := H4.out.1.cell 2
    have d3 : w4.cell? ⟨g1, 3, none⟩ = some (.int .i64 K) := H4.out.1.cell 3
    have d4 : w4.cell? ⟨g1, 4, none⟩ = some (.int .i64 Q) := H4.out.1.cell 4
    have d5 : w4.cell? ⟨g1, 5, none⟩ = some (.bool B) := H4.out.1.cell 5
    have r4 : w4.cell? ⟨g5, 0, none⟩ = some (.slice A' n c') := b5.cell 0
    clear r2
    have HT4 := Lib.hid (And.intro (HT.out.1.on H4.out.2.2.1) (And.intro (HT.out.2.1.on H4.out.2.2.1) (HT.out.2.2.1.on H4.out.2.2.1)))
    clear k3 k4 k34 b5 ti3 HO
    go_wp2_with fail
    clear hw4
    refine (HP.out.1 w4 A' c' L' H4.out.2.2.2.2 HT4.out.1 HT4.out.2.1 HT4.out.2.2).mono ?_
    rintro e w5 ⟨A1, c1, rfl, hp1, k5⟩
    have H5 := Lib.hid (And.intro (H4.out.1.on k5) (And.intro (H4.out.2.1.on k5) (And.intro (on_trans H4.out.2.2.1 k5) (And.intro (H4.out.2.2.2.1.on k5) (And.intro (H4.out.2.2.2.2.on k5) hp1)))))
    have e0 : w5.cell? ⟨g1, 0, none⟩ = some (.int .i64 W) := H5.out.1.cell 0
    have e1 : w5.cell? ⟨g1, 1, none⟩ = some (.int .i64 H) := H5.out.1.cell 1
    have e2 : w5.cell? ⟨g1, 2, none⟩ = some (.int .i64 T) := H5.out.1.cell 2
    have e3 : w5.cell? ⟨g1, 3, none⟩ = some (.int .i64 K) := H5.out.1.cell 3
    have e4 : w5.cell? ⟨g1, 4, none⟩ = some (.int .i64 Q) := H5.out.1.cell 4
    have e5 : w5.cell? ⟨g1, 5, none⟩ = some (.bool B) := H5.out.1.cell 5
    have r5 : w5.cell? ⟨g1 + 1, 0, none⟩ = some (.slice A n c) := H5.out.2.1.cell 0
    clear k5 hp1 r4 d0 d1 d2 d3 d4 d5
    dsimp only
    go_wp2_with fail
    refine (HP.out.2.1 w5 A c L (HT.out.2.2.2.on H5.out.2.2.1)).mono ?_
    rintro e w6 ⟨A2, c2, rfl, hp2, k6⟩
    have H6 := Lib.hid (And.intro (H5.out.2.1.on k6) (And.intro (on_trans H5.out.2.2.1 k6) (And.intro (H5.out.2.2.2.1.on k6) (And.intro (H5.out.2.2.2.2.1.on k6) (And.intro (H5.out.2.2.2.2.2.on k6) hp2)))))
    clear k6 hp2 r5 e0 e1 e2 e3 e4 e5
    dsimp only
    go_wp2_with fail
    refine (samePx_any w6 A1 A2 N c1 c2 f H6.out.2.2.2.2.1 H6.out.2.2.2.2.2 (by have := HP.out.2.2; omega)).mono ?_
    rintro e w7 ⟨rfl, k7⟩
    have H7 := Lib.hid (And.intro (H6.out.1.on k7) (And.intro (on_trans H6.out.2.1 k7) (And.intro (H6.out.2.2.1.on k7) (H6.out.2.2.2.1.on k7))))
    have r7 : w7.cell? ⟨g5, 0, none⟩ = some (.slice A' n c') := H7.out.2.2.1.cell 0
    have r8 : w7.cell? ⟨g1 + 1, 0, none⟩ = some (.slice A n c) := H7.out.1.cell 0
    have hsm := same_any w7 A' A n c' c L' L tl H7.out.2.2.2 (HT.out.2.2.2.on H7.out.2.1) HFw.out.1 HFw.out.2
    unfold tileV at hsm
    have HSm := Lib.hid hsm
    clear k7 hsm
    go_wp2_with fail
    refine HSm.out.mono ?_
    rintro e w8 ⟨rfl, k8⟩
    have H8 := Lib.hid (on_trans H7.out.2.1 k8)
    clear k8 r7 r8
    go_wp2_with fail
    refine (HA.out w8 H8.out).mono ?_
    rintro e w9 ⟨rfl, k9⟩
    have H9 := Lib.hid (on_trans H8.out k9)
    clear k9
    go_wp2_with fail
    go_ret
    exact ⟨rfl, H9.out⟩
end Go.Proofs.YtmadkpnkmkajoaaDoor
