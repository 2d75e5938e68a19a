/-
  The contract of stuffed.
-/
import Derived.Test.YthfpdebpepbejaaDoorFilled
namespace Go.Proofs.YthfpdebpepbejaaDoor
open Go.RowKit

/-- some bytes with their stuffing -/
def stuff (l : List Int) : List Int := l.flatMap fun x => if x = 255 then [255, 0] else [x]
theorem stuff_app (a b : List Int) : stuff (a ++ b) = stuff a ++ stuff b := by simp [stuff]
theorem stuff_len (l : List Int) : (stuff l).length ≤ 2 * l.length := by
  induction l with
  | nil => simp [stuff]
  | cons a l ih =>
    have e : stuff (a :: l) = (if a = 255 then [255, 0] else [a]) ++ stuff l := by simp [stuff]
    rw [e, List.length_append, List.length_cons]
    split
    · simp; omega
    · simp; omega
theorem stuff_fit {l : List Int} (h : Fit l) : Fit (stuff l) := by
  intro z hz
  obtain ⟨x, hx, hz⟩ := List.mem_flatMap.1 hz
  have := h x hx
  split at hz
  · simp at hz
    omega
  · simp at hz
    subst hz
    exact this
theorem stuff_more {l : List Int} {k : Nat} (h : k < l.length) : stuff (l.take (k + 1)) = stuff (l.take k) ++ (if l.getD k 0 = 255 then [255, 0] else [l.getD k 0]) := by
  rw [take_more l k h, stuff_app]
  congr 1
  simp [stuff]

/-- a new block of one byte -/
theorem sl_byte (w : World) (z : Int) (h0 : 0 ≤ z) (h1 : z ≤ 255) : Sl (w.alloc (.cells #[.int .u8 z] 5)) (fun _ => True) (some ⟨w.heap.size, 0, none⟩) 1 1 [z] :=
  sl_of_box (l := [z]) (Box.made w 5 #[.int .u8 z]) (fun y hy => by simp at hy; subst hy; exact ⟨h0, h1⟩) rfl (by unfold maxLen; omega) trivial
/-- a new block of one number -/
theorem il_one (w : World) (z : Int) : Il (w.alloc (.cells #[.int .i64 z] 3)) (some ⟨w.heap.size, 0, none⟩) 1 1 [z] :=
  ⟨rfl, Nat.le_refl _, by unfold maxLen; omega, (fun e => by cases e), (fun b off e => by cases e; exact ⟨_, _, Box.made w 3 #[.int .i64 z]⟩), fun _ => ⟨w.heap.size, 0, rfl, by simp, fun i hi => by
    obtain rfl : i = 0 := by omega
    exact (Box.made w 3 #[.int .i64 z]).cell 0⟩⟩

/-- a row of bytes of one's own, and what is older is as it was -/
structure Row (w wr : World) (v : Value) (n : Nat) (l : List Int) : Prop where
  own : wr.ownsRow w.heap.size 5 1 v n (cellsOf l)
  bel : Below w.heap.size w wr

set_option maxRecDepth 10000 in
set_option maxHeartbeats 1600000 in
theorem stuffed_any (w : World) (K : Nat → Prop) (A : Option Addr) (n c : Nat) (l : List Int) (h : Sl w K A n c l) (hn : n ≤ 4000) :
    Calls Tryd.prog 49 #[.slice A n c] w fun e w' => ∃ A' c', e = .returned (.slice A' (stuff l).length c') ∧ Sl w' (fun _ => True) A' (stuff l).length c' (stuff l) ∧ Below w.heap.size w w' := by
  obtain ⟨i0, hi0, hz0, hz1, hz2⟩ := info_parts byte_info
  have HH := Lib.hid h
  clear h
  go_enter Tryd.func49, Tryd.ntmps49
  go_wp2_with (first | fail | (at_make; refine wpList_make_own _ rfl _ _ 54 rfl w.heap.size 5 i0 (.int .u8 0) 1 Tryd.underlying54 hi0 hz0 hz1 .i64 .i64 n n rfl rfl rfl (by rw [hz2]; omega) (by unfold maxLen; omega) (Nat.le_refl _) ?_; intro w1 hown1 hgrow1))
  have H1 := Lib.hid (Row.mk (n := 0) (l := []) hown1 ((Below.refl w.heap.size w).grown hgrow1 (Nat.le_refl _) (fun j hj => by cases hj)))
  clear hown1 hgrow1
  obtain ⟨v1, hv1⟩ : ∃ v1, v1 = Value.slice (some ⟨w.heap.size, 0, none⟩) 0 n := ⟨_, rfl⟩
  rw [← hv1] at H1 ⊢
  clear hv1
  go_loopw [3, 11] (fun v i wr => ∃ k : Nat, k ≤ n ∧ i = .int .i64 k ∧ Row w wr v (stuff (l.take k)).length (stuff (l.take k))) (fun _ i _ => n - (intOf i).toNat)
  case atStart => exact ⟨0, Nat.zero_le _, rfl, H1.out⟩
  case round =>
    obtain ⟨k, hk, rfl, hR⟩ := hrel
    by_cases hlt : k < n
    · have hsl := HH.out.on hR.bel
      have hlen := HH.out.len
      have hmore := stuff_more (l := l) (k := k) (by omega)
      obtain ⟨m, hm⟩ : ∃ m, m = (stuff (l.take k)).length := ⟨_, rfl⟩
      have hm1 : m ≤ 8000 := by
        have := stuff_len (l.take k)
        rw [List.length_take] at this
        omega
      have hz := HH.out.bts.fit.getD k
      obtain ⟨b, off, rfl, hc⟩ := hsl.get hlt
      obtain ⟨z, hzz⟩ : ∃ z, z = l.getD k 0 := ⟨_, rfl⟩
      rw [← hzz] at hz hc hmore
      rw [← hm] at hR
      have HR := Lib.hid (And.intro hR (And.intro hmore (And.intro hm hz)))
      clear hR hmore hm hz hzz hsl hlen
      by_cases h255 : z = 255
      · subst h255
        go_wp2_with (first
          | (at_builtin; refine wpList_append_sl rfl (.tmp 15) (.tmp 17) rfl w.heap.size u3 m (stuff (l.take k)) rfl (HR.out.1.own.alloc _) _ (some ⟨wr.heap.size, 0, none⟩) 1 1 [255] rfl (sl_byte wr 255 (by omega) (by omega)) (by omega) (by have := HR.out.1.bel.size; simp; omega) ?_; intro v3 w3 hown3 b3; have H3 := Lib.hid (Row.mk hown3 ((HR.out.1.bel.trans ((on_alloc _ _).mono HR.out.1.bel.size)).trans b3)); clear hown3 b3)
          | (at_builtin; refine wpList_append_sl rfl (.tmp 21) (.tmp 22) rfl w.heap.size v3 (m + 1) _ rfl (H3.out.own.alloc _) _ (some ⟨w3.heap.size, 0, none⟩) 1 1 [0] rfl (sl_byte w3 0 (by omega) (by omega)) (by omega) (by have := H3.out.bel.size; simp; omega) ?_; intro v4 w4 hown4 b4; have H4 := Lib.hid (Row.mk hown4 ((H3.out.bel.trans ((on_alloc _ _).mono H3.out.bel.size)).trans b4)); clear hown4 b4))
        go_roundw
        case rel =>
          refine ⟨k + 1, by omega, by go_num, ?_⟩
          have := H4.out
          rw [List.append_assoc] at this
          rw [HR.out.2.1, if_pos rfl, List.length_append, ← HR.out.2.2.1]
          exact this
        case measure => simp [intOf]; omega
      · go_wp2_with (first | fail | (at_builtin; refine wpList_append_sl rfl (.tmp 15) (.tmp 17) rfl w.heap.size u3 m (stuff (l.take k)) rfl (HR.out.1.own.alloc _) _ (some ⟨wr.heap.size, 0, none⟩) 1 1 [z] rfl (sl_byte wr z HR.out.2.2.2.1 HR.out.2.2.2.2) (by omega) (by have := HR.out.1.bel.size; simp; omega) ?_; intro v3 w3 hown3 b3; have H3 := Lib.hid (Row.mk hown3 ((HR.out.1.bel.trans ((on_alloc _ _).mono HR.out.1.bel.size)).trans b3)); clear hown3 b3))
        go_roundw
        case rel =>
          refine ⟨k + 1, by omega, by go_num, ?_⟩
          have := H3.out
          rw [HR.out.2.1, if_neg h255, List.length_append, ← HR.out.2.2.1]
          exact this
        case measure => simp [intOf]; omega
    · have ek : k = n := by omega
      have HE := Lib.hid (And.intro hR ek)
      clear hR ek
      go_wp2
      go_ret
      obtain ⟨hR, ek⟩ := HE.out
      have e : l.take k = l := List.take_of_length_le (by have := HH.out.len; omega)
      rw [e] at hR
      obtain ⟨A', c', hv, hs⟩ := sl_of_own hR.own (stuff_fit HH.out.bts.fit)
      subst hv
      exact ⟨A', c', rfl, hs.mono (fun _ _ _ => trivial), hR.bel⟩
end Go.Proofs.YthfpdebpepbejaaDoor
