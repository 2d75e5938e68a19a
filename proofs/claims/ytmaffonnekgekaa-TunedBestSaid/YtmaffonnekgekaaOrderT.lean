/-
  The contracts of drop and ordered.
-/
import Derived.Test.YtmaffonnekgekaaLimitT
namespace Go.Proofs.Ytmaffonnekgekaa
open Go.RowKit

/-- what drop leaves -/
def Dropped (w : World) (g : Nat) (m : Nat → Nat) (e : Ending) (w' : World) : Prop := ∃ M, e = .returned (.tuple #[]) ∧ Nums w' g 1 M (lessOne m) ∧ Kept (fun i => i = g) w w'

set_option maxRecDepth 20000 in
set_option maxHeartbeats 1600000 in
theorem drop_any (w : World) (g : Nat) (M : List Int) (m : Nat → Nat) (K : Nat) (h : Nums w g 1 M m) (hF : Full m 16 K) : Calls Try.prog 23 #[.pointer (some ⟨g, 0, none⟩)] w (Dropped w g m) := by
  have HI := Lib.hid (And.intro h hF)
  have hg := h.box.lt
  clear h hF
  go_enter Try.func23, Try.ntmps23
  go_wp2
  go_loopw [2] (fun i wr => ∃ k : Nat, 1 ≤ k ∧ k ≤ 256 ∧ i = .int .i64 k ∧ (∀ s, k < s → s ≤ 256 → m s = 0) ∧ wr = w) (fun i _ => (intOf i).toNat)
  case atStart => exact ⟨256, by omega, Nat.le_refl _, rfl, fun s h1 h2 => absurd h1 (by omega), rfl⟩
  case round =>
    obtain ⟨k, hk1, hk, rfl, hz, rfl⟩ := hrel
    have ck := HI.out.1.cell hk1 (show k < 257 by omega)
    have fk := HI.out.1.box.free k
    have hle := HI.out.2.le (by omega) k
    obtain ⟨x, hx⟩ : ∃ x, x = m k := ⟨_, rfl⟩
    rw [← hx] at ck hle
    have HX := Lib.hid (And.intro hx hz)
    clear hx hz
    by_cases hx0 : x = 0
    · subst hx0
      have hk0 : 1 < k := by
        rcases Nat.lt_or_ge 1 k with e | e
        · exact e
        · exfalso
          have h1 := HI.out.2.last
          rcases Nat.eq_zero_or_pos (jof m 16) with h3 | h3
          · rw [h3] at h1
            exact h1 HI.out.2.zero
          · by_cases e2 : jof m 16 = k
            · exact h1 (by rw [e2]; exact HX.out.1.symm)
            · exact h1 (HX.out.2 _ (by omega) (by have := jof_le m 16; omega))
      obtain ⟨k2, rfl⟩ : ∃ k2, k = k2 + 1 := ⟨k - 1, by omega⟩
      go_wp2
      go_roundw
      case rel =>
        refine ⟨k2, by omega, by omega, by go_num, fun s h1 h2 => ?_, trivial⟩
        by_cases e : s = k2 + 1
        · subst e; exact HX.out.1.symm
        · exact HX.out.2 s (by omega) h2
      case measure => simp [intOf]
    · have g0 : ¬ (x : Int) = 0 := by omega
      go_wp2
      go_region
      obtain ⟨w1, hw1⟩ : ∃ w1, w1 = (wr.setCell ⟨g, k, none⟩ (.int .i64 ((x : Int) - 1))).drew := ⟨_, rfl⟩
      rw [← hw1]
      obtain ⟨h1, k1⟩ := HI.out.1.putd (show k < 257 by omega) (x - 1) (by omega) hw1
      have hk16 : k ≤ 16 := by
        rcases Nat.lt_or_ge 16 k with h' | h'
        · exact absurd (HI.out.2.above k h') (by rw [← HX.out.1]; exact hx0)
        · exact h'
      have hj : jof m 16 = k := jof_is hk16 (by rw [← HX.out.1]; exact hx0) (fun s h1 h2 => HX.out.2 s h1 (by omega))
      have e : upd m k (x - 1) = lessOne m := by unfold lessOne; rw [hj, HX.out.1]
      rw [e] at h1
      have H1 := Lib.hid (And.intro h1 k1)
      clear h1 k1 hw1 e hj ck fk
      go_wp2
      go_end0
      exact ⟨_, rfl, H1.out.1, H1.out.2⟩

theorem il_one (w : World) (z : Int) : Il (w.alloc (.cells #[.int .i64 z] 3)) (some ⟨w.heap.size, 0, none⟩) 1 1 [z] := il_of_box (l := [z]) (Box.made w 3 _) rfl (by unfold maxLen; omega)
/-- the first j values that are of a length -/
def segTo (fin : Nat → Nat) (s j : Nat) : List Nat := (List.range j).filter fun v => fin v == s
theorem segTo_more (fin : Nat → Nat) (s j : Nat) : segTo fin s (j + 1) = segTo fin s j ++ if fin j = s then [j] else [] := by
  unfold segTo
  rw [List.range_succ, List.filter_append]
  congr 1
  by_cases h : fin j = s <;> simp [h]
theorem segTo_len (fin : Nat → Nat) (s j : Nat) : (segTo fin s j).length ≤ j := by
  have := List.length_filter_le (fun v => fin v == s) (List.range j)
  rw [List.length_range] at this
  exact this
theorem valsTo_few (fin : Nat → Nat) (k : Nat) : (valsTo fin k).length ≤ 256 := few_us (valsTo_nodup fin k) (fun _ hv => (mem_valsTo.1 hv).1)
/-- numbers as integers -/
def ints (l : List Nat) : List Int := l.map Int.ofNat
theorem ints_app (a b : List Nat) : ints (a ++ b) = ints a ++ ints b := by simp [ints]
theorem ints_len (a : List Nat) : (ints a).length = a.length := by simp [ints]
/-- how a list of numbers of one's own grows -/
structure Row (w0 wr : World) (v : Value) (l : List Nat) : Prop where
  own : wr.ownsRow w0.heap.size 3 1 v l.length (cellsI (ints l))
  bel : Below w0.heap.size w0 wr

/-- what ordered tells -/
def OrderedT (w : World) (V : List Int) (e : Ending) (w' : World) : Prop := ∃ A n c, e = .returned (.slice A n c) ∧ Il w' A n c V ∧ (∀ b off, A = some ⟨b, off, none⟩ → w.heap.size ≤ b) ∧ Below w.heap.size w w'

set_option maxRecDepth 20000 in
set_option maxHeartbeats 1600000 in
theorem ordered_any (w : World) (L : List Int) (fin : Nat → Nat) (hl : L.length = 257) (h : ∀ v, v < 257 → L.getD v 0 = (fin v : Int)) : Calls Try.prog 24 #[.agg (cellsI L).toArray] w (OrderedT w (ints (valsTo fin 256))) := by
  obtain ⟨C, hC⟩ : ∃ C, C = (cellsI L).toArray := ⟨_, rfl⟩
  rw [← hC]
  obtain ⟨w1, hw1⟩ : ∃ w1, w1 = w.alloc (.cells C 47) := ⟨_, rfl⟩
  obtain ⟨g, hg⟩ : ∃ g, g = w.heap.size := ⟨_, rfl⟩
  have hN : Nums w1 g 0 L fin := ⟨by rw [hw1, hg, hC]; exact Box.made _ _ _, hl, fun v _ hv => h v hv⟩
  have HI := Lib.hid (And.intro hN (And.intro hw1 (And.intro hg (show Below w.heap.size w w1 by rw [hw1]; exact on_alloc _ _))))
  clear hN hw1 hg hC h hl
  go_enter Try.func24, Try.ntmps24
  go_wp2
  rw [← HI.out.2.1, ← HI.out.2.2.1]
  go_loopw [6, 3] (fun i v wr => ∃ k : Nat, k ≤ 256 ∧ i = .int .i64 k ∧ Row w1 wr v (valsTo fin k)) (fun i _ _ => 256 - (intOf i).toNat)
  case atStart => exact ⟨0, Nat.zero_le _, rfl, ⟨⟨rfl, .inl ⟨rfl, rfl⟩⟩, Below.refl _ _⟩⟩
  case round =>
    obtain ⟨k, hk, rfl, hR⟩ := hrel
    have HR := Lib.hid hR
    clear hR
    by_cases hlt : k < 256
    · have hlti : (k : Int) < 256 := by omega
      go_wp2
      go_loopw [9, 3] (fun i v w2 => ∃ j : Nat, j ≤ 256 ∧ i = .int .i64 j ∧ Row w1 w2 v (valsTo fin k ++ segTo fin (k + 1) j)) (fun i _ _ => 256 - (intOf i).toNat)
      case atStart => exact ⟨0, Nat.zero_le _, rfl, by rw [show segTo fin (k + 1) 0 = [] from rfl, List.append_nil]; exact HR.out⟩
      case round =>
        obtain ⟨j, hj, rfl, hR⟩ := hrel
        have hb : Nums wr g 0 L fin := ⟨HI.out.1.box.bel hR.bel HI.out.1.box.lt, HI.out.1.len, HI.out.1.at_⟩
        have HQ := Lib.hid (And.intro hR hb)
        by_cases hjl : j < 256
        · have hjli : (j : Int) < 256 := by omega
          have cj := hb.cell (Nat.zero_le _) (show j < 257 by omega)
          have hg := hb.box.lt
          obtain ⟨x, hx⟩ : ∃ x, x = fin j := ⟨_, rfl⟩
          rw [← hx] at cj
          have HX := Lib.hid hx
          obtain ⟨Av, cv, hv⟩ := own_slice hR.own
          clear hx hR hb
          by_cases he : x = k + 1
          · subst he
            have hl1 := valsTo_few fin k
            have hl2 := segTo_len fin (k + 1) j
            have hll : (valsTo fin k ++ segTo fin (k + 1) j).length ≤ 512 := by rw [List.length_append]; omega
            clear hl1 hl2
            subst hv
            go_wp2_with (first
              | (at_builtin; refine wpList_append_il rfl (.tmp 18) (.tmp 20) rfl w1.heap.size _ _ (ints (valsTo fin k ++ segTo fin (k + 1) j)) rfl (HQ.out.1.own.alloc _) (some ⟨wr.heap.size, 0, none⟩) 1 1 [(j : Int)] rfl (il_one wr j) (by omega) (by have := HQ.out.1.bel.size; simp; omega) ?_; intro v9 w9 hown9 b9; have H9 := Lib.hid (And.intro hown9 ((HQ.out.1.bel.trans ((on_alloc _ _).mono HQ.out.1.bel.size)).trans b9)); clear hown9 b9)
              | fail)
            go_roundw
            case rel =>
              refine ⟨j + 1, by omega, by go_num, ⟨?_, H9.out.2⟩⟩
              have h9 := H9.out.1
              rw [segTo_more, if_pos HX.out.symm, ← List.append_assoc, ints_app, List.length_append]
              exact h9
            case measure => simp [intOf]; omega
          · have g0 : ¬ (x : Int) = (k : Int) + 1 := by omega
            have g1 : ((x : Int) == (k : Int) + 1) = false := by simpa using g0
            go_wp2
            go_roundw
            case rel =>
              refine ⟨j + 1, by omega, by go_num, ?_⟩
              rw [segTo_more, if_neg (fun e => he (HX.out.trans e)), List.append_nil]
              exact HQ.out.1
            case measure => simp [intOf]; omega
        · have ej : j = 256 := by omega
          have HE := Lib.hid ej
          clear ej hR hb
          go_wp2
          go_roundw
          case rel =>
            refine ⟨k + 1, by omega, by go_num, ?_⟩
            have := HQ.out.1
            rw [HE.out] at this
            exact this
          case measure => simp [intOf]; omega
    · have ek : k = 256 := by omega
      have HE := Lib.hid ek
      clear ek
      have hown := HR.out.own
      rw [HE.out] at hown
      obtain ⟨A2, c2, hv, hi, hlo⟩ := il_of_own hown
      have HA := Lib.hid (And.intro hi hlo)
      clear hown hi hlo
      subst hv
      go_wp2
      go_ret
      refine ⟨A2, _, c2, rfl, HA.out.1, fun b off e => Nat.le_trans HI.out.2.2.2.size (HA.out.2 b off e), HI.out.2.2.2.trans (HR.out.bel.mono HI.out.2.2.2.size)⟩
end Go.Proofs.Ytmaffonnekgekaa
