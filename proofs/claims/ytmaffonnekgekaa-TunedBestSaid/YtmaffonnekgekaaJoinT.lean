/-
  The contract of join: two trees are one.
-/
import Derived.Test.YtmaffonnekgekaaTakeT
namespace Go.Proofs.Ytmaffonnekgekaa
open Go.RowKit

theorem getD_set_same {l : List Int} {i : Nat} (z : Int) (h : i < l.length) : (l.set i z).getD i 0 = z := by
  simp [List.getD_eq_getElem?_getD, h]
theorem getD_set_ne {l : List Int} {i j : Nat} (z : Int) (h : i ≠ j) : (l.set i z).getD j 0 = l.getD j 0 := by
  simp [List.getD_eq_getElem?_getD, h]
/-- of the first k values those of two trees are of one, and longer by one -/
def JoinTo (T L T2 L2 : List Int) (f f2 t : Nat) (k : Nat) : Prop := ∀ j, j < 257 →
  (j < k → (T.getD j 0 = (f : Int) ∨ T.getD j 0 = (f2 : Int)) → T2.getD j 0 = (t : Int) ∧ L2.getD j 0 = L.getD j 0 + 1) ∧ (¬ (j < k ∧ (T.getD j 0 = (f : Int) ∨ T.getD j 0 = (f2 : Int))) → T2.getD j 0 = T.getD j 0 ∧ L2.getD j 0 = L.getD j 0)
theorem JoinTo.yes {T L T2 L2 : List Int} {f f2 t k : Nat} (h : JoinTo T L T2 L2 f f2 t k) (hk : k < 257) (lt : T2.length = 257) (ll : L2.length = 257) (hy : T.getD k 0 = (f : Int) ∨ T.getD k 0 = (f2 : Int)) : JoinTo T L (T2.set k (t : Int)) (L2.set k (L2.getD k 0 + 1)) f f2 t (k + 1) := by
  intro j hj
  by_cases e : k = j
  · subst e
    have hl := ((h k hj).2 (fun h => by omega)).2
    refine ⟨fun _ _ => ⟨getD_set_same _ (by omega), ?_⟩, fun hn => absurd ⟨by omega, hy⟩ hn⟩
    rw [getD_set_same _ (by omega), hl]
  · rw [getD_set_ne _ e, getD_set_ne _ e]
    exact ⟨fun h1 h2 => (h j hj).1 (by omega) h2, fun h1 => (h j hj).2 (fun ⟨h3, h4⟩ => h1 ⟨by omega, h4⟩)⟩
theorem JoinTo.no {T L T2 L2 : List Int} {f f2 t k : Nat} (h : JoinTo T L T2 L2 f f2 t k) (hn : ¬ (T.getD k 0 = (f : Int) ∨ T.getD k 0 = (f2 : Int))) : JoinTo T L T2 L2 f f2 t (k + 1) := by
  intro j hj
  refine ⟨fun h1 h2 => (h j hj).1 ?_ h2, fun h1 => (h j hj).2 (fun ⟨h3, h4⟩ => h1 ⟨by omega, h4⟩)⟩
  rcases Nat.lt_or_ge j k with h' | h'
  · exact h'
  · obtain rfl : j = k := by omega
    exact absurd h2 hn

theorem TreeAt.drewput {w : World} {g : Nat} {S T L : List Int} (h : TreeAt w g S T L) {k : Nat} (hk : k < 257) (z : Int) (n : Nat) : TreeAt ((w.drewN n).setCell ⟨g, 514 + k, none⟩ (.int .i64 z)) g S T (L.set k z) :=
  TreeAt.putL (w := w.drewN n) ⟨h.box.drewN n, h.ls, h.lt, h.ll⟩ hk z
/-- what join leaves -/
def JoinedT (w : World) (g : Nat) (S T L : List Int) (e : Ending) (w' : World) : Prop :=
  ∃ (f f2 : Nat) (s s2 : Int), f < 257 ∧ f2 < 257 ∧ TakeIs S 257 (f : Int) s ∧ TakeIs (S.set f 0) 257 (f2 : Int) s2 ∧ Kept (fun i => i = g) w w' ∧
    ((s2 = 0 ∧ e = .returned (.bool false) ∧ ∃ S', TreeAt w' g S' T L) ∨
     (s2 ≠ 0 ∧ e = .returned (.bool true) ∧ ∃ T2 L2, TreeAt w' g (((S.set f 0).set f2 0).set (max f f2) (s + s2)) T2 L2 ∧ JoinTo T L T2 L2 f f2 (max f f2) 257))
theorem max_int (f f2 : Nat) : (if f < f2 then (f2 : Int) else (f : Int)) = ((max f f2 : Nat) : Int) := by
  split <;> omega

set_option maxRecDepth 20000 in
set_option maxHeartbeats 1600000 in
theorem joinT_any (w : World) (g : Nat) (S T L : List Int) (h : TreeAt w g S T L) (hS : ∀ j, S.getD j 0 ≤ 4611686018427387900 / 2) (hL : ∀ j, 0 ≤ L.getD j 0 ∧ L.getD j 0 ≤ 1000) : Calls Try.prog 33 #[.pointer (some ⟨g, 0, none⟩)] w (JoinedT w g S T L) := by
  have HI := Lib.hid (And.intro h (And.intro hS hL))
  clear h hS hL
  go_enter Try.func33, Try.ntmps33
  go_wp2_with fail
  refine (takeT_any w g S T L HI.out.1).mono ?_
  rintro e w1 ⟨f, s, rfl, hf, ht, h1, k1⟩
  have H1 := Lib.hid (And.intro ht (And.intro h1 k1))
  clear ht h1 k1
  go_wp2_with fail
  refine (takeT_any w1 g (S.set f 0) T L H1.out.2.1).mono ?_
  rintro e w2 ⟨f2, s2, rfl, hf2, ht2, h2, k2⟩
  have H2 := Lib.hid (And.intro ht2 (And.intro h2 (H1.out.2.2.trans k2 (fun _ _ e => e))))
  clear ht2 h2 k2
  by_cases h0 : s2 = 0
  · subst h0
    go_wp2_with fail
    go_ret
    exact ⟨f, f2, s, 0, hf, hf2, H1.out.1, H2.out.1, H2.out.2.2, .inl ⟨rfl, rfl, _, H2.out.2.1⟩⟩
  have g0 : (s2 == 0) = false := by simpa using h0
  have hsb : 0 ≤ s ∧ s ≤ 2305843009213693950 := by
    rcases H1.out.1 with ⟨e, _, _⟩ | ⟨m, _, _, e, h, _⟩
    · omega
    · have := HI.out.2.1 m
      omega
  have hsb2 : 0 ≤ s2 ∧ s2 ≤ 2305843009213693950 := by
    rcases H2.out.1 with ⟨e, _, _⟩ | ⟨m, _, _, e, h, _⟩
    · omega
    · have := HI.out.2.1 m
      by_cases em : f = m
      · subst em
        rw [getD_set_same _ (by have := HI.out.1.ls; omega)] at e
        omega
      · rw [getD_set_ne _ em] at e
        omega
  obtain ⟨t, ht⟩ : ∃ t, t = max f f2 := ⟨_, rfl⟩
  have ht257 : t < 257 := by omega
  obtain ⟨S3, hS3⟩ : ∃ S3, S3 = ((S.set f 0).set f2 0).set t (s + s2) := ⟨_, rfl⟩
  obtain ⟨w3, hw3⟩ : ∃ w3, w3 = w2.setCell ⟨g, t, none⟩ (.int .i64 (s + s2)) := ⟨_, rfl⟩
  have h3 : TreeAt w3 g S3 T L := by rw [hw3, hS3]; exact H2.out.2.1.putS ht257 _
  have k3 : Kept (fun i => i = g) w w3 := by rw [hw3]; exact H2.out.2.2.setCell (p := ⟨g, t, none⟩) (fun _ => rfl) _
  have c0 := H2.out.2.1.cellS ht257
  have f0 := H2.out.2.1.box.free t
  have hg := H2.out.2.1.box.lt
  obtain ⟨C, hC⟩ : ∃ C, C = (cellsI T).toArray := ⟨_, rfl⟩
  have hl3 : (Instr.loadAt 47 (.pointer (some ⟨g, 257, none⟩))).run Try.prog w3 = .ok (.agg C) w3 := by rw [hC]; exact load257 h3.rangeT h3.lt
  have H3 := Lib.hid (And.intro h3 (And.intro k3 (And.intro hw3 (And.intro hS3 (And.intro ht (And.intro hC hl3))))))
  clear h3 k3 hw3 hS3 ht hC hl3
  have hmx : (if f < f2 then (f2 : Int) else (f : Int)) = (t : Int) := by rw [max_int, H3.out.2.2.2.2.1]
  go_wp2_with (first
    | (with_reducible refine wpList_load_to (op := ⟨some 36, _, _, _, _, _⟩) rfl 47 (.tmp 35) rfl (.pointer (some ⟨g, 257, none⟩)) rfl (.agg C) (by rw [← H3.out.2.2.1]; exact H3.out.2.2.2.2.2.2) ?_)
    | fail)
  rw [← H3.out.2.2.1]
  clear c0 hmx f0 hsb hsb2 hg
  go_loopw [37] (fun i wr => ∃ (k : Nat) (T2 L2 : List Int), k ≤ 257 ∧ i = .int .i64 k ∧ TreeAt wr g S3 T2 L2 ∧ JoinTo T L T2 L2 f f2 t k ∧ Kept (fun i => i = g) w wr) (fun i _ => 257 - (intOf i).toNat)
  case atStart => exact ⟨0, T, L, Nat.zero_le _, rfl, H3.out.1, fun j hj => ⟨fun h => absurd h (by omega), fun _ => ⟨rfl, rfl⟩⟩, H3.out.2.1⟩
  case round =>
    obtain ⟨k, T2, L2, hk, rfl, hT, hJ, hK⟩ := hrel
    by_cases hlt : k < 257
    · have hix := index257 wr HI.out.1.lt hlt
      rw [← H3.out.2.2.2.2.2.1] at hix
      obtain ⟨v, hv⟩ : ∃ v, v = T.getD k 0 := ⟨_, rfl⟩
      rw [← hv] at hix
      have c1 := hT.cellT hlt
      have c2 := hT.cellL hlt
      have f1 := hT.box.free (257 + k)
      have f2' := hT.box.free (514 + k)
      have hl2 := (hJ k hlt).2 (fun h => by omega)
      have hb := HI.out.2.2 k
      rw [hl2.2] at c2
      obtain ⟨y, hy⟩ : ∃ y, y = L.getD k 0 := ⟨_, rfl⟩
      rw [← hy] at c2 hb
      have hg := hT.box.lt
      have HR := Lib.hid (And.intro hT (And.intro hJ (And.intro hK (And.intro hv (And.intro hix (And.intro hl2 hy))))))
      clear hT hJ hK hv hix hl2 hy
      by_cases hy : v = (f : Int) ∨ v = (f2 : Int)
      · have hb2 : ∀ wx, wx = (wr.setCell ⟨g, 257 + k, none⟩ (.int .i64 (t : Int))) → wx.cell? ⟨g, 514 + k, none⟩ = some (.int .i64 y) ∧ wx.frozen? ⟨g, 514 + k, none⟩ = false := by
          rintro wx rfl
          have h1 := HR.out.1.putT hlt (t : Int)
          exact ⟨by rw [h1.cellL hlt, HR.out.2.2.2.2.2.1.2, ← HR.out.2.2.2.2.2.2], h1.box.free _⟩
        obtain ⟨d1, d2⟩ := hb2 _ rfl
        clear hb2
        have HY := Lib.hid hy
        by_cases hy1 : v = (f : Int)
        · clear hy
          subst hy1
          go_wp2_with (first
            | (with_reducible refine wpList_index_to (op := ⟨some 40, _, _, _, _, _⟩) rfl 47 (.tmp 36) (.tmp 37) rfl (.agg C) (.int .i64 (k : Int)) rfl rfl _ HR.out.2.2.2.2.1 ?_)
            | fail)
          go_region
          all_goals
            (go_wp2
             go_roundw
             case rel =>
               refine ⟨k + 1, T2.set k (t : Int), L2.set k (L2.getD k 0 + 1), by omega, by go_num, ?_, HR.out.2.1.yes hlt HR.out.1.lt HR.out.1.ll (.inl HR.out.2.2.2.1.symm), ?_⟩
               · rw [HR.out.2.2.2.2.2.1.2, ← HR.out.2.2.2.2.2.2]
                 exact (HR.out.1.putT hlt (t : Int)).drewput hlt _ _
               · exact ((HR.out.2.2.1.setCell (p := ⟨g, 257 + k, none⟩) (fun _ => rfl) _).drewN _).setCell (p := ⟨g, 514 + k, none⟩) (fun _ => rfl) _
             case measure => simp [intOf]; omega)
        · have hy2 : v = (f2 : Int) := hy.resolve_left hy1
          clear hy
          have g1 : (v == (f : Int)) = false := by simpa using hy1
          subst hy2
          go_wp2_with (first
            | (with_reducible refine wpList_index_to (op := ⟨some 40, _, _, _, _, _⟩) rfl 47 (.tmp 36) (.tmp 37) rfl (.agg C) (.int .i64 (k : Int)) rfl rfl _ HR.out.2.2.2.2.1 ?_)
            | fail)
          go_region
          all_goals
            (go_wp2
             go_roundw
             case rel =>
               refine ⟨k + 1, T2.set k (t : Int), L2.set k (L2.getD k 0 + 1), by omega, by go_num, ?_, HR.out.2.1.yes hlt HR.out.1.lt HR.out.1.ll (.inr HR.out.2.2.2.1.symm), ?_⟩
               · rw [HR.out.2.2.2.2.2.1.2, ← HR.out.2.2.2.2.2.2]
                 exact (HR.out.1.putT hlt (t : Int)).drewput hlt _ _
               · exact ((HR.out.2.2.1.setCell (p := ⟨g, 257 + k, none⟩) (fun _ => rfl) _).drewN _).setCell (p := ⟨g, 514 + k, none⟩) (fun _ => rfl) _
             case measure => simp [intOf]; omega)
      · have g1 : (v == (f : Int)) = false := by simp; exact fun e => hy (.inl e)
        have g2 : (v == (f2 : Int)) = false := by simp; exact fun e => hy (.inr e)
        have HY := Lib.hid hy
        clear hy
        go_wp2_with (first
          | (with_reducible refine wpList_index_to (op := ⟨some 40, _, _, _, _, _⟩) rfl 47 (.tmp 36) (.tmp 37) rfl (.agg C) (.int .i64 (k : Int)) rfl rfl _ HR.out.2.2.2.2.1 ?_)
          | fail)
        go_roundw
        case rel => exact ⟨k + 1, T2, L2, by omega, by go_num, HR.out.1, HR.out.2.1.no (by rw [← HR.out.2.2.2.1]; exact HY.out), HR.out.2.2.1⟩
        case measure => simp [intOf]; omega
    · have ek : k = 257 := by omega
      subst ek
      have HR := Lib.hid (And.intro hT (And.intro hJ hK))
      clear hT hJ hK
      go_wp2
      go_ret
      have e1 := H3.out.2.2.2.1
      have e2 := H3.out.2.2.2.2.1
      refine ⟨f, f2, s, s2, hf, hf2, H1.out.1, H2.out.1, HR.out.2.2, .inr ⟨h0, rfl, T2, L2, ?_, ?_⟩⟩
      · rw [← e2, ← e1]; exact HR.out.1
      · rw [← e2]; exact HR.out.2.1
end Go.Proofs.Ytmaffonnekgekaa
