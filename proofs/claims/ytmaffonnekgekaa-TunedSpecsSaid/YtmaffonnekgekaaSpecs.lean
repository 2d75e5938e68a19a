/-
  TunedSpecs: the walk.
-/
import Derived.Test.YtmaffonnekgekaaLawBase
import Derived.Test.YtmaffonnekgekaaRefSpec
namespace Go.Proofs.Ytmaffonnekgekaa
open Go.RowKit

/-- what both tell of counts: a specification and an error -/
def Tells (C B V : List Int) (x : Int) : Prop := (¬ (Good C ∧ Any C C.length) ∧ x = 2 ∧ B = List.replicate 16 0 ∧ V = []) ∨ ((Good C ∧ Any C C.length) ∧ x = 0 ∧ SpecOf C B V)
theorem Tells.only {C B V B' V' : List Int} {x x' : Int} (h : Tells C B V x) (h' : Tells C B' V' x') : B = B' ∧ V = V' ∧ x = x' := by
  rcases h with ⟨h1, rfl, rfl, rfl⟩ | ⟨h1, rfl, h2⟩
  · rcases h' with ⟨_, rfl, rfl, rfl⟩ | ⟨k1, _, _⟩
    · exact ⟨rfl, rfl, rfl⟩
    · exact absurd k1 h1
  · rcases h' with ⟨k1, _, _, _⟩ | ⟨_, rfl, k2⟩
    · exact absurd h1 k1
    · obtain ⟨e1, e2⟩ := h2.only h1.1 k2
      exact ⟨e1, e2, rfl⟩
theorem SpecGot.tells {w w' : World} {C : List Int} {e : Ending} (h : SpecGot w C e w') : ∃ B V A n c x, e = .returned (.tuple #[specV B (.slice A n c), .int .i64 x]) ∧ Ia w' A n c V ∧ Tells C B V x ∧ n ≤ 256 ∧ B.length = 16 ∧ Below w.heap.size w w' := by
  obtain ⟨hb, ⟨h1, rfl⟩ | ⟨hg, ha, B, V, A, n, c, rfl, hi, hs, hn, hB⟩⟩ := h
  · exact ⟨_, [], none, 0, 0, 2, rfl, nil_ia w', .inl ⟨h1, rfl, rfl, rfl⟩, by omega, rfl, hb⟩
  · exact ⟨B, V, A, n, c, 0, rfl, hi.ia, .inr ⟨⟨hg, ha⟩, rfl, hs⟩, hn, hB, hb⟩

/-- what the law holds on to -/
structure S3 (w wr : World) (g1 g2 : Nat) (B V C : List Int) (A2 A3 A1 A : Option Addr) (n2 c2 c3 n c1 c : Nat) : Prop where
  s1 : Box wr g1 26 (specC B (.slice A2 n2 c2))
  s2 : Box wr g2 26 (specC B (.slice A3 n2 c3))
  v1 : Ia wr A2 n2 c2 V
  v2 : Ia wr A3 n2 c3 V
  x1 : Ia wr A1 n c1 C
  x2 : Ia wr A n c C
  bel : Below w.heap.size w wr
theorem S3.on {w wr w' : World} {g1 g2 : Nat} {B V C : List Int} {A2 A3 A1 A : Option Addr} {n2 c2 c3 n c1 c : Nat} (h : S3 w wr g1 g2 B V C A2 A3 A1 A n2 c2 c3 n c1 c) (k : Below wr.heap.size wr w') : S3 w w' g1 g2 B V C A2 A3 A1 A n2 c2 c3 n c1 c :=
  ⟨h.s1.on k, h.s2.on k, h.v1.on k, h.v2.on k, h.x1.on k, h.x2.on k, on_trans h.bel k⟩

set_option maxRecDepth 20000 in
set_option maxHeartbeats 3200000 in
theorem specs_calls (w : World) (C : List Int) (A : Option Addr) (n c : Nat) (h : Ia w A n c C) : Calls Try.prog 3 #[.slice A n c] w (Law w) := by
  have HI := Lib.hid h
  clear h
  by_cases hn : 300 < n
  · go_enter Try.func3, Try.ntmps3
    go_wp2_with fail
    refine (awake_any w).mono ?_
    rintro e w2 ⟨rfl, b2⟩
    go_wp2
    go_ret
    exact ⟨rfl, b2⟩
  have hz := zero25
  obtain ⟨ZC, hZC⟩ : ∃ ZC, ZC = zeroC := ⟨_, rfl⟩
  have hz26 : ∀ w, (zeroValue 26).run Try.prog w = .ok (.agg ZC) w := by rw [hZC]; exact hz
  clear hz
  have HZ := Lib.hid hZC
  clear hZC
  go_enter Try.func3, Try.ntmps3
  go_wp2_with (first
    | (at_builtin; refine wpList_append_ia (o := ⟨some 15, _, _, _, _, _⟩) rfl (.tmp 13) (.tmp 14) rfl w.heap.size (.slice (some ⟨w.heap.size, 0, none⟩) 0 0) 0 [] rfl (World.ownsRow_made (base := w.heap.size) (e := 3) (size := 1) w #[] 0 (Nat.le_refl _) (Nat.zero_le _) rfl) A n c C rfl (HI.out.alloc _) (by omega) (by simp) ?_; intro v1 w1 hown1 b1; obtain ⟨A1, c1, rfl, hi1, _, bel1⟩ := copied_row hown1 b1; have H1 := Lib.hid (And.intro hi1 bel1); clear hown1 b1 hi1 bel1)
    | fail)
  refine (spec_anyT w1 C A1 n c1 H1.out.1.ia (by omega)).mono ?_
  intro e w2 hgot
  obtain ⟨B, V, A2, n2, c2, x, rfl, hiV, hT, hn2, hB, b2⟩ := hgot.tells
  have hb0 : Box (w2.alloc (.cells ZC 26)) w2.heap.size 26 zeroC := by rw [HZ.out]; exact Box.made _ _ _
  have H2 := Lib.hid (And.intro hb0 (And.intro (on_trans H1.out.2 b2) (And.intro hiV (And.intro hB (And.intro hT (H1.out.1.ia.on b2))))))
  clear hgot hb0 hiV hT hB b2
  go_wp2_with (first
    | ((with_reducible refine wpList_store_spec (o := ⟨none, _, _, _, _, _⟩) rfl (.tmp 4) (.tmp 19) rfl rfl w2.heap.size B (.slice A2 n2 c2) rfl rfl zeroC H2.out.1 rfl H2.out.2.2.2.1 rfl ?_)
       intro w4 b4 k4
       have b5 := below_stored rfl k4
       have H4 := Lib.hid (And.intro b4 (And.intro (on_trans H2.out.2.1 b5) (And.intro (H2.out.2.2.1.on b5) (H2.out.2.2.2.2.2.on b5))))
       clear b4 k4 b5)
    | fail)
  refine (refSpec_anyT w4 C A n c (HI.out.on H4.out.2.1) (by omega)).mono ?_
  intro e w5 hgot
  obtain ⟨B', V', A3, n3, c3, x', rfl, hiV, hT, hn3, hB, b5⟩ := hgot.tells
  obtain ⟨rfl, rfl, rfl⟩ := H2.out.2.2.2.2.1.only hT
  have hnn : n2 = n3 := by have h1 := H2.out.2.2.1.len; have h2 := hiV.len; omega
  subst hnn
  have hb0 : Box (w5.alloc (.cells ZC 26)) w5.heap.size 26 zeroC := by rw [HZ.out]; exact Box.made _ _ _
  have H5 := Lib.hid (And.intro hb0 (And.intro (on_trans H4.out.2.1 b5) (And.intro hiV (And.intro (H4.out.1.on b5) (And.intro (H4.out.2.2.1.on b5) (H4.out.2.2.2.on b5))))))
  clear hgot hb0 hiV hT hB b5
  go_wp2_with (first
    | ((with_reducible refine wpList_store_spec (o := ⟨none, _, _, _, _, _⟩) rfl (.tmp 6) (.tmp 24) rfl rfl w5.heap.size B (.slice A3 n2 c3) rfl rfl zeroC H5.out.1 rfl H2.out.2.2.2.1 rfl ?_)
       intro w6 b6 k6
       have b7 := below_stored rfl k6
       have H6 := Lib.hid (And.intro b6 (And.intro (on_trans H5.out.2.1 b7) (And.intro (H5.out.2.2.1.on b7) (And.intro (H5.out.2.2.2.1.on b7) (And.intro (H5.out.2.2.2.2.1.on b7) (H5.out.2.2.2.2.2.on b7))))))
       clear b6 k6 b7)
    | fail)
  have hS : S3 w w6 w2.heap.size w5.heap.size B V C A2 A3 A1 A n2 c2 c3 n c1 c := ⟨H6.out.2.2.2.1, H6.out.1, H6.out.2.2.2.2.1, H6.out.2.2.1, H6.out.2.2.2.2.2, HI.out.on H6.out.2.1, H6.out.2.1⟩
  obtain ⟨g1, hg1⟩ : ∃ g1, g1 = w2.heap.size := ⟨_, rfl⟩
  obtain ⟨g2, hg2⟩ : ∃ g2, g2 = w5.heap.size := ⟨_, rfl⟩
  rw [← hg1, ← hg2] at hS ⊢
  have HS := Lib.hid hS
  have HBl := Lib.hid H2.out.2.2.2.1
  clear hS hg1 hg2 H6 H5 H4 H2 H1
  go_loopw [28] (fun i wr => ∃ k : Nat, k ≤ n ∧ i = .int .i64 (k : Int) ∧ S3 w wr g1 g2 B V C A2 A3 A1 A n2 c2 c3 n c1 c) (fun i _ => n - (intOf i).toNat)
  case atStart => exact ⟨0, Nat.zero_le _, rfl, HS.out⟩
  case round =>
    obtain ⟨k, hk, rfl, hR⟩ := hrel
    by_cases hlt : k < n
    · have hlti : (k : Int) < (n : Int) := by omega
      obtain ⟨b, off, hA, _, hc⟩ := hR.x2.at_ (by omega)
      obtain ⟨b', off', hA', _, hc'⟩ := hR.x1.at_ (by omega)
      have d1 := hc k hlt
      have d2 := hc' k hlt
      obtain ⟨v, hv⟩ : ∃ v, v = C.getD k 0 := ⟨_, rfl⟩
      rw [← hv] at d1 d2
      have HR := Lib.hid hR
      clear hR hc hc' hv
      subst hA hA'
      go_wp2_with fail
      go_quiet (fail)
      go_wp2
      go_roundw
      case rel => exact ⟨k + 1, by omega, by go_num, HR.out.on (below_drewN_refl _ _)⟩
      case measure => simp [intOf]; omega
    · have ek : k = n := by omega
      have HR := Lib.hid hR
      clear hR ek
      go_wp2_with (first
        | (with_reducible refine wpList_load_to (op := ⟨some 41, _, _, _, _, _⟩) rfl 26 (.tmp 4) rfl (.pointer (some ⟨g1, 0, none⟩)) rfl (specV B (.slice A2 n2 c2)) (load_spec HR.out.s1 HBl.out) ?_)
        | (with_reducible refine wpList_load_to (op := ⟨some 42, _, _, _, _, _⟩) rfl 26 (.tmp 6) rfl (.pointer (some ⟨g2, 0, none⟩)) rfl (specV B (.slice A3 n2 c3)) (load_spec HR.out.s2 HBl.out) ?_)
        | fail)
      refine (same_any wr B V A2 A3 n2 c2 c3 HBl.out HR.out.v1 HR.out.v2 (by omega)).mono ?_
      rintro e w7 ⟨rfl, b7⟩
      have H7 := Lib.hid (on_trans HR.out.bel b7)
      clear b7
      go_wp2_with fail
      refine (awake_any w7).mono ?_
      rintro e w8 ⟨rfl, b8⟩
      have H8 := Lib.hid (on_trans H7.out b8)
      clear b8
      go_wp2
      go_ret
      exact ⟨rfl, H8.out⟩
end Go.Proofs.Ytmaffonnekgekaa
