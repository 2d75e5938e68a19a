/-
  TunedSuits: the walk.
-/
import Derived.Test.YtmaffonnekgekaaLawBase
namespace Go.Proofs.Ytmaffonnekgekaa
open Go.RowKit

set_option maxRecDepth 20000 in
set_option maxHeartbeats 3200000 in
theorem suits_calls (w : World) (C : List Int) (A : Option Addr) (n c : Nat) (h : Ia w A n c C) : Calls Try.prog 5 #[.slice A n c] w (Law w) := by
  have HI := Lib.hid h
  clear h
  by_cases hn : 300 < n
  · go_enter Try.func5, Try.ntmps5
    go_wp2_with fail
    refine (awake_any w).mono ?_
    rintro e w2 ⟨rfl, b2⟩
    go_wp2
    go_ret
    exact ⟨rfl, b2⟩
  have hz := zero25
  obtain ⟨ZC, hZC⟩ : ∃ ZC, ZC = zeroC := ⟨_, rfl⟩
  have hz26 : ∀ w, (zeroValue 26).run Try.prog w = .ok (.agg ZC) w := by rw [hZC]; exact hz
  clear hz
  have HZ := Lib.hid hZC
  clear hZC
  go_enter Try.func5, Try.ntmps5
  go_wp2_with (first
    | (at_builtin; refine wpList_append_ia (o := ⟨some 18, _, _, _, _, _⟩) rfl (.tmp 16) (.tmp 17) rfl w.heap.size (.slice (some ⟨w.heap.size, 0, none⟩) 0 0) 0 [] rfl (World.ownsRow_made (base := w.heap.size) (e := 3) (size := 1) w #[] 0 (Nat.le_refl _) (Nat.zero_le _) rfl) A n c C rfl (HI.out.alloc _) (by omega) (by simp) ?_; intro v1 w1 hown1 b1; obtain ⟨A1, c1, rfl, hi1, _, bel1⟩ := copied_row hown1 b1; have H1 := Lib.hid (And.intro hi1 bel1); clear hown1 b1 hi1 bel1)
    | fail)
  refine (spec_anyT w1 C A1 n c1 H1.out.1.ia (by omega)).mono ?_
  rintro e w2 ⟨b2, ⟨hno, rfl⟩ | ⟨hg, ha, B, V, A2, n2, c2, rfl, hiV, hsp, hn2, hB⟩⟩
  · have hb0 : Box (w2.alloc (.cells ZC 26)) w2.heap.size 26 zeroC := by rw [HZ.out]; exact Box.made _ _ _
    have H2 := Lib.hid (And.intro hb0 (on_trans H1.out.2 b2))
    clear hno b2 hb0
    go_wp2_with (first
      | ((with_reducible refine wpList_store_spec (o := ⟨none, _, _, _, _, _⟩) rfl (.tmp 3) (.tmp 20) rfl rfl w2.heap.size (List.replicate 16 0) (.slice none 0 0) rfl rfl zeroC H2.out.1 rfl rfl rfl ?_)
         intro w4 b4 k4
         have c16 := (b4.cell 16).trans (specC_last rfl)
         have H4 := Lib.hid (on_trans H2.out.2 (below_stored rfl k4))
         clear b4 k4)
      | fail)
    refine (awake_any w4).mono ?_
    rintro e w5 ⟨rfl, b5⟩
    have H5 := Lib.hid (on_trans H4.out b5)
    clear b5
    go_wp2
    go_ret
    exact ⟨rfl, H5.out⟩
  · have hb0 : Box (w2.alloc (.cells ZC 26)) w2.heap.size 26 zeroC := by rw [HZ.out]; exact Box.made _ _ _
    have H2 := Lib.hid (And.intro hb0 (And.intro (on_trans H1.out.2 b2) (And.intro hiV (And.intro hB (And.intro (hsp.valid hg ha) (hsp.has hg ha))))))
    clear b2 hb0 hiV hB hg ha hsp
    go_wp2_with (first
      | ((with_reducible refine wpList_store_spec (o := ⟨none, _, _, _, _, _⟩) rfl (.tmp 3) (.tmp 20) rfl rfl w2.heap.size B (.slice A2 n2 c2) rfl rfl zeroC H2.out.1 rfl H2.out.2.2.2.1 rfl ?_)
         intro w4 b4 k4
         have b5 := below_stored rfl k4
         have H4 := Lib.hid (And.intro b4 (And.intro (on_trans H2.out.2.1 b5) (H2.out.2.2.1.on b5)))
         clear b4 k4 b5)
      | (with_reducible refine wpList_load_to (op := ⟨some 32, _, _, _, _, _⟩) rfl 26 (.tmp 3) rfl (.pointer (some ⟨w2.heap.size, 0, none⟩)) rfl (specV B (.slice A2 n2 c2)) (load_spec H4.out.1 H2.out.2.2.2.1) ?_)
      | fail)
    refine (new_any w4 B V A2 n2 c2 H2.out.2.2.2.1 H4.out.2.2.ia (by omega)).mono ?_
    rintro e w5 ⟨b5, ⟨hv, _⟩ | ⟨_, t, rfl, hT⟩⟩
    · exact absurd H2.out.2.2.2.2.1 hv
    obtain ⟨lo, hlo⟩ : ∃ lo, lo = w4.heap.size := ⟨_, rfl⟩
    obtain ⟨hi, hhi⟩ : ∃ hi, hi = w5.heap.size := ⟨_, rfl⟩
    rw [← hlo, ← hhi] at hT
    have H5 := Lib.hid (And.intro hT (on_trans H4.out.2.1 b5))
    clear b5 hT hlo hhi
    go_wp2_with fail
    go_loopw [38] (fun i wr => ∃ k : Nat, k ≤ 256 ∧ i = .int .i64 k ∧ Tb wr lo hi t B V (codes B V) ∧ Below w.heap.size w wr) (fun i _ => 256 - (intOf i).toNat)
    case atStart => exact ⟨0, Nat.zero_le _, rfl, H5.out.1, H5.out.2⟩
    case round =>
      obtain ⟨k, hk, rfl, hT, hb⟩ := hrel
      have HR := Lib.hid (And.intro hT hb)
      clear hT hb
      by_cases hlt : k < 256
      · have hlti : (k : Int) < 256 := by omega
        have hHC := code_any wr lo hi t B V _ (k : Int) HR.out.1 (valid_vals H2.out.2.2.2.2.1)
        have hhas := H2.out.2.2.2.2.2 k
        obtain ⟨x, hx⟩ : ∃ x, x = codeOf (codes B V) (k : Int) := ⟨_, rfl⟩
        obtain ⟨xb, xs⟩ := x
        rw [← hx] at hHC hhas
        dsimp only at hhas
        have HC := Lib.hid (And.intro hHC hhas)
        clear hHC hhas hx
        go_wp2_with fail
        refine HC.out.1.mono ?_
        rintro e w6 ⟨rfl, b6⟩
        have H6 := Lib.hid (And.intro (HR.out.1.on b6) (on_trans HR.out.2 b6))
        have hia := HI.out.on H6.out.2
        have hl := HI.out.len
        by_cases hkn : k < n
        · have hkni : (k : Int) < (n : Int) := by omega
          obtain ⟨bb, off, hA, hbl, hc⟩ := hia.at_ (by omega)
          have ck := hc k hkn
          have hh := HC.out.2
          obtain ⟨v, hv⟩ : ∃ v, v = C.getD k 0 := ⟨_, rfl⟩
          rw [← hv] at ck hh
          clear hc hia b6 hv
          subst hA
          by_cases hv0 : 0 < v
          · have hx0 : 0 < xs := by
              have := hh.2 ⟨by omega, hv0⟩
              omega
            have hd : decide (0 < xs) = true := decide_eq_true hx0
            clear hh
            go_wp2
            go_roundw
            case rel => exact ⟨k + 1, by omega, by go_num, H6.out.1, H6.out.2⟩
            case measure => simp [intOf]; omega
          · have hx0 : xs = 0 := by
              by_cases e : xs = 0
              · exact e
              · exact absurd (hh.1 e).2 hv0
            subst hx0
            clear hh
            go_wp2
            go_roundw
            case rel => exact ⟨k + 1, by omega, by go_num, H6.out.1, H6.out.2⟩
            case measure => simp [intOf]; omega
        · have hkni : ¬ (k : Int) < (n : Int) := by omega
          have hx0 : xs = 0 := by
            by_cases e : xs = 0
            · exact e
            · have := (HC.out.2.1 e).1
              omega
          subst hx0
          clear hia b6
          go_wp2
          go_roundw
          case rel => exact ⟨k + 1, by omega, by go_num, H6.out.1, H6.out.2⟩
          case measure => simp [intOf]; omega
      · have ek : k = 256 := by omega
        clear ek
        go_wp2_with fail
        refine (awake_any wr).mono ?_
        rintro e w6 ⟨rfl, b6⟩
        have H6 := Lib.hid (on_trans HR.out.2 b6)
        clear b6
        go_wp2
        go_ret
        exact ⟨rfl, H6.out⟩
end Go.Proofs.Ytmaffonnekgekaa
