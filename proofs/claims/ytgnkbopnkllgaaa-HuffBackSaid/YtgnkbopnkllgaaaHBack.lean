/-
  HuffBack: the walk.
-/
import Derived.Test.YtgnkbopnkllgaaaPutT
import Derived.Test.YtgnkbopnkllgaaaBytes
import Derived.Test.YtgnkbopnkllgaaaCopied
import Derived.Test.YtgnkbopnkllgaaaFind
import Derived.Test.YtgnkbopnkllgaaaRises
import Derived.Test.YtgnkbopnkllgaaaAgain
import Derived.Test.YtgnkbopnkllgaaaRefCodes
namespace Go.Proofs.Ytgnkbopnkllgaaa
open Go.RowKit

theorem Scan.full {L l : List Int} (h : Scan L l) : ∃ F : List Int, Fit F ∧ l = stuff F ∧ ∃ j, j < 8 ∧ by8 F = L ++ List.replicate j 1 ∧ 8 * F.length = L.length + j := by
  obtain ⟨B, v, c, h1, h2, h3, h4, h5⟩ := h
  have e := by8_filledUp B (v := v) h2
  rw [← h4] at e
  have hl := congrArg List.length e
  rw [by8_len, List.length_append, List.length_replicate] at hl
  exact ⟨filledUp B v c, fit_filledUp h1 h2 h3, h5, (8 - c) % 8, by omega, e, hl⟩

/-- what the loops stand on: the table, the list, the values offered, at w -/
structure Base6 (w0 w : World) (lo t : Nat) (B V : List Int) (Ac : Option Addr) (nc : Nat) (A : Option Addr) (n c : Nat) (l : List Int) : Prop where
  tab : Tb w lo w.heap.size t B V (codes B V)
  te : Te w Ac nc (codes B V)
  few : nc ≤ 256
  arg : Ia w A n c l
  bel : Below w0.heap.size w0 w
  val : Valid B V

/-- how things stand when k values have been offered: those of ps were put -/
structure BackV (w wr : World) (base d k : Nat) (L : List En) (v : Value) (ps : List Int) : Prop where
  wri : Wr wr d (bitsV L ps)
  row : wr.ownsRow base 3 1 v ps.length (cellsI ps)
  may : ∀ p ∈ ps, ∃ en, fnd L p = some en
  ord : w.heap.size ≤ d ∧ d < base ∧ base ≤ wr.heap.size
  bel : Below w.heap.size w wr
  few : ps.length ≤ k
  bits : (bitsV L ps).length ≤ 16 * k
section
variable {w wr w' : World} {base d k : Nat} {L : List En} {v : Value} {ps : List Int}
theorem BackV.on (h : BackV w wr base d k L v ps) (b : Below wr.heap.size wr w') : BackV w w' base d k L v ps :=
  ⟨h.wri.on b, ownsRow_block h.row fun g _ _ hb => b.block g (Array.getElem?_eq_some_iff.1 hb).1, h.may, ⟨h.ord.1, h.ord.2.1, Nat.le_trans h.ord.2.2 b.size⟩, on_trans h.bel b, h.few, h.bits⟩
theorem BackV.more (h : BackV w wr base d k L v ps) : BackV w wr base d (k + 1) L v ps :=
  ⟨h.wri, h.row, h.may, h.ord, h.bel, by have := h.few; omega, by have := h.bits; omega⟩
theorem BackV.put (h : BackV w wr base d k L v ps) (b : Kept (fun i => i = d) wr w') : w'.ownsRow base 3 1 v ps.length (cellsI ps) ∧ Below w.heap.size w w' ∧ base ≤ w'.heap.size :=
  ⟨ownsRow_block h.row fun g cs hg hb => b.block g (Array.getElem?_eq_some_iff.1 hb).1 (fun e => by have := (h.row.lt g hg).1; have := h.ord; omega), h.bel.trans (b.below h.bel.size (fun i hi e => by have := h.ord; omega)), Nat.le_trans h.ord.2.2 b.size⟩
end
/-- how things stand while the values are got -/
structure Backing (w wr : World) (r g : Nat) (l : List Int) (s : St) : Prop where
  rd : Rd wr r g l s
  new : w.heap.size ≤ r
  bel : Below w.heap.size w wr

set_option maxRecDepth 20000 in
set_option maxHeartbeats 3200000 in
theorem hback_calls (w : World) (B V : List Int) (A : Option Addr) (n c : Nat) (A' : Option Addr) (n' c' : Nat) (l : List Int) (hB : B.length = 16) (h : Ia w A n c V) (hs : Ia w A' n' c' l) : Calls Try.prog 6 #[specV B (.slice A n c), .slice A' n' c'] w (Law w) := by
  obtain ⟨C, hC⟩ : ∃ C, C = specC B (.slice A n c) := ⟨_, rfl⟩
  have eV : specV B (.slice A n c) = .agg C := by rw [hC]; rfl
  rw [eV]
  obtain ⟨g, hg⟩ : ∃ g, g = w.heap.size := ⟨_, rfl⟩
  obtain ⟨w1, hw1⟩ : ∃ w1, w1 = w.alloc (.cells C 25) := ⟨_, rfl⟩
  have hb := boxed_made (w1 := w1) (g := g) hB h (by rw [hw1, hC]) hg
  have HB := Lib.hid (And.intro hb (And.intro hw1 hg))
  have HS := Lib.hid hs
  clear hb hw1 hg hC eV h hB hs
  have HL := Lib.hid (load_spec HB.out.1.box HB.out.1.len)
  go_enter Try.func6, Try.ntmps6
  go_wp2_with (first
    | (with_reducible refine wpList_load_to (op := ⟨some 23, _, _, _, _, _⟩) rfl 25 (.tmp 2) rfl (.pointer (some ⟨w.heap.size, 0, none⟩)) rfl (specV B (.slice A n c)) (by rw [← HB.out.2.1, ← HB.out.2.2]; exact HL.out) ?_)
    | fail)
  rw [← HB.out.2.1, ← HB.out.2.2]
  refine (refCodes_any w1 B V A n c HB.out.1.len HB.out.1.vals).mono ?_
  rintro e w2 ⟨b2, ⟨_, rfl⟩ | ⟨hv, Ac, nc, cc, rfl, hTe, hfew, _⟩⟩
  · have H2 := Lib.hid (HB.out.1.on b2)
    have c16 := H2.out.slice
    clear b2
    by_cases hn : 300 < n
    · have hni : (300 : Int) < (n : Int) := by omega
      go_wp2_with fail
      refine (awake5_any w2).mono ?_
      rintro e w3 ⟨rfl, b3⟩
      have H3 := Lib.hid (H2.out.on b3)
      clear b3
      go_wp2
      go_ret
      exact ⟨rfl, H3.out.bel⟩
    have hni : ¬ (300 : Int) < (n : Int) := by omega
    by_cases hn' : 60 < n'
    · have hni' : (60 : Int) < (n' : Int) := by omega
      go_wp2_with fail
      refine (awake5_any w2).mono ?_
      rintro e w3 ⟨rfl, b3⟩
      have H3 := Lib.hid (H2.out.on b3)
      clear b3
      go_wp2
      go_ret
      exact ⟨rfl, H3.out.bel⟩
    have hni' : ¬ (60 : Int) < (n' : Int) := by omega
    go_wp2_with fail
    refine (awake5_any w2).mono ?_
    rintro e w3 ⟨rfl, b3⟩
    have H3 := Lib.hid (H2.out.on b3)
    clear b3
    go_wp2
    go_ret
    exact ⟨rfl, H3.out.bel⟩
  have H2 := Lib.hid (And.intro (HB.out.1.on b2) (And.intro hTe (And.intro (HS.out.on (on_trans HB.out.1.bel b2)) (And.intro hfew hv))))
  have c16 := H2.out.1.slice
  clear b2 hTe hfew hv
  by_cases hn : 300 < n
  · have hni : (300 : Int) < (n : Int) := by omega
    go_wp2_with fail
    refine (awake5_any w2).mono ?_
    rintro e w3 ⟨rfl, b3⟩
    have H3 := Lib.hid (H2.out.1.on b3)
    clear b3
    go_wp2
    go_ret
    exact ⟨rfl, H3.out.bel⟩
  have hni : ¬ (300 : Int) < (n : Int) := by omega
  by_cases hn' : 60 < n'
  · have hni' : (60 : Int) < (n' : Int) := by omega
    go_wp2_with fail
    refine (awake5_any w2).mono ?_
    rintro e w3 ⟨rfl, b3⟩
    have H3 := Lib.hid (H2.out.1.on b3)
    clear b3
    go_wp2
    go_ret
    exact ⟨rfl, H3.out.bel⟩
  have hni' : ¬ (60 : Int) < (n' : Int) := by omega
  have HL2 := Lib.hid (load_spec H2.out.1.box H2.out.1.len)
  go_wp2_with (first
    | (with_reducible refine wpList_load_to (op := ⟨some 42, _, _, _, _, _⟩) rfl 25 (.tmp 2) rfl (.pointer (some ⟨g, 0, none⟩)) rfl (specV B (.slice A n c)) HL2.out ?_)
    | fail)
  clear c16
  refine (own_any w2 B V A n c HB.out.1.len H2.out.1.vals (by omega)).mono ?_
  rintro e w3 ⟨A2, c2, rfl, hi2, _, b3⟩
  have H3 := Lib.hid (And.intro hi2 (And.intro (on_trans H2.out.1.bel b3) (And.intro (H2.out.2.1.on b3) (H2.out.2.2.1.on b3))))
  clear hi2 b3
  go_wp2_with fail
  refine (new_any w3 B V A2 n c2 HB.out.1.len H3.out.1 (by omega)).mono ?_
  rintro e w4 ⟨b4, ⟨hv, rfl⟩ | ⟨_, t, rfl, hT⟩⟩
  · exact absurd H2.out.2.2.2.2 hv
  have H4 := Lib.hid (Base6.mk hT (H3.out.2.2.1.on b4) H2.out.2.2.2.1 (H3.out.2.2.2.on b4) (on_trans H3.out.2.1 b4) H2.out.2.2.2.2)
  clear hT b4
  obtain ⟨L, hL⟩ : ∃ L, L = codes B V := ⟨_, rfl⟩
  have HL0 := Lib.hid hL
  clear hL
  go_wp2_with fail
  refine (newWriter_wr w4).mono ?_
  rintro e w5 ⟨d, rfl, hd, hw5, b5⟩
  obtain ⟨base, hbase⟩ : ∃ base, base = w5.heap.size := ⟨_, rfl⟩
  have H5 := Lib.hid (BackV.mk (w := w4) (wr := w5) (base := base) (k := 0) (L := L) (v := .slice none 0 0) (ps := []) hw5 ⟨rfl, .inl ⟨rfl, rfl⟩⟩ (fun p hp => by cases hp) ⟨hd, by have := hw5.lt; omega, by omega⟩ b5 (by simp) (by simp [bitsV]))
  clear hd hw5 b5 hbase
  go_wp2
  go_loopw [10, 52] (fun u i wr => ∃ k ps, k ≤ n' ∧ i = .int .i64 ((k : Nat) : Int) ∧ BackV w4 wr base d k L u ps) (fun _ i _ => n' - (intOf i).toNat)
  case atStart => exact ⟨0, [], Nat.zero_le _, rfl, H5.out⟩
  case round =>
    obtain ⟨k, ps, hk, rfl, hP⟩ := hrel
    have HP := Lib.hid hP
    clear hP
    by_cases hlt : k < n'
    · have harg := H4.out.arg.on HP.out.bel
      obtain ⟨bl, ol, rfl, -, -⟩ := harg.at_ (by omega)
      have q0 := harg.get hlt
      obtain ⟨v, hv⟩ : ∃ v, v = l.getD k 0 := ⟨_, rfl⟩
      rw [← hv] at q0
      have hte := H4.out.te.on HP.out.bel
      rw [← HL0.out] at hte
      have HX := Lib.hid (find_any wr Ac nc cc L v hte (by have := H4.out.few; omega))
      clear hv harg hte
      obtain ⟨o, ho⟩ : ∃ o, o = fnd L v := ⟨_, rfl⟩
      have HO := Lib.hid ho
      go_wp2_with fail
      refine HX.out.mono ?_
      rw [← ho]
      clear ho
      rintro e w6 ⟨rfl, b6⟩
      have H6 := Lib.hid (HP.out.on b6)
      clear b6 q0
      cases o with
      | none =>
        have hcode : codeOf L v = (0, 0) := by unfold codeOf; rw [← HO.out]; rfl
        have HC := Lib.hid hcode
        clear hcode
        unfold enV
        go_wp2_with fail
        refine (count_wr _ d _ (H6.out.on (on_alloc _ _)).wri).mono ?_
        rintro e w7 ⟨rfl, b7⟩
        have H7 := Lib.hid ((H6.out.on (on_alloc _ _)).on b7)
        clear b7
        have hput := putT_any w7 _ _ t d B V _ v (H4.out.tab.on H7.out.bel) H4.out.val H7.out.wri (by have := H7.out.bits; omega)
        unfold PutT at hput
        rw [← HL0.out, HC.out, ← HO.out] at hput
        simp only [dig, List.append_nil] at hput
        have HT := Lib.hid hput
        clear hput
        go_wp2_with fail
        refine HT.out.mono ?_
        rintro e w8 ⟨rfl, hw8, k8⟩
        obtain ⟨p1, p2, p3⟩ := H7.out.put k8
        have H8 := Lib.hid (BackV.mk hw8 p1 H7.out.may ⟨H7.out.ord.1, H7.out.ord.2.1, p3⟩ p2 H7.out.few H7.out.bits)
        clear hw8 k8 p1 p2 p3
        go_wp2_with fail
        refine (count_wr w8 d _ H8.out.wri).mono ?_
        rintro e w9 ⟨rfl, b9⟩
        have H9 := Lib.hid (H8.out.on b9)
        clear b9
        go_wp2
        go_roundw
        case rel => exact ⟨k + 1, ps, by omega, by go_num, H9.out.more⟩
        case measure => simp [intOf]; omega
      | some en =>
        obtain ⟨z, x, y⟩ := en
        have hcode : codeOf L v = (x, y) := by unfold codeOf; rw [← HO.out]; rfl
        have hy : y ≤ 16 := by
          have hm := (fnd_some HO.out.symm).1
          rw [HL0.out] at hm
          exact (H4.out.val.code hm).2.1
        have HC := Lib.hid (And.intro hcode hy)
        clear hcode hy
        unfold enV
        go_wp2_with fail
        refine (count_wr _ d _ (H6.out.on (on_alloc _ _)).wri).mono ?_
        rintro e w7 ⟨rfl, b7⟩
        have H7 := Lib.hid ((H6.out.on (on_alloc _ _)).on b7)
        clear b7
        have hput := putT_any w7 _ _ t d B V _ v (H4.out.tab.on H7.out.bel) H4.out.val H7.out.wri (by have := H7.out.bits; omega)
        unfold PutT at hput
        rw [← HL0.out, ← HO.out] at hput
        simp only [Option.isSome_some, if_true] at hput
        have HT := Lib.hid hput
        clear hput
        go_wp2_with fail
        refine HT.out.mono ?_
        rintro e w8 ⟨rfl, hw8, k8⟩
        obtain ⟨p1, p2, p3⟩ := H7.out.put k8
        rw [← bitsV_one, ← bitsV_app] at hw8
        obtain ⟨N, hN⟩ : ∃ N, N = ps.length := ⟨_, rfl⟩
        rw [← hN] at p1
        have hN60 : N ≤ 60 := by have := HP.out.few; omega
        have H8 := Lib.hid (And.intro hw8 (And.intro p1 (And.intro p2 (And.intro p3 hN))))
        clear hw8 k8 p1 p2 p3 hN
        go_wp2_with (first
          | (at_builtin; refine wpList_append_il rfl (.tmp 87) (.tmp 89) rfl base u10 N ps rfl (H8.out.2.1.alloc _) (some ⟨w8.heap.size, 0, none⟩) 1 1 [v] rfl (il_one w8 v) (by omega) (by have := H8.out.2.2.2.1; simp; omega) ?_; intro v9 w9 hown9 b9; have H9 := Lib.hid (And.intro hown9 b9); clear hown9 b9)
          | fail)
        go_roundw
        case rel =>
          have hlt := H7.out.ord
          have hb9 : Below w8.heap.size w8 (w8.alloc (.cells #[.int .i64 v] 3)) := on_alloc _ _
          have hw9 : Wr w9 d (bitsV L (ps ++ [v])) := (H8.out.1.on hb9).of (H9.out.2.block d hlt.2.1)
          refine ⟨k + 1, ps ++ [v], by omega, by go_num, ⟨hw9, ?_, ?_, ⟨hlt.1, hlt.2.1, ?_⟩, ?_, ?_, ?_⟩⟩
          · rw [List.length_append, ← H8.out.2.2.2.2]
            exact H9.out.1
          · intro q hq
            rcases List.mem_append.1 hq with h | h
            · exact HP.out.may q h
            · rw [List.mem_singleton.1 h]
              exact ⟨_, HO.out.symm⟩
          · have := H9.out.2.size
            have := hb9.size
            have := H8.out.2.2.2.1
            omega
          · exact (H8.out.2.2.1.trans (hb9.mono H8.out.2.2.1.size)).trans (H9.out.2.mono (by omega))
          · rw [List.length_append]
            have := HP.out.few
            simp
            omega
          · rw [bitsV_app, List.length_append, bitsV_one, HC.out.1, dig_len]
            have := HP.out.bits
            have := HC.out.2
            dsimp only
            omega
        case measure => simp [intOf]; omega
    · obtain ⟨N, hN⟩ : ∃ N, N = ps.length := ⟨_, rfl⟩
      obtain ⟨A4, c4, rfl, hpl, -⟩ := il_of_own HP.out.row
      rw [← hN] at hpl ⊢
      have hN60 : N ≤ 60 := by rw [hN]; have := HP.out.few; omega
      have HK := Lib.hid (And.intro hN hpl)
      clear hN hpl
      go_wp2_with fail
      refine (bytes_any wr d (bitsV L ps) HP.out.wri).mono ?_
      rintro e w5 ⟨A5, m5, c5, l5, rfl, hs5, hsl5, b5⟩
      obtain ⟨F, hF, hl5, jj, hj8, hFL, hFl⟩ := hs5.full
      have hm5 : m5 = l5.length := hsl5.len.symm
      have hm5b : m5 ≤ 400 := by
        have := stuff_len F
        have := HP.out.bits
        rw [hm5, hl5]
        omega
      have HS := Lib.hid (And.intro hsl5 (And.intro hF (And.intro hl5 (And.intro hFL (And.intro (on_trans HP.out.bel b5) (HK.out.2.on b5))))))
      clear b5 hs5 hsl5 hF hFL hFl hm5 hl5
      go_wp2_with fail
      refine (newReader_any w5 _ A5 m5 c5 l5 HS.out.1 (by omega)).mono ?_
      rintro e w6 ⟨r, g, rfl, hr, hg, hr1, b6⟩
      have H6 := Lib.hid (Backing.mk (w := w5) hr1 hr b6)
      clear hr1 hr hg b6
      go_wp2
      go_loopw [97] (fun i wr => ∃ j, j ≤ N ∧ i = .int .i64 ((j : Nat) : Int) ∧ Backing w5 wr r g l5 (stAt F (bitsV L (ps.take j)).length)) (fun i _ => N - (intOf i).toNat)
      case atStart =>
        refine ⟨0, Nat.zero_le _, rfl, ?_⟩
        have e0 : stAt F (bitsV L (ps.take 0)).length = st0 := by
          rw [List.take_zero]
          exact stAt_zero F
        rw [e0]
        exact H6.out
      case round =>
        obtain ⟨j, hj, rfl, hQ⟩ := hrel
        have HQ := Lib.hid hQ
        clear hQ
        by_cases hjN : j < N
        · have hil := HS.out.2.2.2.2.2.on HQ.out.bel
          obtain ⟨bl, ol, rfl, -, hc⟩ := hil.at_ (by omega)
          have q0 := hc j hjN
          obtain ⟨v, hv⟩ : ∃ v, v = ps.getD j 0 := ⟨_, rfl⟩
          rw [← hv] at q0
          have hjl : j < ps.length := by rw [← HK.out.1]; exact hjN
          obtain ⟨en, hen⟩ := HP.out.may v (by
            rw [hv, List.getD_eq_getElem?_getD, List.getElem?_eq_getElem hjl]
            exact List.getElem_mem hjl)
          have hgot := back_got (F := F) (ps := ps) (j := j) (i := jj) (en := en) H4.out.val (by rw [← HL0.out]; exact HS.out.2.2.2.1) hjl HS.out.2.1 (by rw [← HL0.out, ← hv]; exact hen)
          rw [← HL0.out, ← hv, ← HS.out.2.2.1] at hgot
          have hget := getT_any wr _ _ t r g B V _ l5 _ (H4.out.tab.on (on_trans HS.out.2.2.2.2.1 HQ.out.bel)) HQ.out.rd (.inr (Nat.le_trans HS.out.2.2.2.2.1.size HQ.out.new)) (Nat.le_trans HS.out.2.2.2.2.1.size HQ.out.bel.size)
          rw [← HL0.out, hgot] at hget
          have HG := Lib.hid hget
          clear hget hgot hen hc hil hv
          go_wp2_with fail
          refine HG.out.mono ?_
          rintro e w7 ⟨rfl, hr7, k7⟩
          have H7 := Lib.hid (Backing.mk (w := w5) hr7 HQ.out.new (HQ.out.bel.trans (k7.below HQ.out.bel.size (fun i hi e => by have := HQ.out.new; omega))))
          clear hr7 k7 q0
          go_wp2
          go_roundw
          case rel => exact ⟨j + 1, by omega, by go_num, H7.out⟩
          case measure => simp [intOf]; omega
        · go_wp2_with fail
          refine (awake5_any wr).mono ?_
          rintro e w8 ⟨rfl, b8⟩
          have F8 := Lib.hid (on_trans (on_trans (on_trans H4.out.bel HS.out.2.2.2.2.1) HQ.out.bel) b8)
          clear b8
          go_wp2
          go_ret
          exact ⟨rfl, F8.out⟩
end Go.Proofs.Ytgnkbopnkllgaaa
