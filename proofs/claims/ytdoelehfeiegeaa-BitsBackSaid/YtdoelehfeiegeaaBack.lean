/-
  BitsBack: the walk.
-/
import Derived.Test.YtdoelehfeiegeaaBackMath
namespace Go.Proofs.Ytdoelehfeiegeaa
open Go.RowKit

/-- how things stand when k pieces have been offered: those of ps were put -/
structure BackAt (w wr : World) (d k : Nat) (v : Value) (ps : List (Int × Int)) : Prop where
  wri : Wr wr d (bitsP ps)
  row : wr.ownsRow w.heap.size 28 2 v ps.length (cellsK ps)
  may : ∀ p ∈ ps, mayPut p.1 p.2
  new : w.heap.size ≤ d
  bel : Below w.heap.size w wr
  few : ps.length ≤ k
  bits : (bitsP ps).length ≤ 24 * k

theorem piece_info : (Try.prog.info? 28).map (fun i => (i.zero, i.size, i.bytes)) = some (some (.agg #[.int .i64 0, .int .i64 0]), 2, 16) := by kernel_rfl

theorem BackAt.on {w wr w' : World} {d k : Nat} {v : Value} {ps : List (Int × Int)} (h : BackAt w wr d k v ps) (b : Below wr.heap.size wr w') : BackAt w w' d k v ps :=
  ⟨h.wri.on b, ownsRow_block h.row fun g _ _ hb => b.block g (Array.getElem?_eq_some_iff.1 hb).1, h.may, h.new, on_trans h.bel b, h.few, h.bits⟩
theorem BackAt.row_kept {w wr w' : World} {d k : Nat} {v : Value} {ps : List (Int × Int)} (h : BackAt w wr d k v ps) (b : Kept (fun i => i = d) wr w') : w'.ownsRow w.heap.size 28 2 v ps.length (cellsK ps) :=
  ownsRow_block h.row fun g cs _ hb => b.block g (Array.getElem?_eq_some_iff.1 hb).1 (fun e => by
    subst e
    obtain ⟨cd, hd⟩ := h.wri.box
    exact Box.apart (show Box wr g 28 cs from hb) hd (by decide) rfl)
theorem BackAt.more {w wr : World} {d k : Nat} {v : Value} {ps : List (Int × Int)} (h : BackAt w wr d k v ps) (n : Nat) (hn : k ≤ n) : BackAt w wr d n v ps :=
  ⟨h.wri, h.row, h.may, h.new, h.bel, by have := h.few; omega, by have := h.bits; omega⟩

/-- two readers behind piece j -/
def backS (F : List Int) (ps : List (Int × Int)) (j : Nat) : St := stAt F (bitsP (ps.take j)).length

set_option maxRecDepth 10000 in
set_option maxHeartbeats 3200000 in
theorem back_some (w : World) (A : Option Addr) (n c : Nat) (ks : List (Int × Int)) (h : Pl w (fun _ => True) A n ks) (hn : n ≤ 60) : Calls Try.prog 5 #[.slice A n c] w (Law w) := by
  obtain ⟨i0, hi0, hz0, hz1, hz2⟩ := info_parts piece_info
  have hPl := Lib.hid (h.mono (K' := fun b => b < w.heap.size) (fun _ hb _ => hb))
  clear h
  go_enter Try.func5, Try.ntmps5
  go_wp2_with fail
  refine (newWriter_wr w).mono ?_
  rintro e w1 ⟨d, rfl, hd, hw1, b1⟩
  have H1 := Lib.hid (BackAt.mk (w := w) (k := 0) (v := .slice none 0 0) (ps := []) hw1 ⟨rfl, .inl ⟨rfl, rfl⟩⟩ (fun p hp => by cases hp) hd b1 (by simp) (by simp [bitsP]))
  clear hw1 b1 hd
  go_wp2
  go_loopw [4, 29] (fun u i wr => ∃ k ps, k ≤ n ∧ i = .int .i64 ((k : Nat) : Int) ∧ BackAt w wr d k u ps) (fun _ i _ => n - (intOf i).toNat)
  case atStart => exact ⟨0, [], Nat.zero_le _, rfl, H1.out⟩
  case round =>
    obtain ⟨k, ps, hk, rfl, hP⟩ := hrel
    have HP := Lib.hid hP
    clear hP
    by_cases hlt : k < n
    · obtain ⟨bl, ol, rfl, q0, q1⟩ := (hPl.out.below HP.out.bel (fun _ _ h => h)).get hlt
      obtain ⟨v, hv⟩ : ∃ v, v = (ks.getD k (0, 0)).1 := ⟨_, rfl⟩
      obtain ⟨m, hm⟩ : ∃ m, m = (ks.getD k (0, 0)).2 := ⟨_, rfl⟩
      rw [← hv] at q0
      rw [← hm] at q1
      clear hv hm
      obtain ⟨p, hp⟩ : ∃ p, p = wr.heap.size := ⟨_, rfl⟩
      obtain ⟨w3, hw3⟩ : ∃ w3, w3 = wr.alloc (.cells #[.int .i64 v, .int .i64 m] 28) := ⟨_, rfl⟩
      have hbp : Box w3 p 28 #[.int .i64 v, .int .i64 m] := by rw [hw3, hp]; exact Box.made _ _ _
      have b3 : Below wr.heap.size wr w3 := by rw [hw3]; exact on_alloc _ _
      have hpd : p ≠ d := by have := HP.out.wri.lt; omega
      have HB := Lib.hid (And.intro hbp (And.intro (HP.out.on b3) (And.intro hw3 (And.intro hp hpd))))
      have r0 : w3.cell? ⟨p, 0, none⟩ = some (.int .i64 v) := hbp.cell 0
      have r1 : w3.cell? ⟨p, 1, none⟩ = some (.int .i64 m) := hbp.cell 1
      clear hbp b3 hw3 hp hpd
      go_wp2_with fail
      rw [← HB.out.2.2.1, ← HB.out.2.2.2.1]
      go_wp2_with fail
      refine (put_any w3 d (bitsP ps) v m HB.out.2.1.wri (by have := HB.out.2.1.bits; omega)).mono ?_
      rintro e w4 ⟨rfl, hw4, k4⟩
      have hbp4 := k4.box HB.out.1 HB.out.2.2.2.2
      have hrow4 := HB.out.2.1.row_kept k4
      have hbel4 := HB.out.2.1.bel.trans (k4.below HB.out.2.1.bel.size (fun i hi e => by have := HB.out.2.1.new; omega))
      have s0 : w4.cell? ⟨p, 0, none⟩ = some (.int .i64 v) := hbp4.cell 0
      have s1 : w4.cell? ⟨p, 1, none⟩ = some (.int .i64 m) := hbp4.cell 1
      have H4 := Lib.hid (And.intro hw4 (And.intro hrow4 hbel4))
      clear hw4 k4 hbp4 hrow4 hbel4 r0 r1 q0 q1
      by_cases hm : mayPut v m
      · have hE : putE v m = 0 := by rw [putE, if_pos hm]
        have hL : putL (bitsP ps) v m = bitsP (ps ++ [(v, m)]) := by rw [putL, if_pos hm, bitsP_app, bitsP_one]
        have hln := putL_len (bitsP ps) v m
        rw [hE]
        have HX := Lib.hid (And.intro hm (And.intro hL hln))
        clear hE hm hL hln
        obtain ⟨N, hN⟩ : ∃ N, N = ps.length := ⟨_, rfl⟩
        have hrow := H4.out.2.1
        rw [← hN] at hrow
        have hN60 : N ≤ 60 := by have := HP.out.few; omega
        have HN := Lib.hid (And.intro hN hrow)
        clear hN hrow
        go_wp2_with (first
          | (at_builtin; refine wpList_append_own _ rfl (.tmp 40) (.tmp 42) 22 rfl w.heap.size 28 i0 (.agg #[.int .i64 0, .int .i64 0]) 2 16 Try.underlying22 hi0 hz0 hz1 hz2 rfl (by omega) u4 N (cellsK ps) rfl (HN.out.2.alloc _) ⟨w4.heap.size, 0, none⟩ 1 1 [.int .i64 v, .int .i64 m] rfl rfl (World.news_of_block (cs := #[.int .i64 v, .int .i64 m]) (t := 28) (fr := (0, 0)) (heap_alloc_new w4 _)) (by simp [Value.oneCell']) (by unfold maxLen; omega) (by omega) (by have := H4.out.2.2.size; simp; omega) ?_; intro v5 w5 hown5 hgrow5 _; have hb5 : Below w.heap.size w w5 := (H4.out.2.2.trans ((on_alloc w4 _).mono H4.out.2.2.size)).grown hgrow5 (by have := H4.out.2.2.size; simp; omega) (fun j hj => (HN.out.2.lt j hj).1); have H5 := Lib.hid (And.intro hown5 (And.intro hgrow5 hb5)); clear hown5 hgrow5 hb5)
          | fail)
        go_roundw
        case rel =>
          have h1 := H4.out.1
          rw [HX.out.2.1] at h1
          have hw5 : Wr w5 d (bitsP (ps ++ [(v, m)])) := (h1.on (on_alloc w4 _)).of (H5.out.2.1.block d (Nat.lt_of_lt_of_le h1.lt (on_alloc w4 _).size) (fun e => by
            obtain ⟨cd, hd⟩ := h1.box
            rcases HN.out.2.2 with ⟨h2, _⟩ | ⟨g, cap, cur, h2, _, hh, _⟩
            · rw [h2] at e; cases e
            · rw [h2] at e
              have e2 : g = d := by simpa [Value.ownBlock] using e.symm
              rw [e2] at hh
              exact Box.apart (show Box w4 d 28 cur from hh) hd (by decide) rfl))
          have hlen : (ps ++ [(v, m)]).length = N + 1 := by rw [List.length_append, ← HN.out.1]; rfl
          refine ⟨k + 1, ps ++ [(v, m)], by omega, by go_num, ⟨hw5, ?_, ?_, HP.out.new, H5.out.2.2, by rw [hlen]; have := HP.out.few; have := HN.out.1; omega, ?_⟩⟩
          · rw [hlen, cellsK_app]
            exact H5.out.1
          · intro q hq
            rcases List.mem_append.1 hq with h | h
            · exact HP.out.may q h
            · rw [List.mem_singleton.1 h]
              exact HX.out.1
          · rw [← HX.out.2.1]
            have := HX.out.2.2
            have := HP.out.bits
            omega
        case measure => simp [intOf]; omega
      · have hE : putE v m = 2 := by rw [putE, if_neg hm]
        have hL : putL (bitsP ps) v m = bitsP ps := by rw [putL, if_neg hm]
        rw [hE]
        have HX := Lib.hid hL
        clear hE hm hL
        go_wp2
        go_roundw
        case rel =>
          have h1 := H4.out.1
          rw [HX.out] at h1
          exact ⟨k + 1, ps, by omega, by go_num, ⟨h1, H4.out.2.1, HP.out.may, HP.out.new, H4.out.2.2, by have := HP.out.few; omega, by have := HP.out.bits; omega⟩⟩
        case measure => simp [intOf]; omega
    · obtain ⟨L, hL⟩ : ∃ L, L = bitsP ps := ⟨_, rfl⟩
      have hLl : L.length ≤ 1440 := by rw [hL]; have := HP.out.bits; omega
      obtain ⟨N, hN⟩ : ∃ N, N = ps.length := ⟨_, rfl⟩
      obtain ⟨A4, c4, rfl, hpl⟩ := pl_of_own HP.out.row rfl
      rw [← hN] at hpl ⊢
      have hN60 : N ≤ 60 := by rw [hN]; have := HP.out.few; omega
      have HK := Lib.hid (And.intro hL (And.intro hN hpl))
      clear hL hN hpl
      go_wp2_with fail
      refine (bytes_any wr d (bitsP ps) HP.out.wri).mono ?_
      rw [← HK.out.1]
      rintro e w5 ⟨A5, m5, c5, l5, rfl, hs5, hsl5, b5⟩
      obtain ⟨F, hF, hl5, jj, hj8, hFL, hFl, hjL⟩ := hs5.full
      have hm5 : m5 = l5.length := hsl5.len.symm
      have hm5b : m5 ≤ 400 := by
        have := stuff_len F
        rw [hm5, hl5]
        omega
      have hpl5 := (HK.out.2.2.below b5 (fun _ _ h => h)).mono (K' := fun b => b < w5.heap.size) (fun _ hb _ => hb)
      have hl5' : l5 = stuff F ++ [] := by rw [hl5, List.append_nil]
      have HW := Lib.hid (And.intro (HP.out.wri.on b5) (And.intro hpl5 (And.intro HP.out.may (on_trans HP.out.bel b5))))
      rw [← HK.out.1] at HW
      have HS := Lib.hid (And.intro hsl5 (And.intro hF (And.intro hl5' (And.intro hFL (And.intro hFl (And.intro hm5 hl5))))))
      rw [HK.out.1] at HS
      have HJ := Lib.hid hjL
      clear b5 hs5 hsl5 hF hFL hFl hm5 hl5 hl5' hpl5 hjL
      go_wp2_with fail
      refine (newReader_any w5 _ A5 m5 c5 l5 HS.out.1 (by omega)).mono ?_
      rintro e w6 ⟨r, g, rfl, hr, hg, hr1, b6⟩
      have H6 := Lib.hid (And.intro hr1 (And.intro hr b6))
      clear hr1 hr hg b6
      go_wp2_with fail
      refine (newReader_any w6 _ A5 m5 c5 l5 (HS.out.1.on H6.out.2.2) (by omega)).mono ?_
      rintro e w7 ⟨q, p, rfl, hq, hp, hr2, b7⟩
      have H7 := Lib.hid (Pair.made H6.out.1 H6.out.2.1 H6.out.2.2 hr2 hq hp b7)
      clear hr2 hq hp b7 H6
      go_wp2
      go_loopw [53] (fun i wr => ∃ j, j ≤ N ∧ i = .int .i64 ((j : Nat) : Int) ∧ Pair w5 wr r g q p l5 (backS F ps j) (backS F ps j)) (fun i _ => N - (intOf i).toNat)
      case atStart =>
        refine ⟨0, Nat.zero_le _, rfl, ?_⟩
        have e0 : backS F ps 0 = st0 := by
          rw [backS, List.take_zero]
          exact stAt_zero F
        rw [e0]
        exact H7.out
      case round =>
        obtain ⟨j, hj, rfl, hQ⟩ := hrel
        have HQ := Lib.hid hQ
        clear hQ
        by_cases hjN : j < N
        · obtain ⟨bl, ol, rfl, q0, q1⟩ := (HW.out.2.1.below HQ.out.bel (fun _ _ h => h)).get hjN
          have hjl : j < ps.length := by rw [← HK.out.2.1]; exact hjN
          have hmay : mayPut (ps.getD j (0, 0)).1 (ps.getD j (0, 0)).2 := HW.out.2.2.1 _ (by
            rw [List.getD_eq_getElem?_getD, List.getElem?_eq_getElem hjl]
            exact List.getElem_mem hjl)
          have hget := back_get HS.out.2.2.2.1 hjl [] HS.out.2.1 hmay
          obtain ⟨x, cc, hx, hc, hxlt, hcc, _⟩ := putL_ok hmay
          have hbit := fun s hs => back_bit (s := s) HS.out.2.2.2.1 hjl [] HS.out.2.1 hx hc hs
          have hend := (bitsP_at ps j hjl).choose_spec.2
          rw [hx, hc, Int.toNat_natCast, ← HS.out.2.2.1] at hget
          rw [hc, Int.toNat_natCast] at hend
          rw [hx] at q0
          rw [hc] at q1
          have hx1 : x ≤ 16777216 := by
            have : 2 ^ cc ≤ 16777216 := Nat.le_trans (Nat.pow_le_pow_right (by omega) hcc) (by decide)
            omega
          obtain ⟨t, ht⟩ : ∃ t, t = wr.heap.size := ⟨_, rfl⟩
          obtain ⟨w8, hw8⟩ : ∃ w8, w8 = wr.alloc (.cells #[.int .i64 (x : Int), .int .i64 (cc : Int)] 28) := ⟨_, rfl⟩
          have hbt : Box w8 t 28 #[.int .i64 (x : Int), .int .i64 (cc : Int)] := by rw [hw8, ht]; exact Box.made _ _ _
          have b8 : Below wr.heap.size wr w8 := by rw [hw8]; exact on_alloc _ _
          have htr : t ≠ r := by have := HQ.out.one.box.lt; omega
          have htq : t ≠ q := by have := HQ.out.two.box.lt; omega
          have HB := Lib.hid (And.intro hbt (And.intro (HQ.out.on b8) (And.intro hw8 (And.intro ht (And.intro htr htq)))))
          have r0 : w8.cell? ⟨t, 0, none⟩ = some (.int .i64 (x : Int)) := hbt.cell 0
          have r1 : w8.cell? ⟨t, 1, none⟩ = some (.int .i64 (cc : Int)) := hbt.cell 1
          have HG := Lib.hid (And.intro hget (And.intro hbit hend))
          clear hbt b8 hw8 ht htr htq hget hbit hend hmay hx hc hxlt
          go_wp2_with fail
          rw [← HB.out.2.2.1, ← HB.out.2.2.2.1]
          go_wp2_with fail
          refine (get_any w8 r g l5 (backS F ps j) (cc : Int) HB.out.2.1.one).mono ?_
          rw [show getF l5 (backS F ps j) (cc : Int) = (backS F ps (j + 1), x, 0) from HG.out.1]
          rintro e w9 ⟨rfl, hr9, k9⟩
          have hbt9 := k9.box HB.out.1 HB.out.2.2.2.2.1
          have s0 : w9.cell? ⟨t, 0, none⟩ = some (.int .i64 (x : Int)) := hbt9.cell 0
          have s1 : w9.cell? ⟨t, 1, none⟩ = some (.int .i64 (cc : Int)) := hbt9.cell 1
          have H9 := Lib.hid (And.intro (HB.out.2.1.first k9 hr9) hbt9)
          clear hr9 k9 hbt9 r0 r1 q0 q1
          go_wp2_with fail
          go_loopw [14] (fun i wr => ∃ t', t' ≤ cc ∧ i = .int .i64 ((t' : Int) - 1) ∧ Pair w5 wr r g q p l5 (backS F ps (j + 1)) (stAt F ((bitsP (ps.take j)).length + (cc - t'))) ∧ Box wr t 28 #[.int .i64 (x : Int), .int .i64 (cc : Int)]) (fun i _ => (intOf i + 1).toNat)
          case atStart =>
            refine ⟨cc, Nat.le_refl _, rfl, ?_, H9.out.2⟩
            rw [Nat.sub_self, Nat.add_zero]
            exact H9.out.1
          case round =>
            obtain ⟨t', ht', rfl, hO, hbx⟩ := hrel
            have t0 : wr.cell? ⟨t, 0, none⟩ = some (.int .i64 (x : Int)) := hbx.cell 0
            have HO := Lib.hid (And.intro hO hbx)
            clear hO hbx
            by_cases h0 : t' = 0
            · subst h0
              go_wp2
              refine ⟨⟨j + 1, by omega, by go_num, ?_⟩, by simp [intOf]; omega⟩
              have := HO.out.1
              rw [Nat.sub_zero, ← HG.out.2.2] at this
              exact this
            · obtain ⟨s, rfl⟩ : ∃ s, t' = s + 1 := ⟨t' - 1, by omega⟩
              rw [show ((s + 1 : Nat) : Int) - 1 = (s : Int) by omega]
              obtain ⟨y, hy⟩ : ∃ y, y = x / 2 ^ s := ⟨_, rfl⟩
              have hy1 : (x : Int) / 2 ^ s = (y : Int) := by rw [hy]; simp
              obtain ⟨b, hb⟩ : ∃ b, b = y % 2 := ⟨_, rfl⟩
              have hyx : y ≤ x := by rw [hy]; exact Nat.div_le_self _ _
              have hand : bits .and .i64 (y : Int) 1 = (b : Int) := by
                have := and_i64 y 1 (by omega) (by omega)
                rw [Nat.and_one_is_mod, ← hb] at this
                exact this
              have hgb := HG.out.2.1 s (by omega)
              rw [← hy, ← hb, ← HS.out.2.2.1] at hgb
              have hs40 : s ≤ 24 := by omega
              have HY := Lib.hid hgb
              clear hgb hy hb
              go_wp2_with fail
              refine (bit_any wr q p l5 _ HO.out.1.two).mono ?_
              rw [HY.out]
              rintro e w10 ⟨rfl, hr10, k10⟩
              have hbx10 := k10.box HO.out.2 HB.out.2.2.2.2.2
              have u0 : w10.cell? ⟨t, 0, none⟩ = some (.int .i64 (x : Int)) := hbx10.cell 0
              have H10 := Lib.hid (And.intro (HO.out.1.second k10 hr10) hbx10)
              clear hr10 k10 hbx10 t0
              go_wp2
              go_roundw
              case rel => exact ⟨s, by omega, rfl, H10.out.1, H10.out.2⟩
              case measure => simp [intOf]
        · have hjl : j = ps.length := by rw [← HK.out.2.1]; omega
          have hSt : backS F ps j = stAt F L.length := by rw [backS, hjl, List.take_length, ← HK.out.1]
          have hQ2 := HQ.out
          rw [hSt] at hQ2
          obtain ⟨M, hM⟩ : ∃ M, M = L.length := ⟨_, rfl⟩
          have hcount := count_wr wr d L (HW.out.1.of (HQ.out.bel.block d HW.out.1.lt))
          have hML : M ≤ 1440 := by omega
          rw [← hM] at hcount hQ2
          have hrest : ((8 : Int) - (M : Int) % 8) % 8 = (jj : Int) := by have := HJ.out; omega
          have HC := Lib.hid (And.intro hcount (And.intro hQ2 hM))
          clear hjl hSt hQ2 hcount hM
          go_wp2_with fail
          refine HC.out.1.mono ?_
          rintro e w8 ⟨rfl, b8⟩
          have H8 := Lib.hid (HC.out.2.1.on b8)
          clear b8
          go_wp2
          rw [hrest]
          clear hrest
          go_loopw [102] (fun i wr => ∃ i1, i1 ≤ jj ∧ i = .int .i64 ((i1 : Nat) : Int) ∧ Pair w5 wr r g q p l5 (stAt F (M + i1)) (stAt F M)) (fun i _ => jj - (intOf i).toNat)
          case atStart => exact ⟨0, Nat.zero_le _, rfl, H8.out⟩
          case round =>
            obtain ⟨i1, hi1, rfl, hO⟩ := hrel
            have HO := Lib.hid hO
            clear hO
            by_cases hlt1 : i1 < jj
            · have hone := back_ones (k := i1) HS.out.2.2.2.1 [] HS.out.2.1 hlt1
              rw [← HS.out.2.2.1, ← HK.out.1, ← HC.out.2.2] at hone
              have HY := Lib.hid hone
              clear hone
              go_wp2_with fail
              refine (bit_any wr r g l5 _ HO.out.one).mono ?_
              rw [HY.out]
              rintro e w9 ⟨rfl, hr9, k9⟩
              have H9 := Lib.hid (HO.out.first k9 hr9)
              clear hr9 k9
              go_wp2
              go_roundw
              case rel => exact ⟨i1 + 1, by omega, by go_num, H9.out⟩
              case measure => simp [intOf]; omega
            · obtain ⟨hn1, hn2⟩ := back_none F
              have hMF : M + i1 = 8 * F.length := by have := HS.out.2.2.2.2.1; have := HC.out.2.2; have := HK.out.1; rw [← HK.out.1] at *; omega
              rw [← hMF] at hn1 hn2
              have hl5 := HS.out.2.2.2.2.2.2
              have hm5' := HS.out.2.2.2.2.2.1
              have hsk : (stAt F M).c = jj := by
                rw [(stAt_end F M (by omega) (by omega)).2]
                omega
              rw [← hl5] at hn1 hn2
              rw [← hm5'] at hn2
              have HY := Lib.hid (And.intro hn1 (And.intro hn2 hsk))
              clear hn1 hn2 hMF hl5 hm5' hsk
              go_wp2_with fail
              refine (bit_any wr r g l5 _ HO.out.one).mono ?_
              rw [HY.out.1]
              rintro e w9 ⟨rfl, hr9, k9⟩
              have H9 := Lib.hid (HO.out.first k9 hr9)
              clear hr9 k9
              go_wp2_with fail
              refine (at_any w9 r g l5 _ H9.out.one).mono ?_
              rw [HY.out.2.1]
              rintro e w10 ⟨rfl, b10⟩
              have H10 := Lib.hid (H9.out.on b10)
              clear b10
              go_wp2_with fail
              refine (skip_any w10 q p l5 _ H10.out.two).mono ?_
              rw [HY.out.2.2]
              rintro e w11 ⟨rfl, hr11, k11⟩
              have H11 := Lib.hid (on_trans HW.out.2.2.2 (H10.out.second k11 hr11).bel)
              clear hr11 k11
              go_wp2_with fail
              refine (awake_any w11).mono ?_
              rintro e w12 ⟨rfl, b12⟩
              have F12 := Lib.hid (on_trans H11.out b12)
              clear b12
              go_wp2
              go_ret
              exact ⟨rfl, F12.out⟩

theorem back_calls (w : World) (A : Option Addr) (n c : Nat) (ks : List (Int × Int)) (h : Pl w (fun _ => True) A n ks) : Calls Try.prog 5 #[.slice A n c] w (Law w) := by
  by_cases hn : n ≤ 60
  · exact back_some w A n c ks h hn
  · have a1 : (60 : Int) < n := by omega
    clear h hn
    go_enter Try.func5, Try.ntmps5
    go_wp2_with fail
    refine (awake_any w).mono ?_
    rintro e w8 ⟨rfl, b8⟩
    have F8 := Lib.hid b8
    clear b8
    go_wp2
    go_ret
    exact ⟨rfl, F8.out⟩
end Go.Proofs.Ytdoelehfeiegeaa
