/-
  HalfTurned: the walk.
-/
import Derived.Test.YtjkmbiieagmjkaaDoorTold10
namespace Go.Proofs.YtjkmbiieagmjkaaDoor
open Go.RowKit

theorem fo_set4 {f : List Int} (hf : f.length = 256) {a b : Nat} (ha : a < 4) (hb : b < 64) (z : Int) {m j : Nat} (hj : j < 64) : fo (f.set (a * 64 + b) z) m j = if m = a ∧ j = b then z else fo f m j := by
  unfold fo
  rw [List.getD_eq_getElem?_getD, List.getD_eq_getElem?_getD]
  by_cases e : m = a ∧ j = b
  · rw [if_pos e, show 64 * m + j = a * 64 + b by omega, List.getElem?_set_self (by omega)]
    rfl
  · rw [if_neg e, List.getElem?_set_ne (by omega)]
/-- four blocks turned, when the first c numbers have been written -/
def turnP4 (f : List Int) (c : Nat) : List Int := (List.range 256).map fun j =>
  if 64 * (j / 64 % 2 * 2 + j / 64 / 2) + (8 * (j % 8) + j % 64 / 8) < c then fo f (j / 64 % 2 * 2 + j / 64 / 2) (8 * (j % 8) + j % 64 / 8) else 0
theorem turnP4_len (f : List Int) (c : Nat) : (turnP4 f c).length = 256 := by rw [turnP4, List.length_map, List.length_range]
theorem turnP4_at (f : List Int) (c : Nat) {m j : Nat} (hm : m < 4) (hj : j < 64) : fo (turnP4 f c) m j = if 64 * (m % 2 * 2 + m / 2) + (8 * (j % 8) + j / 8) < c then fo f (m % 2 * 2 + m / 2) (8 * (j % 8) + j / 8) else 0 := by
  have e : fo (turnP4 f c) m j = if 64 * ((64 * m + j) / 64 % 2 * 2 + (64 * m + j) / 64 / 2) + (8 * ((64 * m + j) % 8) + (64 * m + j) % 64 / 8) < c then fo f ((64 * m + j) / 64 % 2 * 2 + (64 * m + j) / 64 / 2) (8 * ((64 * m + j) % 8) + (64 * m + j) % 64 / 8) else 0 := by
    conv => lhs; unfold fo turnP4
    rw [List.getD_eq_getElem?_getD, List.getElem?_map, List.getElem?_range (by omega)]
    rfl
  rw [e, show (64 * m + j) / 64 = m by omega, show (64 * m + j) % 8 = j % 8 by omega, show (64 * m + j) % 64 = j by omega]
theorem turnP4_zero (f : List Int) : turnP4 f 0 = zeros256 := four_eq (turnP4_len _ _) zeros256_len fun m hm j hj => by rw [turnP4_at f 0 hm hj, zeros256_at, if_neg (by omega)]
theorem turnP4_all (f : List Int) : turnP4 f 256 = turn4 f := four_eq (turnP4_len _ _) (turn4_len _) fun m hm j hj => by rw [turnP4_at f _ hm hj, turn4_at f hm hj, if_pos (by omega)]
theorem turnP4_put (f : List Int) {q i : Nat} (hq : q < 4) (hi : i < 64) : (turnP4 f (64 * q + i)).set ((q % 2 * 2 + q / 2) * 64 + (i % 8 * 8 + i / 8)) (fo f q i) = turnP4 f (64 * q + (i + 1)) :=
  four_eq (by rw [List.length_set, turnP4_len]) (turnP4_len _ _) fun m hm j hj => by
    rw [fo_set4 (turnP4_len _ _) (by omega) (by omega) _ hj, turnP4_at f _ hm hj, turnP4_at f _ hm hj]
    by_cases e : m = q % 2 * 2 + q / 2 ∧ j = i % 8 * 8 + i / 8
    · obtain ⟨e1, e2⟩ := e
      have s1 : m % 2 * 2 + m / 2 = q := by rw [e1]; clear e1 e2; omega
      have s2 : 8 * (j % 8) + j / 8 = i := by rw [e2]; clear e1 e2 s1; omega
      rw [if_pos ⟨e1, e2⟩, s1, s2, if_pos (by omega)]
    · rw [if_neg e]
      obtain ⟨a, ha⟩ : ∃ a, a = m % 2 * 2 + m / 2 := ⟨_, rfl⟩
      obtain ⟨b, hb⟩ : ∃ b, b = 8 * (j % 8) + j / 8 := ⟨_, rfl⟩
      have ha' : m = a % 2 * 2 + a / 2 := by omega
      have hb' : j = b % 8 * 8 + b / 8 := by omega
      have hb6 : b < 64 := by omega
      rw [← ha, ← hb]
      clear ha hb
      by_cases h : 64 * a + b < 64 * q + i
      · rw [if_pos h, if_pos (by omega)]
      · rw [if_neg h, if_neg]
        intro hh
        have h1 : a = q := by clear ha' hb' e; omega
        have h2 : b = i := by clear ha' hb' e; omega
        subst h1
        subst h2
        exact e ⟨ha', hb'⟩
theorem fr4_boxed (w : World) (f : List Int) (hT : Tab w) (hf : f.length = 256) : ∃ cs Z w2, fourV f = .agg cs ∧ (∀ w, (zeroValue 24).run Tryd.prog w = .ok (.agg Z) w) ∧ (w.alloc (.cells cs 24)).alloc (.cells Z 24) = w2 ∧ Know w w2 [.four (w.heap.size + 1) zeros256, .four w.heap.size f] := by
  have h := ((Know.nil hT).made4 hf).made4 zeros256_len
  have e1 : (w.alloc (.cells (cellsI f).toArray 24)).heap.size = w.heap.size + 1 := by simp
  rw [e1] at h
  exact ⟨_, _, _, rfl, fun w => zero24 w, rfl, h⟩

set_option maxRecDepth 10000 in
set_option maxHeartbeats 6400000 in
theorem turned_calls (w : World) (f : List Int) (hT : Tab w) (hf : f.length = 256) : Calls Tryd.prog 7 #[fourV f] w (Law w) := by
  obtain ⟨cs, Z4, w1, hfv, hz4, hw1, hk⟩ := fr4_boxed w f hT hf
  obtain ⟨Z, hZ⟩ : ∃ Z, Z = (cellsI zeros64).toArray := ⟨_, rfl⟩
  have hz' : ∀ w, (zeroValue 23).run Tryd.prog w = .ok (.agg Z) w := fun w => by rw [hZ]; exact zero23 w
  have hZs : Z.size = 64 := by rw [hZ]; rfl
  have H := Lib.hid (And.intro hk (And.intro hT (And.intro hf (And.intro hw1 hZs))))
  rw [hfv]
  clear hT hk hf hfv hZ hZs hw1
  go_enter Tryd.func7, Tryd.ntmps7
  go_wp2_with fail
  rw [H.out.2.2.2.1]
  go_loopw [12] (fun i wr => ∃ q : Nat, q ≤ 4 ∧ i = .int .i64 q ∧ Know w wr [.four (w.heap.size + 1) (turnP4 f (64 * q)), .four w.heap.size f]) (fun i _ => 4 - (intOf i).toNat)
  case atStart => exact ⟨0, by omega, rfl, by rw [Nat.mul_zero, turnP4_zero]; exact H.out.1⟩
  case round =>
    obtain ⟨q, hq, rfl, hR⟩ := hrel
    have HR := Lib.hid hR
    clear hR
    by_cases hq4 : q < 4
    · have HB := Lib.hid (And.intro (HR.out.f1.loadb hq4) (And.intro (sub_len H.out.2.2.1 hq4) (fun j (hj : j < 64) => sub_at (f := f) (m := q) hj)))
      obtain ⟨b, hb⟩ : ∃ b, b = sub f q := ⟨_, rfl⟩
      rw [← hb] at HB
      clear hb
      go_wp2_with (first
        | (with_reducible refine wpList_load_to (op := ⟨some 17, _, _, _, _, _⟩) rfl 23 (.tmp 16) rfl (.pointer (some ⟨w.heap.size, q * 64, none⟩)) rfl (blkV b) HB.out.1 ?_)
        | fail)
      go_loopw [18] (fun i wr => ∃ k : Nat, k ≤ 64 ∧ i = .int .i64 k ∧ Know w wr [.four (w.heap.size + 1) (turnP4 f (64 * q + k)), .four w.heap.size f]) (fun i _ => 64 - (intOf i).toNat)
      case atStart => exact ⟨0, by omega, rfl, HR.out⟩
      case round =>
        obtain ⟨k, hk, rfl, hR⟩ := hrel
        have HR := Lib.hid hR
        clear hR
        by_cases hlt : k < 64
        · have hidx := fun w => index23 w HB.out.2.1 hlt
          rw [HB.out.2.2 k hlt] at hidx
          have c2 := HR.out.f0.cell (k := (q % 2 * 2 + q / 2) * 64 + (k % 8 * 8 + k / 8)) (by omega)
          have hfr := HR.out.f0.free ((q % 2 * 2 + q / 2) * 64 + (k % 8 * 8 + k / 8))
          have hm := turnP4_put f hq4 hlt
          obtain ⟨n, hn⟩ : ∃ n, n = fo f q k := ⟨_, rfl⟩
          obtain ⟨o, ho⟩ : ∃ o, o = (turnP4 f (64 * q + k)).getD ((q % 2 * 2 + q / 2) * 64 + (k % 8 * 8 + k / 8)) 0 := ⟨_, rfl⟩
          rw [← hn] at hidx hm
          rw [← ho] at c2
          have HM := Lib.hid hm
          clear hn ho hm
          go_wp2_with fail
          have h9 := HR.out.turn (p' := .four (w.heap.size + 1) (turnP4 f (64 * q + (k + 1)))) H.out.2.1 (Nat.le_succ _) (fun p hp => by rw [List.mem_singleton] at hp; subst hp; exact Nat.ne_of_lt (Nat.lt_succ_self _)) ((Kept.refl (fun i => i = w.heap.size + 1) _).setCell (p := ⟨w.heap.size + 1, (q % 2 * 2 + q / 2) * 64 + (k % 8 * 8 + k / 8), none⟩) (fun _ => rfl) (.int .i64 n)) (by rw [← HM.out]; exact HR.out.f0.put _ n)
          refine ⟨⟨k + 1, by omega, by go_num, h9⟩, by simp [intOf]; omega⟩
        · obtain rfl : k = 64 := by omega
          have hR := HR.out
          rw [show 64 * q + 64 = 64 * (q + 1) by omega] at hR
          have HR := Lib.hid hR
          clear hR
          go_wp2_with fail
          go_roundw
          case rel => exact ⟨q + 1, by omega, by go_num, HR.out⟩
          case measure => simp [intOf]; omega
    · obtain rfl : q = 4 := by omega
      have hR := HR.out
      rw [show 64 * 4 = 256 from rfl, turnP4_all] at hR
      have HR := Lib.hid hR
      clear hR
      have HP := Lib.hid (fun (w : World) (h : Tab w) => merge_any w f h H.out.2.2.1)
      have HPM := Lib.hid (fun (w : World) (h : Tab w) => merge_any w (turn4 f) h (turn4_len f))
      have t1 := mrgF_turn f
      have l1 := mrgF_len f
      have l2 := mrgF_len (turn4 f)
      obtain ⟨m, hm⟩ : ∃ m, m = turn4 f := ⟨_, rfl⟩
      rw [← hm] at HR HPM t1 l2
      obtain ⟨⟨x, e⟩, hx⟩ : ∃ R, R = mrgF f := ⟨_, rfl⟩
      obtain ⟨⟨y, e'⟩, hy⟩ : ∃ R, R = mrgF m := ⟨_, rfl⟩
      rw [← hx] at HP t1 l1
      rw [← hy] at HPM t1 l2
      obtain ⟨t1, p1⟩ := t1
      dsimp only at t1 p1 l1 l2
      subst t1
      have HX := Lib.hid (And.intro p1 (And.intro l1 l2))
      clear p1 l1 l2 hm hx hy
      go_wp2_with (first
        | (with_reducible refine wpList_load_to (op := ⟨some 40, _, _, _, _, _⟩) rfl 24 (.tmp 1) rfl (.pointer (some ⟨w.heap.size, 0, none⟩)) rfl (fourV f) HR.out.f1.load ?_)
        | fail)
      refine (HP.out wr HR.out.tab).mono ?_
      rintro r wa0 ⟨rfl, bb⟩
      have K0 := Lib.hid (HR.out.on bb)
      clear bb
      dsimp only
      go_wp2_with (first
        | ((with_reducible refine wpList_store_blk (o := ⟨none, _, _, _, _, _⟩) rfl (.tmp 7) (.tmp 42) rfl rfl wa0.heap.size x rfl rfl Z (Box.made _ _ _) H.out.2.2.2.2 HX.out.2.1 ?_)
           intro wb0 bx kx
           have J0 := Lib.hid (K0.out.laid bx kx)
           clear bx kx)
        | (with_reducible refine wpList_load_to (op := ⟨some 45, _, _, _, _, _⟩) rfl 24 (.tmp 3) rfl (.pointer (some ⟨w.heap.size + 1, 0, none⟩)) rfl (fourV m) J0.out.f1.load ?_)
        | fail)
      obtain ⟨g7, hg7⟩ : ∃ g, g = wa0.heap.size := ⟨_, rfl⟩
      rw [← hg7] at J0 ⊢
      clear hg7
      refine (HPM.out wb0 J0.out.tab).mono ?_
      rintro r wa1 ⟨rfl, bb⟩
      have K1 := Lib.hid (J0.out.on bb)
      clear bb
      dsimp only
      go_wp2_with (first
        | ((with_reducible refine wpList_store_blk (o := ⟨none, _, _, _, _, _⟩) rfl (.tmp 9) (.tmp 47) rfl rfl wa1.heap.size y rfl rfl Z (Box.made _ _ _) H.out.2.2.2.2 HX.out.2.2 ?_)
           intro wb1 bx kx
           have J1 := Lib.hid (K1.out.laid bx kx)
           clear bx kx)
        | fail)
      obtain ⟨g9, hg9⟩ : ∃ g, g = wa1.heap.size := ⟨_, rfl⟩
      rw [← hg9] at J1 ⊢
      clear hg9
      go_loopw [49] (fun i wq => ∃ k : Nat, k ≤ 64 ∧ i = .int .i64 k ∧ Know w wq [.blk g9 y, .blk g7 x, .four (w.heap.size + 1) m, .four w.heap.size f]) (fun i _ => 64 - (intOf i).toNat)
      case atStart => exact ⟨0, by omega, rfl, J1.out⟩
      case round =>
        obtain ⟨k, hk, rfl, hQ⟩ := hrel
        have HQ := Lib.hid hQ
        clear hQ
        by_cases hlt : k < 64
        · have c1 := HQ.out.b0.cell (k := k % 8 * 8 + k / 8) (by omega)
          have c2 := HQ.out.b1.cell hlt
          rw [HX.out.1 k hlt] at c2
          obtain ⟨Y, hY⟩ : ∃ Y, Y = y.getD (k % 8 * 8 + k / 8) 0 := ⟨_, rfl⟩
          rw [← hY] at c1 c2
          clear hY
          go_wp2_with fail
          go_quiet (fail)
          go_wp2_with fail
          refine ⟨⟨k + 1, by omega, by go_num, HQ.out.on (below_drewN_refl _ _)⟩, ?_⟩
          simp [intOf]; omega
        · obtain rfl : k = 64 := by omega
          go_wp2_with fail
          refine (awake_any wr HQ.out.tab).mono ?_
          rintro r wz ⟨rfl, bz⟩
          have HZ := Lib.hid (on_trans HQ.out.bel bz)
          clear bz
          go_wp2
          go_ret
          exact ⟨rfl, HZ.out⟩
end Go.Proofs.YtjkmbiieagmjkaaDoor
