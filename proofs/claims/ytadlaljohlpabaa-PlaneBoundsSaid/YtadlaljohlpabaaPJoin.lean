/-
  The contract of the reference's Join.
-/
import Derived.Test.YtadlaljohlpabaaPBlks
namespace Go.Proofs.Ytadlaljohlpabaa
open Go.RowKit

/-- what Join tells -/
def joinF (bl : List (List Int)) (w h : Int) : Int × Int × List Int × Int :=
  if (1 ≤ w ∧ w ≤ 128) ∧ 1 ≤ h ∧ h ≤ 128 then (if bl.length = nb w.toNat * nb h.toNat then (w, h, joinL bl w.toNat h.toNat, 0) else (0, 0, [], 1)) else (0, 0, [], 2)

set_option maxRecDepth 10000 in
set_option maxHeartbeats 3200000 in
theorem refJoin_good (w0 : World) (w h : Nat) (A : Option Addr) (n c : Nat) (bl : List (List Int)) (hB : Bs w0 A n bl) (hw : 1 ≤ w ∧ w ≤ 128) (hh : 1 ≤ h ∧ h ≤ 128) (hn : n = nb w * nb h) :
    Calls Try.prog 26 #[.slice A n c, .int .i64 (w : Int), .int .i64 (h : Int)] w0 (PTells w0 ((w : Int), (h : Int), joinL bl w h, 0)) := by
  obtain ⟨f, hf⟩ : ∃ f : Nat → Nat → Int, f = joinT bl w := ⟨_, rfl⟩
  have hcr : joinL bl w h = gridK w f (w * h) := by rw [hf]; rfl
  have hmore := fun (i j : Nat) (hi : i < w) => gridK_more (f := f) hi j
  have hsm : w * h ≤ 16384 := by have : w * h ≤ 128 * 128 := Nat.mul_le_mul hw.2 hh.2; omega
  have hpl : ∀ i j : Nat, i < w → j < h → j * w + i < w * h := fun i j hi hj => row_lt hi hj
  have hnb : nb w ≤ 16 ∧ nb h ≤ 16 := by unfold nb; omega
  have hnn : n ≤ 256 := by have : nb w * nb h ≤ 16 * 16 := Nat.mul_le_mul hnb.1 hnb.2; omega
  have hprod : ((nb w : Nat) : Int) * ((nb h : Nat) : Int) = (n : Int) := by rw [hn, Int.natCast_mul]
  have hidx : ∀ x y : Nat, x < w → y < h → nb w * (y / 8) + x / 8 < n := fun x y hx hy => by rw [hn, Nat.mul_comm (nb w)]; exact row_lt (nb_lt hx) (nb_lt hy)
  have HN := Lib.hid (fun w1 => blocks_any w1 w (by omega))
  have HN' := Lib.hid (fun w1 => blocks_any w1 h (by omega))
  unfold Nbd at HN HN'
  obtain ⟨u, hu⟩ : ∃ u, u = nb w := ⟨_, rfl⟩
  obtain ⟨v, hv⟩ : ∃ v, v = nb h := ⟨_, rfl⟩
  rw [← hu] at hn hnb hprod hidx HN
  rw [← hv] at hn hnb hprod HN'
  have HF := Lib.hid (And.intro hcr (And.intro hmore (And.intro hf (And.intro hu (And.intro hsm (And.intro hpl hidx))))))
  obtain ⟨w1, hw1⟩ : ∃ w1, w0.alloc (.cells #[.int .i64 0, .int .i64 0, .slice none 0 0] 24) = w1 := ⟨_, rfl⟩
  have k1 : Below w0.heap.size w0 w1 := by rw [← hw1]; exact on_alloc _ _
  have b1 : Box w1 w0.heap.size 24 #[.int .i64 0, .int .i64 0, .slice none 0 0] := by rw [← hw1]; exact Box.made _ _ _
  have hM := mk_made b1 b1 k1 (Nat.le_refl _) (w : Int) (h : Int)
  obtain ⟨w5, hw5⟩ : ∃ w5, w1.alloc (.cells #[.int .i64 (w : Int), .int .i64 (h : Int), .slice none 0 0] 24) = w5 := ⟨_, rfl⟩
  rw [hw5] at hM
  have hs1 : w1.heap.size = w0.heap.size + 1 := by rw [← hw1]; simp
  rw [← hw1] at hw5
  have HM := Lib.hid (And.intro hM (And.intro hw5 hB))
  obtain ⟨gO, hgO⟩ : ∃ g, g = w1.heap.size := ⟨_, rfl⟩
  rw [← hgO] at HM hs1
  obtain ⟨w10, w11⟩ := hw
  obtain ⟨h10, h11⟩ := hh
  obtain ⟨u1, v1⟩ := hnb
  have HS := Lib.hid hs1
  clear hcr hmore hf hu hv hsm hpl hidx hB hw1 k1 b1 hM hw5 hs1 hgO hn
  go_enter Try.func26, Try.ntmps26
  go_wp2_with fail
  refine Calls.mono (HN.out _) ?_
  rintro e wx ⟨rfl, rfl⟩
  go_wp2_with fail
  refine Calls.mono (HN'.out _) ?_
  rintro e wx ⟨rfl, rfl⟩
  go_wp2_with fail
  rw [HM.out.2.1, ← HS.out]
  go_loopw [9] (fun i wr => ∃ j A' n' c', j ≤ h ∧ i = .int .i64 ((j : Nat) : Int) ∧ Mk w0 wr (gO + 1) w0.heap.size w0.heap.size gO #[.int .i64 0, .int .i64 0, .slice none 0 0] (w : Int) (h : Int) (gridK w f (j * w + 0)) A' n' c') (fun i _ => h - (intOf i).toNat)
  case atStart => exact ⟨0, none, 0, 0, by omega, rfl, by rw [Nat.zero_mul]; exact HM.out.1⟩
  case round =>
    obtain ⟨j, A1, n1, c1, hj, rfl, hR⟩ := hrel
    have HR := Lib.hid hR
    clear hR
    by_cases hjh : j < h
    · go_wp2_with fail
      go_loopw [10] (fun i wr => ∃ k A' n' c', k ≤ w ∧ i = .int .i64 ((k : Nat) : Int) ∧ Mk w0 wr (gO + 1) w0.heap.size w0.heap.size gO #[.int .i64 0, .int .i64 0, .slice none 0 0] (w : Int) (h : Int) (gridK w f (j * w + k)) A' n' c') (fun i _ => w - (intOf i).toNat)
      case atStart => exact ⟨0, A1, n1, c1, by omega, rfl, HR.out⟩
      case round =>
        obtain ⟨k, A2, n2, c2, hk, rfl, hR⟩ := hrel
        have HR := Lib.hid hR
        clear hR
        by_cases hkw : k < w
        · have hix := HF.out.2.2.2.2.2.2 k j hkw hjh
          have hBw := HM.out.2.2.on HR.out.bel
          obtain ⟨b, off, hA, _, hc⟩ := HM.out.2.2.at_ (by omega)
          subst hA
          obtain ⟨b', off', hA', hbl, hc'⟩ := hBw.at_ (by omega)
          cases hA'
          obtain ⟨m, hm⟩ : ∃ m, m = u * (j / 8) := ⟨_, rfl⟩
          rw [← hm] at hix
          have hlen := HM.out.2.2.len
          obtain ⟨y, hy⟩ : ∃ y, bl[m + k / 8]? = some y := ⟨_, List.getElem?_eq_getElem (by omega)⟩
          have c3 := hc' (m + k / 8) y hy (8 * (j % 8) + k % 8) (by omega)
          have hfz : f k j = held (y.getD (8 * (j % 8) + k % 8) 0) (-128) 127 + 128 := by
            rw [HF.out.2.2.1]
            unfold joinT
            rw [← HF.out.2.2.2.1, ← hm, show bl.getD (m + k / 8) [] = y by rw [List.getD_eq_getElem?_getD, hy]; rfl]
          obtain ⟨z, hz⟩ : ∃ z, z = y.getD (8 * (j % 8) + k % 8) 0 := ⟨_, rfl⟩
          rw [← hz] at c3 hfz
          have hmm : (u : Int) * ((j / 8 : Nat) : Int) = (m : Int) := by rw [hm, Int.natCast_mul]
          have e1 : (j : Int) / 8 = ((j / 8 : Nat) : Int) := by omega
          have e2 : (k : Int) / 8 = ((k / 8 : Nat) : Int) := by omega
          have e3 : (j : Int) % 8 = ((j % 8 : Nat) : Int) := by omega
          have e4 : (k : Int) % 8 = ((k % 8 : Nat) : Int) := by omega
          have l3 : j % 8 < 8 := Nat.mod_lt _ (by omega)
          have l4 : k % 8 < 8 := Nat.mod_lt _ (by omega)
          obtain ⟨j8, hj8⟩ : ∃ q, q = j / 8 := ⟨_, rfl⟩
          obtain ⟨k8, hk8⟩ : ∃ q, q = k / 8 := ⟨_, rfl⟩
          obtain ⟨jr, hjr⟩ : ∃ q, q = j % 8 := ⟨_, rfl⟩
          obtain ⟨kr, hkr⟩ : ∃ q, q = k % 8 := ⟨_, rfl⟩
          rw [← hj8] at hmm e1
          rw [← hk8] at e2 c3 hix
          rw [← hjr] at e3 c3 l3
          rw [← hkr] at e4 c3 l4
          have HZ := Lib.hid hfz
          clear hBw hc hc' hy hz hm hlen hfz hj8 hk8 hjr hkr
          have c0 : wr.cell? ⟨gO, 2, none⟩ = some (.slice A2 n2 c2) := HR.out.out.cell 2
          have c0a : ∀ o, (wr.alloc o).cell? ⟨gO, 2, none⟩ = some (.slice A2 n2 c2) := fun o => (HR.out.on (on_alloc wr o)).out.cell 2
          by_cases z0 : z < -128
          · have ef : held z (-128) 127 + 128 = 0 := by unfold held; rw [if_pos z0]; rfl
            have EF := Lib.hid ef
            clear ef
            have hm := HF.out.2.1 k j hkw
            rw [HZ.out, EF.out] at hm
            have hsz : n2 = j * w + k := by rw [HR.out.len, gridK_len]
            have hlt := HF.out.2.2.2.2.2.1 k j hkw hjh
            have HX := Lib.hid (And.intro hm (And.intro hsz (And.intro hlt HF.out.2.2.2.2.1)))
            have hMa := HR.out.on (on_alloc wr (.cells #[.int .i64 (0)] 3))
            have HA := Lib.hid hMa
            clear hm hsz hlt hMa
            go_wp2_with fail
            refine Calls.mono (HN.out _) ?_
            rintro e wx ⟨rfl, rfl⟩
            go_wp2_with (first
              | ((with_reducible refine wpList_append_il (o := ⟨some 76, _, _, _, _, _⟩) rfl (.tmp 72) (.tmp 75) rfl (gO + 1) (.slice A2 n2 c2) n2 (gridK w f (j * w + k)) rfl HA.out.own (some ⟨wr.heap.size, 0, none⟩) 1 1 [0] rfl ?hr ?hs HA.out.lo ?_)
                 case hr => exact il_of_box (Box.made wr 3 (cellsI [0]).toArray) rfl (show 1 ≤ maxLen by decide)
                 case hs => have := HX.out.2.1; have := HX.out.2.2.1; have := HX.out.2.2.2; omega
                 intro v7 w7 hown7 bq
                 obtain ⟨A7, c7, hv7⟩ := own_slice hown7
                 subst hv7
                 have B7 := HA.out.out.bel bq (Nat.lt_succ_self gO)
                 have c7 : w7.cell? ⟨gO, 2, none⟩ = some (.slice A2 n2 c2) := B7.cell 2
                 have f7 : w7.frozen? ⟨gO, 2, none⟩ = false := B7.free 2
                 have H7 := Lib.hid (And.intro hown7 bq)
                 clear hown7 bq B7)
              | fail)
            have HE := Lib.hid (HA.out.more H7.out.1 H7.out.2)
            rw [HX.out.1] at HE
            go_roundw
            case rel => exact ⟨k + 1, _, _, _, by omega, by go_num, HE.out⟩
            case measure => simp [intOf]; omega
          · by_cases z1 : 127 < z
            · have ef : held z (-128) 127 + 128 = 255 := by unfold held; rw [if_neg z0, if_pos z1]; rfl
              have EF := Lib.hid ef
              clear ef
              have hm := HF.out.2.1 k j hkw
              rw [HZ.out, EF.out] at hm
              have hsz : n2 = j * w + k := by rw [HR.out.len, gridK_len]
              have hlt := HF.out.2.2.2.2.2.1 k j hkw hjh
              have HX := Lib.hid (And.intro hm (And.intro hsz (And.intro hlt HF.out.2.2.2.2.1)))
              have hMa := HR.out.on (on_alloc wr (.cells #[.int .i64 (255)] 3))
              have HA := Lib.hid hMa
              clear hm hsz hlt hMa
              go_wp2_with fail
              refine Calls.mono (HN.out _) ?_
              rintro e wx ⟨rfl, rfl⟩
              go_wp2_with (first
                | ((with_reducible refine wpList_append_il (o := ⟨some 76, _, _, _, _, _⟩) rfl (.tmp 72) (.tmp 75) rfl (gO + 1) (.slice A2 n2 c2) n2 (gridK w f (j * w + k)) rfl HA.out.own (some ⟨wr.heap.size, 0, none⟩) 1 1 [255] rfl ?hr ?hs HA.out.lo ?_)
                   case hr => exact il_of_box (Box.made wr 3 (cellsI [255]).toArray) rfl (show 1 ≤ maxLen by decide)
                   case hs => have := HX.out.2.1; have := HX.out.2.2.1; have := HX.out.2.2.2; omega
                   intro v7 w7 hown7 bq
                   obtain ⟨A7, c7, hv7⟩ := own_slice hown7
                   subst hv7
                   have B7 := HA.out.out.bel bq (Nat.lt_succ_self gO)
                   have c7 : w7.cell? ⟨gO, 2, none⟩ = some (.slice A2 n2 c2) := B7.cell 2
                   have f7 : w7.frozen? ⟨gO, 2, none⟩ = false := B7.free 2
                   have H7 := Lib.hid (And.intro hown7 bq)
                   clear hown7 bq B7)
                | fail)
              have HE := Lib.hid (HA.out.more H7.out.1 H7.out.2)
              rw [HX.out.1] at HE
              go_roundw
              case rel => exact ⟨k + 1, _, _, _, by omega, by go_num, HE.out⟩
              case measure => simp [intOf]; omega
            · have ef : held z (-128) 127 + 128 = z + 128 := by unfold held; rw [if_neg z0, if_neg z1]
              have EF := Lib.hid ef
              clear ef
              have hm := HF.out.2.1 k j hkw
              rw [HZ.out, EF.out] at hm
              have hsz : n2 = j * w + k := by rw [HR.out.len, gridK_len]
              have hlt := HF.out.2.2.2.2.2.1 k j hkw hjh
              have HX := Lib.hid (And.intro hm (And.intro hsz (And.intro hlt HF.out.2.2.2.2.1)))
              have hMa := HR.out.on (on_alloc wr (.cells #[.int .i64 (z + 128)] 3))
              have HA := Lib.hid hMa
              clear hm hsz hlt hMa
              go_wp2_with fail
              refine Calls.mono (HN.out _) ?_
              rintro e wx ⟨rfl, rfl⟩
              go_wp2_with (first
                | ((with_reducible refine wpList_append_il (o := ⟨some 76, _, _, _, _, _⟩) rfl (.tmp 72) (.tmp 75) rfl (gO + 1) (.slice A2 n2 c2) n2 (gridK w f (j * w + k)) rfl HA.out.own (some ⟨wr.heap.size, 0, none⟩) 1 1 [z + 128] rfl ?hr ?hs HA.out.lo ?_)
                   case hr => exact il_of_box (Box.made wr 3 (cellsI [z + 128]).toArray) rfl (show 1 ≤ maxLen by decide)
                   case hs => have := HX.out.2.1; have := HX.out.2.2.1; have := HX.out.2.2.2; omega
                   intro v7 w7 hown7 bq
                   obtain ⟨A7, c7, hv7⟩ := own_slice hown7
                   subst hv7
                   have B7 := HA.out.out.bel bq (Nat.lt_succ_self gO)
                   have c7 : w7.cell? ⟨gO, 2, none⟩ = some (.slice A2 n2 c2) := B7.cell 2
                   have f7 : w7.frozen? ⟨gO, 2, none⟩ = false := B7.free 2
                   have H7 := Lib.hid (And.intro hown7 bq)
                   clear hown7 bq B7)
                | fail)
              have HE := Lib.hid (HA.out.more H7.out.1 H7.out.2)
              rw [HX.out.1] at HE
              go_roundw
              case rel => exact ⟨k + 1, _, _, _, by omega, by go_num, HE.out⟩
              case measure => simp [intOf]; omega
        · obtain rfl : k = w := by omega
          go_wp2_with fail
          go_roundw
          case rel => exact ⟨j + 1, _, _, _, by omega, by go_num, by rw [show (j + 1) * k + 0 = j * k + k by rw [Nat.add_mul, Nat.one_mul]; rfl]; exact HR.out⟩
          case measure => simp [intOf]; omega
    · obtain rfl : j = h := by omega
      have hR := HR.out
      rw [show j * w + 0 = w * j by rw [Nat.mul_comm]; rfl, ← HF.out.1] at hR
      have HR := Lib.hid hR
      clear hR
      go_wp2_with (first
        | (with_reducible refine wpList_load_to (op := ⟨some 78, _, _, _, _, _⟩) rfl 24 (.tmp 8) rfl (.pointer (some ⟨gO, 0, none⟩)) rfl (.agg #[.int .i64 (w : Int), .int .i64 (j : Int), .slice A1 n1 c1]) (load_plane HR.out.out rfl) ?_)
        | ((with_reducible refine wpList_store_plane (o := ⟨none, _, _, _, _, _⟩) rfl (.tmp 6) (.tmp 78) rfl rfl w0.heap.size #[.int .i64 (w : Int), .int .i64 (j : Int), .slice A1 n1 c1] rfl ?ho rfl rfl _ HR.out.res rfl ?_)
           case ho => simp [Value.oneCell']
           intro w9 b9 k9
           have H9 := Lib.hid (And.intro b9 (HR.out.done k9))
           clear b9 k9)
        | fail)
      refine bodyPost_ret (v := .tuple #[.agg #[.int .i64 (w : Int), .int .i64 (j : Int), .slice A1 n1 c1], .int .i64 0]) (results_ct (fn := Try.f26) Try.results26 _ _ w0.heap.size _ _ rfl rfl (loadVar_plane H9.out.1 rfl)) rfl ?_
      exact ⟨A1, n1, c1, rfl, H9.out.2.2, H9.out.2.1⟩
end Go.Proofs.Ytadlaljohlpabaa
