/-
  The contract of the reference's Grow.
-/
import Derived.Test.YtadlaljohlpabaaPCropE
namespace Go.Proofs.Ytadlaljohlpabaa
open Go.RowKit

/-- what Grow tells -/
def growF (W H : Int) (xs : List Int) (a d : Bool) (w h : Int) : Int × Int × List Int × Int :=
  if RightI W H xs then (if (1 ≤ w ∧ w ≤ 128) ∧ 1 ≤ h ∧ h ≤ 128 then (w, h, growL xs W.toNat H.toNat a d w.toNat h.toNat, 0) else (0, 0, [], 2)) else (0, 0, [], 1)
theorem half_cast (i : Nat) : ((i / 2 : Nat) : Int) = (i : Int) / 2 := by omega

set_option maxHeartbeats 3200000 in
theorem refGrow_tt (w0 : World) (W H w h : Nat) (A : Option Addr) (n c : Nat) (xs : List Int) (hI : Ia w0 A n c xs) (hr : RightP xs W H) (hw : 1 ≤ w ∧ w ≤ 128) (hh : 1 ≤ h ∧ h ≤ 128) :
    Calls Try.prog 22 #[.agg #[.int .i64 (W : Int), .int .i64 (H : Int), .slice A n c], .bool true, .bool true, .int .i64 (w : Int), .int .i64 (h : Int)] w0 (PTells w0 ((w : Int), (h : Int), growL xs W H true true w h, 0)) := by
  have hn : n = W * H := by rw [← hI.len, hr.len]
  have hwh := hr.small
  have HR := Lib.hid (fun w1 (k : Below w0.heap.size w0 w1) => refRight_any w1 (W : Int) (H : Int) A n c xs (hI.on k) (by omega))
  unfold Righted at HR
  rw [decide_eq_true hr.int] at HR
  have HA := Lib.hid (fun w1 (k : Below w0.heap.size w0 w1) (i j : Nat) => refAt_any w1 W H A n c xs ((i : Int) / 2) ((j : Int) / 2) (hI.on k) hr)
  obtain ⟨f, hf⟩ : ∃ f : Nat → Nat → Int, f = fun i k => atL xs W H ((i / 2 : Nat) : Int) ((k / 2 : Nat) : Int) := ⟨_, rfl⟩
  have hfa : ∀ i j : Nat, atL xs W H ((i : Int) / 2) ((j : Int) / 2) = f i j := fun i j => by rw [hf]; dsimp only; rw [half_cast, half_cast]
  have hcr : growL xs W H true true w h = gridK w f (w * h) := by rw [hf]; rfl
  have hmore := fun (i j : Nat) (hi : i < w) => gridK_more (f := f) hi j
  have HF := Lib.hid (And.intro hfa (And.intro hcr hmore))
  have hsm : w * h ≤ 16384 := by have : w * h ≤ 128 * 128 := Nat.mul_le_mul hw.2 hh.2; omega
  have hpl : ∀ i j : Nat, i < w → j < h → j * w + i < w * h := fun i j hi hj => row_lt hi hj
  obtain ⟨w2, hw2, hb1, hb2, k2⟩ := two_made w0 #[.int .i64 (W : Int), .int .i64 (H : Int), .slice A n c]
  have HW := Lib.hid (And.intro hw2 (And.intro k2 (And.intro hb1 hb2)))
  have HP := Lib.hid (And.intro hsm hpl)
  obtain ⟨w10, w11⟩ := hw
  obtain ⟨h10, h11⟩ := hh
  clear hf hfa hcr hmore hsm hpl hI hr hw2 k2 hb1 hb2 hwh hn
  go_enter Try.func22, Try.ntmps22
  go_wp2_with fail
  rw [HW.out.1]
  refine Calls.mono (HR.out w2 HW.out.2.1) ?_
  rintro e w4 ⟨rfl, b4⟩
  have hM := mk_made (HW.out.2.2.1.on b4) (HW.out.2.2.2.on b4) (on_trans HW.out.2.1 b4) (Nat.le_succ _) (w : Int) (h : Int)
  obtain ⟨w5, hw5⟩ : ∃ w5, w4.alloc (.cells #[.int .i64 (w : Int), .int .i64 (h : Int), .slice none 0 0] 24) = w5 := ⟨_, rfl⟩
  rw [hw5] at hM
  have HM := Lib.hid (And.intro hM hw5)
  clear hM hw5 b4
  go_wp2_with fail
  rw [HM.out.2]
  obtain ⟨gO, hgO⟩ : ∃ g, g = w4.heap.size := ⟨_, rfl⟩
  rw [← hgO] at HM ⊢
  clear hgO
  go_loopw [13] (fun i wr => ∃ j A' n' c', j ≤ h ∧ i = .int .i64 ((j : Nat) : Int) ∧ Mk w0 wr (gO + 1) w0.heap.size (w0.heap.size + 1) gO #[.int .i64 (W : Int), .int .i64 (H : Int), .slice A n c] (w : Int) (h : Int) (gridK w f (j * w + 0)) A' n' c') (fun i _ => h - (intOf i).toNat)
  case atStart => exact ⟨0, none, 0, 0, by omega, rfl, by rw [Nat.zero_mul]; exact HM.out.1⟩
  case round =>
    obtain ⟨j, A1, n1, c1, hj, rfl, hR⟩ := hrel
    have HR := Lib.hid hR
    clear hR
    by_cases hjh : j < h
    · go_wp2_with fail
      go_loopw [14] (fun i wr => ∃ k A' n' c', k ≤ w ∧ i = .int .i64 ((k : Nat) : Int) ∧ Mk w0 wr (gO + 1) w0.heap.size (w0.heap.size + 1) gO #[.int .i64 (W : Int), .int .i64 (H : Int), .slice A n c] (w : Int) (h : Int) (gridK w f (j * w + k)) A' n' c') (fun i _ => w - (intOf i).toNat)
      case atStart => exact ⟨0, A1, n1, c1, by omega, rfl, HR.out⟩
      case round =>
        obtain ⟨k, A2, n2, c2, hk, rfl, hR⟩ := hrel
        have HR := Lib.hid hR
        clear hR
        by_cases hkw : k < w
        · have HT := Lib.hid (HA.out wr.drew (HR.out.bel.trans ((on_drew wr).mono HR.out.bel.size)) k j)
          rw [HF.out.1 k j] at HT
          have c0 : wr.cell? ⟨gO, 2, none⟩ = some (.slice A2 n2 c2) := HR.out.out.cell 2
          have p0 : wr.cell? ⟨w0.heap.size, 0, none⟩ = some (.int .i64 (W : Int)) := HR.out.arg.cell 0
          have p1 : wr.cell? ⟨w0.heap.size, 1, none⟩ = some (.int .i64 (H : Int)) := HR.out.arg.cell 1
          have p2 : wr.cell? ⟨w0.heap.size, 2, none⟩ = some (.slice A n c) := HR.out.arg.cell 2
          have hm := HF.out.2.2 k j hkw
          have hsz : n2 = j * w + k := by rw [HR.out.len, gridK_len]
          have hlt := HP.out.2 k j hkw hjh
          obtain ⟨z, hz⟩ : ∃ z, z = f k j := ⟨_, rfl⟩
          rw [← hz] at HT hm
          have HX := Lib.hid (And.intro hm (And.intro hsz hlt))
          clear hm hsz hlt hz
          go_wp2_with fail
          go_region_law
            (first
              | (go_simp
                 go_at_call 15
                 with_reducible refine Calls.mono HT.out ?_
                 rintro e w6 ⟨rfl, b6⟩
                 have hMk6 := HR.out.on ((on_drew wr).trans b6)
                 have H6 := Lib.hid (And.intro (ownsRow_block hMk6.own (fun g _ _ hh => (on_alloc w6 (.cells #[.int .i64 z] 3)).block g (Array.getElem?_eq_some_iff.1 hh).1)) (Nat.le_trans hMk6.lo (on_alloc w6 (.cells #[.int .i64 z] 3)).size))
                 have M6 := Lib.hid hMk6
                 have c6 : w6.cell? ⟨gO, 2, none⟩ = some (.slice A2 n2 c2) := hMk6.out.cell 2
                 have c6a : ∀ o, (w6.alloc o).cell? ⟨gO, 2, none⟩ = some (.slice A2 n2 c2) := fun o => (hMk6.on (on_alloc w6 o)).out.cell 2
                 clear b6 hMk6)
              | ((refine step_append_il rfl (.tmp 58) (.tmp 63) rfl (gO + 1) (.slice A2 n2 c2) n2 _ rfl H6.out.1 (some ⟨w6.heap.size, 0, none⟩) 1 1 [z] rfl (il_of_box (Box.made w6 3 (cellsI [z]).toArray) rfl (show 1 ≤ maxLen by decide)).ia ?hs H6.out.2 (some 64) rfl ?_)
                 case hs => have := HX.out.2.1; have := HX.out.2.2; have := HP.out.1; omega
                 intro v7 w7 hown7 bq
                 obtain ⟨A7, c7, hv7⟩ := own_slice hown7
                 subst hv7
                 have B7 := (M6.out.on (on_alloc w6 (.cells #[.int .i64 z] 3))).out.bel bq (Nat.lt_succ_self gO)
                 have c7 : w7.cell? ⟨gO, 2, none⟩ = some (.slice A2 n2 c2) := B7.cell 2
                 have f7 : w7.frozen? ⟨gO, 2, none⟩ = false := B7.free 2
                 have H7 := Lib.hid (And.intro hown7 bq)
                 clear hown7 bq B7))
          all_goals
            have HE := Lib.hid ((M6.out.on (on_alloc w6 (.cells #[.int .i64 z] 3))).more H7.out.1 H7.out.2)
            rw [HX.out.1] at HE
            go_wp2_with fail
            go_roundw
            case rel => exact ⟨k + 1, _, _, _, by omega, by go_num, HE.out⟩
            case measure => simp [intOf]; omega
        · obtain rfl : k = w := by omega
          go_wp2_with fail
          go_roundw
          case rel => exact ⟨j + 1, _, _, _, by omega, by go_num, by rw [show (j + 1) * k + 0 = j * k + k by rw [Nat.add_mul, Nat.one_mul]; rfl]; exact HR.out⟩
          case measure => simp [intOf]; omega
    · obtain rfl : j = h := by omega
      have hR := HR.out
      rw [show j * w + 0 = w * j by rw [Nat.mul_comm]; rfl, ← HF.out.2.1] at hR
      have HR := Lib.hid hR
      clear hR
      go_wp2_with (first
        | (with_reducible refine wpList_load_to (op := ⟨some 66, _, _, _, _, _⟩) rfl 24 (.tmp 12) rfl (.pointer (some ⟨gO, 0, none⟩)) rfl (.agg #[.int .i64 (w : Int), .int .i64 (j : Int), .slice A1 n1 c1]) (load_plane HR.out.out rfl) ?_)
        | ((with_reducible refine wpList_store_plane (o := ⟨none, _, _, _, _, _⟩) rfl (.tmp 10) (.tmp 66) rfl rfl (w0.heap.size + 1) #[.int .i64 (w : Int), .int .i64 (j : Int), .slice A1 n1 c1] rfl ?ho rfl rfl _ HR.out.res rfl ?_)
           case ho => simp [Value.oneCell']
           intro w9 b9 k9
           have H9 := Lib.hid (And.intro b9 (HR.out.done k9))
           clear b9 k9)
        | fail)
      refine bodyPost_ret (v := .tuple #[.agg #[.int .i64 (w : Int), .int .i64 (j : Int), .slice A1 n1 c1], .int .i64 0]) (results_ct (fn := Try.f22) Try.results22 _ _ (w0.heap.size + 1) _ _ rfl rfl (loadVar_plane H9.out.1 rfl)) rfl ?_
      exact ⟨A1, n1, c1, rfl, H9.out.2.2, H9.out.2.1⟩

set_option maxHeartbeats 3200000 in
theorem refGrow_tf (w0 : World) (W H w h : Nat) (A : Option Addr) (n c : Nat) (xs : List Int) (hI : Ia w0 A n c xs) (hr : RightP xs W H) (hw : 1 ≤ w ∧ w ≤ 128) (hh : 1 ≤ h ∧ h ≤ 128) :
    Calls Try.prog 22 #[.agg #[.int .i64 (W : Int), .int .i64 (H : Int), .slice A n c], .bool true, .bool false, .int .i64 (w : Int), .int .i64 (h : Int)] w0 (PTells w0 ((w : Int), (h : Int), growL xs W H true false w h, 0)) := by
  have hn : n = W * H := by rw [← hI.len, hr.len]
  have hwh := hr.small
  have HR := Lib.hid (fun w1 (k : Below w0.heap.size w0 w1) => refRight_any w1 (W : Int) (H : Int) A n c xs (hI.on k) (by omega))
  unfold Righted at HR
  rw [decide_eq_true hr.int] at HR
  have HA := Lib.hid (fun w1 (k : Below w0.heap.size w0 w1) (i j : Nat) => refAt_any w1 W H A n c xs ((i : Int) / 2) ((j : Int)) (hI.on k) hr)
  obtain ⟨f, hf⟩ : ∃ f : Nat → Nat → Int, f = fun i k => atL xs W H ((i / 2 : Nat) : Int) ((k : Nat) : Int) := ⟨_, rfl⟩
  have hfa : ∀ i j : Nat, atL xs W H ((i : Int) / 2) ((j : Int)) = f i j := fun i j => by rw [hf]; dsimp only; rw [half_cast]
  have hcr : growL xs W H true false w h = gridK w f (w * h) := by rw [hf]; rfl
  have hmore := fun (i j : Nat) (hi : i < w) => gridK_more (f := f) hi j
  have HF := Lib.hid (And.intro hfa (And.intro hcr hmore))
  have hsm : w * h ≤ 16384 := by have : w * h ≤ 128 * 128 := Nat.mul_le_mul hw.2 hh.2; omega
  have hpl : ∀ i j : Nat, i < w → j < h → j * w + i < w * h := fun i j hi hj => row_lt hi hj
  obtain ⟨w2, hw2, hb1, hb2, k2⟩ := two_made w0 #[.int .i64 (W : Int), .int .i64 (H : Int), .slice A n c]
  have HW := Lib.hid (And.intro hw2 (And.intro k2 (And.intro hb1 hb2)))
  have HP := Lib.hid (And.intro hsm hpl)
  obtain ⟨w10, w11⟩ := hw
  obtain ⟨h10, h11⟩ := hh
  clear hf hfa hcr hmore hsm hpl hI hr hw2 k2 hb1 hb2 hwh hn
  go_enter Try.func22, Try.ntmps22
  go_wp2_with fail
  rw [HW.out.1]
  refine Calls.mono (HR.out w2 HW.out.2.1) ?_
  rintro e w4 ⟨rfl, b4⟩
  have hM := mk_made (HW.out.2.2.1.on b4) (HW.out.2.2.2.on b4) (on_trans HW.out.2.1 b4) (Nat.le_succ _) (w : Int) (h : Int)
  obtain ⟨w5, hw5⟩ : ∃ w5, w4.alloc (.cells #[.int .i64 (w : Int), .int .i64 (h : Int), .slice none 0 0] 24) = w5 := ⟨_, rfl⟩
  rw [hw5] at hM
  have HM := Lib.hid (And.intro hM hw5)
  clear hM hw5 b4
  go_wp2_with fail
  rw [HM.out.2]
  obtain ⟨gO, hgO⟩ : ∃ g, g = w4.heap.size := ⟨_, rfl⟩
  rw [← hgO] at HM ⊢
  clear hgO
  go_loopw [13] (fun i wr => ∃ j A' n' c', j ≤ h ∧ i = .int .i64 ((j : Nat) : Int) ∧ Mk w0 wr (gO + 1) w0.heap.size (w0.heap.size + 1) gO #[.int .i64 (W : Int), .int .i64 (H : Int), .slice A n c] (w : Int) (h : Int) (gridK w f (j * w + 0)) A' n' c') (fun i _ => h - (intOf i).toNat)
  case atStart => exact ⟨0, none, 0, 0, by omega, rfl, by rw [Nat.zero_mul]; exact HM.out.1⟩
  case round =>
    obtain ⟨j, A1, n1, c1, hj, rfl, hR⟩ := hrel
    have HR := Lib.hid hR
    clear hR
    by_cases hjh : j < h
    · go_wp2_with fail
      go_loopw [14] (fun i wr => ∃ k A' n' c', k ≤ w ∧ i = .int .i64 ((k : Nat) : Int) ∧ Mk w0 wr (gO + 1) w0.heap.size (w0.heap.size + 1) gO #[.int .i64 (W : Int), .int .i64 (H : Int), .slice A n c] (w : Int) (h : Int) (gridK w f (j * w + k)) A' n' c') (fun i _ => w - (intOf i).toNat)
      case atStart => exact ⟨0, A1, n1, c1, by omega, rfl, HR.out⟩
      case round =>
        obtain ⟨k, A2, n2, c2, hk, rfl, hR⟩ := hrel
        have HR := Lib.hid hR
        clear hR
        by_cases hkw : k < w
        · have HT := Lib.hid (HA.out wr.drew (HR.out.bel.trans ((on_drew wr).mono HR.out.bel.size)) k j)
          rw [HF.out.1 k j] at HT
          have c0 : wr.cell? ⟨gO, 2, none⟩ = some (.slice A2 n2 c2) := HR.out.out.cell 2
          have p0 : wr.cell? ⟨w0.heap.size, 0, none⟩ = some (.int .i64 (W : Int)) := HR.out.arg.cell 0
          have p1 : wr.cell? ⟨w0.heap.size, 1, none⟩ = some (.int .i64 (H : Int)) := HR.out.arg.cell 1
          have p2 : wr.cell? ⟨w0.heap.size, 2, none⟩ = some (.slice A n c) := HR.out.arg.cell 2
          have hm := HF.out.2.2 k j hkw
          have hsz : n2 = j * w + k := by rw [HR.out.len, gridK_len]
          have hlt := HP.out.2 k j hkw hjh
          obtain ⟨z, hz⟩ : ∃ z, z = f k j := ⟨_, rfl⟩
          rw [← hz] at HT hm
          have HX := Lib.hid (And.intro hm (And.intro hsz hlt))
          clear hm hsz hlt hz
          go_wp2_with fail
          go_region_law
            (first
              | (go_simp
                 go_at_call 15
                 with_reducible refine Calls.mono HT.out ?_
                 rintro e w6 ⟨rfl, b6⟩
                 have hMk6 := HR.out.on ((on_drew wr).trans b6)
                 have H6 := Lib.hid (And.intro (ownsRow_block hMk6.own (fun g _ _ hh => (on_alloc w6 (.cells #[.int .i64 z] 3)).block g (Array.getElem?_eq_some_iff.1 hh).1)) (Nat.le_trans hMk6.lo (on_alloc w6 (.cells #[.int .i64 z] 3)).size))
                 have M6 := Lib.hid hMk6
                 have c6 : w6.cell? ⟨gO, 2, none⟩ = some (.slice A2 n2 c2) := hMk6.out.cell 2
                 have c6a : ∀ o, (w6.alloc o).cell? ⟨gO, 2, none⟩ = some (.slice A2 n2 c2) := fun o => (hMk6.on (on_alloc w6 o)).out.cell 2
                 clear b6 hMk6)
              | ((refine step_append_il rfl (.tmp 58) (.tmp 63) rfl (gO + 1) (.slice A2 n2 c2) n2 _ rfl H6.out.1 (some ⟨w6.heap.size, 0, none⟩) 1 1 [z] rfl (il_of_box (Box.made w6 3 (cellsI [z]).toArray) rfl (show 1 ≤ maxLen by decide)).ia ?hs H6.out.2 (some 64) rfl ?_)
                 case hs => have := HX.out.2.1; have := HX.out.2.2; have := HP.out.1; omega
                 intro v7 w7 hown7 bq
                 obtain ⟨A7, c7, hv7⟩ := own_slice hown7
                 subst hv7
                 have B7 := (M6.out.on (on_alloc w6 (.cells #[.int .i64 z] 3))).out.bel bq (Nat.lt_succ_self gO)
                 have c7 : w7.cell? ⟨gO, 2, none⟩ = some (.slice A2 n2 c2) := B7.cell 2
                 have f7 : w7.frozen? ⟨gO, 2, none⟩ = false := B7.free 2
                 have H7 := Lib.hid (And.intro hown7 bq)
                 clear hown7 bq B7))
          all_goals
            have HE := Lib.hid ((M6.out.on (on_alloc w6 (.cells #[.int .i64 z] 3))).more H7.out.1 H7.out.2)
            rw [HX.out.1] at HE
            go_wp2_with fail
            go_roundw
            case rel => exact ⟨k + 1, _, _, _, by omega, by go_num, HE.out⟩
            case measure => simp [intOf]; omega
        · obtain rfl : k = w := by omega
          go_wp2_with fail
          go_roundw
          case rel => exact ⟨j + 1, _, _, _, by omega, by go_num, by rw [show (j + 1) * k + 0 = j * k + k by rw [Nat.add_mul, Nat.one_mul]; rfl]; exact HR.out⟩
          case measure => simp [intOf]; omega
    · obtain rfl : j = h := by omega
      have hR := HR.out
      rw [show j * w + 0 = w * j by rw [Nat.mul_comm]; rfl, ← HF.out.2.1] at hR
      have HR := Lib.hid hR
      clear hR
      go_wp2_with (first
        | (with_reducible refine wpList_load_to (op := ⟨some 66, _, _, _, _, _⟩) rfl 24 (.tmp 12) rfl (.pointer (some ⟨gO, 0, none⟩)) rfl (.agg #[.int .i64 (w : Int), .int .i64 (j : Int), .slice A1 n1 c1]) (load_plane HR.out.out rfl) ?_)
        | ((with_reducible refine wpList_store_plane (o := ⟨none, _, _, _, _, _⟩) rfl (.tmp 10) (.tmp 66) rfl rfl (w0.heap.size + 1) #[.int .i64 (w : Int), .int .i64 (j : Int), .slice A1 n1 c1] rfl ?ho rfl rfl _ HR.out.res rfl ?_)
           case ho => simp [Value.oneCell']
           intro w9 b9 k9
           have H9 := Lib.hid (And.intro b9 (HR.out.done k9))
           clear b9 k9)
        | fail)
      refine bodyPost_ret (v := .tuple #[.agg #[.int .i64 (w : Int), .int .i64 (j : Int), .slice A1 n1 c1], .int .i64 0]) (results_ct (fn := Try.f22) Try.results22 _ _ (w0.heap.size + 1) _ _ rfl rfl (loadVar_plane H9.out.1 rfl)) rfl ?_
      exact ⟨A1, n1, c1, rfl, H9.out.2.2, H9.out.2.1⟩

set_option maxHeartbeats 3200000 in
theorem refGrow_ft (w0 : World) (W H w h : Nat) (A : Option Addr) (n c : Nat) (xs : List Int) (hI : Ia w0 A n c xs) (hr : RightP xs W H) (hw : 1 ≤ w ∧ w ≤ 128) (hh : 1 ≤ h ∧ h ≤ 128) :
    Calls Try.prog 22 #[.agg #[.int .i64 (W : Int), .int .i64 (H : Int), .slice A n c], .bool false, .bool true, .int .i64 (w : Int), .int .i64 (h : Int)] w0 (PTells w0 ((w : Int), (h : Int), growL xs W H false true w h, 0)) := by
  have hn : n = W * H := by rw [← hI.len, hr.len]
  have hwh := hr.small
  have HR := Lib.hid (fun w1 (k : Below w0.heap.size w0 w1) => refRight_any w1 (W : Int) (H : Int) A n c xs (hI.on k) (by omega))
  unfold Righted at HR
  rw [decide_eq_true hr.int] at HR
  have HA := Lib.hid (fun w1 (k : Below w0.heap.size w0 w1) (i j : Nat) => refAt_any w1 W H A n c xs ((i : Int)) ((j : Int) / 2) (hI.on k) hr)
  obtain ⟨f, hf⟩ : ∃ f : Nat → Nat → Int, f = fun i k => atL xs W H ((i : Nat) : Int) ((k / 2 : Nat) : Int) := ⟨_, rfl⟩
  have hfa : ∀ i j : Nat, atL xs W H ((i : Int)) ((j : Int) / 2) = f i j := fun i j => by rw [hf]; dsimp only; rw [half_cast]
  have hcr : growL xs W H false true w h = gridK w f (w * h) := by rw [hf]; rfl
  have hmore := fun (i j : Nat) (hi : i < w) => gridK_more (f := f) hi j
  have HF := Lib.hid (And.intro hfa (And.intro hcr hmore))
  have hsm : w * h ≤ 16384 := by have : w * h ≤ 128 * 128 := Nat.mul_le_mul hw.2 hh.2; omega
  have hpl : ∀ i j : Nat, i < w → j < h → j * w + i < w * h := fun i j hi hj => row_lt hi hj
  obtain ⟨w2, hw2, hb1, hb2, k2⟩ := two_made w0 #[.int .i64 (W : Int), .int .i64 (H : Int), .slice A n c]
  have HW := Lib.hid (And.intro hw2 (And.intro k2 (And.intro hb1 hb2)))
  have HP := Lib.hid (And.intro hsm hpl)
  obtain ⟨w10, w11⟩ := hw
  obtain ⟨h10, h11⟩ := hh
  clear hf hfa hcr hmore hsm hpl hI hr hw2 k2 hb1 hb2 hwh hn
  go_enter Try.func22, Try.ntmps22
  go_wp2_with fail
  rw [HW.out.1]
  refine Calls.mono (HR.out w2 HW.out.2.1) ?_
  rintro e w4 ⟨rfl, b4⟩
  have hM := mk_made (HW.out.2.2.1.on b4) (HW.out.2.2.2.on b4) (on_trans HW.out.2.1 b4) (Nat.le_succ _) (w : Int) (h : Int)
  obtain ⟨w5, hw5⟩ : ∃ w5, w4.alloc (.cells #[.int .i64 (w : Int), .int .i64 (h : Int), .slice none 0 0] 24) = w5 := ⟨_, rfl⟩
  rw [hw5] at hM
  have HM := Lib.hid (And.intro hM hw5)
  clear hM hw5 b4
  go_wp2_with fail
  rw [HM.out.2]
  obtain ⟨gO, hgO⟩ : ∃ g, g = w4.heap.size := ⟨_, rfl⟩
  rw [← hgO] at HM ⊢
  clear hgO
  go_loopw [13] (fun i wr => ∃ j A' n' c', j ≤ h ∧ i = .int .i64 ((j : Nat) : Int) ∧ Mk w0 wr (gO + 1) w0.heap.size (w0.heap.size + 1) gO #[.int .i64 (W : Int), .int .i64 (H : Int), .slice A n c] (w : Int) (h : Int) (gridK w f (j * w + 0)) A' n' c') (fun i _ => h - (intOf i).toNat)
  case atStart => exact ⟨0, none, 0, 0, by omega, rfl, by rw [Nat.zero_mul]; exact HM.out.1⟩
  case round =>
    obtain ⟨j, A1, n1, c1, hj, rfl, hR⟩ := hrel
    have HR := Lib.hid hR
    clear hR
    by_cases hjh : j < h
    · go_wp2_with fail
      go_loopw [14] (fun i wr => ∃ k A' n' c', k ≤ w ∧ i = .int .i64 ((k : Nat) : Int) ∧ Mk w0 wr (gO + 1) w0.heap.size (w0.heap.size + 1) gO #[.int .i64 (W : Int), .int .i64 (H : Int), .slice A n c] (w : Int) (h : Int) (gridK w f (j * w + k)) A' n' c') (fun i _ => w - (intOf i).toNat)
      case atStart => exact ⟨0, A1, n1, c1, by omega, rfl, HR.out⟩
      case round =>
        obtain ⟨k, A2, n2, c2, hk, rfl, hR⟩ := hrel
        have HR := Lib.hid hR
        clear hR
        by_cases hkw : k < w
        · have HT := Lib.hid (HA.out wr.drew (HR.out.bel.trans ((on_drew wr).mono HR.out.bel.size)) k j)
          rw [HF.out.1 k j] at HT
          have c0 : wr.cell? ⟨gO, 2, none⟩ = some (.slice A2 n2 c2) := HR.out.out.cell 2
          have p0 : wr.cell? ⟨w0.heap.size, 0, none⟩ = some (.int .i64 (W : Int)) := HR.out.arg.cell 0
          have p1 : wr.cell? ⟨w0.heap.size, 1, none⟩ = some (.int .i64 (H : Int)) := HR.out.arg.cell 1
          have p2 : wr.cell? ⟨w0.heap.size, 2, none⟩ = some (.slice A n c) := HR.out.arg.cell 2
          have hm := HF.out.2.2 k j hkw
          have hsz : n2 = j * w + k := by rw [HR.out.len, gridK_len]
          have hlt := HP.out.2 k j hkw hjh
          obtain ⟨z, hz⟩ : ∃ z, z = f k j := ⟨_, rfl⟩
          rw [← hz] at HT hm
          have HX := Lib.hid (And.intro hm (And.intro hsz hlt))
          clear hm hsz hlt hz
          go_wp2_with fail
          go_region_law
            (first
              | (go_simp
                 go_at_call 15
                 with_reducible refine Calls.mono HT.out ?_
                 rintro e w6 ⟨rfl, b6⟩
                 have hMk6 := HR.out.on ((on_drew wr).trans b6)
                 have H6 := Lib.hid (And.intro (ownsRow_block hMk6.own (fun g _ _ hh => (on_alloc w6 (.cells #[.int .i64 z] 3)).block g (Array.getElem?_eq_some_iff.1 hh).1)) (Nat.le_trans hMk6.lo (on_alloc w6 (.cells #[.int .i64 z] 3)).size))
                 have M6 := Lib.hid hMk6
                 have c6 : w6.cell? ⟨gO, 2, none⟩ = some (.slice A2 n2 c2) := hMk6.out.cell 2
                 have c6a : ∀ o, (w6.alloc o).cell? ⟨gO, 2, none⟩ = some (.slice A2 n2 c2) := fun o => (hMk6.on (on_alloc w6 o)).out.cell 2
                 clear b6 hMk6)
              | ((refine step_append_il rfl (.tmp 58) (.tmp 63) rfl (gO + 1) (.slice A2 n2 c2) n2 _ rfl H6.out.1 (some ⟨w6.heap.size, 0, none⟩) 1 1 [z] rfl (il_of_box (Box.made w6 3 (cellsI [z]).toArray) rfl (show 1 ≤ maxLen by decide)).ia ?hs H6.out.2 (some 64) rfl ?_)
                 case hs => have := HX.out.2.1; have := HX.out.2.2; have := HP.out.1; omega
                 intro v7 w7 hown7 bq
                 obtain ⟨A7, c7, hv7⟩ := own_slice hown7
                 subst hv7
                 have B7 := (M6.out.on (on_alloc w6 (.cells #[.int .i64 z] 3))).out.bel bq (Nat.lt_succ_self gO)
                 have c7 : w7.cell? ⟨gO, 2, none⟩ = some (.slice A2 n2 c2) := B7.cell 2
                 have f7 : w7.frozen? ⟨gO, 2, none⟩ = false := B7.free 2
                 have H7 := Lib.hid (And.intro hown7 bq)
                 clear hown7 bq B7))
          all_goals
            have HE := Lib.hid ((M6.out.on (on_alloc w6 (.cells #[.int .i64 z] 3))).more H7.out.1 H7.out.2)
            rw [HX.out.1] at HE
            go_wp2_with fail
            go_roundw
            case rel => exact ⟨k + 1, _, _, _, by omega, by go_num, HE.out⟩
            case measure => simp [intOf]; omega
        · obtain rfl : k = w := by omega
          go_wp2_with fail
          go_roundw
          case rel => exact ⟨j + 1, _, _, _, by omega, by go_num, by rw [show (j + 1) * k + 0 = j * k + k by rw [Nat.add_mul, Nat.one_mul]; rfl]; exact HR.out⟩
          case measure => simp [intOf]; omega
    · obtain rfl : j = h := by omega
      have hR := HR.out
      rw [show j * w + 0 = w * j by rw [Nat.mul_comm]; rfl, ← HF.out.2.1] at hR
      have HR := Lib.hid hR
      clear hR
      go_wp2_with (first
        | (with_reducible refine wpList_load_to (op := ⟨some 66, _, _, _, _, _⟩) rfl 24 (.tmp 12) rfl (.pointer (some ⟨gO, 0, none⟩)) rfl (.agg #[.int .i64 (w : Int), .int .i64 (j : Int), .slice A1 n1 c1]) (load_plane HR.out.out rfl) ?_)
        | ((with_reducible refine wpList_store_plane (o := ⟨none, _, _, _, _, _⟩) rfl (.tmp 10) (.tmp 66) rfl rfl (w0.heap.size + 1) #[.int .i64 (w : Int), .int .i64 (j : Int), .slice A1 n1 c1] rfl ?ho rfl rfl _ HR.out.res rfl ?_)
           case ho => simp [Value.oneCell']
           intro w9 b9 k9
           have H9 := Lib.hid (And.intro b9 (HR.out.done k9))
           clear b9 k9)
        | fail)
      refine bodyPost_ret (v := .tuple #[.agg #[.int .i64 (w : Int), .int .i64 (j : Int), .slice A1 n1 c1], .int .i64 0]) (results_ct (fn := Try.f22) Try.results22 _ _ (w0.heap.size + 1) _ _ rfl rfl (loadVar_plane H9.out.1 rfl)) rfl ?_
      exact ⟨A1, n1, c1, rfl, H9.out.2.2, H9.out.2.1⟩

set_option maxHeartbeats 3200000 in
theorem refGrow_ff (w0 : World) (W H w h : Nat) (A : Option Addr) (n c : Nat) (xs : List Int) (hI : Ia w0 A n c xs) (hr : RightP xs W H) (hw : 1 ≤ w ∧ w ≤ 128) (hh : 1 ≤ h ∧ h ≤ 128) :
    Calls Try.prog 22 #[.agg #[.int .i64 (W : Int), .int .i64 (H : Int), .slice A n c], .bool false, .bool false, .int .i64 (w : Int), .int .i64 (h : Int)] w0 (PTells w0 ((w : Int), (h : Int), growL xs W H false false w h, 0)) := by
  have hn : n = W * H := by rw [← hI.len, hr.len]
  have hwh := hr.small
  have HR := Lib.hid (fun w1 (k : Below w0.heap.size w0 w1) => refRight_any w1 (W : Int) (H : Int) A n c xs (hI.on k) (by omega))
  unfold Righted at HR
  rw [decide_eq_true hr.int] at HR
  have HA := Lib.hid (fun w1 (k : Below w0.heap.size w0 w1) (i j : Nat) => refAt_any w1 W H A n c xs ((i : Int)) ((j : Int)) (hI.on k) hr)
  obtain ⟨f, hf⟩ : ∃ f : Nat → Nat → Int, f = fun i k => atL xs W H ((i : Nat) : Int) ((k : Nat) : Int) := ⟨_, rfl⟩
  have hfa : ∀ i j : Nat, atL xs W H ((i : Int)) ((j : Int)) = f i j := fun i j => by rw [hf]
  have hcr : growL xs W H false false w h = gridK w f (w * h) := by rw [hf]; rfl
  have hmore := fun (i j : Nat) (hi : i < w) => gridK_more (f := f) hi j
  have HF := Lib.hid (And.intro hfa (And.intro hcr hmore))
  have hsm : w * h ≤ 16384 := by have : w * h ≤ 128 * 128 := Nat.mul_le_mul hw.2 hh.2; omega
  have hpl : ∀ i j : Nat, i < w → j < h → j * w + i < w * h := fun i j hi hj => row_lt hi hj
  obtain ⟨w2, hw2, hb1, hb2, k2⟩ := two_made w0 #[.int .i64 (W : Int), .int .i64 (H : Int), .slice A n c]
  have HW := Lib.hid (And.intro hw2 (And.intro k2 (And.intro hb1 hb2)))
  have HP := Lib.hid (And.intro hsm hpl)
  obtain ⟨w10, w11⟩ := hw
  obtain ⟨h10, h11⟩ := hh
  clear hf hfa hcr hmore hsm hpl hI hr hw2 k2 hb1 hb2 hwh hn
  go_enter Try.func22, Try.ntmps22
  go_wp2_with fail
  rw [HW.out.1]
  refine Calls.mono (HR.out w2 HW.out.2.1) ?_
  rintro e w4 ⟨rfl, b4⟩
  have hM := mk_made (HW.out.2.2.1.on b4) (HW.out.2.2.2.on b4) (on_trans HW.out.2.1 b4) (Nat.le_succ _) (w : Int) (h : Int)
  obtain ⟨w5, hw5⟩ : ∃ w5, w4.alloc (.cells #[.int .i64 (w : Int), .int .i64 (h : Int), .slice none 0 0] 24) = w5 := ⟨_, rfl⟩
  rw [hw5] at hM
  have HM := Lib.hid (And.intro hM hw5)
  clear hM hw5 b4
  go_wp2_with fail
  rw [HM.out.2]
  obtain ⟨gO, hgO⟩ : ∃ g, g = w4.heap.size := ⟨_, rfl⟩
  rw [← hgO] at HM ⊢
  clear hgO
  go_loopw [13] (fun i wr => ∃ j A' n' c', j ≤ h ∧ i = .int .i64 ((j : Nat) : Int) ∧ Mk w0 wr (gO + 1) w0.heap.size (w0.heap.size + 1) gO #[.int .i64 (W : Int), .int .i64 (H : Int), .slice A n c] (w : Int) (h : Int) (gridK w f (j * w + 0)) A' n' c') (fun i _ => h - (intOf i).toNat)
  case atStart => exact ⟨0, none, 0, 0, by omega, rfl, by rw [Nat.zero_mul]; exact HM.out.1⟩
  case round =>
    obtain ⟨j, A1, n1, c1, hj, rfl, hR⟩ := hrel
    have HR := Lib.hid hR
    clear hR
    by_cases hjh : j < h
    · go_wp2_with fail
      go_loopw [14] (fun i wr => ∃ k A' n' c', k ≤ w ∧ i = .int .i64 ((k : Nat) : Int) ∧ Mk w0 wr (gO + 1) w0.heap.size (w0.heap.size + 1) gO #[.int .i64 (W : Int), .int .i64 (H : Int), .slice A n c] (w : Int) (h : Int) (gridK w f (j * w + k)) A' n' c') (fun i _ => w - (intOf i).toNat)
      case atStart => exact ⟨0, A1, n1, c1, by omega, rfl, HR.out⟩
      case round =>
        obtain ⟨k, A2, n2, c2, hk, rfl, hR⟩ := hrel
        have HR := Lib.hid hR
        clear hR
        by_cases hkw : k < w
        · have HT := Lib.hid (HA.out wr.drew (HR.out.bel.trans ((on_drew wr).mono HR.out.bel.size)) k j)
          rw [HF.out.1 k j] at HT
          have c0 : wr.cell? ⟨gO, 2, none⟩ = some (.slice A2 n2 c2) := HR.out.out.cell 2
          have p0 : wr.cell? ⟨w0.heap.size, 0, none⟩ = some (.int .i64 (W : Int)) := HR.out.arg.cell 0
          have p1 : wr.cell? ⟨w0.heap.size, 1, none⟩ = some (.int .i64 (H : Int)) := HR.out.arg.cell 1
          have p2 : wr.cell? ⟨w0.heap.size, 2, none⟩ = some (.slice A n c) := HR.out.arg.cell 2
          have hm := HF.out.2.2 k j hkw
          have hsz : n2 = j * w + k := by rw [HR.out.len, gridK_len]
          have hlt := HP.out.2 k j hkw hjh
          obtain ⟨z, hz⟩ : ∃ z, z = f k j := ⟨_, rfl⟩
          rw [← hz] at HT hm
          have HX := Lib.hid (And.intro hm (And.intro hsz hlt))
          clear hm hsz hlt hz
          go_wp2_with fail
          go_region_law
            (first
              | (go_simp
                 go_at_call 15
                 with_reducible refine Calls.mono HT.out ?_
                 rintro e w6 ⟨rfl, b6⟩
                 have hMk6 := HR.out.on ((on_drew wr).trans b6)
                 have H6 := Lib.hid (And.intro (ownsRow_block hMk6.own (fun g _ _ hh => (on_alloc w6 (.cells #[.int .i64 z] 3)).block g (Array.getElem?_eq_some_iff.1 hh).1)) (Nat.le_trans hMk6.lo (on_alloc w6 (.cells #[.int .i64 z] 3)).size))
                 have M6 := Lib.hid hMk6
                 have c6 : w6.cell? ⟨gO, 2, none⟩ = some (.slice A2 n2 c2) := hMk6.out.cell 2
                 have c6a : ∀ o, (w6.alloc o).cell? ⟨gO, 2, none⟩ = some (.slice A2 n2 c2) := fun o => (hMk6.on (on_alloc w6 o)).out.cell 2
                 clear b6 hMk6)
              | ((refine step_append_il rfl (.tmp 58) (.tmp 63) rfl (gO + 1) (.slice A2 n2 c2) n2 _ rfl H6.out.1 (some ⟨w6.heap.size, 0, none⟩) 1 1 [z] rfl (il_of_box (Box.made w6 3 (cellsI [z]).toArray) rfl (show 1 ≤ maxLen by decide)).ia ?hs H6.out.2 (some 64) rfl ?_)
                 case hs => have := HX.out.2.1; have := HX.out.2.2; have := HP.out.1; omega
                 intro v7 w7 hown7 bq
                 obtain ⟨A7, c7, hv7⟩ := own_slice hown7
                 subst hv7
                 have B7 := (M6.out.on (on_alloc w6 (.cells #[.int .i64 z] 3))).out.bel bq (Nat.lt_succ_self gO)
                 have c7 : w7.cell? ⟨gO, 2, none⟩ = some (.slice A2 n2 c2) := B7.cell 2
                 have f7 : w7.frozen? ⟨gO, 2, none⟩ = false := B7.free 2
                 have H7 := Lib.hid (And.intro hown7 bq)
                 clear hown7 bq B7))
          all_goals
            have HE := Lib.hid ((M6.out.on (on_alloc w6 (.cells #[.int .i64 z] 3))).more H7.out.1 H7.out.2)
            rw [HX.out.1] at HE
            go_wp2_with fail
            go_roundw
            case rel => exact ⟨k + 1, _, _, _, by omega, by go_num, HE.out⟩
            case measure => simp [intOf]; omega
        · obtain rfl : k = w := by omega
          go_wp2_with fail
          go_roundw
          case rel => exact ⟨j + 1, _, _, _, by omega, by go_num, by rw [show (j + 1) * k + 0 = j * k + k by rw [Nat.add_mul, Nat.one_mul]; rfl]; exact HR.out⟩
          case measure => simp [intOf]; omega
    · obtain rfl : j = h := by omega
      have hR := HR.out
      rw [show j * w + 0 = w * j by rw [Nat.mul_comm]; rfl, ← HF.out.2.1] at hR
      have HR := Lib.hid hR
      clear hR
      go_wp2_with (first
        | (with_reducible refine wpList_load_to (op := ⟨some 66, _, _, _, _, _⟩) rfl 24 (.tmp 12) rfl (.pointer (some ⟨gO, 0, none⟩)) rfl (.agg #[.int .i64 (w : Int), .int .i64 (j : Int), .slice A1 n1 c1]) (load_plane HR.out.out rfl) ?_)
        | ((with_reducible refine wpList_store_plane (o := ⟨none, _, _, _, _, _⟩) rfl (.tmp 10) (.tmp 66) rfl rfl (w0.heap.size + 1) #[.int .i64 (w : Int), .int .i64 (j : Int), .slice A1 n1 c1] rfl ?ho rfl rfl _ HR.out.res rfl ?_)
           case ho => simp [Value.oneCell']
           intro w9 b9 k9
           have H9 := Lib.hid (And.intro b9 (HR.out.done k9))
           clear b9 k9)
        | fail)
      refine bodyPost_ret (v := .tuple #[.agg #[.int .i64 (w : Int), .int .i64 (j : Int), .slice A1 n1 c1], .int .i64 0]) (results_ct (fn := Try.f22) Try.results22 _ _ (w0.heap.size + 1) _ _ rfl rfl (loadVar_plane H9.out.1 rfl)) rfl ?_
      exact ⟨A1, n1, c1, rfl, H9.out.2.2, H9.out.2.1⟩

set_option maxHeartbeats 3200000 in
theorem refGrow_any (w0 : World) (W H w h : Int) (a d : Bool) (A : Option Addr) (n c : Nat) (xs : List Int) (hI : Ia w0 A n c xs) (hn : n ≤ 1000000) :
    Calls Try.prog 22 #[.agg #[.int .i64 W, .int .i64 H, .slice A n c], .bool a, .bool d, .int .i64 w, .int .i64 h] w0 (PTells w0 (growF W H xs a d w h)) := by
  by_cases hr : RightI W H xs
  · by_cases hc : (1 ≤ w ∧ w ≤ 128) ∧ 1 ≤ h ∧ h ≤ 128
    · have e : growF W H xs a d w h = (w, h, growL xs W.toNat H.toNat a d w.toNat h.toNat, 0) := by unfold growF; rw [if_pos hr, if_pos hc]
      rw [e]
      obtain ⟨W', H', rfl, rfl, hp⟩ := hr.plane
      obtain ⟨⟨a0, a1⟩, b0, b1⟩ := hc
      obtain ⟨w', rfl⟩ := Int.eq_ofNat_of_zero_le (show 0 ≤ w by omega)
      obtain ⟨h', rfl⟩ := Int.eq_ofNat_of_zero_le (show 0 ≤ h by omega)
      cases a <;> cases d
      · exact refGrow_ff w0 W' H' w' h' A n c xs hI hp (by omega) (by omega)
      · exact refGrow_ft w0 W' H' w' h' A n c xs hI hp (by omega) (by omega)
      · exact refGrow_tf w0 W' H' w' h' A n c xs hI hp (by omega) (by omega)
      · exact refGrow_tt w0 W' H' w' h' A n c xs hI hp (by omega) (by omega)
    · have e : growF W H xs a d w h = (0, 0, [], 2) := by unfold growF; rw [if_pos hr, if_neg hc]
      rw [e]
      have HR := Lib.hid (fun w1 (k : Below w0.heap.size w0 w1) => refRight_any w1 W H A n c xs (hI.on k) hn)
      unfold Righted at HR
      rw [decide_eq_true hr] at HR
      obtain ⟨w2, hw2, _, hb2, k2⟩ := two_made w0 #[.int .i64 W, .int .i64 H, .slice A n c]
      have HW := Lib.hid (And.intro hw2 (And.intro k2 hb2))
      have hq : w < 1 ∨ (1 ≤ w ∧ 128 < w) ∨ (1 ≤ w ∧ w ≤ 128 ∧ h < 1) ∨ (1 ≤ w ∧ w ≤ 128 ∧ 1 ≤ h ∧ 128 < h) := by omega
      clear hr hc e hI hw2 k2 hb2
      rcases hq with a0 | ⟨a0, a1⟩ | ⟨a0, a1, a2⟩ | ⟨a0, a1, a2, a3⟩
      all_goals
        go_enter Try.func22, Try.ntmps22
        go_wp2_with fail
        rw [HW.out.1]
        refine Calls.mono (HR.out w2 HW.out.2.1) ?_
        rintro e w4 ⟨rfl, b4⟩
        have H4 := Lib.hid (And.intro (HW.out.2.2.on b4) (on_trans HW.out.2.1 b4))
        clear b4
        go_wp2_with (first
          | ((with_reducible refine wpList_store_plane (o := ⟨none, _, _, _, _, _⟩) rfl (.tmp 10) (.tmp 35) rfl rfl (w0.heap.size + 1) #[.int .i64 0, .int .i64 0, .slice none 0 0] rfl ?ho rfl rfl _ H4.out.1 rfl ?_)
             case ho => simp [Value.oneCell']
             intro w9 b9 k9
             have H9 := Lib.hid (And.intro b9 (H4.out.2.trans (k9.below H4.out.2.size (fun i hi e => by omega))))
             clear b9 k9)
          | fail)
        refine bodyPost_ret (v := .tuple #[.agg #[.int .i64 0, .int .i64 0, .slice none 0 0], .int .i64 2]) (results_ct (fn := Try.f22) Try.results22 _ _ (w0.heap.size + 1) _ _ rfl rfl (loadVar_plane H9.out.1 rfl)) rfl ?_
        exact ⟨none, 0, 0, rfl, Os.none _ _, H9.out.2⟩
  · have e : growF W H xs a d w h = (0, 0, [], 1) := by unfold growF; rw [if_neg hr]
    rw [e]
    have HR := Lib.hid (fun w1 (k : Below w0.heap.size w0 w1) => refRight_any w1 W H A n c xs (hI.on k) hn)
    unfold Righted at HR
    rw [decide_eq_false hr] at HR
    obtain ⟨w2, hw2, _, hb2, k2⟩ := two_made w0 #[.int .i64 W, .int .i64 H, .slice A n c]
    have HW := Lib.hid (And.intro hw2 (And.intro k2 hb2))
    clear hr e hI hw2 k2 hb2
    go_enter Try.func22, Try.ntmps22
    go_wp2_with fail
    rw [HW.out.1]
    refine Calls.mono (HR.out w2 HW.out.2.1) ?_
    rintro e w4 ⟨rfl, b4⟩
    have H4 := Lib.hid (And.intro (HW.out.2.2.on b4) (on_trans HW.out.2.1 b4))
    clear b4
    go_wp2_with (first
      | ((with_reducible refine wpList_store_plane (o := ⟨none, _, _, _, _, _⟩) rfl (.tmp 10) (.tmp 20) rfl rfl (w0.heap.size + 1) #[.int .i64 0, .int .i64 0, .slice none 0 0] rfl ?ho rfl rfl _ H4.out.1 rfl ?_)
         case ho => simp [Value.oneCell']
         intro w9 b9 k9
         have H9 := Lib.hid (And.intro b9 (H4.out.2.trans (k9.below H4.out.2.size (fun i hi e => by omega))))
         clear b9 k9)
      | fail)
    refine bodyPost_ret (v := .tuple #[.agg #[.int .i64 0, .int .i64 0, .slice none 0 0], .int .i64 1]) (results_ct (fn := Try.f22) Try.results22 _ _ (w0.heap.size + 1) _ _ rfl rfl (loadVar_plane H9.out.1 rfl)) rfl ?_
    exact ⟨none, 0, 0, rfl, Os.none _ _, H9.out.2⟩
end Go.Proofs.Ytadlaljohlpabaa
