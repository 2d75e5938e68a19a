/-
  The contract of plane's Cut: the walk.
-/
import Derived.Test.YtadlaljohlpabaaQCut
namespace Go.Proofs.Ytadlaljohlpabaa
open Go.RowKit

set_option maxRecDepth 10000 in
set_option maxHeartbeats 6400000 in
theorem cut_good (w0 : World) (W H : Nat) (A : Option Addr) (n c : Nat) (xs : List Int) (hI : Ia w0 A n c xs) (hr : RightP xs W H) :
    Calls Try.prog 23 #[.agg #[.int .i64 (W : Int), .int .i64 (H : Int), .slice A n c]] w0 (BTells w0 (cutL xs W H) 0) := by
  have hn : n = W * H := by rw [← hI.len, hr.len]
  have hwh := hr.small
  have HR := Lib.hid (fun w1 (k : Below w0.heap.size w0 w1) => right_any w1 (W : Int) (H : Int) A n c xs (hI.on k) (by omega))
  unfold Righted at HR
  rw [decide_eq_true hr.int] at HR
  have HP1 := Lib.hid (fun w1 => pieces8_any w1 W (by have := hr.w1; omega))
  have HP2 := Lib.hid (fun w1 => pieces8_any w1 H (by have := hr.h1; omega))
  have hnb : 1 ≤ nb W ∧ nb W ≤ 16 ∧ 1 ≤ nb H ∧ nb H ≤ 16 := by have := hr.w0; have := hr.w1; have := hr.h0; have := hr.h1; unfold nb; omega
  obtain ⟨f, hf⟩ : ∃ f : Nat → List Int, f = fun i => cutB xs W H (i % nb W) (i / nb W) := ⟨_, rfl⟩
  have hfl : ∀ i, (f i).length = 64 := fun i => by rw [hf]; exact cutB_len _ _ _ _ _
  have hcl : cutL xs W H = (List.range (nb W * nb H)).map f := by rw [hf]; rfl
  have HB := Lib.hid (fun w1 (k : Below w0.heap.size w0 w1) (i : Nat) (a : i % nb W ≤ 16) (b : i / nb W ≤ 16) => show Calls Try.prog 38 #[.agg #[.int .i64 (W : Int), .int .i64 (H : Int), .slice A n c], .int .i64 ((8 * (i % nb W) : Nat) : Int), .int .i64 ((8 * (i / nb W) : Nat) : Int)] w1 (GivesB w1 (f i)) by
    rw [hf]
    exact block_any w1 W H (i % nb W) (i / nb W) A n c xs (hI.on k) hr a b)
  have hmod : ∀ i, i < nb W * nb H → i % nb W < nb W ∧ i / nb W < nb H := fun i hi => ⟨Nat.mod_lt _ (by omega), Nat.div_lt_of_lt_mul hi⟩
  obtain ⟨u, hu⟩ : ∃ u, u = nb W := ⟨_, rfl⟩
  obtain ⟨v, hv⟩ : ∃ v, v = nb H := ⟨_, rfl⟩
  rw [← hu] at HP1 hnb HB hcl hmod
  rw [← hv] at HP2 hnb hcl hmod
  obtain ⟨m, hm⟩ : ∃ m, m = u * v := ⟨_, rfl⟩
  have hprod : (u : Int) * (v : Int) = (m : Int) := by rw [hm, Int.natCast_mul]
  have hm16 : m ≤ 256 := by rw [hm]; have : u * v ≤ 16 * 16 := Nat.mul_le_mul hnb.2.1 hnb.2.2.2; omega
  rw [← hm] at hcl hmod
  obtain ⟨M, hMs, hmk⟩ := make_blks m (by omega)
  obtain ⟨w1, hw1⟩ : ∃ w1, w0.alloc (.cells #[.int .i64 (W : Int), .int .i64 (H : Int), .slice A n c] 24) = w1 := ⟨_, rfl⟩
  have k1 : Below w0.heap.size w0 w1 := by rw [← hw1]; exact on_alloc _ _
  have b1 : Box w1 w0.heap.size 24 #[.int .i64 (W : Int), .int .i64 (H : Int), .slice A n c] := by rw [← hw1]; exact Box.made _ _ _
  have HW := Lib.hid (And.intro hw1 (And.intro k1 b1))
  have HF := Lib.hid (And.intro hfl (And.intro hcl (And.intro hmod hMs)))
  obtain ⟨u0, u1, v0, v1⟩ := hnb
  clear hI hr hwh hn hf hfl hcl hu hv hm hMs hw1 k1 b1 hmod
  go_enter Try.func23, Try.ntmps23
  go_wp2_with fail
  rw [HW.out.1]
  refine Calls.mono (HR.out w1 HW.out.2.1) ?_
  rintro e w4 ⟨rfl, b4⟩
  have H4 := Lib.hid (And.intro (HW.out.2.2.on b4) (on_trans HW.out.2.1 b4))
  have c0 : w4.cell? ⟨w0.heap.size, 0, none⟩ = some (.int .i64 (W : Int)) := H4.out.1.cell 0
  have c1 : w4.cell? ⟨w0.heap.size, 1, none⟩ = some (.int .i64 (H : Int)) := H4.out.1.cell 1
  clear b4
  go_wp2_with fail
  refine Calls.mono (HP1.out w4) ?_
  rintro e wx ⟨rfl, rfl⟩
  go_wp2_with fail
  refine Calls.mono (HP2.out w4) ?_
  rintro e wx ⟨rfl, rfl⟩
  go_wp2_with fail
  have R0 := rs_made (w := w0) (n := m) f H4.out.1 H4.out.2 (Nat.le_refl _) HF.out.2.2.2
  obtain ⟨gS, hgS⟩ : ∃ g, g = w4.heap.size := ⟨_, rfl⟩
  rw [← hgS] at R0 ⊢
  have HR0 := Lib.hid R0
  clear R0 hgS c0 c1 hmk
  go_loopw [21] (fun i wr => ∃ k : Nat, k ≤ m ∧ i = .int .i64 k ∧ Rs w0 wr w0.heap.size gS m #[.int .i64 (W : Int), .int .i64 (H : Int), .slice A n c] f k) (fun i _ => m - (intOf i).toNat)
  case atStart => exact ⟨0, by omega, rfl, HR0.out⟩
  case round =>
    obtain ⟨k, hk, rfl, hR⟩ := hrel
    have HR := Lib.hid hR
    clear hR
    by_cases hkm : k < m
    · obtain ⟨hq, hd⟩ := HF.out.2.2.1 k hkm
      have HC := Lib.hid (fun w1 (b : Below w0.heap.size w0 w1) => HB.out w1 b k (by omega) (by omega))
      unfold GivesB at HC
      have er : (k : Int) % (u : Int) = ((k % u : Nat) : Int) := (Int.natCast_emod k u).symm
      have eq : (k : Int) / (u : Int) = ((k / u : Nat) : Int) := (Int.natCast_ediv k u).symm
      obtain ⟨kr, hkr⟩ : ∃ q, q = k % u := ⟨_, rfl⟩
      obtain ⟨kq, hkq⟩ : ∃ q, q = k / u := ⟨_, rfl⟩
      rw [← hkr] at er hq HC
      rw [← hkq] at eq hd HC
      have HE := Lib.hid (And.intro er eq)
      clear hkr hkq er eq
      go_upto_region 8 with fail
      refine wp_region_held_drew (S := fun w' => Hid (Kept (fun i => i = gS) wr w')) (by kernel_rfl) (Lib.hid ((Kept.refl _ wr).drew)) fun s0 => ?_
      refine take_to (i := 0) (v := .slice (some ⟨gS, 0, none⟩) m m) rfl (by kernel_rfl) (by kernel_rfl) (by kernel_rfl) (fun _ _ _ h => h) (Or.inl ⟨by rfl, fun w' hS => by go_simp⟩) s0 (some 24) rfl ?_
      refine take_to (i := 1) (v := .int .i64 (k : Int)) rfl (by kernel_rfl) (by kernel_rfl) (by kernel_rfl) (fun _ _ _ h => h) (Or.inl ⟨by rfl, fun w' hS => by go_simp⟩) s0 (some 25) rfl ?_
      refine take_to (i := 2) rfl (by kernel_rfl) (by kernel_rfl) (by kernel_rfl) (fun _ _ _ h => h) (yieldsIf_load (by rfl) 24 _ rfl (.pointer (some ⟨w0.heap.size, 0, none⟩)) rfl (.agg #[.int .i64 (W : Int), .int .i64 (H : Int), .slice A n c]) (fun w' h => load_plane (h.out.box HR.out.arg HR.out.ne) rfl)) s0 (some 26) rfl ?_
      refine take_to (i := 3) (v := .int .i64 (k : Int)) rfl (by kernel_rfl) (by kernel_rfl) (by kernel_rfl) (fun _ _ _ h => h) (Or.inl ⟨by rfl, fun w' hS => by go_simp⟩) s0 (some 27) rfl ?_
      refine take_to (i := 4) (v := .int .i64 (u : Int)) rfl (by kernel_rfl) (by kernel_rfl) (by kernel_rfl) (fun _ _ _ h => h) (Or.inl ⟨by rfl, fun w' hS => by go_simp⟩) s0 (some 28) rfl ?_
      refine take_to (i := 5) (v := .int .i64 (kr : Int)) rfl (by kernel_rfl) (by kernel_rfl) (by kernel_rfl) (fun _ _ _ h => h) (Or.inl ⟨by rfl, fun w' hS => by have e := HE.out.1; go_simp; rw [if_neg (by omega), Int.tmod_eq_emod_of_nonneg (by omega), e]⟩) s0 (some 29) rfl ?_
      refine take_to (i := 6) (v := .int .i64 ((8 * kr : Nat) : Int)) rfl (by kernel_rfl) (by kernel_rfl) (by kernel_rfl) (fun _ _ _ h => h) (Or.inl ⟨by rfl, fun w' hS => by go_simp; exact wrap64 (by omega) (by omega)⟩) s0 (some 30) rfl ?_
      refine take_to (i := 7) (v := .int .i64 (k : Int)) rfl (by kernel_rfl) (by kernel_rfl) (by kernel_rfl) (fun _ _ _ h => h) (Or.inl ⟨by rfl, fun w' hS => by go_simp⟩) s0 (some 31) rfl ?_
      refine take_to (i := 8) (v := .int .i64 (u : Int)) rfl (by kernel_rfl) (by kernel_rfl) (by kernel_rfl) (fun _ _ _ h => h) (Or.inl ⟨by rfl, fun w' hS => by go_simp⟩) s0 (some 32) rfl ?_
      refine take_to (i := 9) (v := .int .i64 (kq : Int)) rfl (by kernel_rfl) (by kernel_rfl) (by kernel_rfl) (fun _ _ _ h => h) (Or.inl ⟨by rfl, fun w' hS => by have e := HE.out.2; go_simp; rw [if_neg (by omega), wrap64 (by omega) (by omega)]⟩) s0 (some 33) rfl ?_
      refine take_to (i := 10) (v := .int .i64 ((8 * kq : Nat) : Int)) rfl (by kernel_rfl) (by kernel_rfl) (by kernel_rfl) (fun _ _ _ h => h) (Or.inl ⟨by rfl, fun w' hS => by go_simp; exact wrap64 (by omega) (by omega)⟩) s0 (some 34) rfl ?_
      refine wpAnyH_ready (rs := [11]) (by kernel_rfl) (by simp) ?_
      refine AllReadyH.cons rfl (fun K hK => ?_) AllReadyH.nil
      go_simp
      have k0 := on_drew wr
      refine Calls.mono (HC.out wr.drew (on_trans HR.out.bel k0)) ?_
      rintro r w6 ⟨rfl, b6⟩
      have H6 := Lib.hid (HR.out.on (on_trans k0 b6))
      have s1 := Lib.hid (Kept.of_below (on_trans k0 b6) (fun i => i = gS))
      clear b6
      refine hK.out _ _ s1 fun _ => ?_
      clear hK K
      refine take_to (i := 12) (v := .pointer (some ⟨gS, k * 64, none⟩)) rfl (by kernel_rfl) (by kernel_rfl) (by kernel_rfl) (fun _ _ _ h => h) (Or.inl ⟨by rfl, fun w' hS => by go_simp⟩) s1 (some 36) rfl ?_
      refine wpAnyH_ready (rs := [13]) (by kernel_rfl) (by simp) ?_
      refine AllReadyH.cons rfl (fun K hK => ?_) AllReadyH.nil
      rw [if_pos (by rfl)]
      refine wp_store_bk (w := w0) (f := f) (k := k) _ _ rfl rfl H6.out hkm HF.out.1 rfl rfl fun w9 h9 k9 => ?_
      have s2 := Lib.hid (s1.out.trans k9 (fun _ _ h => h))
      have H9 := Lib.hid h9
      clear h9 k9
      refine hK.out _ _ s2 fun _ => ?_
      clear hK K
      refine wpAnyH_done (by kernel_rfl) ?_ _
      go_wp2_with fail
      go_roundw
      case rel => exact ⟨k + 1, by omega, by go_num, H9.out⟩
      case measure => simp [intOf]; omega
    · obtain rfl : k = m := by omega
      go_wp2_with fail
      go_ret2
      exact ⟨some ⟨gS, 0, none⟩, k, k, rfl, by rw [HF.out.2.1]; exact HR.out.done HF.out.1, fun b off e => by cases e; exact HR.out.newS, HR.out.bel⟩
end Go.Proofs.Ytadlaljohlpabaa
