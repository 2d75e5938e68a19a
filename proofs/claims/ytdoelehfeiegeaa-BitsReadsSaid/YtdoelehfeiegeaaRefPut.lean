/-
  The contracts of the reference's Power, Digits and Put.
-/
import Derived.Test.YtdoelehfeiegeaaAwake
namespace Go.Proofs.Ytdoelehfeiegeaa
open Go.RowKit

set_option maxHeartbeats 400000 in
theorem power_any (w : World) (n : Nat) (hn : n ≤ 24) : Calls Try.prog 27 #[.int .i64 (n : Int)] w fun e w' => e = .returned (.int .i64 ((2 ^ n : Nat) : Int)) ∧ w = w' := by
  go_enter Try.func27, Try.ntmps27
  go_wp2
  go_loop [3, 4] (fun p i => ∃ k : Nat, k ≤ n ∧ p = .int .i64 ((2 ^ k : Nat) : Int) ∧ i = .int .i64 k) (fun _ i => n - (intOf i).toNat)
  case atStart => exact ⟨0, Nat.zero_le _, rfl, rfl⟩
  case round =>
    obtain ⟨k, hk, rfl, rfl⟩ := hrel
    obtain ⟨q, hq⟩ : ∃ q, q = 2 ^ k := ⟨_, rfl⟩
    have hq1 : q ≤ 16777216 := by rw [hq]; exact Nat.le_trans (Nat.pow_le_pow_right (by omega) (show k ≤ 24 by omega)) (by decide)
    rw [← hq]
    have HQ := Lib.hid hq
    clear hq
    by_cases hlt : k < n
    · go_wp2
      go_round
      case rel =>
        refine ⟨k + 1, by omega, ?_, by go_num⟩
        rw [Nat.pow_succ, ← HQ.out]
        congr 1
      case measure => simp [intOf]; omega
    · have ek : k = n := by omega
      have HE := Lib.hid ek
      clear ek
      go_wp2
      go_ret
      obtain rfl := HE.out
      exact ⟨by rw [HQ.out]; simp, rfl⟩

/-- a new block of one number, to be appended to -/
theorem own_one (w : World) (z : Int) : (w.alloc (.cells #[.int .i64 z] 3)).ownsRow w.heap.size 3 1 (.slice (some ⟨w.heap.size, 0, none⟩) 1 1) 1 (cellsI [z]) :=
  ⟨rfl, .inr ⟨w.heap.size, 1, #[.int .i64 z], rfl, Nat.le_refl _, heap_alloc_new w _, Nat.le_refl _, by unfold maxLen; omega, rfl, rfl⟩⟩
/-- the bits of a number, one more -/
theorem dig_step (v k : Nat) : dig v (k + 1) = [((v / 2 ^ k % 2 : Nat) : Int)] ++ dig v k := by
  rw [Nat.add_comm k 1, dig_app v 1 k]
  rfl

set_option maxHeartbeats 1600000 in
theorem digits_any (w : World) (v n : Nat) (hn : n ≤ 24) (hv : v ≤ 4611686018427387904) : Calls Try.prog 28 #[.int .i64 (v : Int), .int .i64 (n : Int)] w fun e w' => ∃ A c, e = .returned (.slice A n c) ∧ Il w' A n c (dig v n) ∧ Below w.heap.size w w' := by
  go_enter Try.func28, Try.ntmps28
  go_wp2
  go_loopw [0, 5, 6] (fun x s i wr => ∃ k A c, k ≤ n ∧ x = .int .i64 ((v / 2 ^ k : Nat) : Int) ∧ s = .slice A k c ∧ i = .int .i64 (k : Nat) ∧ Il wr A k c (dig v k) ∧ Below w.heap.size w wr) (fun _ _ i _ => n - (intOf i).toNat)
  case atStart => exact ⟨0, _, _, Nat.zero_le _, by simp, rfl, rfl, Il.none _, Below.refl _ _⟩
  case round =>
    obtain ⟨k, A, c, hk, rfl, rfl, rfl, hI, hbel⟩ := hrel
    obtain ⟨q, hq⟩ : ∃ q, q = v / 2 ^ k := ⟨_, rfl⟩
    have hq1 : q ≤ v := by rw [hq]; exact Nat.div_le_self _ _
    rw [← hq]
    have HQ := Lib.hid (And.intro hq (And.intro hI hbel))
    clear hq hI hbel
    by_cases hlt : k < n
    · obtain ⟨r, hr⟩ : ∃ r, r = q % 2 := ⟨_, rfl⟩
      have hr1 : (q : Int) % 2 = (r : Int) := by omega
      obtain ⟨h, hh⟩ : ∃ h, h = q / 2 := ⟨_, rfl⟩
      have hh1 : (q : Int) / 2 = (h : Int) := by omega
      have HR := Lib.hid (And.intro hr hh)
      clear hr hh
      go_wp2_with (first
        | (at_builtin; refine wpList_append_il rfl (.tmp 14) (.tmp 15) rfl wr.heap.size (.slice (some ⟨wr.heap.size, 0, none⟩) 1 1) 1 [(r : Int)] rfl (own_one wr r) A k c (dig v k) rfl (HQ.out.2.1.on (on_alloc _ _)) (by omega) (by simp) ?_; intro v3 w3 hown3 b3; obtain ⟨A3, c3, rfl, hs3, _⟩ := il_of_own hown3; have H3 := Lib.hid (And.intro hs3 (on_trans HQ.out.2.2 ((on_alloc wr _).trans b3))); clear hown3 b3 hs3)
        | fail)
      refine ⟨⟨k + 1, A3, c3, by omega, ?_, by rw [Nat.add_comm], by go_num, ?_, H3.out.2⟩, by simp [intOf]; omega⟩
      · rw [HR.out.2, HQ.out.1, Nat.div_div_eq_div_mul, Nat.pow_succ]
      · rw [dig_step, ← HQ.out.1, ← HR.out.1, Nat.add_comm k 1]
        exact H3.out.1
    · have ek : k = n := by omega
      have HE := Lib.hid ek
      clear ek
      go_wp2
      go_ret
      obtain ⟨_, hI, hb⟩ := HQ.out
      rw [← HE.out]
      exact ⟨A, c, rfl, hI, hb⟩

/-- what the reference's Put tells -/
def RefPut (w : World) (A : Option Addr) (L : List Int) (v k : Int) (e : Ending) (w' : World) : Prop :=
  ∃ A' m c', e = .returned (.tuple #[.slice A' m c', .int .i64 (putE v k)]) ∧ Il w' A' m c' (putL L v k) ∧ (A' = A ∨ ∀ b off, A' = some ⟨b, off, none⟩ → w.heap.size ≤ b) ∧ Below w.heap.size w w'

set_option maxHeartbeats 400000 in
theorem refPut_refused (w : World) (A : Option Addr) (n c : Nat) (L : List Int) (v k : Int) (h : Il w A n c L) (hm : ¬ mayPut v k) : Calls Try.prog 12 #[.slice A n c, .int .i64 v, .int .i64 k] w (RefPut w A L v k) := by
  have hE : putE v k = 2 := by rw [putE, if_neg hm]
  have hL : putL L v k = L := by rw [putL, if_neg hm]
  have HH := Lib.hid (And.intro h (And.intro hE hL))
  clear h hE hL
  unfold mayPut at hm
  by_cases h1 : k < 0
  · clear hm
    go_enter Try.func12, Try.ntmps12
    go_wp2
    go_ret2
    exact ⟨A, n, c, by rw [HH.out.2.1]; rfl, by rw [HH.out.2.2]; exact HH.out.1, .inl rfl, Below.refl _ _⟩
  by_cases h2 : 24 < k
  · clear hm
    go_enter Try.func12, Try.ntmps12
    go_wp2
    go_ret2
    exact ⟨A, n, c, by rw [HH.out.2.1]; rfl, by rw [HH.out.2.2]; exact HH.out.1, .inl rfl, Below.refl _ _⟩
  by_cases h3 : v < 0
  · clear hm
    go_enter Try.func12, Try.ntmps12
    go_wp2
    go_ret2
    exact ⟨A, n, c, by rw [HH.out.2.1]; rfl, by rw [HH.out.2.2]; exact HH.out.1, .inl rfl, Below.refl _ _⟩
  have h4 : (2 : Int) ^ k.toNat ≤ v := by omega
  obtain ⟨k, rfl⟩ := Int.eq_ofNat_of_zero_le (show 0 ≤ k by omega)
  obtain ⟨p, hp⟩ : ∃ p : Nat, p = 2 ^ k := ⟨_, rfl⟩
  have hp2 : (2 : Int) ^ k = (p : Int) := by rw [hp]; simp
  rw [Int.toNat_natCast, hp2] at h4
  have HP := Lib.hid hp
  clear hm hp hp2
  go_enter Try.func12, Try.ntmps12
  go_wp2_with fail
  refine (power_any w k (by omega)).mono ?_
  rw [← HP.out]
  rintro e w' ⟨rfl, rfl⟩
  go_wp2
  go_ret2
  exact ⟨A, n, c, by rw [HH.out.2.1]; rfl, by rw [HH.out.2.2]; exact HH.out.1, .inl rfl, Below.refl _ _⟩

set_option maxHeartbeats 800000 in
theorem refPut_done (w : World) (A : Option Addr) (n c x k : Nat) (L : List Int) (h : Il w A n c L) (hn : n ≤ 4000) (hk : k ≤ 24) (hx : x < 2 ^ k) : Calls Try.prog 12 #[.slice A n c, .int .i64 (x : Int), .int .i64 (k : Int)] w (RefPut w A L x k) := by
  have hm : mayPut (x : Int) (k : Int) := by
    refine ⟨by omega, by omega, by omega, ?_⟩
    rw [Int.toNat_natCast]
    have e : ((2 : Int) ^ k) = ((2 ^ k : Nat) : Int) := by simp
    rw [e]
    exact Int.ofNat_lt.2 hx
  have hE : putE (x : Int) (k : Int) = 0 := by rw [putE, if_pos hm]
  have hL : putL L (x : Int) (k : Int) = L ++ dig x k := by rw [putL, if_pos hm, Int.toNat_natCast, Int.toNat_natCast]
  obtain ⟨p, hp⟩ : ∃ p : Nat, p = 2 ^ k := ⟨_, rfl⟩
  have hxp : ¬ (p : Int) ≤ x := by omega
  have hx1 : x ≤ 16777216 := by
    have : 2 ^ k ≤ 16777216 := Nat.le_trans (Nat.pow_le_pow_right (by omega) hk) (by decide)
    omega
  have HH := Lib.hid (And.intro h (And.intro hE (And.intro hL hp)))
  clear h hE hL hp hm hx
  go_enter Try.func12, Try.ntmps12
  go_wp2_with fail
  refine (power_any w k (by omega)).mono ?_
  rw [← HH.out.2.2.2]
  rintro e w' ⟨rfl, rfl⟩
  go_wp2_with (first
    | (at_builtin; refine wpList_append_il rfl (.tmp 25) (.tmp 26) rfl w.heap.size (.slice (some ⟨w.heap.size, 0, none⟩) 0 0) 0 [] rfl (World.ownsRow_made (base := w.heap.size) (e := 3) (size := 1) w #[] 0 (Nat.le_refl _) (Nat.zero_le _) rfl) A n c L rfl (HH.out.1.on (on_alloc _ _)) (by omega) (by simp) ?_; intro v1 w1 hown1 b1; rw [Nat.zero_add, List.nil_append] at hown1; have H1 := Lib.hid (And.intro hown1 ((on_alloc w _).trans b1)); clear hown1 b1)
    | fail)
  refine (digits_any w1 x k hk (by omega)).mono ?_
  rintro e w2 ⟨A2, c2, rfl, hI2, b2⟩
  have hrow : w2.ownsRow w.heap.size 3 1 v1 n (cellsI L) := ownsRow_block H1.out.1 fun g _ _ hb => b2.block g (Array.getElem?_eq_some_iff.1 hb).1
  have H2 := Lib.hid (And.intro hrow (And.intro hI2 (on_trans H1.out.2 b2)))
  clear hrow hI2 b2
  go_wp2_with (first
    | (at_builtin; refine wpList_append_il rfl (.tmp 27) (.tmp 30) rfl w.heap.size v1 n L rfl H2.out.1 A2 k c2 (dig x k) rfl H2.out.2.1 (by omega) H2.out.2.2.size ?_; intro v3 w3 hown3 b3; obtain ⟨A3, c3, rfl, hs3, hA3⟩ := il_of_own hown3; have H3 := Lib.hid (And.intro hs3 (And.intro hA3 (H2.out.2.2.trans b3))); clear hown3 b3 hs3 hA3)
    | fail)
  go_ret2
  exact ⟨A3, n + k, c3, by rw [HH.out.2.1]; rfl, by rw [HH.out.2.2.1]; exact H3.out.1, .inr H3.out.2.1, H3.out.2.2⟩

theorem refPut_any (w : World) (A : Option Addr) (n c : Nat) (L : List Int) (v k : Int) (h : Il w A n c L) (hn : n ≤ 4000) : Calls Try.prog 12 #[.slice A n c, .int .i64 v, .int .i64 k] w (RefPut w A L v k) := by
  by_cases hm : mayPut v k
  · obtain ⟨m0, m1, m2, m3⟩ := hm
    obtain ⟨x, rfl⟩ := Int.eq_ofNat_of_zero_le m2
    obtain ⟨k, rfl⟩ := Int.eq_ofNat_of_zero_le m0
    rw [Int.toNat_natCast] at m3
    have e : ((2 : Int) ^ k) = ((2 ^ k : Nat) : Int) := by simp
    rw [e] at m3
    exact refPut_done w A n c x k L h hn (by omega) (Int.ofNat_lt.1 m3)
  · exact refPut_refused w A n c L v k h hm
end Go.Proofs.Ytdoelehfeiegeaa
