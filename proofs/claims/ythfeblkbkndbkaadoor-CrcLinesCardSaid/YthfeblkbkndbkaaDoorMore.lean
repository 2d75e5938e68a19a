/-
  The contracts of More and of the reference's Sum.
-/
import Derived.Test.YthfeblkbkndbkaaDoorBase
import Derived.Test.YthfeblkbkndbkaaDoorSumMath
namespace Go.Proofs.YthfeblkbkndbkaaDoor
open Go.RowKit

/-- what a table of 16 holds -/
theorem outs_nibble (x : Nat) : outs 4 x = x / 16 ^^^ outs 4 (x % 16) := by
  have e : x = (x % 16) ^^^ (x / 16 * 2 ^ 4) := by
    refine Nat.eq_of_testBit_eq fun i => ?_
    rw [Nat.testBit_xor]
    have h3 : (x % 16).testBit i = (decide (i < 4) && x.testBit i) := Nat.testBit_mod_two_pow x 4 i
    rw [h3, Nat.testBit_mul_two_pow]
    have h4 : (x / 16).testBit (i - 4) = x.testBit (4 + (i - 4)) := by
      have := Nat.testBit_div_two_pow x (n := 4) (i - 4)
      simpa [Nat.add_comm] using this
    rw [h4]
    by_cases hi : i < 4
    · simp [hi, show ¬ 4 ≤ i by omega]
    · simp [hi, show 4 ≤ i by omega, show 4 + (i - 4) = i by omega]
  rw [show outs 4 x = outs 4 ((x % 16) ^^^ (x / 16 * 2 ^ 4)) by rw [← e], outs_xor, outs_shift, Nat.xor_comm]

/-- the table lies in the program's memory as its text lays it -/
def Tab (w : World) : Prop := ∀ i, i < 16 → w.cell? ⟨0, i, none⟩ = some (.int .u32 ((outs 4 i : Nat) : Int))

theorem and15 (y : Nat) (h : y < 4294967296) : bits .and .u32 (y : Int) 15 = ((y % 16 : Nat) : Int) := by
  have := u32_and_nat y 15 h (by decide)
  rw [show y &&& 15 = y % 16 from Nat.and_two_pow_sub_one_eq_mod y 4] at this
  exact this
theorem flip32 (s : Nat) (h : s < 4294967296) : bits .xor .u32 IntKind.u32.max (s : Int) = ((s ^^^ 4294967295 : Nat) : Int) := by
  have := u32_xor_nat 4294967295 s (by decide) h
  rw [Nat.xor_comm] at this
  exact this
theorem reg_more (r : Nat) (l : List Int) (k : Nat) (h : k < l.length) : reg r (l.take (k + 1)) = outs 8 (reg r (l.take k) ^^^ (l.getD k 0).toNat) := by
  rw [take_more l k h, reg_append]; rfl
theorem Fit.toNat {l : List Int} (h : Fit l) : ∀ b ∈ l, b.toNat < 256 := fun b hb => by have := h b hb; omega

theorem ret_num {k : IntKind} {a b : Int} (h : a = b) : Ending.returned (.int k a) = .returned (.int k b) := by rw [h]

set_option maxHeartbeats 400000 in
theorem more_any (w : World) (K : Nat → Prop) (A : Option Addr) (n c : Nat) (l : List Int) (s : Nat) (hT : Tab w) (h : Sl w K A n c l) (hs : s < 4294967296) :
    Calls Tryd.prog 13 #[.int .u32 (s : Int), .slice A n c] w fun e w' => e = .returned (.int .u32 ((reg (s ^^^ 4294967295) l ^^^ 4294967295 : Nat) : Int)) ∧ w = w' := by
  have HT := Lib.hid hT
  have H := Lib.hid h
  have HLEN := Lib.hid h.len
  have hn : n ≤ 9223372036854775807 := by have := h.cap; have := h.max; unfold maxLen at this; omega
  obtain ⟨r, hr⟩ : ∃ r, r = s ^^^ 4294967295 := ⟨_, rfl⟩
  have hr2 : r < 4294967296 := by rw [hr]; exact Nat.xor_lt_two_pow (n := 32) hs (by decide)
  have hf := flip32 s hs
  rw [← hr] at hf ⊢
  have HR := Lib.hid hr
  clear hT h hr
  go_enter Tryd.func13, Tryd.ntmps13
  go_wp2
  go_loop [5, 12] (fun v i => ∃ k : Nat, k ≤ n ∧ i = .int .i64 k ∧ v = .int .u32 ((reg r (l.take k) : Nat) : Int)) (fun _ i => n - (intOf i).toNat)
  case atStart => exact ⟨0, Nat.zero_le _, rfl, rfl⟩
  case round =>
    obtain ⟨k, hk, rfl, rfl⟩ := hrel
    obtain ⟨y, hy⟩ : ∃ y, y = reg r (l.take k) := ⟨_, rfl⟩
    have hy2 : y < 4294967296 := by rw [hy]; exact reg_lt hr2 (H.out.bts.fit.take k).toNat
    rw [← hy]
    by_cases hlt : k < n
    · obtain ⟨b, off, rfl, hcell⟩ : ∃ b off, A = some ⟨b, off, none⟩ ∧ w.cell? ⟨b, off + k, none⟩ = some (.int .u8 (l.getD k 0)) := by
        obtain ⟨b, off, e, hb, _, hc⟩ := H.out.bts.at_ (by rw [HLEN.out]; omega)
        exact ⟨b, off, e, hc _ (by rw [HLEN.out]; omega)⟩
      obtain ⟨z, hz⟩ : ∃ z : Nat, (z : Int) = l.getD k 0 := ⟨(l.getD k 0).toNat, by have := H.out.bts.fit.getD k; omega⟩
      have hz2 : z < 256 := by have := H.out.bts.fit.getD k; omega
      rw [← hz] at hcell
      obtain ⟨x, hx⟩ : ∃ x, x = y ^^^ z := ⟨_, rfl⟩
      have hx2 : x < 4294967296 := by rw [hx]; exact Nat.xor_lt_two_pow (n := 32) hy2 (by omega)
      have hxx := u32_xor_nat y z hy2 (by omega)
      rw [← hx] at hxx
      have HX := Lib.hid (And.intro hx (And.intro hy hz))
      clear hx hy hz
      go_wp2
      go_loop [5, 20] (fun v j => ∃ m : Nat, m ≤ 2 ∧ j = .int .i64 m ∧ v = .int .u32 ((outs (4 * m) x : Nat) : Int)) (fun _ i => 2 - (intOf i).toNat)
      case atStart => exact ⟨0, Nat.zero_le _, rfl, rfl⟩
      case round =>
        obtain ⟨m, hm, rfl, rfl⟩ := hrel
        obtain ⟨u, hu⟩ : ∃ u, u = outs (4 * m) x := ⟨_, rfl⟩
        have hu2 : u < 4294967296 := by rw [hu]; exact outs_lt _ hx2
        rw [← hu]
        have HU := Lib.hid hu
        clear hu
        by_cases hlt2 : m < 2
        · have ha := and15 u hu2
          have hc2 := HT.out (u % 16) (by omega)
          have hi2 : u % 16 < 16 := by omega
          have HE := Lib.hid (outs_nibble u)
          have HV := Lib.hid (u32_xor_nat (u / 16) (outs 4 (u % 16)) (by omega) (outs_lt _ (by omega)))
          go_wp2
          go_round
          case rel =>
            refine ⟨m + 1, by omega, by go_num, ?_⟩
            rw [Nat.mul_succ, outs_add, ← HU.out, HE.out, ← HV.out]
            rfl
          case measure => simp [intOf]; omega
        · have em : m = 2 := by omega
          have EM := Lib.hid em
          clear em
          go_wp2
          go_round
          case rel =>
            refine ⟨k + 1, by omega, by go_num, ?_⟩
            rw [reg_more r l k (by rw [HLEN.out]; exact hlt), ← HX.out.2.1, ← HX.out.2.2, Int.toNat_natCast, ← HX.out.1, HU.out, EM.out]
          case measure => simp [intOf]; omega
    · have ek : k = l.length := by rw [HLEN.out]; omega
      have hf2 := flip32 y hy2
      have HY := Lib.hid (And.intro hy ek)
      clear hy ek
      go_wp2
      go_ret
      exact ⟨ret_num (by rw [HY.out.1, HY.out.2, List.take_length]), rfl⟩

theorem outs_one (k x : Nat) : outs (k + 1) x = out (outs k x) := by rw [outs_add]; rfl

set_option maxHeartbeats 400000 in
theorem refSum_any (w : World) (K : Nat → Prop) (A : Option Addr) (n c : Nat) (l : List Int) (h : Sl w K A n c l) :
    Calls Tryd.prog 11 #[.slice A n c] w fun e w' => e = .returned (.int .u32 ((sum l : Nat) : Int)) ∧ w = w' := by
  have H := Lib.hid h
  have HLEN := Lib.hid h.len
  have hn : n ≤ 9223372036854775807 := by have := h.cap; have := h.max; unfold maxLen at this; omega
  clear h
  go_enter Tryd.func11, Tryd.ntmps11
  go_wp2
  go_loop [3, 4] (fun v i => ∃ k : Nat, k ≤ n ∧ i = .int .i64 k ∧ v = .int .u32 ((reg 4294967295 (l.take k) : Nat) : Int)) (fun _ i => n - (intOf i).toNat)
  case atStart => exact ⟨0, Nat.zero_le _, rfl, rfl⟩
  case round =>
    obtain ⟨k, hk, rfl, rfl⟩ := hrel
    obtain ⟨y, hy⟩ : ∃ y, y = reg 4294967295 (l.take k) := ⟨_, rfl⟩
    have hy2 : y < 4294967296 := by rw [hy]; exact reg_lt (by decide) (H.out.bts.fit.take k).toNat
    rw [← hy]
    by_cases hlt : k < n
    · obtain ⟨b, off, rfl, hcell⟩ : ∃ b off, A = some ⟨b, off, none⟩ ∧ w.cell? ⟨b, off + k, none⟩ = some (.int .u8 (l.getD k 0)) := by
        obtain ⟨b, off, e, hb, _, hc⟩ := H.out.bts.at_ (by rw [HLEN.out]; omega)
        exact ⟨b, off, e, hc _ (by rw [HLEN.out]; omega)⟩
      obtain ⟨z, hz⟩ : ∃ z : Nat, (z : Int) = l.getD k 0 := ⟨(l.getD k 0).toNat, by have := H.out.bts.fit.getD k; omega⟩
      have hz2 : z < 256 := by have := H.out.bts.fit.getD k; omega
      rw [← hz] at hcell
      obtain ⟨x, hx⟩ : ∃ x, x = y ^^^ z := ⟨_, rfl⟩
      have hx2 : x < 4294967296 := by rw [hx]; exact Nat.xor_lt_two_pow (n := 32) hy2 (by omega)
      have hxx := u32_xor_nat y z hy2 (by omega)
      rw [← hx] at hxx
      have HX := Lib.hid (And.intro hx (And.intro hy hz))
      clear hx hy hz
      go_wp2
      go_loop [3, 5] (fun v j => ∃ m : Nat, m ≤ 8 ∧ j = .int .i64 m ∧ v = .int .u32 ((outs m x : Nat) : Int)) (fun _ i => 8 - (intOf i).toNat)
      case atStart => exact ⟨0, Nat.zero_le _, rfl, rfl⟩
      case round =>
        obtain ⟨m, hm, rfl, rfl⟩ := hrel
        obtain ⟨u, hu⟩ : ∃ u, u = outs m x := ⟨_, rfl⟩
        have hu2 : u < 4294967296 := by rw [hu]; exact outs_lt _ hx2
        rw [← hu]
        have HU := Lib.hid hu
        clear hu
        by_cases hlt2 : m < 8
        · by_cases hb : u % 2 = 1
          · have hb1 : ((u : Int) % 2) = 1 := by omega
            have HV := Lib.hid (u32_xor_nat (u / 2) poly (by omega) (by decide))
            have HB := Lib.hid hb
            clear hb
            go_wp2
            go_round
            case rel =>
              refine ⟨m + 1, by omega, by go_num, ?_⟩
              rw [outs_one, ← HU.out, out, if_pos HB.out, ← HV.out]
              rfl
            case measure => simp [intOf]; omega
          · have hb1 : ((u : Int) % 2 == 1) = false := by simp; omega
            have HB := Lib.hid hb
            clear hb
            go_wp2
            go_round
            case rel =>
              refine ⟨m + 1, by omega, by go_num, ?_⟩
              rw [outs_one, ← HU.out, out, if_neg HB.out]
              rfl
            case measure => simp [intOf]; omega
        · have em : m = 8 := by omega
          have EM := Lib.hid em
          clear em
          go_wp2
          go_round
          case rel =>
            refine ⟨k + 1, by omega, by go_num, ?_⟩
            rw [reg_more _ l k (by rw [HLEN.out]; exact hlt), ← HX.out.2.1, ← HX.out.2.2, Int.toNat_natCast, ← HX.out.1, HU.out, EM.out]
          case measure => simp [intOf]; omega
    · have ek : k = l.length := by rw [HLEN.out]; omega
      have HF := Lib.hid (u32_xor_nat y 4294967295 hy2 (by decide))
      have HY := Lib.hid (And.intro hy ek)
      clear hy ek
      go_wp2
      go_ret
      refine ⟨ret_num ?_, rfl⟩
      have e := HF.out
      unfold sum
      rw [HY.out.1, HY.out.2, List.take_length] at e ⊢
      exact e

end Go.Proofs.YthfeblkbkndbkaaDoor
