/-
  The contracts of layer 1's small calls. The contracts of layer 1's small calls: Fail, At, Left, next. Numbers as bytes: plain mathematics, no program. The contract of layer 1's number.
-/
import Derived.Test.YtgipngedmblnmaaDoorBase
import Derived.Defers
import Derived.Recover
import Derived.WalkKit
namespace Go.Proofs.YtgipngedmblnmaaDoor
open Go.RowKit

set_option maxHeartbeats 400000 in
theorem isSize_any (n : Int) (w : World) : Calls Tryd.prog 50 #[.int .i64 n] w fun e w' => e = .returned (.bool (decide (n = 1 ∨ n = 2 ∨ n = 4 ∨ n = 8))) ∧ w = w' := by
  by_cases h1 : n = 1
  · subst h1
    go_enter Tryd.func50, Tryd.ntmps50
    go_wp2
    go_ret
    exact ⟨rfl, rfl⟩
  · by_cases h2 : n = 2
    · subst h2
      go_enter Tryd.func50, Tryd.ntmps50
      go_wp2
      go_ret
      exact ⟨rfl, rfl⟩
    · by_cases h4 : n = 4
      · subst h4
        go_enter Tryd.func50, Tryd.ntmps50
        go_wp2
        go_ret
        exact ⟨rfl, rfl⟩
      · by_cases h8 : n = 8
        · subst h8
          go_enter Tryd.func50, Tryd.ntmps50
          go_wp2
          go_ret
          exact ⟨rfl, rfl⟩
        · have b1 : (n == 1) = false := by simpa using h1
          have b2 : (n == 2) = false := by simpa using h2
          have b4 : (n == 4) = false := by simpa using h4
          have b8 : (n == 8) = false := by simpa using h8
          go_enter Tryd.func50, Tryd.ntmps50
          go_wp2
          go_ret
          exact ⟨by simp [h1, h2, h4, h8], rfl⟩

set_option maxHeartbeats 400000 in
theorem reads_nil (w : World) : Calls Tryd.prog 56 #[.pointer none] w fun e w' => e = .returned (.bool false) ∧ w = w' := by
  go_enter Tryd.func56, Tryd.ntmps56
  go_wp2
  go_ret
  exact ⟨rfl, rfl⟩

set_option maxHeartbeats 400000 in
theorem reads_is (g s : Nat) (o : Bool) (w : World) (c0 : w.cell? ⟨g, 0, none⟩ = some (.pointer (some ⟨s, 0, none⟩))) (c2 : w.cell? ⟨s, 2, none⟩ = some (.bool o)) :
    Calls Tryd.prog 56 #[.pointer (some ⟨g, 0, none⟩)] w fun e w' => e = .returned (.bool o) ∧ w = w' := by
  go_enter Tryd.func56, Tryd.ntmps56
  go_wp2
  go_ret
  exact ⟨rfl, rfl⟩

end Go.Proofs.YtgipngedmblnmaaDoor

namespace Go.Proofs.YtgipngedmblnmaaDoor
open Go.RowKit

/-- what a cursor gives up with -/
def gaveUp (s : Nat) (e : Int) : List PanicEntry := [{ v := .iface 95 (.agg #[.pointer (some ⟨s, 0, none⟩), .int .i64 e]), recovered := false }]

/-- a cursor that reads: its own two cells, and its source's three -/
structure Cur (w : World) (g s : Nat) (A : Option Addr) (n c : Nat) (big : Bool) (at_ : Nat) : Prop where
  own : Box w g 98 #[.pointer (some ⟨s, 0, none⟩), .int .i64 at_]
  src : Box w s 93 #[.slice A n c, .bool big, .bool true]

section
variable {w : World} {g s : Nat} {A : Option Addr} {n c : Nat} {big : Bool} {at_ : Nat}
theorem Cur.c0 (h : Cur w g s A n c big at_) : w.cell? ⟨g, 0, none⟩ = some (.pointer (some ⟨s, 0, none⟩)) := h.own.cell 0
theorem Cur.c1 (h : Cur w g s A n c big at_) : w.cell? ⟨g, 1, none⟩ = some (.int .i64 at_) := h.own.cell 1
theorem Cur.s0 (h : Cur w g s A n c big at_) : w.cell? ⟨s, 0, none⟩ = some (.slice A n c) := h.src.cell 0
theorem Cur.s1 (h : Cur w g s A n c big at_) : w.cell? ⟨s, 1, none⟩ = some (.bool big) := h.src.cell 1
theorem Cur.s2 (h : Cur w g s A n c big at_) : w.cell? ⟨s, 2, none⟩ = some (.bool true) := h.src.cell 2
theorem Cur.drewN (h : Cur w g s A n c big at_) (k : Nat) : Cur (w.drewN k) g s A n c big at_ := ⟨h.own, h.src⟩
theorem Cur.ne (h : Cur w g s A n c big at_) : g ≠ s := h.own.apart h.src (by decide)
theorem Cur.moved (h : Cur w g s A n c big at_) (k : Nat) : Cur (w.setCell ⟨g, 1, none⟩ (.int .i64 k)) g s A n c big k :=
  ⟨by simpa using h.own.put 1 (.int .i64 k), h.src.beside (p := ⟨g, 1, none⟩) (fun e => h.ne e.symm) _⟩
end

set_option maxHeartbeats 400000 in
theorem fail_up (w : World) (g s : Nat) (A : Option Addr) (n c : Nat) (big : Bool) (at_ : Nat) (e : Int) (h : Cur w g s A n c big at_) (he : (e != 0) = true) :
    Calls Tryd.prog 55 #[.pointer (some ⟨g, 0, none⟩), .int .i64 e] w fun r w' => r = .panicked (gaveUp s e) ∧ w = w' := by
  have c0 := h.c0
  have s2 := h.s2
  clear h
  go_enter Tryd.func55, Tryd.ntmps55
  go_wp2_with (go_at_call 56; refine (reads_is g s true _ c0 s2).mono ?_; rintro r w' ⟨rfl, rfl⟩)
  exact ⟨rfl, rfl, rfl⟩

set_option maxHeartbeats 400000 in
theorem fail_ok (w : World) (g s : Nat) (A : Option Addr) (n c : Nat) (big : Bool) (at_ : Nat) (h : Cur w g s A n c big at_) :
    Calls Tryd.prog 55 #[.pointer (some ⟨g, 0, none⟩), .int .i64 0] w fun r w' => r = .returned (.tuple #[]) ∧ w = w' := by
  have c0 := h.c0
  have s2 := h.s2
  clear h
  go_enter Tryd.func55, Tryd.ntmps55
  go_wp2_with (go_at_call 56; refine (reads_is g s true _ c0 s2).mono ?_; rintro r w' ⟨rfl, rfl⟩)
  go_end0
  exact ⟨rfl, rfl⟩

theorem ret_num {k : IntKind} {a b : Int} (h : a = b) : Ending.returned (.int k a) = .returned (.int k b) := by rw [h]

set_option maxHeartbeats 400000 in
theorem left_is (w : World) (g s : Nat) (A : Option Addr) (n c : Nat) (big : Bool) (at_ : Nat) (h : Cur w g s A n c big at_) (hat : at_ ≤ n) (hn : n ≤ 9223372036854775807) :
    Calls Tryd.prog 70 #[.pointer (some ⟨g, 0, none⟩)] w fun r w' => r = .returned (.int .i64 ((n - at_ : Nat) : Int)) ∧ ∃ k, w' = w.drewN k := by
  have c0 := h.c0
  have c1 := h.c1
  have s0 := h.s0
  have s2 := h.s2
  clear h
  go_enter Tryd.func70, Tryd.ntmps70
  go_wp2_with (go_at_call 56; refine (reads_is g s true _ c0 s2).mono ?_; rintro r w' ⟨rfl, rfl⟩)
  go_quiet (fail)
  go_wp2
  go_ret
  exact ⟨ret_num (by omega), ⟨_, rfl⟩⟩

set_option maxHeartbeats 400000 in
theorem at_is (w : World) (g s : Nat) (A : Option Addr) (n c : Nat) (big : Bool) (at_ : Nat) (h : Cur w g s A n c big at_) :
    Calls Tryd.prog 63 #[.pointer (some ⟨g, 0, none⟩)] w fun r w' => r = .returned (.int .i64 (at_ : Int)) ∧ w = w' := by
  have c0 := h.c0
  have c1 := h.c1
  have s2 := h.s2
  clear h
  go_enter Tryd.func63, Tryd.ntmps63
  go_wp2_with (go_at_call 56; refine (reads_is g s true _ c0 s2).mono ?_; rintro r w' ⟨rfl, rfl⟩)
  go_ret
  exact ⟨rfl, rfl⟩

set_option maxHeartbeats 400000 in
theorem next_up (w : World) (g s : Nat) (A : Option Addr) (n c : Nat) (big : Bool) (at_ : Nat) (m : Int) (h : Cur w g s A n c big at_) (hat : at_ ≤ n) (hn : n ≤ 9223372036854775807)
    (hm : ((n - at_ : Nat) : Int) < m) :
    Calls Tryd.prog 58 #[.pointer (some ⟨g, 0, none⟩), .int .i64 m] w fun r w' => r = .panicked (gaveUp s 3) ∧ ∃ k, w' = w.drewN k := by
  go_enter Tryd.func58, Tryd.ntmps58
  go_wp2_with (first
    | (go_at_call 70; refine (left_is _ g s A n c big at_ h hat hn).mono ?_; rintro r w' ⟨rfl, k, rfl⟩; have h2 := h.drewN k; clear h)
    | (go_at_call 55; refine (fail_up _ g s A n c big at_ _ h2 (by decide)).mono ?_; rintro r w' ⟨rfl, rfl⟩))
  exact ⟨rfl, rfl, ⟨_, rfl⟩⟩

set_option maxHeartbeats 400000 in
theorem next_is (w : World) (g s : Nat) (A : Option Addr) (n c : Nat) (big : Bool) (at_ : Nat) (m : Nat) (h : Cur w g s A n c big at_) (hat : at_ + m ≤ n) (hc : n ≤ c) (hn : c ≤ 9223372036854775807) :
    Calls Tryd.prog 58 #[.pointer (some ⟨g, 0, none⟩), .int .i64 m] w fun r w' => r = .returned (.slice (cutAt A c at_) m (c - at_)) ∧ ∃ k, w' = w.drewN k := by
  have hlt : ¬ (((n - at_ : Nat) : Int) < (m : Int)) := by omega
  have H := Lib.hid h
  have c0 := h.c0
  have c1 := h.c1
  have s0 := h.s0
  clear h
  go_enter Tryd.func58, Tryd.ntmps58
  go_wp2_with (go_at_call 70; refine (left_is _ g s A n c big at_ H.out (by omega) (by omega)).mono ?_; rintro r w' ⟨rfl, k, rfl⟩)
  go_quiet (fail)
  go_wp2
  all_goals
    go_ret
    exact ⟨by simp_all [cutAt], ⟨_, rfl⟩⟩

end Go.Proofs.YtgipngedmblnmaaDoor

namespace Go.Proofs.YtgipngedmblnmaaDoor
open Go.RowKit

/-- the number of bytes, the least one first -/
def le : List Int → Int
  | [] => 0
  | z :: r => z + 256 * le r

/-- the number of bytes, the greatest one first, behind a number -/
def beOn (a : Int) : List Int → Int
  | [] => a
  | z :: r => beOn (a * 256 + z) r
def be (l : List Int) : Int := beOn 0 l

theorem le_app (l : List Int) (z : Int) : le (l ++ [z]) = le l + z * (256 : Int) ^ l.length := by
  induction l with
  | nil => simp [le]
  | cons x r ih =>
    simp only [List.cons_append, le, ih, List.length_cons, Int.pow_succ, Int.mul_add]
    have : 256 * (z * (256 : Int) ^ r.length) = z * ((256 : Int) ^ r.length * 256) := by
      rw [Int.mul_comm 256 (z * _), Int.mul_assoc]
    omega
theorem beOn_app (l : List Int) (z : Int) : ∀ a, beOn a (l ++ [z]) = beOn a l * 256 + z := by
  induction l with
  | nil => intro a; simp [beOn]
  | cons x r ih => intro a; simp [beOn, ih]
theorem be_app (l : List Int) (z : Int) : be (l ++ [z]) = be l * 256 + z := beOn_app l z 0

theorem le_bounds (l : List Int) (h : Fit l) : 0 ≤ le l ∧ le l < (256 : Int) ^ l.length := by
  induction l with
  | nil => simp [le]
  | cons x r ih =>
    have hx := h x (by simp)
    have hr := ih (fun z hz => h z (by simp [hz]))
    simp only [le, List.length_cons, Int.pow_succ]
    omega
theorem be_rev (l : List Int) : be l.reverse = le l := by
  induction l with
  | nil => rfl
  | cons x r ih => rw [List.reverse_cons, be_app, ih]; simp only [le]; omega
theorem be_is (l : List Int) : be l = le l.reverse := by
  have := be_rev l.reverse
  rwa [List.reverse_reverse] at this
theorem be_bounds (l : List Int) (h : Fit l) : 0 ≤ be l ∧ be l < (256 : Int) ^ l.length := by
  rw [be_is]
  have := le_bounds l.reverse h.rev
  rwa [List.length_reverse] at this

/-- the number that bytes are told as -/
def val (big : Bool) (l : List Int) : Int := if big then be l else le l
theorem val_bounds (big : Bool) (l : List Int) (h : Fit l) : 0 ≤ val big l ∧ val big l < (256 : Int) ^ l.length := by
  unfold val
  split
  · exact be_bounds l h
  · exact le_bounds l h

/-- bits that lie apart are added -/
theorem or_apart (x y s : Nat) (h : y < 2 ^ s) : (x * 2 ^ s) ||| y = x * 2 ^ s + y := by
  rw [← Nat.shiftLeft_eq, Nat.shiftLeft_add_eq_or_of_lt h]

theorem pow_256 (k : Nat) : (256 : Int) ^ k = 2 ^ (8 * k) := by
  rw [Int.pow_mul]; rfl
theorem pow_256n (k : Nat) : (256 : Nat) ^ k = 2 ^ (8 * k) := by
  rw [Nat.pow_mul]

theorem pow_le_u64 (k : Nat) (h : k ≤ 8) : (2 : Nat) ^ (8 * k) ≤ 18446744073709551616 := by
  have : (2 : Nat) ^ (8 * k) ≤ 2 ^ 64 := Nat.pow_le_pow_right (by omega) (by omega)
  simpa using this

/-- one byte more, the least one first -/
theorem or_little (v z : Int) (k : Nat) (hk : k < 8) (v0 : 0 ≤ v) (v1 : v < (256 : Int) ^ k) (z0 : 0 ≤ z) (z1 : z ≤ 255) :
    bits .or .u64 v (IntKind.u64.wrap (z * 2 ^ (8 * k))) = v + z * (256 : Int) ^ k := by
  obtain ⟨a, rfl⟩ := Int.eq_ofNat_of_zero_le v0
  obtain ⟨b, rfl⟩ := Int.eq_ofNat_of_zero_le z0
  have hp : ((256 : Int) ^ k) = ((256 ^ k : Nat) : Int) := by simp
  have hq : ((2 : Int) ^ (8 * k)) = ((2 ^ (8 * k) : Nat) : Int) := by simp
  have hb : b * 2 ^ (8 * k) < 2 ^ (8 * (k + 1)) := by
    have : 2 ^ (8 * (k + 1)) = 256 * 2 ^ (8 * k) := by rw [← pow_256n, ← pow_256n, Nat.pow_succ, Nat.mul_comm]
    rw [this]
    exact Nat.mul_lt_mul_of_pos_right (by omega) (Nat.two_pow_pos _)
  have hu := pow_le_u64 (k + 1) (by omega)
  have hu' := pow_le_u64 k (by omega)
  rw [hp] at v1 ⊢
  rw [pow_256n] at v1 ⊢
  have ha : a < 2 ^ (8 * k) := by omega
  rw [IntKind.wrap_u64, hq, show ((b : Nat) : Int) * ((2 ^ (8 * k) : Nat) : Int) = ((b * 2 ^ (8 * k) : Nat) : Int) from by simp]
  rw [Int.emod_eq_of_lt (by omega) (by omega)]
  rw [u64_or_nat _ _ (by omega) (by omega), Nat.or_comm, or_apart _ _ _ ha]
  omega

/-- one byte more, the greatest one first -/
theorem or_big (x z : Int) (j m : Nat) (hj : m < 8) (hjm : j + m < 8) (x0 : 0 ≤ x) (x1 : x < (256 : Int) ^ j) (z0 : 0 ≤ z) (z1 : z ≤ 255) :
    bits .or .u64 (x * (256 : Int) ^ (m + 1)) (IntKind.u64.wrap (z * 2 ^ (8 * m))) = (x * 256 + z) * (256 : Int) ^ m := by
  obtain ⟨a, rfl⟩ := Int.eq_ofNat_of_zero_le x0
  obtain ⟨b, rfl⟩ := Int.eq_ofNat_of_zero_le z0
  have hp : ∀ k : Nat, ((256 : Int) ^ k) = ((2 ^ (8 * k) : Nat) : Int) := fun k => by rw [pow_256]; simp
  have hq : ((2 : Int) ^ (8 * m)) = ((2 ^ (8 * m) : Nat) : Int) := by simp
  have hm1 : 2 ^ (8 * (m + 1)) = 256 * 2 ^ (8 * m) := by rw [← pow_256n, ← pow_256n, Nat.pow_succ, Nat.mul_comm]
  have hb : b * 2 ^ (8 * m) < 2 ^ (8 * (m + 1)) := by
    rw [hm1]
    exact Nat.mul_lt_mul_of_pos_right (by omega) (Nat.two_pow_pos _)
  have hu := pow_le_u64 (m + 1) (by omega)
  rw [hp] at x1
  have ha : a < 2 ^ (8 * j) := by omega
  have hA : a * 2 ^ (8 * (m + 1)) < 18446744073709551616 := by
    have h1 : a * 2 ^ (8 * (m + 1)) < 2 ^ (8 * j) * 2 ^ (8 * (m + 1)) := Nat.mul_lt_mul_of_pos_right ha (Nat.two_pow_pos _)
    rw [← Nat.pow_add, ← Nat.mul_add] at h1
    have h2 := pow_le_u64 (j + (m + 1)) (by omega)
    omega
  rw [IntKind.wrap_u64, hq, show ((b : Nat) : Int) * ((2 ^ (8 * m) : Nat) : Int) = ((b * 2 ^ (8 * m) : Nat) : Int) from by simp]
  rw [Int.emod_eq_of_lt (by omega) (by omega), hp, hp]
  rw [show ((a : Nat) : Int) * ((2 ^ (8 * (m + 1)) : Nat) : Int) = ((a * 2 ^ (8 * (m + 1)) : Nat) : Int) from by simp]
  rw [u64_or_nat _ _ hA (by omega), or_apart _ _ _ hb, hm1]
  simp only [Int.natCast_add, Int.natCast_mul, Int.add_mul, Int.mul_assoc]
  rfl

end Go.Proofs.YtgipngedmblnmaaDoor

namespace Go.Proofs.YtgipngedmblnmaaDoor
open Go.RowKit

set_option maxHeartbeats 400000 in
theorem shift_big (i m : Int) (w : World) (h0 : 0 ≤ i) (h1 : i < m) (h2 : m ≤ 8) : Calls Tryd.prog 51 #[.int .i64 i, .int .i64 m, .bool true] w fun r w' => r = .returned (.int .i64 (8 * (m - 1 - i))) ∧ w = w' := by
  go_enter Tryd.func51, Tryd.ntmps51
  go_wp2
  go_ret
  exact ⟨rfl, rfl⟩

set_option maxHeartbeats 400000 in
theorem shift_little (i m : Int) (w : World) (h0 : 0 ≤ i) (h1 : i < m) (h2 : m ≤ 8) : Calls Tryd.prog 51 #[.int .i64 i, .int .i64 m, .bool false] w fun r w' => r = .returned (.int .i64 (8 * i)) ∧ w = w' := by
  go_enter Tryd.func51, Tryd.ntmps51
  go_wp2
  go_ret
  exact ⟨rfl, rfl⟩

set_option maxHeartbeats 400000 in
theorem number_little (b off c : Nat) (l : List Int) (w : World) (hm : l.length ≤ 8) (hf : Fit l) (hc : ∀ i, i < l.length → w.cell? ⟨b, off + i, none⟩ = some (.int .u8 (l.getD i 0))) :
    Calls Tryd.prog 57 #[.slice (some ⟨b, off, none⟩) l.length c, .bool false] w fun r w' => r = .returned (.int .u64 (le l)) ∧ w = w' := by
  obtain ⟨m, em⟩ : ∃ m, m = l.length := ⟨_, rfl⟩
  rw [← em] at hm hc ⊢
  have EM := Lib.hid em
  clear em
  go_enter Tryd.func57, Tryd.ntmps57
  go_wp2
  go_loop [5, 10] (fun v i => ∃ k : Nat, k ≤ m ∧ i = .int .i64 k ∧ v = .int .u64 (le (l.take k))) (fun _ i => m - (intOf i).toNat)
  case atStart => exact ⟨0, Nat.zero_le _, rfl, rfl⟩
  case round =>
    obtain ⟨k, hk, rfl, rfl⟩ := hrel
    by_cases hlt : k < m
    · have hcell := hc k hlt
      have HB := Lib.hid (hf.getD k)
      have HN := Lib.hid (le_bounds _ (hf.take k))
      have hl : k < l.length := by have := EM.out; omega
      have HS := Lib.hid (or_little _ (l.getD k 0) k (by omega) HN.out.1 (by have := HN.out.2; rwa [List.length_take, Nat.min_eq_left (by omega)] at this) HB.out.1 HB.out.2)
      have HT := Lib.hid (le_app (l.take k) (l.getD k 0))
      have HU := Lib.hid (take_more l k hl)
      obtain ⟨z, hz⟩ : ∃ z, z = l.getD k 0 := ⟨_, rfl⟩
      have HB' := HB.out
      rw [← hz] at hcell HB'
      have HZ := Lib.hid hz
      clear hz hf hc HB HN hl
      go_wp2_with (go_at_call 51; refine (shift_little _ _ _ (by omega) (by omega) (by omega)).mono ?_; rintro r w' ⟨rfl, rfl⟩)
      go_round
      case rel =>
        refine ⟨k + 1, by omega, by go_num, ?_⟩
        have e := EM.out
        rw [HU.out, HT.out, HZ.out, HS.out, List.length_take, Nat.min_eq_left (by omega)]
      case measure => simp [intOf]; omega
    · have e := EM.out
      have ek : k = l.length := by omega
      have EK := Lib.hid ek
      clear ek e
      go_wp2
      go_ret
      exact ⟨ret_num (by rw [EK.out, List.take_length]), rfl⟩

set_option maxHeartbeats 400000 in
theorem number_big (b off c : Nat) (l : List Int) (w : World) (hm : l.length ≤ 8) (hf : Fit l) (hc : ∀ i, i < l.length → w.cell? ⟨b, off + i, none⟩ = some (.int .u8 (l.getD i 0))) :
    Calls Tryd.prog 57 #[.slice (some ⟨b, off, none⟩) l.length c, .bool true] w fun r w' => r = .returned (.int .u64 (be l)) ∧ w = w' := by
  obtain ⟨m, em⟩ : ∃ m, m = l.length := ⟨_, rfl⟩
  rw [← em] at hm hc ⊢
  have EM := Lib.hid em
  clear em
  go_enter Tryd.func57, Tryd.ntmps57
  go_wp2
  go_loop [5, 10] (fun v i => ∃ k : Nat, k ≤ m ∧ i = .int .i64 k ∧ v = .int .u64 (be (l.take k) * (256 : Int) ^ (m - k))) (fun _ i => m - (intOf i).toNat)
  case atStart => exact ⟨0, Nat.zero_le _, rfl, by simp [be, beOn]⟩
  case round =>
    obtain ⟨k, hk, rfl, rfl⟩ := hrel
    by_cases hlt : k < m
    · have hcell := hc k hlt
      have HB := Lib.hid (hf.getD k)
      have HN := Lib.hid (be_bounds _ (hf.take k))
      have hl : k < l.length := by have := EM.out; omega
      have HS := Lib.hid (or_big _ (l.getD k 0) k (m - 1 - k) (by omega) (by omega) HN.out.1 (by have := HN.out.2; rwa [List.length_take, Nat.min_eq_left (by omega)] at this) HB.out.1 HB.out.2)
      have HT := Lib.hid (be_app (l.take k) (l.getD k 0))
      have HU := Lib.hid (take_more l k hl)
      obtain ⟨z, hz⟩ : ∃ z, z = l.getD k 0 := ⟨_, rfl⟩
      have HB' := HB.out
      rw [← hz] at hcell HB'
      have HZ := Lib.hid hz
      clear hz hf hc HB HN hl
      go_wp2_with (go_at_call 51; refine (shift_big _ _ _ (by omega) (by omega) (by omega)).mono ?_; rintro r w' ⟨rfl, rfl⟩)
      go_round
      case rel =>
        refine ⟨k + 1, by omega, by go_num, ?_⟩
        have e := EM.out
        rw [HU.out, HT.out, HZ.out]
        have h2 := HS.out
        rw [show m - 1 - k + 1 = m - k from by omega] at h2
        rw [show m - (k + 1) = m - 1 - k from by omega, ← h2]
      case measure => simp [intOf]; omega
    · have e := EM.out
      have ek : k = l.length := by omega
      have EK := Lib.hid ek
      clear ek e
      go_wp2
      go_ret
      exact ⟨ret_num (by rw [EK.out, List.take_length, EM.out]; simp), rfl⟩

end Go.Proofs.YtgipngedmblnmaaDoor
