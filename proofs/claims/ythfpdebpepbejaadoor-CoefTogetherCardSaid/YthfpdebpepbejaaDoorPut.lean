/-
  The contract of Put.
-/
import Derived.Test.YthfpdebpepbejaaDoorMath
namespace Go.Proofs.YthfpdebpepbejaaDoor
open Go.RowKit

/-- a writer whose part may be long: its bits are L -/
def WrG (w : World) (d : Nat) (L : List Int) (n v c : Nat) : Prop :=
  ∃ op, Box w d 88 (cellsW op n v c) ∧ op.length = 256 ∧ Fit op ∧ v < 2 ^ c ∧ L = by8 (op.take n) ++ dig v c
/-- a writer of bits L -/
def Wr (w : World) (d : Nat) (L : List Int) : Prop := ∃ n v c, WrG w d L n v c ∧ c < 8 ∧ n ≤ 250

theorem WrG.len {w : World} {d n v c : Nat} {L : List Int} (h : WrG w d L n v c) (hn : n ≤ 256) : L.length = 8 * n + c := by
  obtain ⟨op, _, ho, _, _, rfl⟩ := h
  rw [List.length_append, by8_len, dig_len, List.length_take, ho]
  omega

theorem or_i64 (a b : Nat) (ha : a < 4611686018427387904) (hb : b < 4611686018427387904) : bits .or .i64 (a : Int) (b : Int) = ((a ||| b : Nat) : Int) := by
  have hx : a ||| b < 2 ^ 62 := Nat.or_lt_two_pow (by omega) (by omega)
  have h1 : (BitVec.ofInt 64 (a : Int)).toNat = a := by
    rw [BitVec.ofInt_natCast, BitVec.toNat_ofNat]; exact Nat.mod_eq_of_lt (by omega)
  have h2 : (BitVec.ofInt 64 (b : Int)).toNat = b := by
    rw [BitVec.ofInt_natCast, BitVec.toNat_ofNat]; exact Nat.mod_eq_of_lt (by omega)
  show IntKind.i64.wrap ((BitVec.ofInt 64 (a : Int) ||| BitVec.ofInt 64 (b : Int)).toNat : Int) = _
  rw [BitVec.toNat_or, h1, h2]
  exact wrap_small (by omega) (by omega)
theorem and_i64 (a b : Nat) (ha : a < 4611686018427387904) (hb : b < 4611686018427387904) : bits .and .i64 (a : Int) (b : Int) = ((a &&& b : Nat) : Int) := by
  have hx : a &&& b < 2 ^ 62 := Nat.and_lt_two_pow _ (by omega)
  have h1 : (BitVec.ofInt 64 (a : Int)).toNat = a := by
    rw [BitVec.ofInt_natCast, BitVec.toNat_ofNat]; exact Nat.mod_eq_of_lt (by omega)
  have h2 : (BitVec.ofInt 64 (b : Int)).toNat = b := by
    rw [BitVec.ofInt_natCast, BitVec.toNat_ofNat]; exact Nat.mod_eq_of_lt (by omega)
  show IntKind.i64.wrap ((BitVec.ofInt 64 (a : Int) &&& BitVec.ofInt 64 (b : Int)).toNat : Int) = _
  rw [BitVec.toNat_and, h1, h2]
  exact wrap_small (by omega) (by omega)

/-- the count of a writer's part, as memory has it -/
def countOf (d : Nat) (w : World) : Nat := match w.cell? ⟨d, 259, none⟩ with
  | some (.int _ c) => c.toNat
  | _ => 0
theorem WrG.count {w : World} {d n v c : Nat} {L : List Int} (h : WrG w d L n v c) : countOf d w = c := by
  obtain ⟨op, hb, ho, _⟩ := h
  unfold countOf
  rw [show w.cell? ⟨d, 259, none⟩ = some (.int .i64 (c : Int)) from (hb.cell 259).trans (cellsW_c ho)]
  simp

/-- how a writer stands while whole bytes are taken off its part -/
structure Putting (w : World) (d : Nat) (L : List Int) (wr : World) (n v c : Nat) : Prop where
  wri : WrG wr d L n v c
  small : c ≤ 31
  few : n ≤ 254
  bel : Kept (fun i => i = d) w wr

theorem fit_set {l : List Int} (h : Fit l) (i : Nat) (z : Int) (h0 : 0 ≤ z) (h1 : z ≤ 255) : Fit (l.set i z) := fun y hy => by
  rcases List.mem_or_eq_of_mem_set hy with h2 | rfl
  · exact h y h2
  · exact ⟨h0, h1⟩
/-- one byte is taken off a long part -/
theorem WrG.off {w : World} {d n v c j : Nat} {op : List Int} {L : List Int} (hL : L = by8 (op.take n) ++ dig v c) (hn : n < 255) (ho : op.length = 256) (hf : Fit op) (hj : c = 8 + j) (hv : v < 2 ^ c)
    (hb : Box w d 88 (cellsW (op.set n ((v / 2 ^ j : Nat) : Int)) (n + 1) (v % 2 ^ j) j)) : WrG w d L (n + 1) (v % 2 ^ j) j := by
  have hq : v / 2 ^ j < 256 := by
    rw [Nat.div_lt_iff_lt_mul (pow_pos' j)]
    rw [hj, Nat.pow_add] at hv
    exact hv
  obtain ⟨q, hq0⟩ : ∃ q, q = v / 2 ^ j := ⟨_, rfl⟩
  rw [← hq0] at hq hb
  refine ⟨_, hb, by rw [List.length_set]; exact ho, fit_set hf n _ (by omega) (by omega), Nat.mod_lt _ (pow_pos' j), ?_⟩
  rw [hL, hj, dig_cut, take_more _ n (by rw [List.length_set]; omega), by8_app, List.take_set_of_le (Nat.le_refl _), by8_one, List.append_assoc]
  congr 2
  rw [List.getD_eq_getElem?_getD, List.getElem?_set_self (by omega), ← hq0]
  rfl

set_option maxHeartbeats 400000 in
theorem put_nil (w : World) (v c : Int) : Calls Tryd.prog 22 #[.pointer none, .int .i64 v, .int .i64 c] w fun e w' => e = .returned (.int .i64 3) ∧ w = w' := by
  go_enter Tryd.func22, Tryd.ntmps22
  go_wp2
  go_ret
  exact ⟨rfl, rfl⟩

/-- what may be put -/
def mayPut (v c : Int) : Prop := 0 ≤ c ∧ c ≤ 24 ∧ 0 ≤ v ∧ v < 2 ^ c.toNat
instance (v c : Int) : Decidable (mayPut v c) := by unfold mayPut; infer_instance

set_option maxHeartbeats 400000 in
theorem put_refused (w : World) (d : Nat) (v c : Int) (h : ¬ mayPut v c) : Calls Tryd.prog 22 #[.pointer (some ⟨d, 0, none⟩), .int .i64 v, .int .i64 c] w fun e w' => e = .returned (.int .i64 2) ∧ w = w' := by
  unfold mayPut at h
  by_cases h1 : c < 0
  · clear h
    go_enter Tryd.func22, Tryd.ntmps22
    go_wp2
    go_ret
    exact ⟨rfl, rfl⟩
  by_cases h2 : 24 < c
  · clear h
    go_enter Tryd.func22, Tryd.ntmps22
    go_wp2
    go_ret
    exact ⟨rfl, rfl⟩
  by_cases h3 : v < 0
  · clear h
    go_enter Tryd.func22, Tryd.ntmps22
    go_wp2
    go_ret
    exact ⟨rfl, rfl⟩
  have h4 : (2 : Int) ^ c.toNat ≤ v := by omega
  obtain ⟨p, hp⟩ : ∃ p : Nat, p = 2 ^ c.toNat := ⟨_, rfl⟩
  have hp1 : p ≤ 16777216 := by rw [hp]; exact Nat.le_trans (Nat.pow_le_pow_right (by omega) (show c.toNat ≤ 24 by omega)) (by decide)
  have hp2 : (2 : Int) ^ c.toNat = (p : Int) := by rw [hp]; simp
  rw [hp2] at h4
  clear h hp
  go_enter Tryd.func22, Tryd.ntmps22
  go_wp2
  go_ret
  exact ⟨rfl, rfl⟩

set_option maxHeartbeats 1600000 in
theorem put_done (w : World) (d n v c x k : Nat) (L : List Int) (h : WrG w d L n v c) (hc : c < 8) (hn : n ≤ 250) (hk : k ≤ 24) (hx : x < 2 ^ k) :
    Calls Tryd.prog 22 #[.pointer (some ⟨d, 0, none⟩), .int .i64 (x : Int), .int .i64 (k : Int)] w fun e w' => e = .returned (.int .i64 0) ∧ (∃ n' v' c', WrG w' d (L ++ dig x k) n' v' c' ∧ c' < 8 ∧ n' ≤ 254) ∧ Kept (fun i => i = d) w w' := by
  have hlen := h.len (by omega)
  obtain ⟨op, hb, ho, hf, hv, hL⟩ := h
  have c1 : w.cell? ⟨d, 258, none⟩ = some (.int .i64 (v : Int)) := (hb.cell 258).trans (cellsW_v ho)
  have f1 := hb.free 258
  obtain ⟨p, hp⟩ : ∃ p : Nat, p = 2 ^ k := ⟨_, rfl⟩
  have hp1 : p ≤ 16777216 := by rw [hp]; exact Nat.le_trans (Nat.pow_le_pow_right (by omega) hk) (by decide)
  have hp2 : (2 : Int) ^ k = (p : Int) := by rw [hp]; simp
  have hxp : x < p := by rw [hp]; exact hx
  have hxp2 : ¬ (p : Int) ≤ x := by omega
  have hv8 : v < 128 := Nat.lt_of_lt_of_le hv (Nat.le_trans (Nat.pow_le_pow_right (by omega) (show c ≤ 7 by omega)) (by decide))
  obtain ⟨m, hm⟩ : ∃ m : Nat, m = v * p := ⟨_, rfl⟩
  have hm1 : (v : Int) * p = (m : Int) := by rw [hm]; simp
  have hm2 : m ≤ 2147483648 := by rw [hm]; exact Nat.le_trans (Nat.mul_le_mul (show v ≤ 128 by omega) hp1) (by omega)
  have c2 : w.cell? ⟨d, 259, none⟩ = some (.int .i64 (c : Int)) := (hb.cell 259).trans (cellsW_c ho)
  have f2 := hb.free 259
  have hor : bits .or .i64 (m : Int) (x : Int) = ((m + x : Nat) : Int) := by
    rw [or_i64 _ _ (by omega) (by omega), hm, hp, or_join _ _ _ hx]
  obtain ⟨w1, hw1⟩ : ∃ w1, w1 = (w.setCell ⟨d, 258, none⟩ (.int .i64 ((m + x : Nat) : Int))).setCell ⟨d, 259, none⟩ (.int .i64 ((c + k : Nat) : Int)) := ⟨_, rfl⟩
  have hP : Putting w d (L ++ dig x k) w1 n (m + x) (c + k) := by
    refine ⟨⟨op, ?_, ho, hf, ?_, ?_⟩, by omega, by omega, ?_⟩
    · have := (hb.put 258 (.int .i64 ((m + x : Nat) : Int))).put 259 (.int .i64 ((c + k : Nat) : Int))
      rw [cellsW_set_v ho, cellsW_set_c ho] at this
      rw [hw1]
      exact this
    · rw [hm, hp]; exact join_lt hv hx
    · rw [hL, hm, hp, dig_join v c x k hx, List.append_assoc]
    · rw [hw1]
      exact ((Kept.refl (fun i => i = d) w).setCell (p := ⟨d, 258, none⟩) (fun _ => rfl) _).setCell (p := ⟨d, 259, none⟩) (fun _ => rfl) _
  have e1 : ((m + x : Nat) : Int) = (m : Int) + x := by omega
  have e2 : ((c + k : Nat) : Int) = (c : Int) + k := by omega
  rw [e1] at hor
  have HH := Lib.hid (And.intro hP (And.intro hw1 (And.intro e1 e2)))
  have HL := Lib.hid hlen
  clear hb ho hf hv hL hp hm hlen hx hP hw1 e1 e2
  go_enter Tryd.func22, Tryd.ntmps22
  go_wp2_with fail
  obtain ⟨hP, hw1, e1, e2⟩ := HH.out
  rw [← e1, ← e2, ← hw1]
  clear hw1 e1 e2 HH c1 c2 f1 f2 hor
  have HP := Lib.hid hP
  clear hP
  go_loopw [48] (fun _ wr => ∃ n' v' c', Putting w d (L ++ dig x k) wr n' v' c') (fun _ wr => countOf d wr)
  case atStart => exact ⟨_, _, _, HP.out⟩
  case round =>
    obtain ⟨n1, v1, c1, hP⟩ := hrel
    have hl1 := hP.wri.len (by have := hP.few; omega)
    rw [List.length_append, dig_len, HL.out] at hl1
    have hs1 := hP.small
    have hw := hP.wri
    obtain ⟨op1, hb1, ho1, hf1, hv1, hL1⟩ := hw
    have q1 : wr.cell? ⟨d, 259, none⟩ = some (.int .i64 (c1 : Int)) := (hb1.cell 259).trans (cellsW_c ho1)
    by_cases h8 : 8 ≤ c1
    · obtain ⟨j, hj⟩ : ∃ j, c1 = 8 + j := ⟨c1 - 8, by omega⟩
      have hv31 : v1 < 2147483648 := Nat.lt_of_lt_of_le hv1 (Nat.le_trans (Nat.pow_le_pow_right (by omega) (show c1 ≤ 31 by omega)) (by decide))
      obtain ⟨q, hq⟩ : ∃ q, q = v1 / 2 ^ j := ⟨_, rfl⟩
      have hq8 : q < 256 := by
        rw [hq, Nat.div_lt_iff_lt_mul (pow_pos' j)]
        rw [hj, Nat.pow_add] at hv1
        exact hv1
      have hn1 : n1 < 254 := by omega
      have hcw := hP.wri.count
      have HR := Lib.hid (And.intro hP (And.intro hb1 (And.intro ho1 (And.intro hf1 (And.intro hv1 (And.intro hL1 (And.intro hj (And.intro hq (And.intro hl1 hcw)))))))))
      have HW := Lib.hid (show IntKind.u8.wrap (q : Int) = q by simp [IntKind.wrap, IntKind.bits, IntKind.signed]; omega)
      have HT := Lib.hid (take_at wr.drew d 258 88 (cellsW op1 n1 v1 c1) v1 c1 j 8 hb1 (cellsW_v ho1) (cellsW_c ho1) (by omega) (by omega) (by omega) (by omega))
      clear hP hb1 ho1 hf1 hv1 hL1 hl1 hj hq hcw
      go_wp2_with fail
      go_region_held3 (fun _ => True) (exact trivial)
        (first
          | (go_at_call 40
             with_reducible refine HT.out.mono ?_
             rintro e w2 ⟨rfl, hb2, k2⟩
             rw [cellsW_set_c HR.out.2.2.1, cellsW_set_v HR.out.2.2.1] at hb2
             rw [← HR.out.2.2.2.2.2.2.2.1]
             have H2 := Lib.hid (And.intro hb2 k2)
             clear hb2 k2)
          | (go_at_call 39
             rw [HW.out]
             with_reducible refine (add_any w2 d op1 n1 (v1 % 2 ^ j) j (q : Int) H2.out.1 HR.out.2.2.1 (by omega)).mono ?_
             rintro e w3 ⟨rfl, hb3, k3⟩
             have H3 := Lib.hid (And.intro hb3 k3)
             clear hb3 k3))
      all_goals
        (have hP3 : Putting w d (L ++ dig x k) w3 (n1 + 1) (v1 % 2 ^ j) j := by
           have hb3 := H3.out.1
           rw [HR.out.2.2.2.2.2.2.2.1] at hb3
           exact ⟨WrG.off HR.out.2.2.2.2.2.1 (by omega) HR.out.2.2.1 HR.out.2.2.2.1 HR.out.2.2.2.2.2.2.1 HR.out.2.2.2.2.1 hb3, by have := HR.out.2.2.2.2.2.2.1; omega, by omega, ((HR.out.1.bel.drew).trans H2.out.2 (fun _ _ h => h)).trans H3.out.2 (fun _ _ h => h)⟩
         have HQ := Lib.hid hP3
         clear hP3
         go_wp2
         go_roundw
         case rel => exact ⟨_, _, _, _, _, _, _, _, _, _, _, _, _, _, _, ⟨_, _, _, HQ.out⟩, rfl⟩
         case measure =>
           rw [HQ.out.wri.count, HR.out.2.2.2.2.2.2.2.2.2]
           have := HR.out.2.2.2.2.2.2.1
           omega)
    · have HE := Lib.hid (And.intro hP.wri (And.intro hP.few hP.bel))
      clear hP hb1 ho1 hf1 hv1 hL1 hl1
      go_wp2
      go_ret
      exact ⟨rfl, ⟨_, _, _, HE.out.1, by omega, HE.out.2.1⟩, HE.out.2.2⟩

theorem Wr.box {w : World} {d : Nat} {L : List Int} (h : Wr w d L) : ∃ cs, Box w d 88 cs := by
  obtain ⟨_, _, _, ⟨_, hb, _⟩, _⟩ := h
  exact ⟨_, hb⟩
theorem WrG.of {w w' : World} {d n v c : Nat} {L : List Int} (h : WrG w d L n v c) (k : w'.heap[d]? = w.heap[d]?) : WrG w' d L n v c := by
  obtain ⟨op, hb, h2⟩ := h
  exact ⟨op, k.trans hb, h2⟩
theorem Wr.of {w w' : World} {d : Nat} {L : List Int} (h : Wr w d L) (k : w'.heap[d]? = w.heap[d]?) : Wr w' d L := by
  obtain ⟨n, v, c, h1, h2⟩ := h
  exact ⟨n, v, c, h1.of k, h2⟩
theorem Wr.lt {w : World} {d : Nat} {L : List Int} (h : Wr w d L) : d < w.heap.size := by
  obtain ⟨cs, hb⟩ := h.box
  exact hb.lt
theorem Wr.on {w w' : World} {d : Nat} {L : List Int} (h : Wr w d L) (k : Below w.heap.size w w') : Wr w' d L := h.of (k.block d h.lt)
theorem Wr.kept {S : Nat → Prop} {w w' : World} {d : Nat} {L : List Int} (h : Wr w d L) (k : Kept S w w') (hS : ¬ S d) : Wr w' d L := h.of (k.block d h.lt hS)

/-- what Put answers -/
def putE (v c : Int) : Int := if mayPut v c then 0 else 2
/-- the bits behind a Put -/
def putL (L : List Int) (v c : Int) : List Int := if mayPut v c then L ++ dig v.toNat c.toNat else L

theorem put_any (w : World) (d : Nat) (L : List Int) (v c : Int) (h : Wr w d L) (hl : L.length ≤ 1976) :
    Calls Tryd.prog 22 #[.pointer (some ⟨d, 0, none⟩), .int .i64 v, .int .i64 c] w fun e w' => e = .returned (.int .i64 (putE v c)) ∧ Wr w' d (putL L v c) ∧ Kept (fun i => i = d) w w' := by
  by_cases hm : mayPut v c
  · obtain ⟨n, v0, c0, h1, h2, h3⟩ := h
    obtain ⟨m0, m1, m2, m3⟩ := hm
    obtain ⟨x, rfl⟩ := Int.eq_ofNat_of_zero_le m2
    obtain ⟨k, rfl⟩ := Int.eq_ofNat_of_zero_le m0
    have hx : x < 2 ^ k := by
      rw [Int.toNat_natCast] at m3
      have e : ((2 : Int) ^ k) = ((2 ^ k : Nat) : Int) := by simp
      rw [e] at m3
      exact Int.ofNat_lt.1 m3
    refine (put_done w d n v0 c0 x k L h1 h2 h3 (by omega) hx).mono ?_
    rintro e w' ⟨rfl, ⟨n', v', c', g1, g2, g3⟩, g4⟩
    have hm : mayPut (x : Int) (k : Int) := ⟨m0, m1, m2, m3⟩
    refine ⟨by rw [putE, if_pos hm], ?_, g4⟩
    rw [putL, if_pos hm, Int.toNat_natCast, Int.toNat_natCast]
    have := g1.len (by omega)
    rw [List.length_append, dig_len] at this
    exact ⟨n', v', c', g1, g2, by omega⟩
  · refine (put_refused w d v c hm).mono ?_
    rintro e w' ⟨rfl, rfl⟩
    exact ⟨by rw [putE, if_neg hm], by rw [putL, if_neg hm]; exact h, Kept.refl _ _⟩

theorem count_wr (w : World) (d : Nat) (L : List Int) (h : Wr w d L) : Calls Tryd.prog 25 #[.pointer (some ⟨d, 0, none⟩)] w fun e w' => e = .returned (.int .i64 (L.length : Int)) ∧ Below w.heap.size w w' := by
  obtain ⟨n, v, c, h1, h2, h3⟩ := h
  have hl := h1.len (by omega)
  obtain ⟨op, hb, ho, _⟩ := h1
  rw [hl]
  exact count_any w d op n v c hb ho (by omega) (by omega)

theorem newWriter_wr (w : World) : Calls Tryd.prog 21 #[] w fun e w' => ∃ d, e = .returned (.pointer (some ⟨d, 0, none⟩)) ∧ w.heap.size ≤ d ∧ Wr w' d [] ∧ Below w.heap.size w w' := by
  refine (newWriter_any w).mono ?_
  rintro e w' ⟨rfl, hb, bel⟩
  refine ⟨_, rfl, Nat.le_refl _, ⟨0, 0, 0, ⟨_, hb, by rw [List.length_replicate], ?_, by omega, rfl⟩, by omega, by omega⟩, bel⟩
  intro z hz
  rw [List.eq_of_mem_replicate hz]
  omega
end Go.Proofs.YthfpdebpepbejaaDoor
