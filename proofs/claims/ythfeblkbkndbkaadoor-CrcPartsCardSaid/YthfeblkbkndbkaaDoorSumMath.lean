/-
  The checksum's mathematics: no code, no model.
  Of numbers without a bound on their size: a register that is as long as the text.
-/
import Derived.Laws.BitsAllLaws
namespace Go.Proofs.YthfeblkbkndbkaaDoor

def poly : Nat := 3988292384
/-- one bit goes out -/
def out (r : Nat) : Nat := if r % 2 = 1 then (r / 2) ^^^ poly else r / 2
/-- k bits go out -/
def outs : Nat → Nat → Nat
  | 0, r => r
  | k + 1, r => outs k (out r)

theorem out_xor (a b : Nat) : out (a ^^^ b) = out a ^^^ out b := by
  have key : (a ^^^ b) % 2 = (a + b) % 2 := by
    have h : ((a ^^^ b) % 2 = 1) ↔ ¬ (a % 2 = 1 ↔ b % 2 = 1) := Nat.xor_mod_two_eq_one
    omega
  unfold out
  rw [Nat.xor_div_two, key]
  rcases Nat.mod_two_eq_zero_or_one a with ha | ha <;> rcases Nat.mod_two_eq_zero_or_one b with hb | hb
  · rw [if_neg (by omega), if_neg (by omega), if_neg (by omega)]
  · rw [if_pos (by omega), if_neg (by omega), if_pos (by omega), Nat.xor_assoc]
  · rw [if_pos (by omega), if_pos (by omega), if_neg (by omega), Nat.xor_assoc, Nat.xor_comm (b / 2), ← Nat.xor_assoc]
  · rw [if_neg (by omega), if_pos (by omega), if_pos (by omega)]
    rw [Nat.xor_assoc, ← Nat.xor_assoc poly, Nat.xor_comm poly (b / 2), Nat.xor_assoc (b / 2), Nat.xor_self, Nat.xor_zero]
theorem outs_xor (k a b : Nat) : outs k (a ^^^ b) = outs k a ^^^ outs k b := by
  induction k generalizing a b with
  | zero => rfl
  | succ k ih => rw [outs, out_xor, ih, outs, outs]
theorem out_zero : out 0 = 0 := rfl
theorem outs_zero (k : Nat) : outs k 0 = 0 := by
  induction k with
  | zero => rfl
  | succ k ih => rw [outs, out_zero, ih]
theorem out_lt {a : Nat} (h : a < 4294967296) : out a < 4294967296 := by
  unfold out
  split
  · exact Nat.xor_lt_two_pow (n := 32) (by omega) (by decide)
  · omega
theorem outs_lt (k : Nat) {a : Nat} (h : a < 4294967296) : outs k a < 4294967296 := by
  induction k generalizing a with
  | zero => exact h
  | succ k ih => exact ih (out_lt h)
theorem xor_eq_zero' {a b : Nat} (h : a ^^^ b = 0) : a = b := by
  have h1 : (a ^^^ b) ^^^ b = 0 ^^^ b := by rw [h]
  rw [Nat.xor_assoc, Nat.xor_self, Nat.xor_zero, Nat.zero_xor] at h1
  exact h1
theorem out_keeps {a : Nat} (h : a < 4294967296) (h0 : out a = 0) : a = 0 := by
  unfold out at h0
  split at h0
  · have := xor_eq_zero' h0
    unfold poly at this
    omega
  · omega
theorem outs_keeps (k : Nat) {a : Nat} (h : a < 4294967296) (h0 : outs k a = 0) : a = 0 := by
  induction k generalizing a with
  | zero => exact h0
  | succ k ih => exact out_keeps h (ih (out_lt h) h0)
theorem out_double (a : Nat) : out (a * 2) = a := by
  unfold out
  rw [if_neg (by omega)]
  omega
theorem outs_shift (k a : Nat) : outs k (a * 2 ^ k) = a := by
  induction k with
  | zero => simp [outs]
  | succ k ih => rw [outs, Nat.pow_succ, ← Nat.mul_assoc, out_double, ih]
theorem outs_add (j k a : Nat) : outs (j + k) a = outs k (outs j a) := by
  induction j generalizing a with
  | zero => simp [outs]
  | succ j ih => rw [Nat.succ_add, outs, ih, outs]

/-- what a table of 256 holds -/
theorem outs_table (x : Nat) : outs 8 x = outs 8 (x % 256) ^^^ x / 256 := by
  have e : x = (x % 256) ^^^ (x / 256 * 2 ^ 8) := by
    have h1 : x % 256 < 2 ^ 8 := Nat.mod_lt _ (by decide)
    have h2 : (x / 256 * 2 ^ 8) % 2 ^ 8 = 0 := by simp
    refine Nat.eq_of_testBit_eq fun i => ?_
    rw [Nat.testBit_xor]
    have h3 : (x % 256).testBit i = (decide (i < 8) && x.testBit i) := Nat.testBit_mod_two_pow x 8 i
    rw [h3, Nat.testBit_mul_two_pow]
    have h4 : (x / 256).testBit (i - 8) = x.testBit (8 + (i - 8)) := by
      have := Nat.testBit_div_two_pow x (n := 8) (i - 8)
      simpa [Nat.add_comm] using this
    rw [h4]
    by_cases hi : i < 8
    · simp [hi, show ¬ 8 ≤ i by omega]
    · simp [hi, show 8 ≤ i by omega, show 8 + (i - 8) = i by omega]
  rw [show outs 8 x = outs 8 ((x % 256) ^^^ (x / 256 * 2 ^ 8)) by rw [← e], outs_xor, outs_shift]

/-- a text as one number, its first byte lowest -/
def num : List Int → Nat
  | [] => 0
  | b :: l => b.toNat ^^^ (num l * 2 ^ 8)
/-- the register behind a text -/
def reg (r : Nat) (l : List Int) : Nat := l.foldl (fun r b => outs 8 (r ^^^ b.toNat)) r
/-- the checksum -/
def sum (l : List Int) : Nat := reg 4294967295 l ^^^ 4294967295

theorem reg_append (r : Nat) (a b : List Int) : reg r (a ++ b) = reg (reg r a) b := by unfold reg; rw [List.foldl_append]
theorem reg_num (r : Nat) (l : List Int) : reg r l = outs (8 * l.length) (r ^^^ num l) := by
  induction l generalizing r with
  | nil => simp [reg, num, outs]
  | cons b l ih =>
    have h1 : reg r (b :: l) = reg (outs 8 (r ^^^ b.toNat)) l := rfl
    rw [h1, ih, num, List.length_cons, Nat.mul_succ, Nat.add_comm, outs_add, ← Nat.xor_assoc, outs_xor 8 (r ^^^ b.toNat) (num l * 2 ^ 8), outs_shift]
theorem reg_lt {r : Nat} (h : r < 4294967296) {l : List Int} (hl : ∀ b ∈ l, b.toNat < 256) : reg r l < 4294967296 := by
  induction l generalizing r with
  | nil => exact h
  | cons b l ih =>
    have hb := hl b (List.mem_cons_self ..)
    exact ih (outs_lt 8 (Nat.xor_lt_two_pow (n := 32) h (by omega))) (fun c hc => hl c (List.mem_cons_of_mem _ hc))
theorem sum_lt {l : List Int} (hl : ∀ b ∈ l, b.toNat < 256) : sum l < 4294967296 := Nat.xor_lt_two_pow (n := 32) (reg_lt (by decide) hl) (by decide)
theorem xor_back (a b : Nat) : (a ^^^ b) ^^^ b = a := by rw [Nat.xor_assoc, Nat.xor_self, Nat.xor_zero]
/-- a sum goes on behind another -/
theorem sum_append (a b : List Int) : sum (a ++ b) = reg (sum a ^^^ 4294967295) b ^^^ 4294967295 := by
  unfold sum
  rw [reg_append, xor_back]

/-- two texts of one length, of the same sum -/
theorem sum_eq {a b : List Int} (hlen : a.length = b.length) (h : sum a = sum b) : outs (8 * a.length) (num a ^^^ num b) = 0 := by
  unfold sum at h
  have h1 : reg 4294967295 a = reg 4294967295 b := by
    rw [← xor_back (reg 4294967295 a) 4294967295, h, xor_back]
  rw [reg_num, reg_num, ← hlen, outs_xor, outs_xor] at h1
  rw [outs_xor]
  have h2 : outs (8 * a.length) (num a) = outs (8 * a.length) (num b) := by
    have := congrArg (fun z => outs (8 * a.length) 4294967295 ^^^ z) h1
    simpa [← Nat.xor_assoc] using this
  rw [h2, Nat.xor_self]

/-- two texts that differ within 32 bits, in one at least -/
theorem sum_tells {a b : List Int} (hlen : a.length = b.length) (first turn : Nat) (hturn : turn < 4294967296) (h0 : turn ≠ 0) (hfirst : first ≤ 8 * a.length) (hd : num a ^^^ num b = turn * 2 ^ first) : sum a ≠ sum b := by
  intro h
  have h1 := sum_eq hlen h
  rw [hd, show 8 * a.length = first + (8 * a.length - first) by omega, outs_add, outs_shift] at h1
  exact h0 (outs_keeps _ hturn h1)

/-- a byte of a text turned -/
theorem num_set (l : List Int) (i : Nat) (hi : i < l.length) (t : Nat) : num (l.set i (((l.getD i 0).toNat ^^^ t : Nat) : Int)) = num l ^^^ t * 2 ^ (8 * i) := by
  induction l generalizing i with
  | nil => simp at hi
  | cons b l ih =>
    cases i with
    | zero =>
      simp only [List.set_cons_zero, num, List.getD_cons_zero, Int.toNat_natCast, Nat.mul_zero, Nat.pow_zero, Nat.mul_one]
      rw [Nat.xor_assoc, Nat.xor_assoc, Nat.xor_comm t]
    | succ i =>
      simp only [List.set_cons_succ, num, List.getD_cons_succ]
      rw [ih i (by simpa using hi), Nat.xor_assoc]
      congr 1
      rw [← Nat.shiftLeft_eq, ← Nat.shiftLeft_eq, ← Nat.shiftLeft_eq, ← Nat.shiftLeft_eq, Nat.shiftLeft_xor_distrib, ← Nat.shiftLeft_add]
      congr 2

/-- three texts of one length, exclusive-ored -/
theorem num_three (a b c : List Int) (n : Nat) (ha : a.length = n) (hb : b.length = n) (hc : c.length = n) (x : List Int) (hx : x.length = n) (h : ∀ i, i < n → (x.getD i 0).toNat = (a.getD i 0).toNat ^^^ (b.getD i 0).toNat ^^^ (c.getD i 0).toNat) :
    num x = num a ^^^ num b ^^^ num c := by
  induction n generalizing a b c x with
  | zero =>
    obtain rfl := List.eq_nil_of_length_eq_zero ha
    obtain rfl := List.eq_nil_of_length_eq_zero hb
    obtain rfl := List.eq_nil_of_length_eq_zero hc
    obtain rfl := List.eq_nil_of_length_eq_zero hx
    rfl
  | succ n ih =>
    match a, b, c, x, ha, hb, hc, hx with
    | p :: a, q :: b, r :: c, y :: x, ha, hb, hc, hx =>
      have h0 := h 0 (by omega)
      have h1 := ih a b c (by simpa using ha) (by simpa using hb) (by simpa using hc) x (by simpa using hx) (fun i hi => by simpa using h (i + 1) (by omega))
      simp only [List.getD_cons_zero] at h0
      simp only [num]
      rw [h0, h1, ← Nat.shiftLeft_eq, ← Nat.shiftLeft_eq, ← Nat.shiftLeft_eq, ← Nat.shiftLeft_eq, Nat.shiftLeft_xor_distrib, Nat.shiftLeft_xor_distrib]
      ac_rfl
theorem sum_three (a b c : List Int) (n : Nat) (ha : a.length = n) (hb : b.length = n) (hc : c.length = n) (x : List Int) (hx : x.length = n) (h : ∀ i, i < n → (x.getD i 0).toNat = (a.getD i 0).toNat ^^^ (b.getD i 0).toNat ^^^ (c.getD i 0).toNat) :
    sum x = sum a ^^^ sum b ^^^ sum c := by
  unfold sum
  rw [reg_num, reg_num, reg_num, reg_num, ha, hb, hc, hx, num_three a b c n ha hb hc x hx h]
  simp only [outs_xor]
  generalize outs (8 * n) 4294967295 = F
  generalize outs (8 * n) (num a) = A
  generalize outs (8 * n) (num b) = B
  generalize outs (8 * n) (num c) = C
  refine Nat.eq_of_testBit_eq fun i => ?_
  simp only [Nat.testBit_xor]
  cases F.testBit i <;> cases A.testBit i <;> cases B.testBit i <;> cases C.testBit i <;> cases Nat.testBit 4294967295 i <;> rfl

theorem mod_bit1 (t i : Nat) (h : t / 2 ^ i % 2 = 1) : t % 2 ^ (i + 1) = t % 2 ^ i ^^^ 2 ^ i := by
  refine Nat.eq_of_testBit_eq fun j => ?_
  have hb : t.testBit i = true := by rw [Nat.testBit_eq_decide_div_mod_eq, h]; rfl
  rw [Nat.testBit_xor, Nat.testBit_mod_two_pow, Nat.testBit_mod_two_pow, Nat.testBit_two_pow]
  rcases Nat.lt_trichotomy j i with hj | hj | hj
  · simp [hj, show j < i + 1 by omega, show ¬ i = j by omega]
  · subst hj; simp [hb]
  · simp [show ¬ j < i by omega, show ¬ j < i + 1 by omega, show ¬ i = j by omega]
theorem mod_bit0 (t i : Nat) (h : ¬ t / 2 ^ i % 2 = 1) : t % 2 ^ (i + 1) = t % 2 ^ i := by
  refine Nat.eq_of_testBit_eq fun j => ?_
  have hb : t.testBit i = false := by rw [Nat.testBit_eq_decide_div_mod_eq]; exact decide_eq_false h
  rw [Nat.testBit_mod_two_pow, Nat.testBit_mod_two_pow]
  rcases Nat.lt_trichotomy j i with hj | hj | hj
  · simp [hj, show j < i + 1 by omega]
  · subst hj; simp [hb]
  · simp [show ¬ j < i by omega, show ¬ j < i + 1 by omega]
theorem xor_mul (a b k : Nat) : (a ^^^ b) * 2 ^ k = a * 2 ^ k ^^^ b * 2 ^ k := by
  rw [← Nat.shiftLeft_eq, ← Nat.shiftLeft_eq, ← Nat.shiftLeft_eq, Nat.shiftLeft_xor_distrib]

/-- bit i of a turn, taken to the text that it turns from bit first on -/
theorem turned1 (b x : List Int) (t first i : Nat) (hk : (first + i) / 8 < x.length) (h : num x = num b ^^^ (t % 2 ^ i) * 2 ^ first) (hb : t / 2 ^ i % 2 = 1) :
    num (x.set ((first + i) / 8) (((x.getD ((first + i) / 8) 0).toNat ^^^ 2 ^ ((first + i) % 8) : Nat) : Int)) = num b ^^^ (t % 2 ^ (i + 1)) * 2 ^ first := by
  rw [num_set x _ hk, h, mod_bit1 t i hb, xor_mul, Nat.xor_assoc]
  congr 2
  rw [← Nat.pow_add, ← Nat.pow_add]
  congr 1
  omega
theorem turned0 (b x : List Int) (t first i : Nat) (h : num x = num b ^^^ (t % 2 ^ i) * 2 ^ first) (hb : ¬ t / 2 ^ i % 2 = 1) : num x = num b ^^^ (t % 2 ^ (i + 1)) * 2 ^ first := by
  rw [h, mod_bit0 t i hb]
/-- all 32 bits of it -/
theorem turned_tells (b x : List Int) (t first : Nat) (hlen : x.length = b.length) (ht : t < 4294967296) (h0 : t ≠ 0) (hf : first ≤ 8 * b.length) (h : num x = num b ^^^ (t % 2 ^ 32) * 2 ^ first) : sum x ≠ sum b := by
  refine sum_tells hlen first t ht h0 (by omega) ?_
  rw [h, Nat.mod_eq_of_lt (by omega), Nat.xor_comm (num b), xor_back]
/-- one byte turned -/
theorem byte_tells (b : List Int) (i t : Nat) (hi : i < b.length) (ht : t < 256) (h0 : t ≠ 0) : sum (b.set i (((b.getD i 0).toNat ^^^ t : Nat) : Int)) ≠ sum b := by
  refine sum_tells (by simp) (8 * i) t (by omega) h0 (by simp; omega) ?_
  rw [num_set b i hi, Nat.xor_comm (num b), xor_back]

end Go.Proofs.YthfeblkbkndbkaaDoor
