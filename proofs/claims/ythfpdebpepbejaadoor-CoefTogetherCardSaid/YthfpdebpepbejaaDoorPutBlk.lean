/-
  The contract of the program's Put of a block.
-/
import Derived.Test.YthfpdebpepbejaaDoorPutFns
import Derived.Test.YthfpdebpepbejaaDoorTally
namespace Go.Proofs.YthfpdebpepbejaaDoor
open Go.RowKit

/-- has a symbol's value a code in its table? -/
def foundS (Ld La : List En) (s : Sym) : Bool := (fnd (if s.1 = 0 then Ld else La) (s.2.1 : Int)).isSome
/-- a symbol's bits, by the table it belongs to -/
def symB (Ld La : List En) (s : Sym) : List Int := symBits (if s.1 = 0 then Ld else La) s
/-- the bits of symbols -/
def bitsOf (Ld La : List En) (l : List Sym) : List Int := (l.map (symB Ld La)).flatten
theorem bitsOf_snoc (Ld La : List En) (l : List Sym) (s : Sym) : bitsOf Ld La (l ++ [s]) = bitsOf Ld La l ++ symB Ld La s := by simp [bitsOf]
theorem bitsOf_cons (Ld La : List En) (l : List Sym) (s : Sym) : bitsOf Ld La (s :: l) = symB Ld La s ++ bitsOf Ld La l := by simp [bitsOf]
/-- what Put answers -/
def putBE (Ld La : List En) (prev : Int) (b : List Int) : Int := if In prev ∧ RightB b then (if (allS prev b).all (foundS Ld La) then 0 else 6) else 2
/-- the bits behind a Put -/
def putBL (Ld La : List En) (bs : List Int) (prev : Int) (b : List Int) : List Int := if putBE Ld La prev b = 0 then bs ++ bitsOf Ld La (allS prev b) else bs

section
variable {B V B' V' : List Int}
theorem symB_len (hv : Valid B V) (hv' : Valid B' V') {s : Sym} (h : s.2.2.natAbs ≤ 2046) : (symB (codes B V) (codes B' V') s).length ≤ 27 := by
  unfold symB symBits
  have h1 := diff_size h
  rw [List.length_append, dig_len, dig_len]
  split
  · have := code_len hv (s.2.1 : Int)
    omega
  · have := code_len hv' (s.2.1 : Int)
    omega
theorem bitsOf_len (hv : Valid B V) (hv' : Valid B' V') : ∀ (l : List Sym), (∀ s ∈ l, SymOk s) → (bitsOf (codes B V) (codes B' V') l).length ≤ 27 * l.length
  | [], _ => Nat.le_refl _
  | s :: l, h => by
    rw [bitsOf_cons, List.length_append, List.length_cons]
    have h1 := symB_len hv hv' (h s (by simp)).num
    have h2 := bitsOf_len hv hv' l (fun x hx => h x (by simp [hx]))
    omega
end

/-- two tables in memory, and a cell that holds both -/
structure TwoT (w : World) (g11 lo hi t lo' hi' t' : Nat) (B V B' V' : List Int) : Prop where
  c0 : w.cell? ⟨g11, 0, none⟩ = some (.pointer (some ⟨t, 0, none⟩))
  c1 : w.cell? ⟨g11, 1, none⟩ = some (.pointer (some ⟨t', 0, none⟩))
  t1 : Tb w lo hi t B V (codes B V)
  t2 : Tb w lo' hi' t' B' V' (codes B' V')
section
variable {w w' : World} {g11 lo hi t lo' hi' t' : Nat} {B V B' V' : List Int}
theorem TwoT.lt (h : TwoT w g11 lo hi t lo' hi' t' B V B' V') : g11 < w.heap.size := World.block_lt_of_cell? w _ h.c0
theorem TwoT.on (h : TwoT w g11 lo hi t lo' hi' t' B V B' V') (k : Below w.heap.size w w') : TwoT w' g11 lo hi t lo' hi' t' B V B' V' :=
  ⟨(k.cell (p := ⟨g11, 0, none⟩) h.lt).trans h.c0, (k.cell (p := ⟨g11, 1, none⟩) h.lt).trans h.c1, h.t1.on k, h.t2.on k⟩
theorem TwoT.kept {S : Nat → Prop} (h : TwoT w g11 lo hi t lo' hi' t' B V B' V') (k : Kept S w w') (h1 : ¬ S g11) (h2 : ∀ b, lo ≤ b → b < hi → ¬ S b) (h3 : ∀ b, lo' ≤ b → b < hi' → ¬ S b) : TwoT w' g11 lo hi t lo' hi' t' B V B' V' :=
  ⟨(k.cell (p := ⟨g11, 0, none⟩) h.lt h1).trans h.c0, (k.cell (p := ⟨g11, 1, none⟩) h.lt h1).trans h.c1, h.t1.kept k h2, h.t2.kept k h3⟩
end

theorem calls41 (args : Array Value) (w : World) : (callFunc 41 args).run Tryd.prog w = .ok (.enter 41 args) w := by kernel_rfl
theorem calls43 (args : Array Value) (w : World) : (callFunc 43 args).run Tryd.prog w = .ok (.enter 43 args) w := by kernel_rfl

section
variable {w : World} {g11 g12 g13 g5 d lo hi t lo' hi' t' : Nat} {B V B' V' bs : List Int} {s : Sym} {f : Bool}
theorem one_step (h : TwoT w g11 lo hi t lo' hi' t' B V B' V') (hv : Valid B V) (hv' : Valid B' V') (hs : SymOk s) (h12 : Box w g12 4 #[.bool f]) (hn : g12 ≠ g11) (h2 : g12 < lo ∨ hi ≤ g12) (h3 : g12 < lo' ∨ hi' ≤ g12) :
    Calls Tryd.prog 41 (#[symV s] ++ #[.pointer (some ⟨g11, 0, none⟩), .pointer (some ⟨g12, 0, none⟩)]) w fun e w' => e = .returned (.tuple #[]) ∧ (TwoT w' g11 lo hi t lo' hi' t' B V B' V' ∧ Box w' g12 4 #[.bool (f && foundS (codes B V) (codes B' V') s)]) ∧ Kept (fun i => i = g12) w w' := by
  unfold foundS
  by_cases h0 : s.1 = 0
  · rw [if_pos h0]
    refine (put1_any w g11 g12 lo hi t B V s f h.t1 hv (by rw [h0]; exact h.c0) hs.tab h12).mono ?_
    rintro e w' ⟨rfl, hb, k⟩
    exact ⟨rfl, ⟨h.kept k (fun e => hn e.symm) (fun b _ _ e => by omega) (fun b _ _ e => by omega), hb⟩, k⟩
  · have h1 : s.1 = 1 := by have := hs.tab; omega
    rw [if_neg h0]
    refine (put1_any w g11 g12 lo' hi' t' B' V' s f h.t2 hv' (by rw [h1]; exact h.c1) hs.tab h12).mono ?_
    rintro e w' ⟨rfl, hb, k⟩
    exact ⟨rfl, ⟨h.kept k (fun e => hn e.symm) (fun b _ _ e => by omega) (fun b _ _ e => by omega), hb⟩, k⟩
theorem two_step (h : TwoT w g11 lo hi t lo' hi' t' B V B' V') (hv : Valid B V) (hv' : Valid B' V') (hs : SymOk s) (hf : foundS (codes B V) (codes B' V') s = true) (hw : Wr w d bs) (hl : bs.length ≤ 1900) (h13 : Box w g13 31 #[.int .i64 0])
    (h5 : w.cell? ⟨g5, 0, none⟩ = some (.pointer (some ⟨d, 0, none⟩))) (hd5 : d ≠ g5) (hd11 : d ≠ g11) (h135 : g13 ≠ g5) (h1311 : g13 ≠ g11) (h2 : g13 < lo ∨ hi ≤ g13) (h3 : g13 < lo' ∨ hi' ≤ g13) (hd2 : d < lo ∨ hi ≤ d) (hd3 : d < lo' ∨ hi' ≤ d) :
    Calls Tryd.prog 43 (#[symV s] ++ #[.pointer (some ⟨g13, 0, none⟩), .pointer (some ⟨g5, 0, none⟩), .pointer (some ⟨g11, 0, none⟩)]) w fun e w' => e = .returned (.tuple #[]) ∧ (TwoT w' g11 lo hi t lo' hi' t' B V B' V' ∧ Box w' g13 31 #[.int .i64 0] ∧ w'.cell? ⟨g5, 0, none⟩ = some (.pointer (some ⟨d, 0, none⟩)) ∧ Wr w' d (bs ++ symB (codes B V) (codes B' V') s)) ∧ Kept (fun i => i = d ∨ i = g13) w w' := by
  unfold foundS at hf
  unfold symB
  have h5l : g5 < w.heap.size := World.block_lt_of_cell? w _ h5
  have fin : ∀ w', Kept (fun i => i = d ∨ i = g13) w w' → TwoT w' g11 lo hi t lo' hi' t' B V B' V' ∧ w'.cell? ⟨g5, 0, none⟩ = some (.pointer (some ⟨d, 0, none⟩)) := fun w' k =>
    ⟨h.kept k (fun e => e.elim (fun e => hd11 e.symm) (fun e => h1311 e.symm)) (fun b _ _ e => by rcases e with e | e <;> omega) (fun b _ _ e => by rcases e with e | e <;> omega), (k.cell (p := ⟨g5, 0, none⟩) h5l (fun e => e.elim (fun e => hd5 e.symm) (fun e => h135 e.symm))).trans h5⟩
  by_cases h0 : s.1 = 0
  · rw [if_pos h0] at hf ⊢
    refine (put2_any w g13 g5 g11 lo hi t d B V bs s h.t1 hv hw hl hs.num hf h13 h5 (by rw [h0]; exact h.c0) hs.tab hd5 hd11 h135 h1311).mono ?_
    rintro e w' ⟨rfl, ⟨hb, hw'⟩, k⟩
    exact ⟨rfl, ⟨(fin w' k).1, hb, (fin w' k).2, hw'⟩, k⟩
  · have h1 : s.1 = 1 := by have := hs.tab; omega
    rw [if_neg h0] at hf ⊢
    refine (put2_any w g13 g5 g11 lo' hi' t' d B' V' bs s h.t2 hv' hw hl hs.num hf h13 h5 (by rw [h1]; exact h.c1) hs.tab hd5 hd11 h135 h1311).mono ?_
    rintro e w' ⟨rfl, ⟨hb, hw'⟩, k⟩
    exact ⟨rfl, ⟨(fin w' k).1, hb, (fin w' k).2, hw'⟩, k⟩
end

/-- what Put of a block tells -/
def PutB (w : World) (d : Nat) (Ld La : List En) (prev : Int) (b bs : List Int) (e : Ending) (w' : World) : Prop :=
  e = .returned (.int .i64 (putBE Ld La prev b)) ∧ Wr w' d (putBL Ld La bs prev b) ∧ Kept (fun i => i = d) w w'

section
variable (w : World) (d lo hi t lo' hi' t' : Nat) (B V B' V' bs : List Int) (prev : Int) (b : List Int)
set_option maxRecDepth 10000 in
set_option maxHeartbeats 3200000 in
theorem putB_any (hT : Tab w) (hb : b.length = 64) (h : Tb w lo hi t B V (codes B V)) (hv : Valid B V) (h' : Tb w lo' hi' t' B' V' (codes B' V')) (hv' : Valid B' V') (hw : Wr w d bs) (hl : bs.length ≤ 170) (hd2 : d < lo ∨ hi ≤ d) (hd3 : d < lo' ∨ hi' ≤ d) (hhi : hi ≤ w.heap.size) (hhi' : hi' ≤ w.heap.size) (hd0 : d ≠ 0) :
    Calls Tryd.prog 23 #[.pointer (some ⟨d, 0, none⟩), .pointer (some ⟨t, 0, none⟩), .pointer (some ⟨t', 0, none⟩), .int .i64 prev, blkV b] w (PutB w d (codes B V) (codes B' V') prev b bs) := by
  unfold PutB
  obtain ⟨cs, hcs⟩ : ∃ cs, cs = (cellsI b).toArray := ⟨_, rfl⟩
  have hvc : blkV b = .agg cs := by rw [hcs]; rfl
  obtain ⟨w1, hw1⟩ : ∃ w1, w1 = (w.alloc (.cells #[.pointer (some ⟨d, 0, none⟩)] 47)).alloc (.cells cs 23) := ⟨_, rfl⟩
  have bel : Below w.heap.size w w1 := by rw [hw1]; exact on_trans (on_alloc _ _) (on_alloc _ _)
  have hs1 : w1.heap.size = w.heap.size + 2 := by rw [hw1]; simp
  have hB : Blk w1 (w.heap.size + 1) b := ⟨by rw [hw1, ← hcs]; have := Box.made (w.alloc (.cells #[.pointer (some ⟨d, 0, none⟩)] 47)) 23 cs; rwa [show (w.alloc (.cells #[.pointer (some ⟨d, 0, none⟩)] 47)).heap.size = w.heap.size + 1 by simp] at this, hb⟩
  have h5 : Box w1 w.heap.size 47 #[.pointer (some ⟨d, 0, none⟩)] := by rw [hw1]; exact (Box.made _ _ _).on (on_alloc _ _)
  have HB := Lib.hid (And.intro hB (And.intro bel (And.intro hw1 (And.intro (hT.on bel) (And.intro (h.on bel) (And.intro (h'.on bel) (And.intro (hw.on bel) (And.intro h5 hs1))))))))
  have HI := Lib.hid (And.intro hb (And.intro hv (And.intro hv' (And.intro hl (And.intro hd2 (And.intro hd3 (And.intro hhi (And.intro hhi' (And.intro hd0 (And.intro hw.lt hT.zero))))))))))
  have HL := Lib.hid (show (Instr.loadAt 23 (.pointer (some ⟨w.heap.size + 1, 0, none⟩))).run Tryd.prog w1 = .ok (blkV b) w1 from hB.load)
  have HV := Lib.hid hvc
  rw [hvc]
  clear hvc hcs hw1 bel hs1 hB h5 hT hb h hv h' hv' hw hl hd2 hd3 hhi hhi' hd0
  by_cases hin : In prev
  · have hd1 : decide (In prev) = true := by simpa using hin
    have HD := Lib.hid (And.intro hd1 hin)
    clear hd1 hin
    go_enter Tryd.func23, Tryd.ntmps23
    go_wp2_with fail
    rw [← HB.out.2.2.1]
    refine (inRange_any _ prev).mono ?_
    rintro e w2 ⟨rfl, rfl⟩
    rw [HD.out.1]
    go_wp2_with (first
      | ((with_reducible refine wpList_load_when (op := ⟨some 18, _, _, _, _, _⟩) ?hw 23 (.tmp 9) rfl (.pointer (some ⟨w.heap.size + 1, 0, none⟩)) rfl (blkV b) HL.out ?_)
         case hw => rfl)
      | fail)
    refine (right64_any _ b HI.out.1).mono ?_
    rintro e w2 ⟨rfl, b2⟩
    have H2 := Lib.hid b2
    clear b2
    by_cases hr : RightB b
    · have hd1 : decide (RightB b) = true := by simpa using hr
      rw [hd1]
      have HR := Lib.hid hr
      clear hd1 hr
      have hz90 : ∀ w, (zeroValue 90).run Tryd.prog w = .ok (.agg #[.pointer none, .pointer none]) w := fun w => by kernel_rfl
      have hb90 : ∀ w, (Instr.build 90 #[(0, .pointer (some ⟨t, 0, none⟩)), (1, .pointer (some ⟨t', 0, none⟩))]).run Tryd.prog w = .ok (.agg #[.pointer (some ⟨t, 0, none⟩), .pointer (some ⟨t', 0, none⟩)]) w := fun w => run_build w 90 _ _ (by show Program.built _ _ _ = _; kernel_rfl)
      have hmf : ∀ (fn : Fn) (first cap : Array Value) (w : World), (Instr.makeFunc fn first cap).run Tryd.prog w = .ok (.func fn first cap) w := fun _ _ _ _ => rfl
      obtain ⟨w3, hw3⟩ : ∃ w3, w3 = (w2.alloc (.cells #[.pointer (some ⟨t, 0, none⟩), .pointer (some ⟨t', 0, none⟩)] 90)).alloc (.cells #[.bool true] 4) := ⟨_, rfl⟩
      have b3 : Below w2.heap.size w2 w3 := by rw [hw3]; exact on_trans (on_alloc _ _) (on_alloc _ _)
      have HL3 := Lib.hid (show (Instr.loadAt 23 (.pointer (some ⟨w.heap.size + 1, 0, none⟩))).run Tryd.prog w3 = .ok (blkV b) w3 from ((HB.out.1.on H2.out).on b3).load)
      have H3 := Lib.hid (And.intro hw3 b3)
      clear hw3 b3
      go_wp2_with (first
        | (with_reducible refine wpList_load_to (op := ⟨some 26, _, _, _, _, _⟩) rfl 23 (.tmp 9) rfl (.pointer (some ⟨w.heap.size + 1, 0, none⟩)) rfl (blkV b) (by rw [← H3.out.1]; exact HL3.out) ?_)
        | fail)
      rw [← H3.out.1]
      have hsz2 := H2.out.size
      have hsz1 := HB.out.2.2.2.2.2.2.2.2
      have hT2 : TwoT w3 w2.heap.size lo hi t lo' hi' t' B V B' V' := by
        have hbx : Box w3 w2.heap.size 90 #[.pointer (some ⟨t, 0, none⟩), .pointer (some ⟨t', 0, none⟩)] := by rw [H3.out.1]; exact (Box.made _ _ _).on (on_alloc _ _)
        exact ⟨hbx.cell 0, hbx.cell 1, (HB.out.2.2.2.2.1.on H2.out).on H3.out.2, (HB.out.2.2.2.2.2.1.on H2.out).on H3.out.2⟩
      have hok : Box w3 (w2.heap.size + 1) 4 #[.bool true] := by
        have := Box.made (w2.alloc (.cells #[.pointer (some ⟨t, 0, none⟩), .pointer (some ⟨t', 0, none⟩)] 90)) 4 #[.bool true]
        rw [show (w2.alloc (.cells #[.pointer (some ⟨t, 0, none⟩), .pointer (some ⟨t', 0, none⟩)] 90)).heap.size = w2.heap.size + 1 by simp] at this
        rw [H3.out.1]
        exact this
      obtain ⟨g11, hg11⟩ : ∃ g11, g11 = w2.heap.size := ⟨_, rfl⟩
      obtain ⟨hhi, hhi'⟩ : hi ≤ w.heap.size ∧ hi' ≤ w.heap.size := ⟨HI.out.2.2.2.2.2.2.1, HI.out.2.2.2.2.2.2.2.1⟩
      rw [← hg11] at hT2 hok ⊢
      have hokl := hok.lt
      have h30 : 0 < w3.heap.size := by omega
      have HX := Lib.hid (And.intro hsz2 (And.intro hsz1 (And.intro hg11 (And.intro hhi (And.intro hhi' hokl)))))
      refine (each_any (fun i => i = g11 + 1) (fun l w => TwoT w g11 lo hi t lo' hi' t' B V B' V' ∧ Box w (g11 + 1) 4 #[.bool (l.all (foundS (codes B V) (codes B' V')))]) 41 #[.pointer (some ⟨g11, 0, none⟩), .pointer (some ⟨g11 + 1, 0, none⟩)] calls41 (fun l w1 w2 h k => ⟨h.1.on k, h.2.on k⟩) w3 prev b ((HB.out.2.2.2.1.on H2.out).on H3.out.2) HI.out.1 HR.out HD.out.2 ?_ ⟨hT2, hok⟩ ?_).mono ?_
      · intro i hi
        have hi : i = g11 + 1 := hi
        omega
      · intro l s w6 ⟨r, hr⟩ hc hk
        have hs : SymOk s := allS_ok HR.out HD.out.2 s (by rw [← hr]; simp)
        refine (one_step hc.1 HI.out.2.1 HI.out.2.2.1 hs hc.2 (by omega) (.inr (by omega)) (.inr (by omega))).mono ?_
        rintro e w7 ⟨rfl, ⟨h7, h8⟩, k7⟩
        refine ⟨rfl, ⟨h7, ?_⟩, k7⟩
        rw [List.all_append, List.all_cons, List.all_nil, Bool.and_true]
        exact h8
      rintro e w4 ⟨rfl, ⟨hT4, hok4⟩, k4⟩
      obtain ⟨fo, hfo⟩ : ∃ fo, fo = (allS prev b).all (foundS (codes B V) (codes B' V')) := ⟨_, rfl⟩
      rw [← hfo] at hok4
      have c4 : w4.cell? ⟨g11 + 1, 0, none⟩ = some (.bool fo) := hok4.cell 0
      have bel4 : Below w1.heap.size w1 w4 := by
        have b13 := on_trans H2.out H3.out.2
        exact b13.trans (k4.below b13.size (fun i hi e => by omega))
      have H4 := Lib.hid (And.intro hT4 (And.intro bel4 (And.intro hfo k4.size)))
      clear hT2 hok hT4 hok4 k4 bel4 hfo hsz2 hsz1 hg11 hhi hhi' hokl h30
      cases fo with
      | false =>
        have hE : putBE (codes B V) (codes B' V') prev b = 6 := by unfold putBE; rw [if_pos ⟨HD.out.2, HR.out⟩, ← H4.out.2.2.1]; rfl
        have HE := Lib.hid hE
        clear hE
        go_wp2
        go_ret
        unfold putBL
        rw [HE.out, if_neg (by decide)]
        exact ⟨rfl, HB.out.2.2.2.2.2.2.1.on H4.out.2.1, Kept.of_below (on_trans HB.out.2.1 H4.out.2.1) _⟩
      | true =>
        have hz31 : ∀ w, (zeroValue 31).run Tryd.prog w = .ok (.int .i64 0) w := fun w => by kernel_rfl
        obtain ⟨w5, hw5⟩ : ∃ w5, w5 = w4.alloc (.cells #[.int .i64 0] 31) := ⟨_, rfl⟩
        have b5 : Below w4.heap.size w4 w5 := by rw [hw5]; exact on_alloc _ _
        have H5 := Lib.hid (And.intro hw5 b5)
        have HL5 := Lib.hid (show (Instr.loadAt 23 (.pointer (some ⟨w.heap.size + 1, 0, none⟩))).run Tryd.prog w5 = .ok (blkV b) w5 from ((HB.out.1.on H4.out.2.1).on b5).load)
        clear hw5 b5
        go_wp2_with (first
          | (with_reducible refine wpList_load_to (op := ⟨some 32, _, _, _, _, _⟩) rfl 23 (.tmp 9) rfl (.pointer (some ⟨w.heap.size + 1, 0, none⟩)) rfl (blkV b) (by rw [← H5.out.1]; exact HL5.out) ?_)
          | fail)
        rw [← H5.out.1]
        obtain ⟨hsz2, hsz1, hg11, hhi, hhi', hokl⟩ := HX.out
        have hsz4 := H4.out.2.2.2
        have hall : ∀ s ∈ allS prev b, foundS (codes B V) (codes B' V') s = true := List.all_eq_true.1 H4.out.2.2.1.symm
        have h5b := HB.out.2.2.2.2.2.2.2.1.on (on_trans H4.out.2.1 H5.out.2)
        obtain ⟨g13, hg13⟩ : ∃ g13, g13 = w4.heap.size := ⟨_, rfl⟩
        have h13 : Box w5 g13 31 #[.int .i64 0] := by rw [H5.out.1, hg13]; exact Box.made _ _ _
        rw [← hg13]
        have hdl := HI.out.2.2.2.2.2.2.2.2.2.1
        have hd0 := HI.out.2.2.2.2.2.2.2.2.1
        have hd2 := HI.out.2.2.2.2.1
        have hd3 := HI.out.2.2.2.2.2.1
        have hbs := HI.out.2.2.2.1
        have h13l := h13.lt
        have HY := Lib.hid (And.intro hsz4 (And.intro hg13 hdl))
        refine (each_any (fun i => i = d ∨ i = g13) (fun l w6 => TwoT w6 g11 lo hi t lo' hi' t' B V B' V' ∧ Box w6 g13 31 #[.int .i64 0] ∧ w6.cell? ⟨w.heap.size, 0, none⟩ = some (.pointer (some ⟨d, 0, none⟩)) ∧ Wr w6 d (bs ++ bitsOf (codes B V) (codes B' V') l)) 43 #[.pointer (some ⟨g13, 0, none⟩), .pointer (some ⟨w.heap.size, 0, none⟩), .pointer (some ⟨g11, 0, none⟩)] calls43
          (fun l w1 w2 h k => ⟨h.1.on k, h.2.1.on k, (k.cell (p := ⟨w.heap.size, 0, none⟩) (World.block_lt_of_cell? _ _ h.2.2.1)).trans h.2.2.1, h.2.2.2.on k⟩) w5 prev b ((HB.out.2.2.2.1.on H4.out.2.1).on H5.out.2) HI.out.1 HR.out HD.out.2 ?_ ⟨H4.out.1.on H5.out.2, h13, h5b.cell 0, by simpa [bitsOf] using (HB.out.2.2.2.2.2.2.1.on H4.out.2.1).on H5.out.2⟩ ?_).mono ?_
        · intro i hi
          have hi : i = d ∨ i = g13 := hi
          omega
        · intro l s w6 ⟨r, hr⟩ hc hk
          have hmem : s ∈ allS prev b := by rw [← hr]; simp
          have hs : SymOk s := allS_ok HR.out HD.out.2 s hmem
          have hlen : l.length ≤ 64 := by
            have h1 := allS_len prev b
            have h2 := congrArg List.length hr
            simp only [List.length_append, List.length_cons, List.length_nil] at h2
            omega
          have hbl := bitsOf_len HI.out.2.1 HI.out.2.2.1 l (fun x hx => allS_ok HR.out HD.out.2 x (by rw [← hr]; simp [hx]))
          refine (two_step hc.1 HI.out.2.1 HI.out.2.2.1 hs (hall s hmem) hc.2.2.2 (by rw [List.length_append]; omega) hc.2.1 hc.2.2.1 (by omega) (by omega) (by omega) (by omega) (.inr (by omega)) (.inr (by omega)) hd2 hd3).mono ?_
          rintro e w7 ⟨rfl, ⟨h7, h8, h9, h10⟩, k7⟩
          refine ⟨rfl, ⟨h7, h8, h9, ?_⟩, k7⟩
          rw [bitsOf_snoc, ← List.append_assoc]
          exact h10
        rintro e w6 ⟨rfl, ⟨hT6, h136, hc6, hw6⟩, k6⟩
        have c6 : w6.cell? ⟨g13, 0, none⟩ = some (.int .i64 0) := h136.cell 0
        have H6 := Lib.hid (And.intro hw6 k6)
        have hE : putBE (codes B V) (codes B' V') prev b = 0 := by unfold putBE; rw [if_pos ⟨HD.out.2, HR.out⟩, ← H4.out.2.2.1]; rfl
        have HE := Lib.hid hE
        clear hE hT6 h136 hc6 hw6 k6 hsz2 hsz1 hg11 hhi hhi' hokl hsz4 hg13 hdl hd0 hd2 hd3 hbs h13l hall h5b h13
        go_wp2
        go_ret
        unfold putBL
        rw [HE.out, if_pos rfl]
        refine ⟨rfl, H6.out.1, ?_⟩
        obtain ⟨hsz4, hg13, hdl⟩ := HY.out
        obtain ⟨hsz2, hsz1, hg11, hhi, hhi', hokl⟩ := HX.out
        exact (Kept.of_below (on_trans HB.out.2.1 (on_trans H4.out.2.1 H5.out.2)) (fun i => i = d)).trans H6.out.2 (fun i hi h => by rcases h with h | h; exact h; omega)
    · have hd1 : decide (RightB b) = false := by simpa using hr
      rw [hd1]
      have hE : putBE (codes B V) (codes B' V') prev b = 2 := by unfold putBE; rw [if_neg (fun e => hr e.2)]
      have HE := Lib.hid hE
      clear hd1 hr hE
      go_wp2
      go_ret
      unfold putBL
      rw [HE.out, if_neg (by decide)]
      exact ⟨rfl, HB.out.2.2.2.2.2.2.1.on H2.out, Kept.of_below (on_trans HB.out.2.1 H2.out) _⟩
  · have hd1 : decide (In prev) = false := by simpa using hin
    have HD := Lib.hid hd1
    have hE : putBE (codes B V) (codes B' V') prev b = 2 := by unfold putBE; rw [if_neg (fun e => hin e.1)]
    unfold putBL
    rw [hE, if_neg (by decide)]
    clear hd1 hin hE
    go_enter Tryd.func23, Tryd.ntmps23
    go_wp2_with fail
    rw [← HB.out.2.2.1]
    refine (inRange_any _ prev).mono ?_
    rintro e w2 ⟨rfl, rfl⟩
    rw [HD.out]
    go_wp2
    go_ret
    exact ⟨rfl, HB.out.2.2.2.2.2.2.1, Kept.of_below HB.out.2.1 _⟩
end
end Go.Proofs.YthfpdebpepbejaaDoor
