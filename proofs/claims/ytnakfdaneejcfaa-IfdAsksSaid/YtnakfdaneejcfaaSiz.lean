/-
  How many bytes a directory has.
-/
import Derived.Test.YtnakfdaneejcfaaRtD
namespace Go.Proofs.Ytnakfdaneejcfaa
open Go.RowKit

/-- how many bytes a field has behind the entries -/
def behN (f : Fd) (big : Bool) : Nat := if wordN big < f.xs.length * tyN f.k big then evenN (f.xs.length * tyN f.k big) else 0
def sumB (l : List Fd) (big : Bool) : Nat := (l.map fun f => behN f big).sum
theorem sumB_more (l : List Fd) (big : Bool) (j : Nat) (h : j < l.length) : sumB (l.take (j + 1)) big = sumB (l.take j) big + behN (l.getD j fd0) big := by
  unfold sumB
  rw [List.take_add_one, List.getElem?_eq_getElem h]
  simp only [Option.toList_some, List.map_append, List.map_cons, List.map_nil, List.sum_append, List.sum_cons, List.sum_nil, Nat.add_zero, List.getD_eq_getElem?_getD, List.getElem?_eq_getElem h, Option.getD_some]
theorem behN_le {f : Fd} {big : Bool} (h : FdOk f big) : behN f big ≤ 16385 := by
  have h1 : f.xs.length ≤ 2048 := h.2.2.2.2.1
  have h2 := Nat.mul_le_mul h1 (tyN_le f.k big)
  unfold behN evenN
  split <;> omega
theorem sumB_le {l : List Fd} {big : Bool} (h : DirOk l big) : ∀ j, j ≤ l.length → sumB (l.take j) big ≤ j * 16385
  | 0, _ => by simp [sumB]
  | j + 1, hj => by
    rw [sumB_more l big j (by omega)]
    have := sumB_le h j (by omega)
    have := behN_le (h.2 j (by omega)).1
    omega
def sizeN (l : List Fd) (big : Bool) : Nat := fixedN big l.length + sumB l big
theorem fixedN_le (big : Bool) {n : Nat} (h : n ≤ 32) : fixedN big n ≤ 700 := by unfold fixedN countN entryN wordN; cases big <;> simp <;> omega
theorem sizeN_le {l : List Fd} {big : Bool} (h : DirOk l big) : sizeN l big ≤ 600000 := by
  have h1 := sumB_le h l.length (Nat.le_refl _)
  rw [List.take_length] at h1
  have := fixedN_le big h.1.2
  have := h.1.2
  unfold sizeN
  omega
def SizeY (l : List Fd) (big : Bool) (w : World) (r : Ending) (w' : World) : Prop := ((¬ DirOk l big ∧ r = .returned (.tuple #[.int .i64 0, .int .i64 1])) ∨ (DirOk l big ∧ r = .returned (.tuple #[.int .i64 (sizeN l big : Nat), .int .i64 0]))) ∧ Below w.heap.size w w'
set_option maxHeartbeats 3200000 in
theorem size_any (A : Option Addr) (n c : Nat) (l : List Fd) (big : Bool) (w : World) (hx : Fl w A n c l) : Calls Try.prog 18 #[.slice A n c, .bool big] w (SizeY l big w) := by
  have hmax := hx.max
  have hcap := hx.cap
  have hlen := hx.len
  unfold maxLen at hmax
  by_cases hd : DirOk l big
  · have hdd : decide (DirOk l big) = true := decide_eq_true hd
    have hn : n ≤ 32 := by have := hd.1.2; omega
    have HR := Lib.hid (right_any A n c l big w hx)
    have HL := Lib.hid (fun w' => layoutOf_any big w')
    have HF := Lib.hid (fun w' => fixed_any big n (by omega) w')
    unfold layV at HL HF
    obtain ⟨F, hF⟩ : ∃ F, fixedN big n = F := ⟨_, rfl⟩
    have hF7 : F ≤ 700 := by rw [← hF]; exact fixedN_le big hn
    rw [hF] at HF
    have H0 := Lib.hid (And.intro hx (And.intro hlen (And.intro hd (And.intro hF hdd))))
    obtain ⟨st, hst⟩ : ∃ st, startL big = st := ⟨_, rfl⟩
    obtain ⟨cn, hcn⟩ : ∃ cn, countN big = cn := ⟨_, rfl⟩
    obtain ⟨wd, hwd⟩ : ∃ wd, wordN big = wd := ⟨_, rfl⟩
    obtain ⟨lm, hlm⟩ : ∃ lm, limitN big = lm := ⟨_, rfl⟩
    rw [hst, hcn, hwd, hlm] at HL HF
    have HW := Lib.hid hwd
    clear hx hlen hd hdd hF hst hcn hwd hlm
    go_enter Try.func18, Try.ntmps18
    go_wp2_with (first
      | (go_at_call 20
         refine HR.out.mono ?_
         rintro e w1 ⟨rfl, b1⟩
         rw [H0.out.2.2.2.2]
         have H1 := Lib.hid b1
         clear b1)
      | (go_at_call 22
         refine (HL.out _).mono ?_
         rintro e w2 ⟨rfl, b2⟩
         obtain ⟨w3, hw3⟩ : ∃ w3, w2.alloc (.cells #[.string ⟨st⟩, .int .i64 (cn : Int), .int .i64 (wd : Int), .int .i64 lm] 51) = w3 := ⟨_, rfl⟩
         have b3 : Below w2.heap.size w2 w3 := by rw [← hw3]; exact on_alloc _ _
         have bx3 : Box w3 w2.heap.size 51 #[.string ⟨st⟩, .int .i64 (cn : Int), .int .i64 (wd : Int), .int .i64 lm] := by rw [← hw3]; exact Box.made _ _ _
         have i0 : w3.cell? ⟨w2.heap.size, 0, none⟩ = some (.string ⟨st⟩) := bx3.cell 0
         have i1 : w3.cell? ⟨w2.heap.size, 1, none⟩ = some (.int .i64 (cn : Int)) := bx3.cell 1
         have i2 : w3.cell? ⟨w2.heap.size, 2, none⟩ = some (.int .i64 (wd : Int)) := bx3.cell 2
         have i3 : w3.cell? ⟨w2.heap.size, 3, none⟩ = some (.int .i64 lm) := bx3.cell 3
         have H3 := Lib.hid (And.intro (on_trans (on_trans H1.out b2) b3) bx3)
         clear b2 b3 bx3)
      | (go_at_call 33
         refine (HF.out _).mono ?_
         rintro e w4 ⟨rfl, b4⟩
         have H4 := Lib.hid (And.intro (on_trans H3.out.1 b4) (H3.out.2.on b4))
         clear b4))
    go_loopw [7, 9, 10, 23] (fun s _ _ i wr => ∃ j : Nat, j ≤ n ∧ i = .int .i64 (j : Int) ∧ s = .int .i64 ((F + sumB (l.take j) big : Nat) : Int) ∧ Below w4.heap.size w4 wr) (fun _ _ _ i _ => n - (intOf i).toNat)
    case atStart => exact ⟨0, by omega, rfl, by simp [sumB], Below.refl _ _⟩
    case round =>
      obtain ⟨j, hj, rfl, rfl, hb⟩ := hrel
      obtain ⟨S, hS⟩ : ∃ S, F + sumB (l.take j) big = S := ⟨_, rfl⟩
      have hS1 : S ≤ 600000 := by
        have := sumB_le H0.out.2.2.1 j (by rw [H0.out.2.1]; exact hj)
        omega
      rw [hS]
      have HB := Lib.hid (And.intro hb hS)
      clear hb hS
      by_cases hjn : j < n
      · obtain ⟨b, off, rfl, hbs, d0, d1, d2, hil⟩ := (H0.out.1.on (on_trans H4.out.1 HB.out.1)).at_ j hjn
        obtain ⟨t, k, fA, fn, fc, fx, hf⟩ : ∃ t k fA fn fc fx, l.getD j fd0 = ⟨t, k, fA, fn, fc, fx⟩ := ⟨_, _, _, _, _, _, rfl⟩
        have hok := (H0.out.2.2.1.2 j (by rw [H0.out.2.1]; exact hjn)).1
        have hbe := sumB_more l big j (by rw [H0.out.2.1]; exact hjn)
        rw [hf] at d0 d1 d2 hok hil hbe
        simp only at d0 d1 d2 hil
        have hfl : fx.length = fn := hil.len
        have hf2 : fn ≤ 2048 := by have h9 : fx.length ≤ 2048 := hok.2.2.2.2.1; omega
        obtain ⟨m, hm⟩ : ∃ m, fn * tyN k big = m := ⟨_, rfl⟩
        have hbn : behN ⟨t, k, fA, fn, fc, fx⟩ big = if wd < m then evenN m else 0 := by unfold behN; simp only; rw [hfl, hm, HW.out]
        rw [hbn] at hbe
        have hm2 : m ≤ 16384 := by rw [← hm]; exact Nat.le_trans (Nat.mul_le_mul hf2 (tyN_le k big)) (by decide)
        have HV := Lib.hid (fun w' => valuesSize_any t k fA fn fc (by omega) big w')
        rw [hm] at HV
        unfold fldV at HV
        obtain ⟨w6, hw6⟩ : ∃ w6, wr.alloc (.cells #[.int .i64 t, .int .i64 k, .slice fA fn fc] 48) = w6 := ⟨_, rfl⟩
        have b6 : Below wr.heap.size wr w6 := by rw [← hw6]; exact on_alloc _ _
        have bx6 : Box w6 wr.heap.size 48 #[.int .i64 t, .int .i64 k, .slice fA fn fc] := by rw [← hw6]; exact Box.made _ _ _
        have c0 : w6.cell? ⟨wr.heap.size, 0, none⟩ = some (.int .i64 t) := bx6.cell 0
        have c1 : w6.cell? ⟨wr.heap.size, 1, none⟩ = some (.int .i64 k) := bx6.cell 1
        have c2 : w6.cell? ⟨wr.heap.size, 2, none⟩ = some (.slice fA fn fc) := bx6.cell 2
        have H6 := Lib.hid (And.intro (on_trans HB.out.1 b6) hbe)
        clear hf hok hil hfl hm hbn b6 bx6 hbe
        by_cases hwm : wd < m
        · have HE := Lib.hid (fun w' => even_any m (by omega) w')
          obtain ⟨ev, hev⟩ : ∃ ev, evenN m = ev := ⟨_, rfl⟩
          have hev2 : ev ≤ 16385 := by rw [← hev]; unfold evenN; omega
          rw [hev] at HE
          have HEV := Lib.hid hev
          clear hev
          go_wp2_with (first
            | (go_at_call 41
               refine (HV.out _).mono ?_
               rintro e w7 ⟨rfl, b7⟩
               have j2 : w7.cell? ⟨w2.heap.size, 2, none⟩ = some (.int .i64 (wd : Int)) := (H4.out.2.on (on_trans H6.out.1 b7)).cell 2
               have H7 := Lib.hid (on_trans H6.out.1 b7)
               clear b7)
            | (go_at_call 37
               refine (HE.out _).mono ?_
               rintro e w8 ⟨rfl, rfl⟩))
          go_roundw
          case rel =>
            have h9 := H6.out.2
            rw [if_pos hwm, HEV.out] at h9
            have h8 := HB.out.2
            refine ⟨j + 1, by omega, by go_num, ?_, H7.out⟩
            rw [h9, show F + (sumB (l.take j) big + ev) = S + ev by omega]
            go_num
          case measure => simp [intOf]; omega
        · go_wp2_with (go_at_call 41
                       refine (HV.out _).mono ?_
                       rintro e w7 ⟨rfl, b7⟩
                       have j2 : w7.cell? ⟨w2.heap.size, 2, none⟩ = some (.int .i64 (wd : Int)) := (H4.out.2.on (on_trans H6.out.1 b7)).cell 2
                       have H7 := Lib.hid (on_trans H6.out.1 b7)
                       clear b7)
          go_roundw
          case rel =>
            have h9 := H6.out.2
            rw [if_neg hwm] at h9
            have h8 := HB.out.2
            exact ⟨j + 1, by omega, by go_num, by rw [h9]; congr 2; omega, H7.out⟩
          case measure => simp [intOf]; omega
      · have hfin : sizeN l big = S := by
          have h8 := HB.out.2
          rw [List.take_of_length_le (by rw [H0.out.2.1]; omega)] at h8
          unfold sizeN
          rw [H0.out.2.1, H0.out.2.2.2.1]
          exact h8
        have HFin := Lib.hid hfin
        clear hfin
        go_wp2_with fail
        exact bodyPost_ret (v := .tuple #[.int .i64 (S : Int), .int .i64 0]) (by simp [results, Try.results18, go_sem]) rfl ⟨.inr ⟨H0.out.2.2.1, by rw [HFin.out]⟩, on_trans H4.out.1 HB.out.1⟩
  · have hdd : decide (DirOk l big) = false := decide_eq_false hd
    have HR := Lib.hid (right_any A n c l big w hx)
    have H0 := Lib.hid hdd
    have HD := Lib.hid hd
    clear hx hdd hd
    go_enter Try.func18, Try.ntmps18
    go_wp2_with (go_at_call 20
                 refine HR.out.mono ?_
                 rintro e w1 ⟨rfl, b1⟩
                 rw [H0.out]
                 have H1 := Lib.hid b1
                 clear b1)
    exact bodyPost_ret (v := .tuple #[.int .i64 0, .int .i64 1]) (by simp [results, Try.results18, go_sem]) rfl ⟨.inl ⟨HD.out, rfl⟩, H1.out⟩
end Go.Proofs.Ytnakfdaneejcfaa
