/-
  CrcLines: the walk.
-/
import Derived.Test.YthfeblkbkndbkaaDoorCheck
import Derived.Test.YthfeblkbkndbkaaDoorTells
import Derived.Deep.RegionHeld3
namespace Go.Proofs.YthfeblkbkndbkaaDoor
open Go.RowKit

/-- the first k of n bytes exclusive-ored, the others 0 -/
def Lining (l1 l2 l3 : List Int) (n k : Nat) (x : List Int) : Prop :=
  x.length = n ∧ Fit x ∧ ∀ i, i < k → (x.getD i 0).toNat = (l1.getD i 0).toNat ^^^ (l2.getD i 0).toNat ^^^ (l3.getD i 0).toNat

/-- what the loop has done behind k rounds -/
def LinesAt (w : World) (g n k : Nat) (l1 l2 l3 : List Int) (wr : World) : Prop := ∃ x, Lining l1 l2 l3 n k x ∧ Box wr g 5 (cellsOf x).toArray ∧ Below w.heap.size w wr

theorem made_lining (w : World) (l1 l2 l3 : List Int) (n : Nat) : Lining l1 l2 l3 n 0 (List.replicate n 0) ∧ Box (w.alloc (.cells (madeCells #[.int .u8 0] n) 5)) w.heap.size 5 (cellsOf (List.replicate n 0)).toArray := by
  refine ⟨⟨by simp, fun z hz => by rw [List.eq_of_mem_replicate hz]; omega, fun i hi => by omega⟩, ?_⟩
  have e : (cellsOf (List.replicate n 0)).toArray = madeCells #[.int .u8 0] n := by
    apply Array.toList_inj.1
    rw [toList_madeCells_one]
    simp [cellsOf]
  rw [e]
  exact Box.made w 5 _

/-- a byte of a slice -/
theorem byte_at {w : World} {K : Nat → Prop} {A : Option Addr} {n c : Nat} {l : List Int} {k : Nat} (h : Sl w K A n c l) (hk : k < n) : ∃ (b off z : Nat), A = some ⟨b, off, none⟩ ∧ w.cell? ⟨b, off + k, none⟩ = some (.int .u8 (z : Int)) ∧ z < 256 ∧ z = (l.getD k 0).toNat := by
  have hl := h.len
  obtain ⟨b, off, e, _, _, hc⟩ := h.bts.at_ (by omega)
  have hf := h.bts.fit.getD k
  refine ⟨b, off, (l.getD k 0).toNat, e, ?_, by omega, rfl⟩
  rw [hc k (by omega), Int.toNat_of_nonneg hf.1]

theorem lines_one {w wr : World} {g n k u : Nat} {l1 l2 l3 x : List Int} (hlin : Lining l1 l2 l3 n k x) (hbox : Box wr g 5 (cellsOf x).toArray) (hbel : Below w.heap.size w wr) (hg : w.heap.size ≤ g) (hk : k < n) (hub : u < 256)
    (hu : u = (l1.getD k 0).toNat ^^^ (l2.getD k 0).toNat ^^^ (l3.getD k 0).toNat) : LinesAt w g n (k + 1) l1 l2 l3 (wr.setCell ⟨g, k, none⟩ (.int .u8 (u : Int))).drew := by
  have hb := hbox.put k (.int .u8 (u : Int))
  rw [set_cells] at hb
  refine ⟨x.set k (u : Int), ⟨by rw [List.length_set]; exact hlin.1, hlin.2.1.set k _ (by omega) (by omega), fun i hi => ?_⟩, hb, (hbel.setCell (p := ⟨g, k, none⟩) hg _).drew⟩
  by_cases e : i = k
  · subst e
    have : (x.set i (u : Int)).getD i 0 = (u : Int) := by
      simp only [List.getD_eq_getElem?_getD]
      rw [List.getElem?_set_self (by rw [hlin.1]; exact hk)]
      rfl
    rw [this, Int.toNat_natCast, hu]
  · have : (x.set k (u : Int)).getD i 0 = x.getD i 0 := by
      simp only [List.getD_eq_getElem?_getD]
      rw [List.getElem?_set_ne (by omega)]
    rw [this]
    exact hlin.2.2 i (by omega)

theorem lines_sum {n n1 n2 n3 : Nat} {l1 l2 l3 x : List Int} (hlin : Lining l1 l2 l3 n n x) (h1 : l1.length = n1) (h2 : l2.length = n2) (h3 : l3.length = n3) (e1 : n ≤ n1) (e2 : n ≤ n2) (e3 : n ≤ n3) :
    sum x = sum (l1.take n) ^^^ sum (l2.take n) ^^^ sum (l3.take n) := by
  have hg : ∀ (l : List Int) (i : Nat), i < n → (l.take n).getD i 0 = l.getD i 0 := fun l i hi => by
    simp only [List.getD_eq_getElem?_getD]
    rw [List.getElem?_take_of_lt hi]
  refine sum_three _ _ _ n (by rw [List.length_take]; omega) (by rw [List.length_take]; omega) (by rw [List.length_take]; omega) x hlin.1 (fun i hi => ?_)
  rw [hg _ _ hi, hg _ _ hi, hg _ _ hi]
  exact hlin.2.2 i hi

theorem cut0 (A : Option Addr) (c : Nat) : (if c = 0 then A else Option.map (fun x => x.add 0) A) = A := by
  split
  · rfl
  · cases A with
    | none => rfl
    | some a => simp [Addr.add]

set_option maxHeartbeats 1000000 in
theorem lines_any (w : World) (A1 A2 A3 : Option Addr) (n1 c1 n2 c2 n3 c3 n : Nat) (l1 l2 l3 : List Int) (h : At3 w w A1 A2 A3 n1 c1 n2 c2 n3 c3 l1 l2 l3) (hn : n = min (min n1 n2) n3) (hn4 : n ≤ 4000) :
    Calls Tryd.prog 8 #[.slice A1 n1 c1, .slice A2 n2 c2, .slice A3 n3 c3] w (Law w) := by
  obtain ⟨q, hq⟩ : ∃ q, q = min n1 n2 := ⟨_, rfl⟩
  have hm1 : (if n2 < n1 then (n2 : Int) else (n1 : Int)) = (q : Int) := by split <;> omega
  have hm2 : (if n3 < q then (n3 : Int) else (q : Int)) = (n : Int) := by split <;> omega
  have hle1 : n ≤ n1 := by omega
  have hle2 : n ≤ n2 := by omega
  have hle3 : n ≤ n3 := by omega
  have hn' : ¬ (4000 : Int) < (n : Int) := by omega
  have F := Lib.hid h
  have hmk := run_make_row' (P := Tryd.prog) 22 5 (.int .u8 0) 1 Tryd.underlying22 byte_info rfl .i64 .i64 n (by omega) (by omega)
  clear h hn hq
  go_enter Tryd.func8, Tryd.ntmps8
  go_wp2
  have S0 := Lib.hid (And.intro (made_lining w l1 l2 l3 n) (on_alloc w (.cells (madeCells #[.int .u8 0] n) 5)))
  obtain ⟨w1, hw1⟩ : ∃ w1, w1 = w.alloc (.cells (madeCells #[.int .u8 0] n) 5) := ⟨_, rfl⟩
  rw [← hw1] at S0 ⊢
  obtain ⟨g, hg⟩ : ∃ g, g = w.heap.size := ⟨_, rfl⟩
  rw [← hg] at S0 ⊢
  have HG := Lib.hid hg
  clear hw1 hg hmk
  go_loopw [24] (fun i wr => ∃ k : Nat, k ≤ n ∧ i = .int .i64 k ∧ LinesAt w g n k l1 l2 l3 wr) (fun i _ => n - (intOf i).toNat)
  case atStart => exact ⟨0, Nat.zero_le _, rfl, _, S0.out.1.1, S0.out.1.2, by rw [← HG.out] at *; exact S0.out.2⟩
  case round =>
    obtain ⟨k, hk, rfl, x, hlin, hbox, hbel⟩ := hrel
    by_cases hlt : k < n
    · obtain ⟨b1, o1, z1, rfl, hc1, hz1, hy1⟩ := byte_at (F.out.a.on hbel) (show k < n1 by omega)
      obtain ⟨b2, o2, z2, rfl, hc2, hz2, hy2⟩ := byte_at (F.out.b.on hbel) (show k < n2 by omega)
      obtain ⟨b3, o3, z3, rfl, hc3, hz3, hy3⟩ := byte_at (F.out.c.on hbel) (show k < n3 by omega)
      have hfree := hbox.free k
      have hcell : wr.cell? ⟨g, k, none⟩ = some (.int .u8 (x.getD k 0)) := by
        rw [hbox.cell k]
        simp [cellsOf, List.getD_eq_getElem?_getD, List.getElem?_eq_getElem (show k < x.length by rw [hlin.1]; exact hlt)]
      obtain ⟨y, hy⟩ : ∃ y, y = z1 ^^^ z2 := ⟨_, rfl⟩
      have hyb : y < 256 := by rw [hy]; exact Nat.xor_lt_two_pow (n := 8) hz1 hz2
      have hx1 := u8_xor_nat z1 z2 hz1 hz2
      rw [← hy] at hx1
      obtain ⟨u, hu⟩ : ∃ u, u = y ^^^ z3 := ⟨_, rfl⟩
      have hub : u < 256 := by rw [hu]; exact Nat.xor_lt_two_pow (n := 8) hyb hz3
      have hx2 := u8_xor_nat y z3 hyb hz3
      rw [← hu] at hx2
      have HR := Lib.hid (And.intro hlin (And.intro hbox (And.intro hbel (And.intro hy1 (And.intro hy2 (And.intro hy3 (And.intro hy hu)))))))
      clear hlin hbox hbel hy1 hy2 hy3 hy hu
      go_wp2
      go_region
      go_wp2
      go_roundw
      case rel =>
        obtain ⟨hlin, hbox, hbel, hy1, hy2, hy3, hy, hu⟩ := HR.out
        refine ⟨k + 1, by omega, by go_num, ?_⟩
        exact lines_one hlin hbox hbel (by rw [HG.out]; exact Nat.le_refl _) hlt hub (by rw [hu, hy, hy1, hy2, hy3])
      case measure => simp [intOf]; omega
    · have ek : k = n := by omega
      rw [ek] at hlin
      clear ek
      obtain ⟨s0, hs0⟩ : ∃ s, s = sum x := ⟨_, rfl⟩
      obtain ⟨s1, hs1⟩ : ∃ s, s = sum (l1.take n) := ⟨_, rfl⟩
      obtain ⟨s2, hs2⟩ : ∃ s, s = sum (l2.take n) := ⟨_, rfl⟩
      obtain ⟨s3, hs3⟩ : ∃ s, s = sum (l3.take n) := ⟨_, rfl⟩
      have q1 : s1 < 4294967296 := by rw [hs1]; exact sum32 (F.out.a.bts.fit.take n)
      have q2 : s2 < 4294967296 := by rw [hs2]; exact sum32 (F.out.b.bts.fit.take n)
      have q3 : s3 < 4294967296 := by rw [hs3]; exact sum32 (F.out.c.bts.fit.take n)
      have hs : s0 = s1 ^^^ s2 ^^^ s3 := by rw [hs0, hs1, hs2, hs3]; exact lines_sum hlin F.out.a.len F.out.b.len F.out.c.len hle1 hle2 hle3
      obtain ⟨y, hy⟩ : ∃ y, y = s1 ^^^ s2 := ⟨_, rfl⟩
      have qy : y < 4294967296 := by rw [hy]; exact Nat.xor_lt_two_pow (n := 32) q1 q2
      have hx1 := u32_xor_nat s1 s2 q1 q2
      rw [← hy] at hx1
      have hx2 := u32_xor_nat y s3 qy q3
      rw [hy, ← hs, ← hy] at hx2
      have HS := Lib.hid (And.intro hs0 (And.intro hs1 (And.intro hs2 hs3)))
      have FR := Lib.hid (And.intro (F.out.on hbel) (sl_of_box (K := fun _ => True) hbox hlin.2.1 hlin.1 (by simp only [maxLen]; omega) trivial))
      have r1 := F.out.a.cap
      have r2 := F.out.b.cap
      have r3 := F.out.c.cap
      clear hs0 hs1 hs2 hs3 hs hy hlin hbox hbel F S0 HG
      go_wp2_with fail
      have cut1 := cut0 A1 c1
      have cut2 := cut0 A2 c2
      have cut3 := cut0 A3 c3
      have lo : (0 : Int) ≤ (n : Int) := by omega
      have hi1 : (n : Int) ≤ (c1 : Int) := by omega
      have hi2 : (n : Int) ≤ (c2 : Int) := by omega
      have hi3 : (n : Int) ≤ (c3 : Int) := by omega
      have hj1 : n ≤ c1 := by omega
      have hj2 : n ≤ c2 := by omega
      have hj3 : n ≤ c3 := by omega
      go_region_held3 (fun _ => True) (exact trivial) (first
        | (go_at_call 12
           refine (sum_one_on wr.drew s0 HS.out.1 FR.out.1.tab FR.out.2.drew).mono ?_
           rintro e w2 ⟨rfl, b2⟩
           have F2 := Lib.hid (FR.out.1.on (on_trans (on_drew wr) b2))
           clear b2 FR)
        | (go_at_call 10
           refine (own_any w2 _ _ n c1 (l1.take n) (F2.out.a.head hle1) (by omega)).mono ?_
           rintro e w3 ⟨X3, d3, rfl, x3, b3⟩
           have F3 := Lib.hid (And.intro (F2.out.on b3) x3)
           clear x3 b3 F2)
        | (go_at_call 12
           refine (sum_one_on w3 s1 HS.out.2.1 F3.out.1.tab F3.out.2).mono ?_
           rintro e w4 ⟨rfl, b4⟩
           have F4 := Lib.hid (F3.out.1.on b4)
           clear b4 F3)
        | (go_at_call 10
           refine (own_any w4 _ _ n c2 (l2.take n) (F4.out.b.head hle2) (by omega)).mono ?_
           rintro e w5 ⟨X5, d5, rfl, x5, b5⟩
           have F5 := Lib.hid (And.intro (F4.out.on b5) x5)
           clear x5 b5 F4)
        | (go_at_call 12
           refine (sum_one_on w5 s2 HS.out.2.2.1 F5.out.1.tab F5.out.2).mono ?_
           rintro e w6 ⟨rfl, b6⟩
           have F6 := Lib.hid (F5.out.1.on b6)
           clear b6 F5)
        | (go_at_call 10
           refine (own_any w6 _ _ n c3 (l3.take n) (F6.out.c.head hle3) (by omega)).mono ?_
           rintro e w7 ⟨X7, d7, rfl, x7, b7⟩
           have F7 := Lib.hid (And.intro (F6.out.on b7) x7)
           clear x7 b7 F6)
        | (go_at_call 12
           refine (sum_one_on w7 s3 HS.out.2.2.2 F7.out.1.tab F7.out.2).mono ?_
           rintro e w8 ⟨rfl, b8⟩
           have F8 := Lib.hid (F7.out.1.on b8)
           clear b8 F7)
        | (go_at_call 9
           refine (awake_any w8 F8.out.tab).mono ?_
           rintro e w9 ⟨rfl, b9⟩
           have F9 := Lib.hid (on_trans F8.out.bel b9)
           clear b9 F8))
      all_goals
        go_wp2
        go_ret
        exact ⟨rfl, F9.out⟩

set_option maxHeartbeats 400000 in
theorem lines_long (w : World) (A1 A2 A3 : Option Addr) (n1 c1 n2 c2 n3 c3 n : Nat) (hT : Tab w) (hn : n = min (min n1 n2) n3) (hn4 : 4000 < n) :
    Calls Tryd.prog 8 #[.slice A1 n1 c1, .slice A2 n2 c2, .slice A3 n3 c3] w (Law w) := by
  have HT := Lib.hid hT
  obtain ⟨q, hq⟩ : ∃ q, q = min n1 n2 := ⟨_, rfl⟩
  have hm1 : (if n2 < n1 then (n2 : Int) else (n1 : Int)) = (q : Int) := by split <;> omega
  have hm2 : (if n3 < q then (n3 : Int) else (q : Int)) = (n : Int) := by split <;> omega
  have hn' : (4000 : Int) < (n : Int) := by omega
  clear hT hn hq
  go_enter Tryd.func8, Tryd.ntmps8
  go_wp2_with fail
  refine (awake_any w HT.out).mono ?_
  rintro e w8 ⟨rfl, b8⟩
  have F8 := Lib.hid b8
  clear b8
  go_wp2
  go_ret
  exact ⟨rfl, F8.out⟩

theorem crcLines_calls (w : World) (K1 K2 K3 : Nat → Prop) (A1 A2 A3 : Option Addr) (n1 c1 n2 c2 n3 c3 : Nat) (l1 l2 l3 : List Int) (hT : Tab w) (h1 : Sl w K1 A1 n1 c1 l1) (h2 : Sl w K2 A2 n2 c2 l2) (h3 : Sl w K3 A3 n3 c3 l3) :
    Calls Tryd.prog 8 #[.slice A1 n1 c1, .slice A2 n2 c2, .slice A3 n3 c3] w (Law w) := by
  by_cases h : 4000 < min (min n1 n2) n3
  · exact lines_long w A1 A2 A3 n1 c1 n2 c2 n3 c3 _ hT rfl h
  · have b := Below.refl w.heap.size w
    exact lines_any w A1 A2 A3 n1 c1 n2 c2 n3 c3 _ l1 l2 l3 ⟨b, hT, h1.on b, h2.on b, h3.on b⟩ rfl (by omega)

end Go.Proofs.YthfeblkbkndbkaaDoor
