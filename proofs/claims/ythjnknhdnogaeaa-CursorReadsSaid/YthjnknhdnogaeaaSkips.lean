/-
  CursorSkips: the walk.
-/
import Derived.Test.YthjnknhdnogaeaaBytes
namespace Go.Proofs.Ythjnknhdnogaeaa
open Go.RowKit

/-- a call that has moved a cursor, and nothing else that was there -/
def Passed (w : World) (g s : Nat) (A : Option Addr) (n c : Nat) (big : Bool) (p : Nat) (e : Ending) (w' : World) : Prop :=
  ∃ v, e = .returned v ∧ Kept (fun i => i = g) w w' ∧ Cur w' g s A n c big p

section
variable (w : World) (g s : Nat) (A : Option Addr) (n c : Nat) (big : Bool)

theorem skip_to (K : Nat → Prop) (l : List Int) (m : Int) (h : Cur w g s A n c big 0) (hl : Sl w K A n c l) (hm : m ≤ n) (_ : n ≤ 140737488351232) :
    Calls Try.prog 21 #[.pointer (some ⟨g, 0, none⟩), .int .i64 m] w (Passed w g s A n c big m.toNat) := by
  by_cases h1 : m < 1
  · refine (skip_none w g s A n c big 0 m h h1).mono ?_
    rintro e w' ⟨rfl, rfl⟩
    obtain e : m.toNat = 0 := by omega
    rw [e]
    exact ⟨_, rfl, Kept.refl _ _, h⟩
  · obtain ⟨k, rfl⟩ : ∃ k : Nat, m = (k : Int) := ⟨m.toNat, by omega⟩
    refine (skip_ok w g s A n c big 0 k h (by omega) (by omega) hl.cap hl.max).mono ?_
    rintro e w' ⟨rfl, j, rfl⟩
    have h2 := (h.drewN j).moved (0 + k)
    rw [Int.toNat_natCast]
    rw [Nat.zero_add] at h2 ⊢
    exact ⟨_, rfl, ((Kept.refl (fun i => i = g) w).drewN j).setCell (p := ⟨g, 1, none⟩) (fun _ => rfl) _, h2⟩

theorem take_to (K : Nat → Prop) (l : List Int) (m : Int) (h : Cur w g s A n c big 0) (hl : Sl w K A n c l) (hm : m ≤ n) (hn : n ≤ 140737488351232) :
    Calls Try.prog 25 #[.pointer (some ⟨g, 0, none⟩), .int .i64 m] w (Passed w g s A n c big m.toNat) := by
  by_cases h1 : m < 1
  · refine (bytes_none w g s A n c big 0 m h h1).mono ?_
    rintro e w' ⟨rfl, rfl⟩
    obtain e : m.toNat = 0 := by omega
    rw [e]
    exact ⟨_, rfl, Kept.refl _ _, h⟩
  · obtain ⟨k, rfl⟩ : ∃ k : Nat, m = (k : Int) := ⟨m.toNat, by omega⟩
    refine (bytes_ok w g s A n c big 0 K k l h hl (by omega) (by omega) hn).mono ?_
    rintro e w' ⟨b, rfl, _, _, hk, hc⟩
    rw [Int.toNat_natCast]
    rw [Nat.zero_add] at hc
    exact ⟨_, rfl, hk, hc⟩

theorem skip_over (m : Int) (h : Cur w g s A n c big 0) (hm : (n : Int) < m) (hn : n ≤ 9223372036854775807) :
    Calls Try.prog 21 #[.pointer (some ⟨g, 0, none⟩), .int .i64 m] w fun e w' => e = .panicked (gaveUp s 3) ∧ ∃ k, w' = w.drewN k :=
  skip_short w g s A n c big 0 m h (by omega) hn (by omega) (by omega)
theorem take_over (m : Int) (h : Cur w g s A n c big 0) (hm : (n : Int) < m) (hn : n ≤ 9223372036854775807) :
    Calls Try.prog 25 #[.pointer (some ⟨g, 0, none⟩), .int .i64 m] w fun e w' => e = .panicked (gaveUp s 3) ∧ ∃ k, w' = w.drewN k :=
  bytes_short w g s A n c big 0 m h (by omega) hn (by omega) (by omega)

/-- what a function that passes bytes by and tells where it stands has done -/
def Told (va vl p : Nat) (e : Ending) (w' : World) : Prop :=
  e = .returned (.tuple #[]) ∧ Kept (fun i => (i = va ∨ i = vl) ∨ i = g) w w' ∧ Box w' va 3 #[.int .i64 p] ∧ Box w' vl 3 #[.int .i64 ((n - p : Nat) : Int)]

set_option maxHeartbeats 400000 in
theorem skips_ret (K : Nat → Prop) (l : List Int) (m : Int) (vn va vl p : Nat) (hp : m.toNat = p) (x y : Value) (h : Cur w g s A n c big 0) (hl : Sl w K A n c l) (hm : m ≤ n) (hn : n ≤ 140737488351232)
    (hvn : Box w vn 3 #[.int .i64 m]) (hva : Box w va 3 #[x]) (hvl : Box w vl 3 #[y]) (hne : va ≠ vl) :
    Calls Try.prog 30 #[.pointer (some ⟨g, 0, none⟩), .pointer (some ⟨vn, 0, none⟩), .pointer (some ⟨va, 0, none⟩), .pointer (some ⟨vl, 0, none⟩)] w (Told w g n va vl p) := by
  have cn : w.cell? ⟨vn, 0, none⟩ = some (.int .i64 m) := hvn.cell 0
  have hcall := Lib.hid (skip_to w g s A n c big K l m h hl hm hn)
  rw [hp] at hcall
  have hpn : p ≤ n := by omega
  have hag : va ≠ g := hva.apart h.own (by decide)
  have hlg : vl ≠ g := hvl.apart h.own (by decide)
  have HB := Lib.hid (And.intro hva hvl)
  have hcap := hl.cap
  clear hvn hva hvl h hl hp
  go_enter Try.func30, Try.ntmps30
  go_wp2_with fail
  refine hcall.out.mono ?_
  rintro e w1 ⟨v, rfl, hk, hc⟩
  have b1 := hk.box HB.out.1 hag
  have b2 := hk.box HB.out.2 hlg
  have HC := Lib.hid (And.intro hk (And.intro hc (And.intro b1 b2)))
  have ca : w1.cell? ⟨va, 0, none⟩ = some x := b1.cell 0
  have cl : w1.cell? ⟨vl, 0, none⟩ = some y := b2.cell 0
  have fa := b1.free 0
  have fl := b2.free 0
  have hne' := hne.symm
  clear hk hc b1 b2 hcall cn HB
  go_wp2_with fail
  refine (at_is w1 g s A n c big p HC.out.2.1).mono ?_
  rintro e w2 ⟨rfl, rfl⟩
  go_wp2_with fail
  refine (left_is w1 g s A n c big p HC.out.2.1 hpn (by omega)).mono ?_
  rintro e w3 ⟨rfl, k, rfl⟩
  go_wp2
  go_end0
  obtain ⟨hk, _, b1, b2⟩ := HC.out
  refine ⟨rfl, ?_, ?_, ?_⟩
  · exact (((hk.mono (S' := fun i => (i = va ∨ i = vl) ∨ i = g) (fun _ _ h => .inr h)).drewN k).setCell (p := ⟨va, 0, none⟩) (fun _ => .inl (.inl rfl)) _).setCell (p := ⟨vl, 0, none⟩) (fun _ => .inl (.inr rfl)) _
  · exact ((b1.drewN k).put 0 _).beside (p := ⟨vl, 0, none⟩) hne _
  · exact ((b2.drewN k).beside (p := ⟨va, 0, none⟩) hne' _).put 0 _

set_option maxHeartbeats 400000 in
theorem skips_up (m : Int) (vn va vl : Nat) (h : Cur w g s A n c big 0) (hm : (n : Int) < m) (hn : n ≤ 9223372036854775807) (hvn : Box w vn 3 #[.int .i64 m]) :
    Calls Try.prog 30 #[.pointer (some ⟨g, 0, none⟩), .pointer (some ⟨vn, 0, none⟩), .pointer (some ⟨va, 0, none⟩), .pointer (some ⟨vl, 0, none⟩)] w fun e w' => e = .panicked (gaveUp s 3) ∧ ∃ k, w' = w.drewN k := by
  have cn : w.cell? ⟨vn, 0, none⟩ = some (.int .i64 m) := hvn.cell 0
  have hcall := Lib.hid (skip_over w g s A n c big m h hm hn)
  clear hvn h
  go_enter Try.func30, Try.ntmps30
  go_wp2_with fail
  refine hcall.out.mono ?_
  rintro e w1 ⟨rfl, k, rfl⟩
  exact ⟨rfl, rfl, ⟨_, rfl⟩⟩

set_option maxHeartbeats 400000 in
theorem takes_ret (K : Nat → Prop) (l : List Int) (m : Int) (vn va vl p : Nat) (hp : m.toNat = p) (x y : Value) (h : Cur w g s A n c big 0) (hl : Sl w K A n c l) (hm : m ≤ n) (hn : n ≤ 140737488351232)
    (hvn : Box w vn 3 #[.int .i64 m]) (hva : Box w va 3 #[x]) (hvl : Box w vl 3 #[y]) (hne : va ≠ vl) :
    Calls Try.prog 31 #[.pointer (some ⟨g, 0, none⟩), .pointer (some ⟨vn, 0, none⟩), .pointer (some ⟨va, 0, none⟩), .pointer (some ⟨vl, 0, none⟩)] w (Told w g n va vl p) := by
  have cn : w.cell? ⟨vn, 0, none⟩ = some (.int .i64 m) := hvn.cell 0
  have hcall := Lib.hid (take_to w g s A n c big K l m h hl hm hn)
  rw [hp] at hcall
  have hpn : p ≤ n := by omega
  have hag : va ≠ g := hva.apart h.own (by decide)
  have hlg : vl ≠ g := hvl.apart h.own (by decide)
  have HB := Lib.hid (And.intro hva hvl)
  have hcap := hl.cap
  clear hvn hva hvl h hl hp
  go_enter Try.func31, Try.ntmps31
  go_wp2_with fail
  refine hcall.out.mono ?_
  rintro e w1 ⟨v, rfl, hk, hc⟩
  have b1 := hk.box HB.out.1 hag
  have b2 := hk.box HB.out.2 hlg
  have HC := Lib.hid (And.intro hk (And.intro hc (And.intro b1 b2)))
  have ca : w1.cell? ⟨va, 0, none⟩ = some x := b1.cell 0
  have cl : w1.cell? ⟨vl, 0, none⟩ = some y := b2.cell 0
  have fa := b1.free 0
  have fl := b2.free 0
  have hne' := hne.symm
  clear hk hc b1 b2 hcall cn HB
  go_wp2_with fail
  refine (at_is w1 g s A n c big p HC.out.2.1).mono ?_
  rintro e w2 ⟨rfl, rfl⟩
  go_wp2_with fail
  refine (left_is w1 g s A n c big p HC.out.2.1 hpn (by omega)).mono ?_
  rintro e w3 ⟨rfl, k, rfl⟩
  go_wp2
  go_end0
  obtain ⟨hk, _, b1, b2⟩ := HC.out
  refine ⟨rfl, ?_, ?_, ?_⟩
  · exact (((hk.mono (S' := fun i => (i = va ∨ i = vl) ∨ i = g) (fun _ _ h => .inr h)).drewN k).setCell (p := ⟨va, 0, none⟩) (fun _ => .inl (.inl rfl)) _).setCell (p := ⟨vl, 0, none⟩) (fun _ => .inl (.inr rfl)) _
  · exact ((b1.drewN k).put 0 _).beside (p := ⟨vl, 0, none⟩) hne _
  · exact ((b2.drewN k).beside (p := ⟨va, 0, none⟩) hne' _).put 0 _

set_option maxHeartbeats 400000 in
theorem takes_up (m : Int) (vn va vl : Nat) (h : Cur w g s A n c big 0) (hm : (n : Int) < m) (hn : n ≤ 9223372036854775807) (hvn : Box w vn 3 #[.int .i64 m]) :
    Calls Try.prog 31 #[.pointer (some ⟨g, 0, none⟩), .pointer (some ⟨vn, 0, none⟩), .pointer (some ⟨va, 0, none⟩), .pointer (some ⟨vl, 0, none⟩)] w fun e w' => e = .panicked (gaveUp s 3) ∧ ∃ k, w' = w.drewN k := by
  have cn : w.cell? ⟨vn, 0, none⟩ = some (.int .i64 m) := hvn.cell 0
  have hcall := Lib.hid (take_over w g s A n c big m h hm hn)
  clear hvn h
  go_enter Try.func31, Try.ntmps31
  go_wp2_with fail
  refine hcall.out.mono ?_
  rintro e w1 ⟨rfl, k, rfl⟩
  exact ⟨rfl, rfl, ⟨_, rfl⟩⟩

end

theorem calls30 (args : Array Value) (w : World) : (callFunc 30 args).run Try.prog w = .ok (.enter 30 args) w := by kernel_rfl
theorem calls31 (args : Array Value) (w : World) : (callFunc 31 args).run Try.prog w = .ok (.enter 31 args) w := by kernel_rfl

/-- what a Try of such a function answers: 0, and where it stands; or 3, and nothing is told -/
def Stood (w : World) (n : Nat) (m : Int) (va vl : Nat) (e : Ending) (w' : World) : Prop :=
  Kept (fun i => i = va ∨ i = vl) w w' ∧
    ((m ≤ n ∧ e = .returned (.int .i64 0) ∧ Box w' va 3 #[.int .i64 ((m.toNat : Nat) : Int)] ∧ Box w' vl 3 #[.int .i64 ((n - m.toNat : Nat) : Int)]) ∨
     ((n : Int) < m ∧ e = .returned (.int .i64 3) ∧ Box w' va 3 #[.int .i64 0] ∧ Box w' vl 3 #[.int .i64 0]))

section
variable (w : World) (A : Option Addr) (n c : Nat) (big : Bool)

theorem skips_try (K : Nat → Prop) (l : List Int) (m : Int) (vn va vl : Nat) (hl : Sl w K A n c l) (hn : n ≤ 140737488351232)
    (hvn : Box w vn 3 #[.int .i64 m]) (hva : Box w va 3 #[.int .i64 0]) (hvl : Box w vl 3 #[.int .i64 0]) (hne : va ≠ vl) :
    Calls Try.prog 14 #[.slice A n c, .bool big, .func (.func 30) #[] #[.pointer (some ⟨vn, 0, none⟩), .pointer (some ⟨va, 0, none⟩), .pointer (some ⟨vl, 0, none⟩)]] w (Stood w n m va vl) := by
  have ko := opened_kept w A n c big (fun _ => False)
  have hS : ∀ i, (i = va ∨ i = vl) → i < w.heap.size := by
    rintro i (rfl | rfl)
    · exact hva.lt
    · exact hvl.lt
  have hca := hl.cap
  by_cases hm : m ≤ n
  · have h := try_ret_kept w A n c big 30 #[.pointer (some ⟨vn, 0, none⟩), .pointer (some ⟨va, 0, none⟩), .pointer (some ⟨vl, 0, none⟩)] calls30 (fun i => i = va ∨ i = vl) hS
      (fun w1 => Box w1 va 3 #[.int .i64 ((m.toNat : Nat) : Int)] ∧ Box w1 vl 3 #[.int .i64 ((n - m.toNat : Nat) : Int)])
      (skips_ret _ _ _ A n c big K l m vn va vl _ rfl _ _ (opened_cur w A n c big) (hl.kept ko (fun _ _ h => h)) hm hn (ko.box hvn (fun h => h)) (ko.box hva (fun h => h)) (ko.box hvl (fun h => h)) hne)
    refine h.mono ?_
    rintro e w' ⟨rfl, hk, w1, ⟨q1, q2⟩, hk1⟩
    have := hva.lt
    have := hvl.lt
    exact ⟨hk, .inl ⟨hm, rfl, hk1.box q1 (by omega), hk1.box q2 (by omega)⟩⟩
  · have h := try_up_kept w A n c big 30 #[.pointer (some ⟨vn, 0, none⟩), .pointer (some ⟨va, 0, none⟩), .pointer (some ⟨vl, 0, none⟩)] calls30 (fun i => i = va ∨ i = vl) hS
      (fun w1 => Box w1 va 3 #[.int .i64 0] ∧ Box w1 vl 3 #[.int .i64 0]) 3
      ((skips_up _ _ _ A n c big m vn va vl (opened_cur w A n c big) (by omega) (by omega) (ko.box hvn (fun h => h))).mono (by
        rintro e w1 ⟨rfl, k, rfl⟩
        exact ⟨rfl, (Kept.refl _ _).drewN k, (ko.box hva (fun h => h)).drewN k, (ko.box hvl (fun h => h)).drewN k⟩))
    refine h.mono ?_
    rintro e w' ⟨rfl, hk, w1, ⟨q1, q2⟩, hk1⟩
    have := hva.lt
    have := hvl.lt
    exact ⟨hk, .inr ⟨by omega, rfl, hk1.box q1 (by omega), hk1.box q2 (by omega)⟩⟩

theorem takes_try (K : Nat → Prop) (l : List Int) (m : Int) (vn va vl : Nat) (hl : Sl w K A n c l) (hn : n ≤ 140737488351232)
    (hvn : Box w vn 3 #[.int .i64 m]) (hva : Box w va 3 #[.int .i64 0]) (hvl : Box w vl 3 #[.int .i64 0]) (hne : va ≠ vl) :
    Calls Try.prog 14 #[.slice A n c, .bool big, .func (.func 31) #[] #[.pointer (some ⟨vn, 0, none⟩), .pointer (some ⟨va, 0, none⟩), .pointer (some ⟨vl, 0, none⟩)]] w (Stood w n m va vl) := by
  have ko := opened_kept w A n c big (fun _ => False)
  have hS : ∀ i, (i = va ∨ i = vl) → i < w.heap.size := by
    rintro i (rfl | rfl)
    · exact hva.lt
    · exact hvl.lt
  have hca := hl.cap
  by_cases hm : m ≤ n
  · have h := try_ret_kept w A n c big 31 #[.pointer (some ⟨vn, 0, none⟩), .pointer (some ⟨va, 0, none⟩), .pointer (some ⟨vl, 0, none⟩)] calls31 (fun i => i = va ∨ i = vl) hS
      (fun w1 => Box w1 va 3 #[.int .i64 ((m.toNat : Nat) : Int)] ∧ Box w1 vl 3 #[.int .i64 ((n - m.toNat : Nat) : Int)])
      (takes_ret _ _ _ A n c big K l m vn va vl _ rfl _ _ (opened_cur w A n c big) (hl.kept ko (fun _ _ h => h)) hm hn (ko.box hvn (fun h => h)) (ko.box hva (fun h => h)) (ko.box hvl (fun h => h)) hne)
    refine h.mono ?_
    rintro e w' ⟨rfl, hk, w1, ⟨q1, q2⟩, hk1⟩
    have := hva.lt
    have := hvl.lt
    exact ⟨hk, .inl ⟨hm, rfl, hk1.box q1 (by omega), hk1.box q2 (by omega)⟩⟩
  · have h := try_up_kept w A n c big 31 #[.pointer (some ⟨vn, 0, none⟩), .pointer (some ⟨va, 0, none⟩), .pointer (some ⟨vl, 0, none⟩)] calls31 (fun i => i = va ∨ i = vl) hS
      (fun w1 => Box w1 va 3 #[.int .i64 0] ∧ Box w1 vl 3 #[.int .i64 0]) 3
      ((takes_up _ _ _ A n c big m vn va vl (opened_cur w A n c big) (by omega) (by omega) (ko.box hvn (fun h => h))).mono (by
        rintro e w1 ⟨rfl, k, rfl⟩
        exact ⟨rfl, (Kept.refl _ _).drewN k, (ko.box hva (fun h => h)).drewN k, (ko.box hvl (fun h => h)).drewN k⟩))
    refine h.mono ?_
    rintro e w' ⟨rfl, hk, w1, ⟨q1, q2⟩, hk1⟩
    have := hva.lt
    have := hvl.lt
    exact ⟨hk, .inr ⟨by omega, rfl, hk1.box q1 (by omega), hk1.box q2 (by omega)⟩⟩

end

theorem five (w : World) (m : Int) (W0 : World) (hW : W0 = ((((w.alloc (.cells #[.int .i64 m] 3)).alloc (.cells #[.int .i64 0] 3)).alloc (.cells #[.int .i64 0] 3)).alloc (.cells #[.int .i64 0] 3)).alloc (.cells #[.int .i64 0] 3)) :
    Box W0 w.heap.size 3 #[.int .i64 m] ∧ Box W0 (w.heap.size + 1) 3 #[.int .i64 0] ∧ Box W0 (w.heap.size + 1 + 1) 3 #[.int .i64 0] ∧ Box W0 (w.heap.size + 1 + 1 + 1) 3 #[.int .i64 0] ∧ Box W0 (w.heap.size + 1 + 1 + 1 + 1) 3 #[.int .i64 0] ∧
      Below w.heap.size w W0 ∧ Kept (fun _ => False) w W0 := by
  subst hW
  have h1 := Box.made (w.alloc (.cells #[.int .i64 m] 3)) 3 #[.int .i64 0]
  have h2 := Box.made ((w.alloc (.cells #[.int .i64 m] 3)).alloc (.cells #[.int .i64 0] 3)) 3 #[.int .i64 0]
  have h3 := Box.made (((w.alloc (.cells #[.int .i64 m] 3)).alloc (.cells #[.int .i64 0] 3)).alloc (.cells #[.int .i64 0] 3)) 3 #[.int .i64 0]
  have h4 := Box.made ((((w.alloc (.cells #[.int .i64 m] 3)).alloc (.cells #[.int .i64 0] 3)).alloc (.cells #[.int .i64 0] 3)).alloc (.cells #[.int .i64 0] 3)) 3 #[.int .i64 0]
  simp only [World.size_alloc] at h1 h2 h3 h4
  have hk : Kept (fun _ => False) w (((((w.alloc (.cells #[.int .i64 m] 3)).alloc (.cells #[.int .i64 0] 3)).alloc (.cells #[.int .i64 0] 3)).alloc (.cells #[.int .i64 0] 3)).alloc (.cells #[.int .i64 0] 3)) :=
    (((((Kept.refl _ w).alloc _).alloc _).alloc _).alloc _).alloc _
  exact ⟨((((Box.made w 3 _).alloc _).alloc _).alloc _).alloc _, ((h1.alloc _).alloc _).alloc _, (h2.alloc _).alloc _, h3.alloc _, h4, hk.below (Nat.le_refl _) (fun _ _ h => h), hk⟩

set_option maxHeartbeats 800000 in
theorem skips_any (w : World) (K : Nat → Prop) (A : Option Addr) (n c : Nat) (l : List Int) (m : Int) (h : Sl w K A n c l) :
    Calls Try.prog 9 #[.slice A n c, .int .i64 m] w fun e w' => e = .returned (.bool true) ∧ Below w.heap.size w w' := by
  by_cases hn : n ≤ 4000
  · have hmf : ∀ (fn : Fn) (first cap : Array Value) (w : World), (Instr.makeFunc fn first cap).run Try.prog w = .ok (.func fn first cap) w := fun _ _ _ _ => rfl
    have H := Lib.hid (h.mono (K' := fun b => b < w.heap.size) (fun _ hb _ => hb))
    have hn2 : ¬ (4000 : Int) < (n : Int) := by omega
    clear h
    go_enter Try.func9, Try.ntmps9
    go_wp2_with fail
    obtain ⟨W0, hW0⟩ : ∃ W0, W0 = ((((w.alloc (.cells #[.int .i64 m] 3)).alloc (.cells #[.int .i64 0] 3)).alloc (.cells #[.int .i64 0] 3)).alloc (.cells #[.int .i64 0] 3)).alloc (.cells #[.int .i64 0] 3) := ⟨_, rfl⟩
    obtain ⟨a0, a1, a2, a3, a4, bw, kw⟩ := five w m W0 hW0
    rw [← hW0]
    have HA := Lib.hid (And.intro a0 (And.intro a1 (And.intro a2 (And.intro a3 (And.intro a4 bw)))))
    have hs0 := H.out.below bw (fun _ _ h => h)
    clear a0 a1 a2 a3 a4 bw kw hW0
    refine (own_any W0 _ A n c l hs0 (by omega)).mono ?_
    rintro e w1 ⟨A1, c1, rfl, s1, b1⟩
    have HS := Lib.hid (And.intro s1 b1)
    clear s1 b1 hs0
    go_wp2_with fail
    obtain ⟨s1, b1⟩ := HS.out
    obtain ⟨a0, a1, a2, a3, a4, bw⟩ := HA.out
    have k1 : Kept (fun _ => False) W0 w1 := Kept.of_below b1 _
    have f1 : Below w.heap.size w w1 := bw.trans (b1.mono bw.size)
    refine (skips_try w1 A1 n c1 true _ l m w.heap.size (w.heap.size + 1) (w.heap.size + 1 + 1) s1 (by omega) (k1.box a0 (fun h => h)) (k1.box a1 (fun h => h)) (k1.box a2 (fun h => h)) (by omega)).mono ?_
    rintro e w2 ⟨k2, hres⟩
    have f2 : Below w.heap.size w w2 := f1.trans (k2.below f1.size (by omega))
    have r0 := k2.box (k1.box a0 (fun h => h)) (by omega)
    have r3 := k2.box (k1.box a3 (fun h => h)) (by omega)
    have r4 := k2.box (k1.box a4 (fun h => h)) (by omega)
    have HT := Lib.hid (And.intro r0 (And.intro r3 (And.intro r4 f2)))
    clear s1 b1 a0 a1 a2 a3 a4 bw k1 f1 HS HA k2 r0 r3 r4 f2
    rcases hres with ⟨hm, rfl, q1, q2⟩ | ⟨hm, rfl, q1, q2⟩
    · obtain ⟨p, hp⟩ : ∃ p, p = m.toNat := ⟨_, rfl⟩
      rw [← hp] at q1 q2
      obtain ⟨r, hr⟩ : ∃ r, r = n - p := ⟨_, rfl⟩
      rw [← hr] at q2
      have hpr : p + r = n := by omega
      have HP := Lib.hid (And.intro hp (And.intro hr hpr))
      have hp4 : p ≤ 4000 := by omega
      have hr4 : r ≤ 4000 := by omega
      have hsum : ((p : Int) + (r : Int) == (n : Int)) = true := by simp; omega
      have HQ := Lib.hid (And.intro q1 q2)
      clear hp hr hpr q1 q2
      go_wp2_with fail
      refine (own_any w2 _ A n c l (H.out.below HT.out.2.2.2 (fun _ _ h => h)) (by omega)).mono ?_
      rintro e w3 ⟨A2, c2, rfl, s2, b2⟩
      have HS := Lib.hid (And.intro s2 b2)
      clear s2 b2
      go_wp2_with fail
      obtain ⟨s2, b2⟩ := HS.out
      obtain ⟨r0, r3, r4, f2⟩ := HT.out
      have k3 : Kept (fun _ => False) w2 w3 := Kept.of_below b2 _
      have f3 : Below w.heap.size w w3 := f2.trans (b2.mono f2.size)
      refine (takes_try w3 A2 n c2 true _ l m w.heap.size (w.heap.size + 1 + 1 + 1) (w.heap.size + 1 + 1 + 1 + 1) s2 (by omega) (k3.box r0 (fun h => h)) (k3.box r3 (fun h => h)) (k3.box r4 (fun h => h)) (by omega)).mono ?_
      rintro e w4 ⟨k4, hres⟩
      have f4 : Below w.heap.size w w4 := f3.trans (k4.below f3.size (by omega))
      have z1 := k4.box (k3.box HQ.out.1 (fun h => h)) (by omega)
      have z2 := k4.box (k3.box HQ.out.2 (fun h => h)) (by omega)
      rcases hres with ⟨_, rfl, q3, q4⟩ | ⟨hm', _⟩
      · rw [← HP.out.1] at q3 q4
        rw [← HP.out.2.1] at q4
        have c1 : w4.cell? ⟨w.heap.size + 1, 0, none⟩ = some (.int .i64 p) := z1.cell 0
        have c2 : w4.cell? ⟨w.heap.size + 1 + 1, 0, none⟩ = some (.int .i64 r) := z2.cell 0
        have c3 : w4.cell? ⟨w.heap.size + 1 + 1 + 1, 0, none⟩ = some (.int .i64 p) := q3.cell 0
        have c4 : w4.cell? ⟨w.heap.size + 1 + 1 + 1 + 1, 0, none⟩ = some (.int .i64 r) := q4.cell 0
        have HF := Lib.hid f4
        clear s2 b2 r0 r3 r4 f2 k3 f3 k4 f4 z1 z2 q3 q4 HT HS HQ HP H
        go_wp2_with fail
        refine (awake_any _).mono ?_
        rintro e w5 ⟨rfl, b5⟩
        have HC := Lib.hid b5
        clear b5
        go_wp2
        go_ret
        exact ⟨rfl, HF.out.trans (HC.out.mono HF.out.size)⟩
      · omega
    · have HQ := Lib.hid (And.intro q1 q2)
      clear q1 q2
      go_wp2_with fail
      refine (own_any w2 _ A n c l (H.out.below HT.out.2.2.2 (fun _ _ h => h)) (by omega)).mono ?_
      rintro e w3 ⟨A2, c2, rfl, s2, b2⟩
      have HS := Lib.hid (And.intro s2 b2)
      clear s2 b2
      go_wp2_with fail
      obtain ⟨s2, b2⟩ := HS.out
      obtain ⟨r0, r3, r4, f2⟩ := HT.out
      have k3 : Kept (fun _ => False) w2 w3 := Kept.of_below b2 _
      have f3 : Below w.heap.size w w3 := f2.trans (b2.mono f2.size)
      refine (takes_try w3 A2 n c2 true _ l m w.heap.size (w.heap.size + 1 + 1 + 1) (w.heap.size + 1 + 1 + 1 + 1) s2 (by omega) (k3.box r0 (fun h => h)) (k3.box r3 (fun h => h)) (k3.box r4 (fun h => h)) (by omega)).mono ?_
      rintro e w4 ⟨k4, hres⟩
      have f4 : Below w.heap.size w w4 := f3.trans (k4.below f3.size (by omega))
      have z1 := k4.box (k3.box HQ.out.1 (fun h => h)) (by omega)
      have z2 := k4.box (k3.box HQ.out.2 (fun h => h)) (by omega)
      rcases hres with ⟨hm', _⟩ | ⟨_, rfl, q3, q4⟩
      · omega
      · have c1 : w4.cell? ⟨w.heap.size + 1, 0, none⟩ = some (.int .i64 0) := z1.cell 0
        have c2 : w4.cell? ⟨w.heap.size + 1 + 1, 0, none⟩ = some (.int .i64 0) := z2.cell 0
        have c3 : w4.cell? ⟨w.heap.size + 1 + 1 + 1, 0, none⟩ = some (.int .i64 0) := q3.cell 0
        have c4 : w4.cell? ⟨w.heap.size + 1 + 1 + 1 + 1, 0, none⟩ = some (.int .i64 0) := q4.cell 0
        have HF := Lib.hid f4
        clear s2 b2 r0 r3 r4 f2 k3 f3 k4 f4 z1 z2 q3 q4 HT HS HQ H
        go_wp2_with fail
        refine (awake_any _).mono ?_
        rintro e w5 ⟨rfl, b5⟩
        have HC := Lib.hid b5
        clear b5
        go_wp2
        go_ret
        exact ⟨rfl, HF.out.trans (HC.out.mono HF.out.size)⟩
  · have hn2 : (4000 : Int) < (n : Int) := by omega
    clear h
    go_enter Try.func9, Try.ntmps9
    go_wp2_with fail
    refine (awake_any _).mono ?_
    rintro e w2 ⟨rfl, b2⟩
    have HC := Lib.hid b2
    clear b2
    go_wp2
    go_ret
    exact ⟨rfl, ((Below.refl _ w).alloc (Nat.le_refl _) _).trans (HC.out.mono (by simp))⟩

end Go.Proofs.Ythjnknhdnogaeaa
