/-
  CursorRows: the walk.
-/
import Derived.Test.YthjnknhdnogaeaaRowFun
namespace Go.Proofs.Ythjnknhdnogaeaa
open Go.RowKit

/-- what the Try answers -/
def RowsRead (w : World) (n vo vg : Nat) (e : Ending) (w' : World) : Prop :=
  e = .returned (.int .i64 0) ∧ Kept (fun i => i = vo ∨ i = vg) w w' ∧ Box w' vo 4 #[.bool true] ∧ Box w' vg 3 #[.int .i64 n]

theorem rows_try (w : World) (big : Bool) (xs zs : List Int) (A : Option Addr) (nb c : Nat) (vl vz vo vg : Nat) (Al Az : Option Addr) (n cl nz cz : Nat)
    (hb : Sl w (fun b => b < vo) A nb c (rowsTo big xs zs n)) (hl : Il w (fun b => b < vo) Al n xs) (hz : Sl w (fun b => b < vo) Az nz cz zs) (hnz : n ≤ nz) (hn : n ≤ 60) (hv : vo < vg)
    (hvl : Box w vl 48 #[.slice Al n cl]) (hvz : Box w vz 22 #[.slice Az nz cz]) (hvo : Box w vo 4 #[.bool true]) (hvg : Box w vg 3 #[.int .i64 0]) :
    Calls Try.prog 14 #[.slice A nb c, .bool big, .func (.func 29) #[] #[.pointer (some ⟨vl, 0, none⟩), .pointer (some ⟨vz, 0, none⟩), .pointer (some ⟨vo, 0, none⟩), .pointer (some ⟨vg, 0, none⟩)]] w (RowsRead w n vo vg) := by
  have ko := opened_kept w A nb c big (fun _ => False)
  have l1 := hvo.lt
  have l2 := hvg.lt
  have hS : ∀ i, (i = vo ∨ i = vg) → i < w.heap.size := by omega
  have h := try_ret_kept w A nb c big 29 #[.pointer (some ⟨vl, 0, none⟩), .pointer (some ⟨vz, 0, none⟩), .pointer (some ⟨vo, 0, none⟩), .pointer (some ⟨vg, 0, none⟩)] calls29 (fun i => i = vo ∨ i = vg) hS
    (fun w1 => Box w1 vo 4 #[.bool true] ∧ Box w1 vg 3 #[.int .i64 n])
    (rows_fun (opened w A nb c big) big xs zs (w.heap.size + 1 + 1 + 1) (w.heap.size + 1) A nb c vl vz vo vg (fun b => b < vo) Al Az n cl nz cz
      ⟨opened_cur w A nb c big, ko.box hvo (fun h => h), ko.box hvg (fun h => h), Kept.refl _ _⟩ (hb.kept ko (fun _ _ h => h)) (hl.kept ko (fun _ _ h => h)) (hz.kept ko (fun _ _ h => h)) hnz hn (by omega)
      (ko.box hvl (fun h => h)) (ko.box hvz (fun h => h)))
  refine h.mono ?_
  rintro e w' ⟨rfl, hk, w1, ⟨q1, q2⟩, hk1⟩
  exact ⟨rfl, hk, hk1.box q1 (by omega), hk1.box q2 (by omega)⟩

theorem put_wd (w : World) (K : Nat → Prop) (A : Option Addr) (n c : Nat) (l : List Int) (v : Int) (m : Nat) (big : Bool) (h : Sl w K A n c l) (hn : n ≤ 140737488351200) (hm : okWidth m) (hv : v ≤ 9223372036854775807) :
    Calls Try.prog 12 #[.slice A n c, .int .i64 v, .int .i64 m, .bool big] w (Owned w (n + m) (l ++ told (max v 0) m big)) := by
  have h := put_any w K A n c l v m big h hn hv
  have e : width (m : Int) = m := by unfold width; rw [if_pos (of_decide_eq_true hm)]; simp
  rw [e] at h
  exact h

theorem boxes2 (w : World) (x y : Value) (t u : TypeId) (W0 : World) (hW : W0 = (w.alloc (.cells #[x] t)).alloc (.cells #[y] u)) : Box W0 w.heap.size t #[x] ∧ Box W0 (w.heap.size + 1) u #[y] ∧ Below w.heap.size w W0 := by
  subst hW
  have h1 := Box.made (w.alloc (.cells #[x] t)) u #[y]
  simp only [World.size_alloc] at h1
  exact ⟨(Box.made w t _).alloc _, h1, ((Kept.refl (fun _ => False) w).alloc _).alloc _ |>.below (Nat.le_refl _) (fun _ _ h => h)⟩

theorem box_cell {w : World} {g : Nat} {t : TypeId} {x : Value} (h : Box w g t #[x]) : w.cell? ⟨g, 0, none⟩ = some x := h.cell 0

set_option maxHeartbeats 2000000 in
theorem rows_any (w : World) (K : Nat → Prop) (big : Bool) (xs zs : List Int) (Al Az : Option Addr) (n cl nz cz : Nat) (hl : Il w K Al n xs) (hz : Sl w K Az nz cz zs) (hnm : n ≤ 9223372036854775807) :
    Calls Try.prog 8 #[.slice Al n cl, .slice Az nz cz, .bool big] w fun e w' => e = .returned (.bool true) ∧ Below w.heap.size w w' := by
  have hzm := hz.max
  have hzc := hz.cap
  unfold maxLen at hzm
  by_cases hn : n ≤ 60 ∧ n ≤ nz
  · obtain ⟨hn6, hnz⟩ := hn
    have hmf : ∀ (fn : Fn) (first cap : Array Value) (w : World), (Instr.makeFunc fn first cap).run Try.prog w = .ok (.func fn first cap) w := fun _ _ _ _ => rfl
    have HL := Lib.hid (And.intro (hl.mono (K' := fun b => b < w.heap.size) (fun _ hb _ => hb)) (hz.mono (K' := fun b => b < w.heap.size) (fun _ hb _ => hb)))
    have t1 : ¬ (60 : Int) < (n : Int) := by omega
    have t2 : ¬ nz < n := by omega
    have t3 : ¬ (nz : Int) < (n : Int) := by omega
    clear hl hz
    go_enter Try.func8, Try.ntmps8
    go_wp2_with fail
    obtain ⟨W0, hW0⟩ : ∃ W0, W0 = (w.alloc (.cells #[.slice Al n cl] 48)).alloc (.cells #[.slice Az nz cz] 22) := ⟨_, rfl⟩
    obtain ⟨a0, a1, bw⟩ := boxes2 w _ _ 48 22 W0 hW0
    rw [← hW0]
    have HA := Lib.hid (And.intro a0 (And.intro a1 bw))
    clear hW0 a0 a1 bw
    go_loopw [7, 26] (fun v i wr => ∃ (k nk : Nat) (A : Option Addr) (c : Nat), k ≤ n ∧ i = .int .i64 k ∧ v = .slice A nk c ∧ Sl wr (fun _ => True) A nk c (rowsTo big xs zs k) ∧ Below W0.heap.size W0 wr) (fun _ i _ => n - (intOf i).toNat)
    case atStart => exact ⟨0, 0, none, 0, Nat.zero_le _, rfl, rfl, sl_nil W0, Below.refl _ _⟩
    case round =>
      obtain ⟨k, nk, A, c, hk, rfl, rfl, hs, hbel⟩ := hrel
      obtain ⟨a0, a1, bw⟩ := HA.out
      obtain ⟨hl, hz⟩ := HL.out
      by_cases hlt : k < n
      · obtain ⟨bl, ol, rfl, hcl⟩ := ((hl.below bw (fun _ _ h => h)).below hbel (fun _ h _ => h)).get hlt
        obtain ⟨bz, oz, rfl, hcz⟩ := ((hz.below bw (fun _ _ h => h)).below hbel (fun _ h _ => h)).get (k := k) (by omega)
        have czv : wr.cell? ⟨w.heap.size + 1, 0, none⟩ = some (.slice (some ⟨bz, oz, none⟩) nz cz) := box_cell ((hbel.block _ a1.lt).trans a1)
        have hzf := hz.bts.fit.getD k
        have hxb := hl.bd k
        have hnk : nk ≤ 480 := by have h1 := rows_le big xs zs k; rw [hs.len] at h1; omega
        obtain ⟨x, hx⟩ : ∃ x, x = xs.getD k 0 := ⟨_, rfl⟩
        obtain ⟨z, hzz⟩ : ∃ z, z = zs.getD k 0 := ⟨_, rfl⟩
        obtain ⟨wd, hwd⟩ : ∃ wd, wd = wdOf z := ⟨_, rfl⟩
        rw [← hx] at hcl hxb
        rw [← hzz] at hcz hzf
        have hwrap := wd_wrap z
        rw [← hwd] at hwrap
        have hok : okWidth wd := by rw [hwd]; exact wd_ok z
        have HP := Lib.hid (put_wd wr _ A nk c _ x wd big hs (by omega) hok hxb.2)
        have HH := Lib.hid (And.intro hx (And.intro hzz (And.intro hwd hbel)))
        clear hok hs hx hzz hwd hbel hl hz a0 a1 bw
        go_wp2_with fail
        refine HP.out.mono ?_
        rintro e w2 ⟨A2, c2, rfl, s2, b2⟩
        have HS := Lib.hid (And.intro s2 b2)
        clear s2 b2 hcl hcz czv hwrap HP
        go_wp2
        go_roundw
        case rel =>
          obtain ⟨hx, hzz, hwd, hbel⟩ := HH.out
          refine ⟨k + 1, _, A2, c2, by omega, by go_num, rfl, ?_, hbel.trans (HS.out.2.mono hbel.size)⟩
          have h := HS.out.1
          rw [rowsTo, ← hx, ← hzz, ← hwd]
          exact h.mono (fun _ _ _ => trivial)
        case measure => simp [intOf]; omega
      · have ek : k = n := by omega
        rw [ek] at hs
        have HS := Lib.hid (And.intro hs hbel)
        clear hs hbel ek a0 a1 bw hl hz
        go_wp2_with fail
        obtain ⟨W3, hW3⟩ : ∃ W3, W3 = (wr.alloc (.cells #[.bool true] 4)).alloc (.cells #[.int .i64 0] 3) := ⟨_, rfl⟩
        obtain ⟨o1, o2, bw3⟩ := boxes2 wr _ _ 4 3 W3 hW3
        rw [← hW3]
        obtain ⟨a0, a1, bw⟩ := HA.out
        obtain ⟨hl, hz⟩ := HL.out
        obtain ⟨hs, hbel⟩ := HS.out
        have u0 : Box wr w.heap.size 48 #[.slice Al n cl] := (hbel.block _ a0.lt).trans a0
        have u1 : Box wr (w.heap.size + 1) 22 #[.slice Az nz cz] := (hbel.block _ a1.lt).trans a1
        have k3 : Kept (fun _ => False) wr W3 := Kept.of_below bw3 _
        have fr : Below w.heap.size w wr := bw.trans (hbel.mono bw.size)
        have f3 : Below w.heap.size w W3 := fr.trans (bw3.mono fr.size)
        have hs3 := (hs.mono (K' := fun b => b < wr.heap.size) (fun _ h _ => h)).kept k3 (fun _ _ h => h)
        have hl3 := (((hl.below fr (fun _ _ h => h)).mono (K' := fun b => b < wr.heap.size) (fun _ h _ => h))).kept k3 (fun _ _ h => h)
        have hz3 := (((hz.below fr (fun _ _ h => h)).mono (K' := fun b => b < wr.heap.size) (fun _ h _ => h))).kept k3 (fun _ _ h => h)
        refine (rows_try W3 big xs zs A nk c w.heap.size (w.heap.size + 1) wr.heap.size (wr.heap.size + 1) Al Az n cl nz cz hs3 hl3 hz3 hnz hn6 (by omega) (k3.box u0 (fun h => h)) (k3.box u1 (fun h => h)) o1 o2).mono ?_
        rintro e w5 ⟨rfl, k5, q1, q2⟩
        have hwr : w.heap.size + 1 < wr.heap.size := u1.lt
        have v0 := k5.box (k3.box u0 (fun h => h)) (by omega)
        have f5 : Below w.heap.size w w5 := f3.trans (k5.below f3.size (by omega))
        have c1 : w5.cell? ⟨wr.heap.size, 0, none⟩ = some (.bool true) := q1.cell 0
        have c2 : w5.cell? ⟨wr.heap.size + 1, 0, none⟩ = some (.int .i64 n) := q2.cell 0
        have c3 : w5.cell? ⟨w.heap.size, 0, none⟩ = some (.slice Al n cl) := v0.cell 0
        have HF := Lib.hid f5
        clear hW3 o1 o2 bw3 a0 a1 bw hl hz hs hbel u0 u1 k3 fr f3 hs3 hl3 hz3 k5 q1 q2 hwr v0 f5 HS HA HL
        go_wp2_with fail
        refine (awake_any _).mono ?_
        rintro e w6 ⟨rfl, b6⟩
        have HC := Lib.hid b6
        clear b6
        go_wp2
        go_ret
        exact ⟨rfl, HF.out.trans (HC.out.mono HF.out.size)⟩
  · have HN := Lib.hid hn
    clear hl hz hn
    by_cases t1 : (60 : Int) < (n : Int)
    · go_enter Try.func8, Try.ntmps8
      go_wp2_with fail
      refine (awake_any _).mono ?_
      rintro e w2 ⟨rfl, b2⟩
      have HC := Lib.hid b2
      clear b2
      go_wp2
      go_ret
      exact ⟨rfl, (((Below.refl _ w).alloc (Nat.le_refl _) _).alloc (by simp) _).trans (HC.out.mono (by simp; omega))⟩
    · have t2 : nz < n := by have := HN.out; omega
      have t3 : (nz : Int) < (n : Int) := by omega
      go_enter Try.func8, Try.ntmps8
      go_wp2_with fail
      refine (awake_any _).mono ?_
      rintro e w2 ⟨rfl, b2⟩
      have HC := Lib.hid b2
      clear b2
      go_wp2
      go_ret
      exact ⟨rfl, (((Below.refl _ w).alloc (Nat.le_refl _) _).alloc (by simp) _).trans (HC.out.mono (by simp; omega))⟩

end Go.Proofs.Ythjnknhdnogaeaa
