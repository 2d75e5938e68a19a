/-
  CursorRows: the function that reads, and its Try.
-/
import Derived.Test.YthjnknhdnogaeaaRowMath
namespace Go.Proofs.Ythjnknhdnogaeaa
open Go.RowKit

theorem calls29 (args : Array Value) (w : World) : (callFunc 29 args).run Try.prog w = .ok (.enter 29 args) w := by kernel_rfl

/-- how things stand when k numbers have been read -/
structure RowAt (w : World) (big : Bool) (xs zs : List Int) (g s : Nat) (A : Option Addr) (nb c : Nat) (vo vg k : Nat) (wr : World) : Prop where
  cur : Cur wr g s A nb c big (rowsTo big xs zs k).length
  ok : Box wr vo 4 #[.bool true]
  got : Box wr vg 3 #[.int .i64 k]
  kept : Kept (fun i => (i = vo ∨ i = vg) ∨ i = g) w wr

theorem RowAt.step {w : World} {big : Bool} {xs zs : List Int} {g s : Nat} {A : Option Addr} {nb c vo vg k : Nat} {wr : World} (h : RowAt w big xs zs g s A nb c vo vg k wr) (j : Nat) :
    RowAt w big xs zs g s A nb c vo vg (k + 1) ((((wr.drewN j).setCell ⟨g, 1, none⟩ (.int .i64 (((rowsTo big xs zs k).length + wdOf (zs.getD k 0) : Nat) : Int))).setCell ⟨vo, 0, none⟩ (.bool true)).setCell ⟨vg, 0, none⟩ (.int .i64 ((k + 1 : Nat) : Int))) := by
  have n1 : vo ≠ g := h.ok.apart h.cur.own (by decide)
  have n2 : vg ≠ g := h.got.apart h.cur.own (by decide)
  have n3 : vo ≠ vg := h.ok.apart h.got (by decide)
  have n4 : vo ≠ s := h.ok.apart h.cur.src (by decide)
  have n5 : vg ≠ s := h.got.apart h.cur.src (by decide)
  have hc := (h.cur.drewN j).moved ((rowsTo big xs zs k).length + wdOf (zs.getD k 0))
  refine ⟨?_, ?_, ?_, ?_⟩
  · rw [rows_len]
    exact ⟨(hc.own.beside (p := ⟨vo, 0, none⟩) (fun e => n1 e.symm) _).beside (p := ⟨vg, 0, none⟩) (fun e => n2 e.symm) _, (hc.src.beside (p := ⟨vo, 0, none⟩) (fun e => n4 e.symm) _).beside (p := ⟨vg, 0, none⟩) (fun e => n5 e.symm) _⟩
  · exact (((h.ok.drewN j).beside (p := ⟨g, 1, none⟩) n1 _).put 0 (.bool true)).beside (p := ⟨vg, 0, none⟩) n3 _
  · exact (((h.got.drewN j).beside (p := ⟨g, 1, none⟩) n2 _).beside (p := ⟨vo, 0, none⟩) (fun e => n3 e.symm) _).put 0 _
  · exact (((h.kept.drewN j).setCell (p := ⟨g, 1, none⟩) (fun _ => .inr rfl) _).setCell (p := ⟨vo, 0, none⟩) (fun _ => .inl (.inl rfl)) _).setCell (p := ⟨vg, 0, none⟩) (fun _ => .inl (.inr rfl)) _

theorem pow_small (m : Nat) (h : m ≤ 4) : (256 : Int) ^ m ≤ 4294967296 := by
  have h1 : (256 : Nat) ^ m ≤ 256 ^ 4 := Nat.pow_le_pow_right (by omega) h
  have h2 : ((256 : Int) ^ m) = ((256 ^ m : Nat) : Int) := by simp
  rw [h2]
  omega

set_option maxHeartbeats 2000000 in
theorem rows_fun (w : World) (big : Bool) (xs zs : List Int) (g s : Nat) (A : Option Addr) (nb c : Nat) (vl vz vo vg : Nat) (K : Nat → Prop) (Al Az : Option Addr) (n cl nz cz : Nat)
    (h : RowAt w big xs zs g s A nb c vo vg 0 w) (hb : Sl w K A nb c (rowsTo big xs zs n)) (hl : Il w K Al n xs) (hz : Sl w K Az nz cz zs) (hnz : n ≤ nz) (hn : n ≤ 60) (hK : ∀ b, K b → ¬ ((b = vo ∨ b = vg) ∨ b = g))
    (hvl : Box w vl 48 #[.slice Al n cl]) (hvz : Box w vz 22 #[.slice Az nz cz]) :
    Calls Try.prog 29 #[.pointer (some ⟨g, 0, none⟩), .pointer (some ⟨vl, 0, none⟩), .pointer (some ⟨vz, 0, none⟩), .pointer (some ⟨vo, 0, none⟩), .pointer (some ⟨vg, 0, none⟩)] w
      fun e w' => e = .returned (.tuple #[]) ∧ Kept (fun i => (i = vo ∨ i = vg) ∨ i = g) w w' ∧ Box w' vo 4 #[.bool true] ∧ Box w' vg 3 #[.int .i64 n] := by
  have cl0 : w.cell? ⟨vl, 0, none⟩ = some (.slice Al n cl) := hvl.cell 0
  have nz1 : ¬ ((vz = vo ∨ vz = vg) ∨ vz = g) := by
    rintro ((e | e) | e)
    · exact hvz.apart h.ok (by decide) e
    · exact hvz.apart h.got (by decide) e
    · exact hvz.apart h.cur.own (by decide) e
  have H := Lib.hid (And.intro h (And.intro hb (And.intro hl (And.intro hz (And.intro hvz (And.intro nz1 hK))))))
  have hnzI : (n : Int) ≤ (nz : Int) := by omega
  clear h hb hl hz hvl hvz nz1 hK
  go_enter Try.func29, Try.ntmps29
  go_wp2_with fail
  go_loopw [12] (fun i wr => ∃ k : Nat, k ≤ n ∧ i = .int .i64 k ∧ RowAt w big xs zs g s A nb c vo vg k wr) (fun i _ => n - (intOf i).toNat)
  case atStart => exact ⟨0, Nat.zero_le _, rfl, H.out.1⟩
  case round =>
    obtain ⟨k, hk, rfl, hat⟩ := hrel
    obtain ⟨_, hb, hl, hz, hvz, nz1, hK⟩ := H.out
    by_cases hlt : k < n
    · have hb1 := hb.kept hat.kept hK
      obtain ⟨bl, ol, rfl, hcl⟩ := (hl.kept hat.kept hK).get hlt
      obtain ⟨bz, oz, rfl, hcz⟩ := (hz.kept hat.kept hK).get (k := k) (by omega)
      have czv : wr.cell? ⟨vz, 0, none⟩ = some (.slice (some ⟨bz, oz, none⟩) nz cz) := (hat.kept.box hvz nz1).cell 0
      have hzf := hz.bts.fit.getD k
      have hxb := hl.bd k
      obtain ⟨x, hx⟩ : ∃ x, x = xs.getD k 0 := ⟨_, rfl⟩
      obtain ⟨z, hzz⟩ : ∃ z, z = zs.getD k 0 := ⟨_, rfl⟩
      obtain ⟨wd, hwd⟩ : ∃ wd, wd = wdOf z := ⟨_, rfl⟩
      rw [← hx] at hcl hxb
      rw [← hzz] at hcz hzf
      have hwrap := wd_wrap z
      rw [← hwd] at hwrap
      have hok : okWidth wd := by rw [hwd]; exact wd_ok z
      have hbd := wd_bd hok
      have hroom : (rowsTo big xs zs k).length + wd ≤ nb := by
        have h1 := rows_mono big xs zs (k + 1) n (by omega)
        rw [rows_len, ← hzz, ← hwd] at h1
        rw [hb.len] at h1
        exact h1
      have hval : ((rowsTo big xs zs n).drop (rowsTo big xs zs k).length).take wd = told (max x 0) wd big := by
        have := rows_at big xs zs k n hlt
        rw [← hzz, ← hwd, ← hx] at this
        exact this
      have hmax := hb.max
      have hcap := hb.cap
      have hmm := Int.emod_nonneg (max x 0) (show (256 : Int) ^ wd ≠ 0 from Int.ne_of_gt (Int.pow_pos (by omega)))
      have hM2 : max x 0 % (256 : Int) ^ wd ≤ 9223372036854775807 := by
        have hp : (0 : Int) < (256 : Int) ^ wd := Int.pow_pos (by omega)
        have e1 := Int.emod_add_mul_ediv (max x 0) ((256 : Int) ^ wd)
        have e2 : 0 ≤ (256 : Int) ^ wd * (max x 0 / (256 : Int) ^ wd) := Int.mul_nonneg (by omega) (Int.ediv_nonneg (by omega) (by omega))
        omega
      have HN := Lib.hid (number_ok wr g s A nb c big (rowsTo big xs zs k).length wd (rowsTo big xs zs n) K (max x 0 % (256 : Int) ^ wd) hat.cur hok hroom hcap hmax hb.len hb1.bts (by rw [hval, val_told]) hM2)
      have hstep := hat.step
      rw [← hzz, ← hwd] at hstep
      have HST := Lib.hid hstep
      have n1 : vo ≠ g := hat.ok.apart hat.cur.own (by decide)
      have n2 : vg ≠ g := hat.got.apart hat.cur.own (by decide)
      have n3 : vo ≠ vg := hat.ok.apart hat.got (by decide)
      have HAT := Lib.hid (And.intro hat.ok hat.got)
      have HH := Lib.hid (And.intro hx (And.intro hzz hwd))
      clear hstep hat hb hl hz hvz nz1 hK hb1 hval hroom hmax hcap hx hzz hwd
      by_cases h8 : wd < 8
      · have h4 : wd ≤ 4 := by have := of_decide_eq_true hok; omega
        have hw8 : (wd : Int) < 8 := by omega
        obtain ⟨P, hPe⟩ : ∃ P, P = (256 : Int) ^ wd := ⟨_, rfl⟩
        have hP : wrap64 (2 ^ (8 * wd)) = P := by rw [hPe]; exact wd_pow hok h8
        have hP0 : 0 < P := by rw [hPe]; exact Int.pow_pos (by omega)
        rw [← hPe] at hmm hM2 HN
        by_cases hx0 : x < 0
        · rw [show max x 0 = 0 from by omega, Int.zero_emod] at HN
          clear hmm hM2 hPe
          go_wp2_with fail
          refine HN.out.mono ?_
          rintro e w1 ⟨rfl, j, rfl⟩
          have hst := HST.out j
          have b1 := (HAT.out.1.drewN j).beside (p := ⟨g, 1, none⟩) n1 (.int .i64 (((rowsTo big xs zs k).length + wd : Nat) : Int))
          have b2 := (HAT.out.2.drewN j).beside (p := ⟨g, 1, none⟩) n2 (.int .i64 (((rowsTo big xs zs k).length + wd : Nat) : Int))
          obtain ⟨W, hW⟩ : ∃ W, W = (wr.drewN j).setCell ⟨g, 1, none⟩ (.int .i64 (((rowsTo big xs zs k).length + wd : Nat) : Int)) := ⟨_, rfl⟩
          rw [← hW] at hst b1 b2 ⊢
          have co : W.cell? ⟨vo, 0, none⟩ = some (.bool true) := b1.cell 0
          have fo := b1.free 0
          have cg : W.cell? ⟨vg, 0, none⟩ = some (.int .i64 k) := b2.cell 0
          have fg := b2.free 0
          have n4 := n3.symm
          have HS2 := Lib.hid hst
          clear hst b1 b2 hW HN HST HAT hcl hcz czv
          go_wp2
          go_roundw
          case rel => exact ⟨k + 1, by omega, by go_num, HS2.out⟩
          case measure => simp [intOf]; omega
        · obtain ⟨M, hxP⟩ : ∃ M, x % P = M := ⟨_, rfl⟩
          rw [show max x 0 = x from by omega, hxP] at HN hmm hM2
          have hP1 : P ≤ 4294967296 := by rw [hPe]; exact pow_small wd h4
          clear hPe
          go_wp2_with fail
          refine HN.out.mono ?_
          rintro e w1 ⟨rfl, j, rfl⟩
          have hst := HST.out j
          have b1 := (HAT.out.1.drewN j).beside (p := ⟨g, 1, none⟩) n1 (.int .i64 (((rowsTo big xs zs k).length + wd : Nat) : Int))
          have b2 := (HAT.out.2.drewN j).beside (p := ⟨g, 1, none⟩) n2 (.int .i64 (((rowsTo big xs zs k).length + wd : Nat) : Int))
          obtain ⟨W, hW⟩ : ∃ W, W = (wr.drewN j).setCell ⟨g, 1, none⟩ (.int .i64 (((rowsTo big xs zs k).length + wd : Nat) : Int)) := ⟨_, rfl⟩
          rw [← hW] at hst b1 b2 ⊢
          have co : W.cell? ⟨vo, 0, none⟩ = some (.bool true) := b1.cell 0
          have fo := b1.free 0
          have cg : W.cell? ⟨vg, 0, none⟩ = some (.int .i64 k) := b2.cell 0
          have fg := b2.free 0
          have n4 := n3.symm
          have HS2 := Lib.hid hst
          clear hst b1 b2 hW HN HST HAT hcl hcz czv
          go_wp2
          go_roundw
          case rel => exact ⟨k + 1, by omega, by go_num, HS2.out⟩
          case measure => simp [intOf]; omega
      · have e8 : wd = 8 := by omega
        have hw8 : ¬ (wd : Int) < 8 := by omega
        have hpow : (256 : Int) ^ wd = 18446744073709551616 := by rw [e8]; rfl
        rw [hpow] at HN
        clear hpow
        by_cases hx0 : x < 0
        · rw [show max x 0 = 0 from by omega, Int.zero_emod] at HN
          clear hmm hM2 e8
          go_wp2_with fail
          refine HN.out.mono ?_
          rintro e w1 ⟨rfl, j, rfl⟩
          have hst := HST.out j
          have b1 := (HAT.out.1.drewN j).beside (p := ⟨g, 1, none⟩) n1 (.int .i64 (((rowsTo big xs zs k).length + wd : Nat) : Int))
          have b2 := (HAT.out.2.drewN j).beside (p := ⟨g, 1, none⟩) n2 (.int .i64 (((rowsTo big xs zs k).length + wd : Nat) : Int))
          obtain ⟨W, hW⟩ : ∃ W, W = (wr.drewN j).setCell ⟨g, 1, none⟩ (.int .i64 (((rowsTo big xs zs k).length + wd : Nat) : Int)) := ⟨_, rfl⟩
          rw [← hW] at hst b1 b2 ⊢
          have co : W.cell? ⟨vo, 0, none⟩ = some (.bool true) := b1.cell 0
          have fo := b1.free 0
          have cg : W.cell? ⟨vg, 0, none⟩ = some (.int .i64 k) := b2.cell 0
          have fg := b2.free 0
          have n4 := n3.symm
          have HS2 := Lib.hid hst
          clear hst b1 b2 hW HN HST HAT hcl hcz czv
          go_wp2
          go_roundw
          case rel => exact ⟨k + 1, by omega, by go_num, HS2.out⟩
          case measure => simp [intOf]; omega
        · rw [show max x 0 = x from by omega, Int.emod_eq_of_lt (by omega) (by omega)] at HN
          clear hmm hM2 e8
          go_wp2_with fail
          refine HN.out.mono ?_
          rintro e w1 ⟨rfl, j, rfl⟩
          have hst := HST.out j
          have b1 := (HAT.out.1.drewN j).beside (p := ⟨g, 1, none⟩) n1 (.int .i64 (((rowsTo big xs zs k).length + wd : Nat) : Int))
          have b2 := (HAT.out.2.drewN j).beside (p := ⟨g, 1, none⟩) n2 (.int .i64 (((rowsTo big xs zs k).length + wd : Nat) : Int))
          obtain ⟨W, hW⟩ : ∃ W, W = (wr.drewN j).setCell ⟨g, 1, none⟩ (.int .i64 (((rowsTo big xs zs k).length + wd : Nat) : Int)) := ⟨_, rfl⟩
          rw [← hW] at hst b1 b2 ⊢
          have co : W.cell? ⟨vo, 0, none⟩ = some (.bool true) := b1.cell 0
          have fo := b1.free 0
          have cg : W.cell? ⟨vg, 0, none⟩ = some (.int .i64 k) := b2.cell 0
          have fg := b2.free 0
          have n4 := n3.symm
          have HS2 := Lib.hid hst
          clear hst b1 b2 hW HN HST HAT hcl hcz czv
          go_wp2
          go_roundw
          case rel => exact ⟨k + 1, by omega, by go_num, HS2.out⟩
          case measure => simp [intOf]; omega
    · have ek : k = n := by omega
      have hcur := hat.cur
      have hk' := hat
      rw [ek, hb.len] at hcur
      have hmax := hb.max
      unfold maxLen at hmax
      have hcap := hb.cap
      have HC := Lib.hid (And.intro hcur (And.intro hk' ek))
      clear hat hb hl hz hvz nz1 hK hcur hk' ek
      go_wp2_with fail
      refine (end_ok wr g s A nb c big HC.out.1 (by omega)).mono ?_
      rintro e w2 ⟨rfl, j, rfl⟩
      go_wp2
      go_end0
      obtain ⟨_, h2, ek⟩ := HC.out
      rw [ek] at h2
      exact ⟨rfl, h2.kept.drewN j, h2.ok.drewN j, h2.got.drewN j⟩

end Go.Proofs.Ythjnknhdnogaeaa
