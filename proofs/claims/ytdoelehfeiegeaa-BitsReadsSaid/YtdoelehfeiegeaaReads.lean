/-
  BitsReads: the walk.
-/
import Derived.Test.YtdoelehfeiegeaaRefGet
import Derived.Test.YtdoelehfeiegeaaBit
namespace Go.Proofs.Ytdoelehfeiegeaa
open Go.RowKit

theorem row_any {w : World} {base : Nat} {v : Value} {n : Nat} {l : List Int} (h : w.ownsRow base 5 1 v n (cellsOf l)) (hf : Fit l) (hb : base < w.heap.size) : ∃ A c g, v = .slice A n c ∧ base ≤ g ∧ g < w.heap.size ∧ Sl w (fun _ => True) A n c l ∧ (0 < n → ∃ rest, A = some ⟨g, 0, none⟩ ∧ Head w g n c l rest) := by
  by_cases h0 : 0 < n
  · obtain ⟨g, cap, rest, rfl, hg, hd⟩ := head_of_own h hf h0
    exact ⟨_, cap, g, rfl, hg, hd.box.lt, hd.sl, fun _ => ⟨rest, rfl, hd⟩⟩
  · obtain ⟨A, c, rfl, hs⟩ := sl_of_own h hf
    exact ⟨A, c, base, rfl, Nat.le_refl _, hb, hs.mono (fun _ _ _ => trivial), fun h => absurd h h0⟩

/-- the program's reader and the reference's -/
structure Rds (w wr : World) (r g g7 : Nat) (A : Option Addr) (n c : Nat) (l : List Int) (s : St) (Al : Option Addr) (cl : Nat) : Prop where
  rd : Rd wr r g l s
  q : Box wr g7 42 (cells3 A n c s Al cl)
  row : Il wr Al s.c cl (dig s.v s.c)
  new : w.heap.size ≤ r ∧ w.heap.size ≤ g7
  bel : Below w.heap.size w wr

section
variable {w wr : World} {r g g7 : Nat} {A : Option Addr} {n c : Nat} {l : List Int} {s : St} {Al : Option Addr} {cl : Nat}
theorem Rds.on {w' : World} (h : Rds w wr r g g7 A n c l s Al cl) (b : Below wr.heap.size wr w') : Rds w w' r g g7 A n c l s Al cl := ⟨h.rd.on b, h.q.on b, h.row.on b, h.new, on_trans h.bel b⟩
theorem Rds.spared {w' : World} {gx : Nat} (h : Rds w wr r g g7 A n c l s Al cl) (k : Kept (fun i => i = gx) wr w') (h1 : r ≠ gx) (h2 : g ≠ gx) (h3 : g7 ≠ gx) (h5 : Al = none) (h6 : w.heap.size ≤ gx) : Rds w w' r g g7 A n c l s Al cl :=
  ⟨h.rd.kept k h1 h2, k.box h.q h3, h.row.kept k (fun b off e => by rw [h5] at e; cases e), h.new, h.bel.trans (k.below h.bel.size (fun i hi e => by omega))⟩
/-- the program's reader has moved -/
theorem Rds.mid {wa : World} {s1 : St} (h : Rds w wr r g g7 A n c l s Al cl) (k : Kept (fun i => i = r) wr wa) (_ : Rd wa r g l s1) : Box wa g7 42 (cells3 A n c s Al cl) ∧ Il wa Al s.c cl (dig s.v s.c) ∧ Below w.heap.size w wa := by
  have hrq : r ≠ g7 := h.rd.box.apart h.q (by decide)
  refine ⟨k.box h.q (fun e => hrq e.symm), h.row.kept k (fun b off e hbr => ?_), h.bel.trans (k.below h.bel.size (fun i hi e => by have := h.new.1; omega))⟩
  obtain ⟨cs, fr, hh⟩ := h.row.typ b off e
  rw [hbr] at hh
  have h7 : wr.heap[r]? = some (.cells (cellsR s g l.length) 73 (0, 0)) := h.rd.box
  rw [hh] at h7
  cases h7
/-- both have moved -/
theorem Rds.next {wa wb : World} {s1 : St} {Al2 : Option Addr} {cl2 : Nat} (h : Rds w wr r g g7 A n c l s Al cl) (k : Kept (fun i => i = r) wr wa) (hr : Rd wa r g l s1) (b : Below wa.heap.size wa wb) (hI : Il wb Al2 s1.c cl2 (dig s1.v s1.c)) :
    Rds w (((wb.setCell ⟨g7, 0, none⟩ (.slice A n c)).setCell ⟨g7, 1, none⟩ (.int .i64 (s1.at_ : Int))).setCell ⟨g7, 2, none⟩ (.slice Al2 s1.c cl2)) r g g7 A n c l s1 Al2 cl2 := by
  have hrq : r ≠ g7 := h.rd.box.apart h.q (by decide)
  have hgq : g ≠ g7 := h.rd.own.apart h.q (by decide)
  have hq := (k.box h.q (fun e => hrq e.symm)).on b
  have kk := three_kept wb g7 (.slice A n c) (.int .i64 (s1.at_ : Int)) (.slice Al2 s1.c cl2)
  refine ⟨(hr.on b).kept kk hrq hgq, ((hq.put 0 _).put 1 _).put 2 _, hI.kept kk (fun b off e hbg => ?_), h.new, threeSet (on_trans (h.bel.trans (k.below h.bel.size (fun i hi e => by have := h.new.1; omega))) b) h.new.2 _ _ _⟩
  obtain ⟨cs, fr, hh⟩ := hI.typ b off e
  rw [hbg] at hh
  have h7 : wb.heap[g7]? = some (.cells (cells3 A n c s Al cl) 42 (0, 0)) := hq
  rw [hh] at h7
  cases h7
end

theorem Sl.on' {w w' : World} {K : Nat → Prop} {A : Option Addr} {n c : Nat} {l : List Int} (h : Sl w K A n c l) (b : Below w.heap.size w w') : Sl w' (fun _ => True) A n c l := h.on b

/-- the law's own copy: k bytes of it have been written over -/
def Over (wa : World) (A : Option Addr) (g n cap : Nat) (wr : World) : Prop := (0 < n → ∃ x rest, A = some ⟨g, 0, none⟩ ∧ Head wr g n cap x rest) ∧ Kept (fun i => i = g) wa wr

theorem wrap_u8 {z : Int} : 0 ≤ IntKind.u8.wrap z ∧ IntKind.u8.wrap z ≤ 255 := by
  simp only [IntKind.wrap, IntKind.bits, IntKind.signed]
  simp
  omega

set_option maxRecDepth 10000 in
set_option maxHeartbeats 6400000 in
theorem reads_some (w : World) (K : Nat → Prop) (A : Option Addr) (n c : Nat) (l : List Int) (B : Option Addr) (n2 c2 : Nat) (ks : List (Int × Int)) (h : Sl w K A n c l) (h' : Pl w (fun _ => True) B n2 ks) (hn : n ≤ 4000) (hn2 : n2 ≤ 200) :
    Calls Try.prog 4 #[.slice A n c, .slice B n2 c2] w (Law w) := by
  have hPl := Lib.hid (h'.mono (K' := fun b => b < w.heap.size) (fun _ hb _ => hb))
  have hlen := h.len
  have HL := Lib.hid (And.intro h hlen)
  clear h h' hlen
  go_enter Try.func4, Try.ntmps4
  go_wp2_with (first
    | (at_builtin; refine wpList_append_sl rfl (.tmp 24) (.tmp 25) rfl w.heap.size (.slice (some ⟨w.heap.size, 0, none⟩) 0 0) 0 [] rfl (World.ownsRow_made (base := w.heap.size) (e := 5) (size := 1) w #[] 0 (Nat.le_refl _) (Nat.zero_le _) rfl) _ A n c l rfl (HL.out.1.alloc _) (by omega) (by simp) ?_; intro v1 w1 hown1 b1; rw [Nat.zero_add, List.nil_append] at hown1; obtain ⟨A1, c1, gx, rfl, hgx, hgx2, hsl, hhd⟩ := row_any hown1 HL.out.1.bts.fit (by have := b1.size; simp at this; omega); have H1 := Lib.hid (And.intro hsl (And.intro hhd (And.intro hgx (And.intro hgx2 ((on_alloc w _).trans b1))))); clear hown1 b1 hsl hhd hgx hgx2)
    | fail)
  refine (newReader_any w1 _ A1 n c1 l H1.out.1 (by omega)).mono ?_
  rintro e w2 ⟨r, g, rfl, hr, hg, hrd, b2⟩
  obtain ⟨g7, hg7⟩ : ∃ g7, g7 = w2.heap.size := ⟨_, rfl⟩
  obtain ⟨w3, hw3⟩ : ∃ w3, w3 = w2.alloc (.cells #[.slice A n c, .int .i64 0, .slice none 0 0] 42) := ⟨_, rfl⟩
  have hq3 : Box w3 g7 42 (cells3 A n c st0 none 0) := by rw [hw3, hg7]; exact Box.made _ _ _
  have b3 : Below w2.heap.size w2 w3 := by rw [hw3]; exact on_alloc _ _
  have hz : ∀ w, (zeroValue 42).run Try.prog w = .ok (.agg #[.slice none 0 0, .int .i64 0, .slice none 0 0]) w := fun w => by kernel_rfl
  have H3 := Lib.hid (And.intro (Rds.mk (w := w) (hrd.on b3) hq3 (Il.none w3) ⟨Nat.le_trans H1.out.2.2.2.2.size hr, by have := H1.out.2.2.2.2.size; have := b2.size; omega⟩ (on_trans (on_trans H1.out.2.2.2.2 b2) b3)) (And.intro hw3 (And.intro hg7 (And.intro (on_trans b2 b3) (And.intro hr (And.intro hg b2.size))))))
  clear hr hg hrd b2 hg7 hw3 hq3 b3
  go_wp2_with fail
  rw [← H3.out.2.1, ← H3.out.2.2.1]
  clear hz
  have hover : Over w3 A1 gx n c1 w3 := ⟨fun h0 => by
    obtain ⟨rest, e, hd⟩ := H1.out.2.1 h0
    exact ⟨l, rest, e, hd.on H3.out.2.2.2.1⟩, Kept.refl _ _⟩
  have HO := Lib.hid hover
  clear hover
  go_loopw [33] (fun i wr => ∃ k, k ≤ n ∧ i = .int .i64 ((k : Nat) : Int) ∧ Over w3 A1 gx n c1 wr) (fun i _ => n - (intOf i).toNat)
  case atStart => exact ⟨0, Nat.zero_le _, rfl, HO.out⟩
  case round =>
    obtain ⟨k, hk, rfl, hov⟩ := hrel
    by_cases hlt : k < n
    · obtain ⟨xs, rest, rfl, hd⟩ := hov.1 (by omega)
      have hcell := hd.cell k hlt
      have hfree := hd.box.free k
      obtain ⟨z, hz0⟩ : ∃ z, z = xs.getD k 0 := ⟨_, rfl⟩
      rw [← hz0] at hcell
      have HR := Lib.hid (And.intro hd hov.2)
      clear hd hov hz0
      go_wp2
      refine ⟨⟨k + 1, by omega, by go_num, fun _ => ⟨_, rest, rfl, HR.out.1.put k hlt _ (by first | exact wrap_u8.1 | omega) (by first | exact wrap_u8.2 | omega)⟩, HR.out.2.setCell (p := ⟨gx, k, none⟩) (fun _ => rfl) _⟩, ?_⟩
      simp [intOf]
      omega
    · have hR4 := H3.out.1.spared hov.2 (by have := H3.out.2.2.2.2.1; have := H1.out.2.2.2.1; omega) (by have := H3.out.2.2.2.2.2.1; have := H1.out.2.2.2.1; omega) (by have := H3.out.2.2.2.2.2.2; have := H1.out.2.2.2.1; have := H3.out.2.2.1; omega) rfl H1.out.2.2.1
      have H4 := Lib.hid hR4
      clear hR4 hov HO
      go_wp2
      go_loopw [45] (fun i wr => ∃ k2 s Al cl, k2 ≤ n2 ∧ i = .int .i64 ((k2 : Nat) : Int) ∧ Rds w wr r g g7 A n c l s Al cl) (fun i _ => n2 - (intOf i).toNat)
      case atStart => exact ⟨0, st0, none, 0, Nat.zero_le _, rfl, H4.out⟩
      case round =>
        obtain ⟨k2, s, Al, cl, hk2, rfl, hR⟩ := hrel
        have HR := Lib.hid hR
        clear hR
        by_cases hlt2 : k2 < n2
        · obtain ⟨bl, ol, rfl, q0, q1⟩ := (hPl.out.below HR.out.bel (fun _ _ h => h)).get hlt2
          obtain ⟨kd, hkd⟩ : ∃ kd, kd = (ks.getD k2 (0, 0)).1 := ⟨_, rfl⟩
          obtain ⟨m, hm⟩ : ∃ m, m = (ks.getD k2 (0, 0)).2 := ⟨_, rfl⟩
          rw [← hkd] at q0
          rw [← hm] at q1
          clear hkd hm
          obtain ⟨t, ht⟩ : ∃ t, t = wr.heap.size := ⟨_, rfl⟩
          obtain ⟨w4, hw4⟩ : ∃ w4, w4 = wr.alloc (.cells #[.int .i64 kd, .int .i64 m] 44) := ⟨_, rfl⟩
          have hbt : Box w4 t 44 #[.int .i64 kd, .int .i64 m] := by rw [hw4, ht]; exact Box.made _ _ _
          have b4 : Below wr.heap.size wr w4 := by rw [hw4]; exact on_alloc _ _
          have t0 : w4.cell? ⟨t, 0, none⟩ = some (.int .i64 kd) := hbt.cell 0
          have t1 : w4.cell? ⟨t, 1, none⟩ = some (.int .i64 m) := hbt.cell 1
          have HB := Lib.hid (And.intro (HR.out.on b4) (And.intro hbt (And.intro hw4 ht)))
          clear hbt b4 hw4 ht
          by_cases h0 : kd = 0
          · subst h0
            obtain ⟨R, hR⟩ : ∃ R, R = bitF l s := ⟨_, rfl⟩
            have HC := Lib.hid (bit_any w4 r g l s HB.out.1.rd)
            have hQ := fun (w5 : World) (h5 : Sl w5 (fun _ => True) A n c l) (hI : Il w5 Al s.c cl (dig s.v s.c)) => refBit_any w5 _ A n c l s Al cl h5 hI HB.out.1.rd.ok (by omega)
            rw [← hR] at HC hQ
            have HQ := Lib.hid hQ
            clear hQ hR
            go_wp2_with fail
            rw [← HB.out.2.2.1, ← HB.out.2.2.2]
            go_wp2_with fail
            refine HC.out.mono ?_
            rintro e w5 ⟨rfl, hr5, k5⟩
            obtain ⟨hq5, hI5, b5⟩ := HB.out.1.mid k5 hr5
            have y0 : w5.cell? ⟨g7, 0, none⟩ = some (.slice A n c) := hq5.cell 0
            have y1 : w5.cell? ⟨g7, 1, none⟩ = some (.int .i64 (s.at_ : Int)) := hq5.cell 1
            have y2 : w5.cell? ⟨g7, 2, none⟩ = some (.slice Al s.c cl) := hq5.cell 2
            have u1 : w5.cell? ⟨t, 1, none⟩ = some (.int .i64 m) := (k5.box HB.out.2.1 (fun e => HB.out.1.rd.box.apart HB.out.2.1 (by decide) e.symm)).cell 1
            have H5 := Lib.hid (And.intro hr5 (And.intro k5 (And.intro hq5 (And.intro hI5 b5))))
            clear hr5 k5 hq5 hI5 b5 t0 t1 q0 q1
            go_wp2_with fail
            refine (HQ.out w5 (HL.out.1.on' H5.out.2.2.2.2) H5.out.2.2.2.1).mono ?_
            rintro e w6 ⟨Al2, cl2, rfl, hI6, b6⟩
            simp only [refV]
            have hq6 := H5.out.2.2.1.on b6
            have z0 : w6.cell? ⟨g7, 0, none⟩ = some (.slice A n c) := hq6.cell 0
            have z1 : w6.cell? ⟨g7, 1, none⟩ = some (.int .i64 (s.at_ : Int)) := hq6.cell 1
            have z2 : w6.cell? ⟨g7, 2, none⟩ = some (.slice Al s.c cl) := hq6.cell 2
            have f0 := hq6.free 0
            have f1 := hq6.free 1
            have f2 := hq6.free 2
            have HN := Lib.hid (HB.out.1.next H5.out.2.1 H5.out.1 b6 hI6)
            clear hq6 hI6 b6 y0 y1 y2 u1
            go_wp2_with fail
            obtain ⟨w7, hw7⟩ : ∃ w7, w7 = (((w6.setCell ⟨g7, 0, none⟩ (.slice A n c)).setCell ⟨g7, 1, none⟩ (.int .i64 (R.1.at_ : Int))).setCell ⟨g7, 2, none⟩ (.slice Al2 R.1.c cl2)) := ⟨_, rfl⟩
            have HW := Lib.hid (show Rds w w7 r g g7 A n c l R.1 Al2 cl2 by rw [hw7]; exact HN.out)
            rw [← hw7]
            clear hw7 z0 z1 z2 f0 f1 f2
            have K7 := Lib.hid (show w7.drew.cell? ⟨g7, 1, none⟩ = some (.int .i64 (R.1.at_ : Int)) from HW.out.q.cell 1)
            have HT := Lib.hid (at_any w7.drew r g l R.1 (HW.out.rd.on (on_drew _)))
            go_region_held (fun w' => w'.cell? ⟨g7, 1, none⟩ = some (.int .i64 (R.1.at_ : Int)))
              (first
                | exact K7.out
                | exact K8.out)
              (first
                | (go_at_call 26
                   with_reducible refine HT.out.mono ?_
                   rintro e w8 ⟨rfl, b8⟩
                   have K8 := Lib.hid (show w8.cell? ⟨g7, 1, none⟩ = some (.int .i64 (R.1.at_ : Int)) from (HW.out.on (on_trans (on_drew _) b8)).q.cell 1)
                   have H8 := Lib.hid (HW.out.on (on_trans (on_drew _) b8))
                   clear b8))
            all_goals
              (go_wp2
               go_roundw
               case rel => exact ⟨k2 + 1, _, _, _, by omega, by go_num, H8.out⟩
               case measure => simp [intOf]; omega)
          by_cases h1 : kd = 1
          · subst h1
            obtain ⟨R, hR⟩ : ∃ R, R = getF l s m := ⟨_, rfl⟩
            have HC := Lib.hid (get_any w4 r g l s m HB.out.1.rd)
            have hQ := fun (w5 : World) (h5 : Sl w5 (fun _ => True) A n c l) (hI : Il w5 Al s.c cl (dig s.v s.c)) => refGet_any w5 _ A n c l s Al cl m h5 hI HB.out.1.rd.ok (by omega)
            rw [← hR] at HC hQ
            have HQ := Lib.hid hQ
            clear hQ hR
            go_wp2_with fail
            rw [← HB.out.2.2.1, ← HB.out.2.2.2]
            go_wp2_with fail
            refine HC.out.mono ?_
            rintro e w5 ⟨rfl, hr5, k5⟩
            obtain ⟨hq5, hI5, b5⟩ := HB.out.1.mid k5 hr5
            have y0 : w5.cell? ⟨g7, 0, none⟩ = some (.slice A n c) := hq5.cell 0
            have y1 : w5.cell? ⟨g7, 1, none⟩ = some (.int .i64 (s.at_ : Int)) := hq5.cell 1
            have y2 : w5.cell? ⟨g7, 2, none⟩ = some (.slice Al s.c cl) := hq5.cell 2
            have u1 : w5.cell? ⟨t, 1, none⟩ = some (.int .i64 m) := (k5.box HB.out.2.1 (fun e => HB.out.1.rd.box.apart HB.out.2.1 (by decide) e.symm)).cell 1
            have H5 := Lib.hid (And.intro hr5 (And.intro k5 (And.intro hq5 (And.intro hI5 b5))))
            clear hr5 k5 hq5 hI5 b5 t0 t1 q0 q1
            go_wp2_with fail
            refine (HQ.out w5 (HL.out.1.on' H5.out.2.2.2.2) H5.out.2.2.2.1).mono ?_
            rintro e w6 ⟨Al2, cl2, rfl, hI6, b6⟩
            simp only [refV]
            have hq6 := H5.out.2.2.1.on b6
            have z0 : w6.cell? ⟨g7, 0, none⟩ = some (.slice A n c) := hq6.cell 0
            have z1 : w6.cell? ⟨g7, 1, none⟩ = some (.int .i64 (s.at_ : Int)) := hq6.cell 1
            have z2 : w6.cell? ⟨g7, 2, none⟩ = some (.slice Al s.c cl) := hq6.cell 2
            have f0 := hq6.free 0
            have f1 := hq6.free 1
            have f2 := hq6.free 2
            have HN := Lib.hid (HB.out.1.next H5.out.2.1 H5.out.1 b6 hI6)
            clear hq6 hI6 b6 y0 y1 y2 u1
            go_wp2_with fail
            obtain ⟨w7, hw7⟩ : ∃ w7, w7 = (((w6.setCell ⟨g7, 0, none⟩ (.slice A n c)).setCell ⟨g7, 1, none⟩ (.int .i64 (R.1.at_ : Int))).setCell ⟨g7, 2, none⟩ (.slice Al2 R.1.c cl2)) := ⟨_, rfl⟩
            have HW := Lib.hid (show Rds w w7 r g g7 A n c l R.1 Al2 cl2 by rw [hw7]; exact HN.out)
            rw [← hw7]
            clear hw7 z0 z1 z2 f0 f1 f2
            have K7 := Lib.hid (show w7.drew.cell? ⟨g7, 1, none⟩ = some (.int .i64 (R.1.at_ : Int)) from HW.out.q.cell 1)
            have HT := Lib.hid (at_any w7.drew r g l R.1 (HW.out.rd.on (on_drew _)))
            go_region_held (fun w' => w'.cell? ⟨g7, 1, none⟩ = some (.int .i64 (R.1.at_ : Int)))
              (first
                | exact K7.out
                | exact K8.out)
              (first
                | (go_at_call 26
                   with_reducible refine HT.out.mono ?_
                   rintro e w8 ⟨rfl, b8⟩
                   have K8 := Lib.hid (show w8.cell? ⟨g7, 1, none⟩ = some (.int .i64 (R.1.at_ : Int)) from (HW.out.on (on_trans (on_drew _) b8)).q.cell 1)
                   have H8 := Lib.hid (HW.out.on (on_trans (on_drew _) b8))
                   clear b8))
            all_goals
              (go_wp2
               go_roundw
               case rel => exact ⟨k2 + 1, _, _, _, by omega, by go_num, H8.out⟩
               case measure => simp [intOf]; omega)
          by_cases h2 : kd = 2
          · subst h2
            have HC := Lib.hid (skip_any w4 r g l s HB.out.1.rd)
            go_wp2_with fail
            rw [← HB.out.2.2.1, ← HB.out.2.2.2]
            go_wp2_with fail
            refine HC.out.mono ?_
            rintro e w5 ⟨rfl, hr5, k5⟩
            obtain ⟨hq5, hI5, b5⟩ := HB.out.1.mid k5 hr5
            have y0 : w5.cell? ⟨g7, 0, none⟩ = some (.slice A n c) := hq5.cell 0
            have y1 : w5.cell? ⟨g7, 1, none⟩ = some (.int .i64 (s.at_ : Int)) := hq5.cell 1
            have y2 : w5.cell? ⟨g7, 2, none⟩ = some (.slice Al s.c cl) := hq5.cell 2
            have u1 : True := trivial
            have H5 := Lib.hid (And.intro hr5 (And.intro k5 (And.intro hq5 (And.intro hI5 b5))))
            clear hr5 k5 hq5 hI5 b5 t0 t1 q0 q1
            go_wp2_with fail
            refine (refSkip_any w5 A n c s Al cl).mono ?_
            rintro e w6 ⟨rfl, b6⟩
            simp only [refV]
            have hI6 : Il w6 none (skipF s).c 0 (dig (skipF s).v (skipF s).c) := Il.none w6
            have hq6 := H5.out.2.2.1.on b6
            have z0 : w6.cell? ⟨g7, 0, none⟩ = some (.slice A n c) := hq6.cell 0
            have z1 : w6.cell? ⟨g7, 1, none⟩ = some (.int .i64 (s.at_ : Int)) := hq6.cell 1
            have z2 : w6.cell? ⟨g7, 2, none⟩ = some (.slice Al s.c cl) := hq6.cell 2
            have f0 := hq6.free 0
            have f1 := hq6.free 1
            have f2 := hq6.free 2
            have HN := Lib.hid (HB.out.1.next H5.out.2.1 H5.out.1 b6 hI6)
            clear hq6 hI6 b6 y0 y1 y2 u1
            go_wp2_with fail
            obtain ⟨w7, hw7⟩ : ∃ w7, w7 = (((w6.setCell ⟨g7, 0, none⟩ (.slice A n c)).setCell ⟨g7, 1, none⟩ (.int .i64 ((skipF s).at_ : Int))).setCell ⟨g7, 2, none⟩ (.slice none (skipF s).c 0)) := ⟨_, rfl⟩
            have HW := Lib.hid (show Rds w w7 r g g7 A n c l (skipF s) none 0 by rw [hw7]; exact HN.out)
            rw [← hw7]
            clear hw7 z0 z1 z2 f0 f1 f2
            have K7 := Lib.hid (show w7.drew.cell? ⟨g7, 1, none⟩ = some (.int .i64 ((skipF s).at_ : Int)) from HW.out.q.cell 1)
            have HT := Lib.hid (at_any w7.drew r g l (skipF s) (HW.out.rd.on (on_drew _)))
            go_region_held (fun w' => w'.cell? ⟨g7, 1, none⟩ = some (.int .i64 ((skipF s).at_ : Int)))
              (first
                | exact K7.out
                | exact K8.out)
              (first
                | (go_at_call 26
                   with_reducible refine HT.out.mono ?_
                   rintro e w8 ⟨rfl, b8⟩
                   have K8 := Lib.hid (show w8.cell? ⟨g7, 1, none⟩ = some (.int .i64 ((skipF s).at_ : Int)) from (HW.out.on (on_trans (on_drew _) b8)).q.cell 1)
                   have H8 := Lib.hid (HW.out.on (on_trans (on_drew _) b8))
                   clear b8))
            all_goals
              (go_wp2
               go_roundw
               case rel => exact ⟨k2 + 1, _, _, _, by omega, by go_num, H8.out⟩
               case measure => simp [intOf]; omega)
          by_cases h3 : kd = 3
          · subst h3
            obtain ⟨R, hR⟩ : ∃ R, R = markF l s := ⟨_, rfl⟩
            have HC := Lib.hid (marker_any w4 r g l s HB.out.1.rd)
            have hQ := fun (w5 : World) (h5 : Sl w5 (fun _ => True) A n c l) (hI : Il w5 Al s.c cl (dig s.v s.c)) => refMarker_any w5 _ A n c l s Al cl h5 hI HB.out.1.rd.ok (by omega)
            rw [← hR] at HC hQ
            have HQ := Lib.hid hQ
            clear hQ hR
            go_wp2_with fail
            rw [← HB.out.2.2.1, ← HB.out.2.2.2]
            go_wp2_with fail
            refine HC.out.mono ?_
            rintro e w5 ⟨rfl, hr5, k5⟩
            obtain ⟨hq5, hI5, b5⟩ := HB.out.1.mid k5 hr5
            have y0 : w5.cell? ⟨g7, 0, none⟩ = some (.slice A n c) := hq5.cell 0
            have y1 : w5.cell? ⟨g7, 1, none⟩ = some (.int .i64 (s.at_ : Int)) := hq5.cell 1
            have y2 : w5.cell? ⟨g7, 2, none⟩ = some (.slice Al s.c cl) := hq5.cell 2
            have u1 : w5.cell? ⟨t, 1, none⟩ = some (.int .i64 m) := (k5.box HB.out.2.1 (fun e => HB.out.1.rd.box.apart HB.out.2.1 (by decide) e.symm)).cell 1
            have H5 := Lib.hid (And.intro hr5 (And.intro k5 (And.intro hq5 (And.intro hI5 b5))))
            clear hr5 k5 hq5 hI5 b5 t0 t1 q0 q1
            go_wp2_with fail
            refine (HQ.out w5 (HL.out.1.on' H5.out.2.2.2.2) H5.out.2.2.2.1).mono ?_
            rintro e w6 ⟨Al2, cl2, rfl, hI6, b6⟩
            simp only [refV]
            have hq6 := H5.out.2.2.1.on b6
            have z0 : w6.cell? ⟨g7, 0, none⟩ = some (.slice A n c) := hq6.cell 0
            have z1 : w6.cell? ⟨g7, 1, none⟩ = some (.int .i64 (s.at_ : Int)) := hq6.cell 1
            have z2 : w6.cell? ⟨g7, 2, none⟩ = some (.slice Al s.c cl) := hq6.cell 2
            have f0 := hq6.free 0
            have f1 := hq6.free 1
            have f2 := hq6.free 2
            have HN := Lib.hid (HB.out.1.next H5.out.2.1 H5.out.1 b6 hI6)
            clear hq6 hI6 b6 y0 y1 y2 u1
            go_wp2_with fail
            obtain ⟨w7, hw7⟩ : ∃ w7, w7 = (((w6.setCell ⟨g7, 0, none⟩ (.slice A n c)).setCell ⟨g7, 1, none⟩ (.int .i64 (R.1.at_ : Int))).setCell ⟨g7, 2, none⟩ (.slice Al2 R.1.c cl2)) := ⟨_, rfl⟩
            have HW := Lib.hid (show Rds w w7 r g g7 A n c l R.1 Al2 cl2 by rw [hw7]; exact HN.out)
            rw [← hw7]
            clear hw7 z0 z1 z2 f0 f1 f2
            have K7 := Lib.hid (show w7.drew.cell? ⟨g7, 1, none⟩ = some (.int .i64 (R.1.at_ : Int)) from HW.out.q.cell 1)
            have HT := Lib.hid (at_any w7.drew r g l R.1 (HW.out.rd.on (on_drew _)))
            go_region_held (fun w' => w'.cell? ⟨g7, 1, none⟩ = some (.int .i64 (R.1.at_ : Int)))
              (first
                | exact K7.out
                | exact K8.out)
              (first
                | (go_at_call 26
                   with_reducible refine HT.out.mono ?_
                   rintro e w8 ⟨rfl, b8⟩
                   have K8 := Lib.hid (show w8.cell? ⟨g7, 1, none⟩ = some (.int .i64 (R.1.at_ : Int)) from (HW.out.on (on_trans (on_drew _) b8)).q.cell 1)
                   have H8 := Lib.hid (HW.out.on (on_trans (on_drew _) b8))
                   clear b8))
            all_goals
              (go_wp2
               go_roundw
               case rel => exact ⟨k2 + 1, _, _, _, by omega, by go_num, H8.out⟩
               case measure => simp [intOf]; omega)
          · have h4 := h0
            have b0 : (kd == 0) = false := by simp; exact h0
            have b1 : (kd == 1) = false := by simp; exact h1
            have b2 : (kd == 2) = false := by simp; exact h2
            have b3 : (kd == 3) = false := by simp; exact h3
            have HW := Lib.hid HB.out.1
            go_wp2_with fail
            rw [← HB.out.2.2.1, ← HB.out.2.2.2]
            go_wp2_with fail
            obtain ⟨w7, hw7⟩ : ∃ w7, w7 = w4 := ⟨_, rfl⟩
            rw [← hw7] at HW ⊢
            clear hw7
            have K7 := Lib.hid (show w7.drew.cell? ⟨g7, 1, none⟩ = some (.int .i64 (s.at_ : Int)) from HW.out.q.cell 1)
            have HT := Lib.hid (at_any w7.drew r g l s (HW.out.rd.on (on_drew _)))
            go_region_held (fun w' => w'.cell? ⟨g7, 1, none⟩ = some (.int .i64 (s.at_ : Int)))
              (first
                | exact K7.out
                | exact K8.out)
              (first
                | (go_at_call 26
                   with_reducible refine HT.out.mono ?_
                   rintro e w8 ⟨rfl, b8⟩
                   have K8 := Lib.hid (show w8.cell? ⟨g7, 1, none⟩ = some (.int .i64 (s.at_ : Int)) from (HW.out.on (on_trans (on_drew _) b8)).q.cell 1)
                   have H8 := Lib.hid (HW.out.on (on_trans (on_drew _) b8))
                   clear b8))
            all_goals
              (go_wp2
               go_roundw
               case rel => exact ⟨k2 + 1, _, _, _, by omega, by go_num, H8.out⟩
               case measure => simp [intOf]; omega)
        · go_wp2_with fail
          refine (awake_any wr).mono ?_
          rintro e w8 ⟨rfl, b8⟩
          have F8 := Lib.hid (on_trans HR.out.bel b8)
          clear b8
          go_wp2
          go_ret
          exact ⟨rfl, F8.out⟩

theorem reads_calls (w : World) (K : Nat → Prop) (A : Option Addr) (n c : Nat) (l : List Int) (B : Option Addr) (n2 c2 : Nat) (ks : List (Int × Int)) (h : Sl w K A n c l) (h' : Pl w (fun _ => True) B n2 ks) :
    Calls Try.prog 4 #[.slice A n c, .slice B n2 c2] w (Law w) := by
  by_cases h1 : n2 ≤ 200
  · by_cases h2 : n ≤ 4000
    · exact reads_some w K A n c l B n2 c2 ks h h' h2 h1
    · have a1 : ¬ (200 : Int) < n2 := by omega
      have a2 : (4000 : Int) < n := by omega
      clear h h' h1 h2
      go_enter Try.func4, Try.ntmps4
      go_wp2_with fail
      refine (awake_any w).mono ?_
      rintro e w8 ⟨rfl, b8⟩
      have F8 := Lib.hid b8
      clear b8
      go_wp2
      go_ret
      exact ⟨rfl, F8.out⟩
  · have a1 : (200 : Int) < n2 := by omega
    clear h h' h1
    go_enter Try.func4, Try.ntmps4
    go_wp2_with fail
    refine (awake_any w).mono ?_
    rintro e w8 ⟨rfl, b8⟩
    have F8 := Lib.hid b8
    clear b8
    go_wp2
    go_ret
    exact ⟨rfl, F8.out⟩
end Go.Proofs.Ytdoelehfeiegeaa
