/-
  BitsPuts: the walk.
-/
import Derived.Test.YtdoelehfeiegeaaRefBytes
import Derived.Deep.RegionHeld
namespace Go.Proofs.Ytdoelehfeiegeaa
open Go.RowKit

theorem putL_len (L : List Int) (v k : Int) : (putL L v k).length ≤ L.length + 24 := by
  unfold putL
  split
  · next h => rw [List.length_append, dig_len]; have := h.1; have := h.2.1; omega
  · omega

theorem Box.drew' {w : World} {g : Nat} {t : TypeId} {cs : Array Value} (h : Box w g t cs) : Box w.drew g t cs := h
theorem Il.kept' {w w' : World} {d : Nat} {A : Option Addr} {n c : Nat} {xs : List Int} (h : Il w A n c xs) (k : Kept (fun i => i = d) w.drew w') (hd : ∀ b off, A = some ⟨b, off, Option.none⟩ → b ≠ d) : Il w' A n c xs :=
  (h.on (on_drew w)).kept k (fun b off e => hd b off e)

/-- how things stand when k pieces have been put -/
structure PutsAt (w wr : World) (d k : Nat) (A : Option Addr) (n c : Nat) (L : List Int) : Prop where
  wri : Wr wr d L
  all : Il wr A n c L
  apart : ∀ b off, A = some ⟨b, off, none⟩ → b ≠ d
  new : w.heap.size ≤ d
  bel : Below w.heap.size w wr
  few : L.length ≤ 24 * k

set_option maxRecDepth 10000 in
set_option maxHeartbeats 3200000 in
theorem puts_some (w : World) (A : Option Addr) (n c : Nat) (ks : List (Int × Int)) (h : Pl w (fun _ => True) A n ks) (hn : n ≤ 60) : Calls Try.prog 3 #[.slice A n c] w (Law w) := by
  have hPl := Lib.hid (h.mono (K' := fun b => b < w.heap.size) (fun _ hb _ => hb))
  clear h
  go_enter Try.func3, Try.ntmps3
  go_wp2_with fail
  refine (newWriter_wr w).mono ?_
  rintro e w1 ⟨d, rfl, hd, hw1, b1⟩
  have H1 := Lib.hid (PutsAt.mk (k := 0) hw1 (Il.none w1) (fun b off e => by cases e) hd b1 (by simp))
  clear hw1 b1 hd
  go_wp2
  go_loopw [4, 16] (fun u i wr => ∃ k A2 n2 c2 L, k ≤ n ∧ u = .slice A2 n2 c2 ∧ i = .int .i64 (k : Int) ∧ PutsAt w wr d k A2 n2 c2 L) (fun _ i _ => n - (intOf i).toNat)
  case atStart => exact ⟨0, none, 0, 0, [], Nat.zero_le _, rfl, rfl, H1.out⟩
  case round =>
    obtain ⟨k, A2, n2, c2, L, hk, rfl, rfl, hP⟩ := hrel
    have HP := Lib.hid hP
    clear hP
    by_cases hlt : k < n
    · obtain ⟨bl, ol, rfl, q0, q1⟩ := (hPl.out.below HP.out.bel (fun _ _ h => h)).get hlt
      obtain ⟨v, hv⟩ : ∃ v, v = (ks.getD k (0, 0)).1 := ⟨_, rfl⟩
      obtain ⟨m, hm⟩ : ∃ m, m = (ks.getD k (0, 0)).2 := ⟨_, rfl⟩
      rw [← hv] at q0
      rw [← hm] at q1
      clear hv hm
      obtain ⟨p, hp⟩ : ∃ p, p = wr.heap.size := ⟨_, rfl⟩
      obtain ⟨w2, hw2⟩ : ∃ w2, w2 = wr.alloc (.cells #[.int .i64 v, .int .i64 m] 28) := ⟨_, rfl⟩
      have hbp : Box w2 p 28 #[.int .i64 v, .int .i64 m] := by rw [hw2, hp]; exact Box.made _ _ _
      have b2 : Below wr.heap.size wr w2 := by rw [hw2]; exact on_alloc _ _
      have hpd : p ≠ d := by have := HP.out.wri.lt; omega
      have hl1 : L.length ≤ 1440 := by have := HP.out.few; omega
      have hn2 : n2 ≤ 1440 := by rw [← HP.out.all.len]; exact hl1
      have HB := Lib.hid (And.intro hbp (And.intro b2 (And.intro hw2 (And.intro hp (And.intro hpd hl1)))))
      have r0 : w2.cell? ⟨p, 0, none⟩ = some (.int .i64 v) := hbp.cell 0
      have r1 : w2.cell? ⟨p, 1, none⟩ = some (.int .i64 m) := hbp.cell 1
      clear hbp b2 hw2 hp hpd hl1
      go_wp2_with fail
      rw [← HB.out.2.2.1, ← HB.out.2.2.2.1]
      go_wp2_with fail
      refine (refPut_any w2 A2 n2 c2 L v m (HP.out.all.on HB.out.2.1) (by omega)).mono ?_
      rintro e w3 ⟨A3, n3, c3, rfl, hI3, hA3, b3⟩
      obtain ⟨E, hE⟩ : ∃ E, E = putE v m := ⟨_, rfl⟩
      obtain ⟨L3, hL3⟩ : ∃ L3, L3 = putL L v m := ⟨_, rfl⟩
      rw [← hL3] at hI3
      rw [← hE]
      have hl3 : L3.length ≤ 24 * (k + 1) := by
        have := putL_len L v m
        have := HP.out.few
        rw [hL3]
        omega
      have hn3 : n3 = L3.length := hI3.len.symm
      have hA3d : ∀ b off, A3 = some ⟨b, off, none⟩ → b ≠ d := fun b off e => by
        rcases hA3 with rfl | h
        · exact HP.out.apart b off e
        · have := h b off e
          have := HP.out.wri.lt
          have := HB.out.2.1.size
          omega
      have hd3 : d < w3.heap.size := Nat.lt_of_lt_of_le HP.out.wri.lt (Nat.le_trans HB.out.2.1.size b3.size)
      have hwd : Wr w3.drew d L := (HP.out.wri.on (on_trans HB.out.2.1 (on_trans b3 (on_drew _))))
      have H3 := Lib.hid (And.intro hI3 (And.intro hA3d (And.intro hwd (And.intro (on_trans HP.out.bel (on_trans HB.out.2.1 (on_trans b3 (on_drew _)))) (And.intro ((HB.out.1.on b3).drew') (And.intro hE (And.intro hL3 (And.intro hl3 hn3))))))))
      have HT := Lib.hid (put_any w3.drew d L v m hwd (by have := HB.out.2.2.2.2.2; omega))
      rw [← hE, ← hL3] at HT
      have K3 := Lib.hid (show w3.drew.cell? ⟨p, 0, none⟩ = some (.int .i64 v) ∧ w3.drew.cell? ⟨p, 1, none⟩ = some (.int .i64 m) from ⟨(HB.out.1.on b3).cell 0, (HB.out.1.on b3).cell 1⟩)
      clear hI3 hA3d hwd hE hL3 hl3 hA3 hn3 r0 r1 q0 q1 b3
      go_wp2_with fail
      go_region_held (fun w' => w'.cell? ⟨p, 0, none⟩ = some (.int .i64 v) ∧ w'.cell? ⟨p, 1, none⟩ = some (.int .i64 m))
        (first
          | exact K3.out
          | exact K4.out
          | exact K5.out
          | exact K6.out
          | exact K7.out)
        (first
          | (go_at_call 13
             with_reducible refine HT.out.mono ?_
             rintro e w4 ⟨rfl, hw4, k4⟩
             have hbp4 := k4.box H3.out.2.2.2.2.1 HB.out.2.2.2.2.1
             have K4 := Lib.hid (And.intro (hbp4.cell 0) (hbp4.cell 1))
             have H4 := Lib.hid (And.intro hw4 (And.intro hbp4 (And.intro (H3.out.1.kept' k4 H3.out.2.1) (H3.out.2.2.2.1.trans (k4.below H3.out.2.2.2.1.size (fun i hi e => by have := HP.out.new; omega))))))
             clear hw4 k4 hbp4)
          | (go_at_call 14
             with_reducible refine (count_wr w4 d L3 H4.out.1).mono ?_
             rw [← H3.out.2.2.2.2.2.2.2.2]
             rintro e w5 ⟨rfl, b5⟩
             have K5 := Lib.hid (And.intro ((H4.out.2.1.on b5).cell 0) ((H4.out.2.1.on b5).cell 1))
             have H5 := Lib.hid (And.intro (H4.out.1.on b5) (And.intro (H4.out.2.1.on b5) (And.intro (H4.out.2.2.1.on b5) (on_trans H4.out.2.2.2 b5))))
             clear b5)
          | (go_at_call 15
             with_reducible refine (bytes_any w5 d L3 H5.out.1).mono ?_
             rintro e w6 ⟨A6, m6, c6, l6, rfl, hs6, hsl6, b6⟩
             have cv1 := sl_str hsl6
             have K6 := Lib.hid (And.intro ((H5.out.2.1.on b6).cell 0) ((H5.out.2.1.on b6).cell 1))
             have H6 := Lib.hid (And.intro (H5.out.1.on b6) (And.intro (H5.out.2.1.on b6) (And.intro (H5.out.2.2.1.on b6) (And.intro (on_trans H5.out.2.2.2 b6) (And.intro hs6 hsl6)))))
             clear b6 hs6 hsl6)
          | (go_at_call 16
             with_reducible refine (refBytes_scan w6 A3 n3 c3 L3 H6.out.2.2.1 H6.out.1.parts (by have := H3.out.2.2.2.2.2.2.2.1; have := H3.out.2.2.2.2.2.2.2.2; omega)).mono ?_
             rintro e w7 ⟨A7, m7, c7, l7, rfl, hs7, hsl7, b7⟩
             have e7 := H6.out.2.2.2.2.1.same hs7
             rw [← e7] at hsl7
             have cv2 := sl_str hsl7
             have cv3 := sl_str (H6.out.2.2.2.2.2.on b7)
             have K7 := Lib.hid (And.intro ((H6.out.2.1.on b7).cell 0) ((H6.out.2.1.on b7).cell 1))
             have H7 := Lib.hid (PutsAt.mk (k := k + 1) (H6.out.1.on b7) (H6.out.2.2.1.on b7) H3.out.2.1 HP.out.new (on_trans H6.out.2.2.2.1 b7) H3.out.2.2.2.2.2.2.2.1)
             clear b7 hs7 hsl7 e7))
      all_goals
        (go_wp2
         go_roundw
         case rel => exact ⟨k + 1, _, _, _, _, by omega, rfl, by go_num, H7.out⟩
         case measure => simp [intOf]; omega)
    · go_wp2_with fail
      refine (awake_any wr).mono ?_
      rintro e w8 ⟨rfl, b8⟩
      have F8 := Lib.hid (on_trans HP.out.bel b8)
      clear b8
      go_wp2
      go_ret
      exact ⟨rfl, F8.out⟩

theorem puts_calls (w : World) (A : Option Addr) (n c : Nat) (ks : List (Int × Int)) (h : Pl w (fun _ => True) A n ks) : Calls Try.prog 3 #[.slice A n c] w (Law w) := by
  by_cases hn : n ≤ 60
  · exact puts_some w A n c ks h hn
  · have a1 : (60 : Int) < n := by omega
    clear h hn
    go_enter Try.func3, Try.ntmps3
    go_wp2_with fail
    refine (awake_any w).mono ?_
    rintro e w8 ⟨rfl, b8⟩
    have F8 := Lib.hid b8
    clear b8
    go_wp2
    go_ret
    exact ⟨rfl, F8.out⟩
end Go.Proofs.Ytdoelehfeiegeaa
