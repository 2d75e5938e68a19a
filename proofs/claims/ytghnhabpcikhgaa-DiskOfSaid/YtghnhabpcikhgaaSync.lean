/-
  The contracts of Sync, Crash and Copy.
-/
import Derived.Test.YtghnhabpcikhgaaPerform
namespace Go.Proofs.Ytghnhabpcikhgaa
open Go.RowKit Go.Maps
variable {X : Nat → Prop} {N : Nat}

theorem DiskG.more {Jp : World → Value → List Ent → Prop} {M : Nat} {w : World} {d cnt : Nat} {f : Nat → List Int} {p : List Wr} {dead : Bool} (h : DiskG X N Jp w d cnt f p dead) (hM : N ≤ M) : DiskG X M Jp w d cnt f p dead := by
  obtain ⟨m, J, n, v, q, h1, h2, h3, h4⟩ := h
  exact ⟨m, J, n, v, q, h1, h2, Nat.le_trans h3 hM, h4⟩

set_option maxHeartbeats 400000 in
theorem perform_none (w : World) (d : Nat) (keep : Int) (c3 : w.cell? ⟨d, 3, none⟩ = some (.int .i64 0)) :
    Calls Try.prog 31 #[.pointer (some ⟨d, 0, none⟩), .int .u64 keep] w fun e w' => e = .returned (.tuple #[]) ∧ w = w' := by
  go_enter Try.func31, Try.ntmps31
  go_wp2
  refine bodyPost_ret (results_none rfl _ _ _) rfl ?_
  exact ⟨rfl, rfl⟩

theorem DiskG.c3 {Jp : World → Value → List Ent → Prop} {w : World} {d cnt : Nat} {f : Nat → List Int} {dead : Bool} (h : DiskG X N Jp w d cnt f [] dead) : w.cell? ⟨d, 3, none⟩ = some (.int .i64 0) := by
  obtain ⟨m, J, n, v, q, h1, _⟩ := h
  exact cellD3 h1

theorem perform_disk {w : World} {d cnt : Nat} {f : Nat → List Int} {p : List Wr} {dead : Bool} {keep : Nat} (h : Disk X N w d cnt f p dead) (hk : keep < 18446744073709551616) (hN : N ≤ 100000) :
    Calls Try.prog 31 #[.pointer (some ⟨d, 0, none⟩), .int .u64 (keep : Int)] w fun e w' => e = .returned (.tuple #[]) ∧ Disk X (N + 1000) w' d cnt (keeps keep f p) [] dead ∧ Only d w w' := by
  cases p with
  | nil =>
    refine (perform_none w d keep h.c3).mono ?_
    rintro e w' ⟨rfl, rfl⟩
    exact ⟨rfl, h.more (by omega), Only.of_on (Below.refl _ _)⟩
  | cons x p =>
    refine (perform_some w d cnt f (x :: p) dead keep h (by simp) hk hN).mono ?_
    rintro e w' ⟨rfl, h1, h2⟩
    exact ⟨rfl, h1.disk, h2⟩
theorem perform_own {lo : Nat} {w : World} {d cnt : Nat} {f : Nat → List Int} {p : List Wr} {dead : Bool} {keep : Nat} (h : Own X N lo w d cnt f p dead) (hk : keep < 18446744073709551616) (hN : N ≤ 100000) :
    Calls Try.prog 31 #[.pointer (some ⟨d, 0, none⟩), .int .u64 (keep : Int)] w fun e w' => e = .returned (.tuple #[]) ∧ Clean X (N + 1000) w' d cnt (keeps keep f p) dead ∧ Only d w w' := by
  cases p with
  | nil =>
    refine (perform_none w d keep h.c3).mono ?_
    rintro e w' ⟨rfl, rfl⟩
    exact ⟨rfl, h.clean.more (by omega), Only.of_on (Below.refl _ _)⟩
  | cons x p =>
    refine (perform_some w d cnt f (x :: p) dead keep h.disk (by simp) hk hN).mono ?_
    rintro e w' ⟨rfl, h1, h2⟩
    exact ⟨rfl, h1, h2⟩

set_option maxHeartbeats 400000 in
theorem sync_any {lo : Nat} {w : World} {d cnt : Nat} {f : Nat → List Int} {p : List Wr} (h : Own X N lo w d cnt f p false) (hN : N ≤ 100000) :
    Calls Try.prog 15 #[.pointer (some ⟨d, 0, none⟩)] w fun e w' => e = .returned (.int .i64 0) ∧ Clean X (N + 1000) w' d cnt (after f p) false ∧ Only d w w' := by
  have HA := Lib.hid (show Calls Try.prog 30 #[.pointer (some ⟨d, 0, none⟩)] w fun e w' => e = .returned (.int .i64 0) ∧ w = w' by
    obtain ⟨m, J, n, v, q, hd, _⟩ := h
    exact alive_any w d false (cellD7 hd))
  have HB := Lib.hid (show Calls Try.prog 28 #[.pointer (some ⟨d, 0, none⟩)] w fun e w' => e = .returned (.int .i64 0) ∧ w = w' by
    obtain ⟨m, J, n, v, q, hd, _⟩ := h
    exact burn_any w d (cellD4 hd))
  have HP := Lib.hid (perform_own (keep := 18446744073709551615) h (by omega) hN)
  clear h
  go_enter Try.func15, Try.ntmps15
  go_wp2_with fail
  refine HA.out.mono ?_
  rintro e w' ⟨rfl, rfl⟩
  go_wp2_with fail
  refine HB.out.mono ?_
  rintro e w' ⟨rfl, rfl⟩
  go_wp2_with fail
  refine HP.out.mono ?_
  rintro e w1 ⟨rfl, h1, h2⟩
  have H1 := Lib.hid (And.intro h1 h2)
  clear h1 h2
  go_wp2
  go_ret
  obtain ⟨h1, h2⟩ := H1.out
  rw [keeps_all] at h1
  exact ⟨rfl, h1, h2⟩

set_option maxHeartbeats 400000 in
theorem crash_any {w : World} {d cnt : Nat} {f : Nat → List Int} {p : List Wr} {keep : Nat} (h : Disk X N w d cnt f p false) (hk : keep < 18446744073709551616) (hN : N ≤ 100000) :
    Calls Try.prog 18 #[.pointer (some ⟨d, 0, none⟩), .int .u64 (keep : Int)] w fun e w' => e = .returned (.tuple #[]) ∧ Disk X (N + 1000) w' d cnt (keeps keep f p) [] true ∧ Only d w w' := by
  have c7 : w.cell? ⟨d, 7, none⟩ = some (.bool false) := by
    obtain ⟨m, J, n, v, q, hd, _⟩ := h
    exact cellD7 hd
  have HP := Lib.hid (perform_disk (keep := keep) h hk hN)
  clear h
  go_enter Try.func18, Try.ntmps18
  go_wp2_with fail
  refine HP.out.mono ?_
  rintro e w1 ⟨rfl, ⟨m, J, n, v, q, hb, h2, h3, h4, h5, h6, h7⟩, ho⟩
  have c4 := cellD4 hb
  have c5 := cellD5 hb
  have c6 := cellD6 hb
  have c71 := cellD7 hb
  have f4 := hb.free 4
  have f5 := hb.free 5
  have f6 := hb.free 6
  have f7 := hb.free 7
  have H := Lib.hid (And.intro hb (And.intro h2 (And.intro h3 (And.intro h4 (And.intro h5 (And.intro h6 (And.intro h7 ho)))))))
  clear hb h2 h3 h4 h5 h6 h7 ho c7
  go_wp2
  go_end0
  obtain ⟨hb, h2, h3, h4, h5, h6, h7, ho⟩ := H.out
  have o1 : Only d w1 ((((w1.setCell ⟨d, 4, none⟩ (.bool false)).setCell ⟨d, 5, none⟩ (.int .i64 0)).setCell ⟨d, 6, none⟩ (.int .u64 0)).setCell ⟨d, 7, none⟩ (.bool true)) := (((Only.put _).trans (Only.put _)).trans (Only.put _)).trans (Only.put _)
  exact ⟨rfl, ⟨m, J, n, v, q, (((hb.put 4 (.bool false)).put 5 (.int .i64 0)).put 6 (.int .u64 0)).put 7 (.bool true), o1.mp hb h2, h3, fun i hi => o1.sec hb (h4 i hi), h5, o1.jn hb h6, h7⟩, ho.trans o1⟩

set_option maxHeartbeats 400000 in
theorem copy_any {w : World} {d cnt : Nat} {f : Nat → List Int} {p : List Wr} {dead : Bool} (h : Disk X N w d cnt f p dead) :
    Calls Try.prog 16 #[.pointer (some ⟨d, 0, none⟩)] w fun e w' => ∃ d2, e = .returned (.pointer (some ⟨d2, 0, none⟩)) ∧ w.heap.size ≤ d2 ∧ Disk X N w' d2 cnt f p dead ∧ Below w.heap.size w w' := by
  obtain ⟨m, J, n, v, q, hd, hm, hn, hs, hg, hJ, hq, hp, hpl, hc⟩ := h
  have hlen : p.length = q.length := by rw [← hq]; simp
  obtain ⟨np, hnp⟩ : ∃ np, np = p.length := ⟨_, rfl⟩
  rw [← hnp] at hd
  obtain ⟨jp, rfl⟩ : ∃ jp, J = .pointer jp := by
    rcases hJ.2 with ⟨e, _⟩ | ⟨j, v, e, _⟩
    · exact ⟨_, e⟩
    · exact ⟨_, e⟩
  have c0 := cellD0 hd
  have c1 := cellD1 hd
  have c2 := cellD2 hd
  have c3 := cellD3 hd
  have c4 := cellD4 hd
  have c5 := cellD5 hd
  have c6 := cellD6 hd
  have c7 := cellD7 hd
  have HH := Lib.hid (And.intro hd (And.intro hm (And.intro hn (And.intro hs (And.intro hg (And.intro hJ (And.intro hq (And.intro hp (And.intro hlen hnp)))))))))
  clear hd hm hn hs hg hJ hq hp hlen hnp
  go_enter Try.func16, Try.ntmps16
  go_wp2_with fail
  obtain ⟨d2, hd2⟩ : ∃ d2, d2 = w.heap.size := ⟨_, rfl⟩
  obtain ⟨w1, hw1⟩ : ∃ w1, w1 = w.alloc (.cells #[.int .i64 (cnt : Int), .map (some m), .pointer jp, .int .i64 (np : Int), .bool false, .int .i64 0, .int .u64 0, .bool dead] 59) := ⟨_, rfl⟩
  rw [← hw1, ← hd2]
  obtain ⟨hd, hm, hn, hs, hg, hJ, hq, hp, hlen, hnp⟩ := HH.out
  have b1 : Below w.heap.size w w1 := by rw [hw1]; exact on_alloc _ _
  have bd : Box w1 d2 59 (cellsD cnt m (.pointer jp) np dead) := by rw [hw1, hd2]; exact Box.made w 59 _
  have hd1 := hd.on b1
  refine (writes_any w1 d (.pointer jp) q (cellD2 hd1) (by rw [← hlen, ← hnp]; exact cellD3 hd1) (hJ.on b1)).mono ?_
  rintro e w2 ⟨rv, rfl, hrow, hw2⟩
  have bd2 := bd.on hw2
  have l2 := bd2.lt
  have cd2 := cellD2 bd2
  have fd2 := bd2.free 2
  obtain ⟨A, c, rfl, hrest⟩ : ∃ A c, rv = .slice A q.length c ∧ True := by
    obtain ⟨A, c, e, _⟩ := hrow
    exact ⟨A, c, e, trivial⟩
  have HR := Lib.hid (And.intro hrow (And.intro hw2 (And.intro bd2 (And.intro b1 hd2))))
  clear hd hm hn hs hg hJ hq hp hlen hnp hrow hw2 bd bd2 b1 hd2 hd1 hw1 hrest c0 c1 c2 c3 c4 c5 c6 c7
  go_wp2
  go_ret
  obtain ⟨hrow, hw2, bd2, b1, hd2⟩ := HR.out
  obtain ⟨hd, hm, hn, hs, hg, hJ, hq, hp, hlen, hnp⟩ := HH.out
  have b12 := on_trans b1 hw2
  obtain ⟨j, hj⟩ : ∃ j, j = w2.heap.size := ⟨_, rfl⟩
  rw [← hj]
  obtain ⟨u, hu⟩ : ∃ u, u = w2.setCell ⟨d2, 2, none⟩ (.pointer (some ⟨j, 0, none⟩)) := ⟨_, rfl⟩
  have hus : u.heap.size = j := by rw [hu, hj]; simp [World.setCell]
  have o1 : Only d2 w2 u := by rw [hu]; exact Only.put _
  have bu : Box u d2 59 (cellsD cnt m (.pointer (some ⟨j, 0, none⟩)) np dead) := by rw [hu]; exact bd2.put 2 _
  have b2u : Below w.heap.size w u := by rw [hu]; exact b12.setCell (p := ⟨d2, 2, none⟩) (by simp [hd2]) _
  have hjb := Box.made u 68 #[.slice A q.length c]
  rw [hus] at hjb
  rw [← hu]
  have ba := on_alloc u (.cells #[.slice A q.length c] 68)
  refine ⟨d2, rfl, by omega, ⟨m, .pointer (some ⟨j, 0, none⟩), n, v, q, by rw [← hnp]; exact bu.alloc _, ?_, hn, fun i hi => ?_, hg, ⟨?_, .inr ⟨j, _, rfl, hjb, ?_⟩⟩, hq, hp, hpl, hc⟩, b2u.alloc b2u.size _⟩
  · have hm2 : Mp w2 m n v := hm.block (b12.block m hm.lt)
    have hmu := o1.mp bd2 hm2
    exact hmu.block (ba.block m hmu.lt)
  · exact (o1.sec bd2 ((hs i hi).keep fun _ _ hb _ => hb.on b12)).keep fun _ _ hb _ => hb.on ba
  · exact (hJ.1.keep fun _ _ hb _ => hb.on b12).keep fun _ _ hb _ => (o1.box bd2 hb (by decide)).on ba
  · exact (o1.row bd2 hrow).keep fun _ _ _ hb => hb.on ba

end Go.Proofs.Ytghnhabpcikhgaa
