/-
  The contracts of New, and of the small calls of a disk.
-/
import Derived.Test.YtghnhabpcikhgaaAlive
namespace Go.Proofs.Ytghnhabpcikhgaa
open Go.RowKit
variable {X : Nat → Prop} {N : Nat}

set_option maxHeartbeats 400000 in
theorem new_cells (w : World) (n : Nat) (h1 : 1 ≤ n) (h2 : n ≤ 4096) :
    Calls Try.prog 12 #[.int .i64 (n : Int)] w fun e w' => e = .returned (.pointer (some ⟨w.heap.size + 1, 0, none⟩)) ∧ w' = (w.alloc (.map #[] 0)).alloc (.cells (cellsD n w.heap.size (.pointer none) 0 false) 59) := by
  have hmm := @run_makeMap Try.prog
  go_enter Try.func12, Try.ntmps12
  go_wp2
  go_ret
  refine ⟨rfl, rfl⟩

theorem new_some (w : World) (n : Nat) (h1 : 1 ≤ n) (h2 : n ≤ 4096) :
    Calls Try.prog 12 #[.int .i64 (n : Int)] w fun e w' => ∃ d, e = .returned (.pointer (some ⟨d, 0, none⟩)) ∧ w.heap.size ≤ d ∧ Clean X N w' d n (fun _ => zeros) false ∧ Below w.heap.size w w' := by
  refine (new_cells w n h1 h2).mono ?_
  rintro e w' ⟨rfl, rfl⟩
  have hs : (w.alloc (.map #[] 0)).heap.size = w.heap.size + 1 := by simp
  have hm := Mp.made w
  obtain ⟨w1, hw1⟩ : ∃ w1, w1 = w.alloc (.map #[] 0) := ⟨_, rfl⟩
  have hb := on_alloc w (.map #[] 0)
  rw [← hw1] at hs hm hb ⊢
  have hb2 := on_alloc w1 (.cells (cellsD n w.heap.size (.pointer none) 0 false) 59)
  refine ⟨w.heap.size + 1, rfl, by omega, ⟨w.heap.size, .pointer none, 0, fun _ => .slice none 0 0, [], ?_, hm.block (hb2.block _ (by omega)), Nat.zero_le _, fun i _ => .inl ⟨rfl, rfl⟩, good_zeros n, ⟨rfl, rfl⟩, rfl, (fun x hx => by cases hx), Nat.zero_le _, h2⟩, on_trans hb hb2⟩
  rw [← hs]
  exact Box.made w1 59 _
set_option maxHeartbeats 400000 in
theorem new_none (w : World) (n : Int) (h : n < 1 ∨ 4096 < n) : Calls Try.prog 12 #[.int .i64 n] w fun e w' => e = .returned (.pointer none) ∧ w = w' := by
  by_cases h1 : n < 1
  · go_enter Try.func12, Try.ntmps12
    go_wp2
    go_ret
    exact ⟨rfl, rfl⟩
  · have h2 : 4096 < n := by omega
    go_enter Try.func12, Try.ntmps12
    go_wp2
    go_ret
    exact ⟨rfl, rfl⟩

section
variable {Jp : World → Value → List Ent → Prop} {w : World} {d cnt : Nat} {f : Nat → List Int} {p : List Wr} {dead : Bool}
set_option maxHeartbeats 400000 in
theorem sectors_any (h : DiskG X N Jp w d cnt f p dead) : Calls Try.prog 23 #[.pointer (some ⟨d, 0, none⟩)] w fun e w' => e = .returned (.int .i64 (cnt : Int)) ∧ w = w' := by
  obtain ⟨m, J, n, v, q, hb, _⟩ := h
  have c0 := cellD0 hb
  clear hb
  go_enter Try.func23, Try.ntmps23
  go_wp2
  go_ret
  exact ⟨rfl, rfl⟩
set_option maxHeartbeats 400000 in
theorem pending_any (h : DiskG X N Jp w d cnt f p dead) : Calls Try.prog 24 #[.pointer (some ⟨d, 0, none⟩)] w fun e w' => e = .returned (.int .i64 (p.length : Int)) ∧ w = w' := by
  obtain ⟨m, J, n, v, q, hb, _⟩ := h
  have c3 := cellD3 hb
  generalize p.length = np at *
  clear hb
  go_enter Try.func24, Try.ntmps24
  go_wp2
  go_ret
  exact ⟨rfl, rfl⟩
set_option maxHeartbeats 400000 in
theorem dead_any (h : DiskG X N Jp w d cnt f p dead) : Calls Try.prog 19 #[.pointer (some ⟨d, 0, none⟩)] w fun e w' => e = .returned (.bool dead) ∧ w = w' := by
  obtain ⟨m, J, n, v, q, hb, _⟩ := h
  have c7 := cellD7 hb
  clear hb
  go_enter Try.func19, Try.ntmps19
  go_wp2
  go_ret
  exact ⟨rfl, rfl⟩
end

/-- only disk d has turned -/
abbrev Only (d : Nat) (w w' : World) : Prop := Kept (fun k => k = d) w w'
theorem Only.trans {d : Nat} {a b c : World} (h : Only d a b) (k : Only d b c) : Only d a c := Kept.trans h k fun _ _ e => e
theorem Only.of_on {d : Nat} {w w' : World} (h : Below w.heap.size w w') : Only d w w' := Kept.of_below h _
theorem Only.put {d o : Nat} {w : World} (u : Value) : Only d w (w.setCell ⟨d, o, none⟩ u) := Kept.setCell (p := ⟨d, o, none⟩) (Kept.refl (fun k => k = d) w) (fun _ => rfl) u
theorem Only.box {d g : Nat} {t : TypeId} {w w' : World} {cs cd : Array Value} (h : Only d w w') (hd : Box w d 59 cd) (hb : Box w g t cs) (ht : t ≠ 59) : Box w' g t cs := Kept.box h hb fun e => by
  subst e
  exact absurd rfl (hb.apart hd ht)
theorem Only.mp {d m n : Nat} {w w' : World} {v : Nat → Value} {cd : Array Value} (h : Only d w w') (hd : Box w d 59 cd) (hm : Mp w m n v) : Mp w' m n v := hm.block (h.block m hm.lt fun e => by
  subst e
  obtain ⟨es, c, he⟩ := hm.is
  unfold Box at hd
  rw [he] at hd
  cases hd)
theorem Only.sec {d : Nat} {w w' : World} {v : Value} {l : List Int} {cd : Array Value} (h : Only d w w') (hd : Box w d 59 cd) (hs : Sec X w v l) : Sec X w' v l := hs.keep fun _ _ hb _ => h.box hd hb (by decide)

theorem Only.row {d : Nat} {w w' : World} {v : Value} {q : List Ent} {cd : Array Value} (h : Only d w w') (hd : Box w d 59 cd) (hr : Row w v q) : Row w' v q := hr.keep fun _ _ _ hb => h.box hd hb (by decide)
theorem Only.jn {d : Nat} {w w' : World} {J : Value} {q : List Ent} {cd : Array Value} (h : Only d w w') (hd : Box w d 59 cd) (hj : Jn X w J q) : Jn X w' J q := by
  refine ⟨hj.1.keep fun _ _ hb _ => h.box hd hb (by decide), hj.2.imp id ?_⟩
  rintro ⟨j, v, e, hb, hr⟩
  exact ⟨j, v, e, h.box hd hb (by decide), h.row hd hr⟩

set_option maxHeartbeats 400000 in
theorem revive_any {w : World} {d cnt : Nat} {f : Nat → List Int} {p : List Wr} {dead : Bool} (h : Disk X N w d cnt f p dead) :
    Calls Try.prog 22 #[.pointer (some ⟨d, 0, none⟩)] w fun e w' => e = .returned (.tuple #[]) ∧ Disk X N w' d cnt f p false ∧ Only d w w' := by
  obtain ⟨m, J, n, v, q, hb, h2, h3, h4, h5, h6, h7⟩ := h
  have c7 := cellD7 hb
  have f7 := hb.free 7
  have H := Lib.hid (And.intro hb (And.intro h2 (And.intro h3 (And.intro h4 (And.intro h5 (And.intro h6 h7))))))
  clear hb h2 h3 h4 h5 h6 h7
  go_enter Try.func22, Try.ntmps22
  go_wp2
  go_end0
  obtain ⟨hb, h2, h3, h4, h5, h6, h7⟩ := H.out
  have ho : Only d w (w.setCell ⟨d, 7, none⟩ (.bool false)) := Only.put _
  exact ⟨rfl, ⟨m, J, n, v, q, hb.put 7 (.bool false), ho.mp hb h2, h3, fun i hi => ho.sec hb (h4 i hi), h5, ho.jn hb h6, h7⟩, ho⟩

end Go.Proofs.Ytghnhabpcikhgaa
