/-
  The reference's Free, Left and End.
-/
import Derived.Test.YtcgajomngcgchaaRefNew
import Derived.Test.YtcgajomngcgchaaMath3
namespace Go.Proofs.Ytcgajomngcgchaa
open Go.RowKit

/-- how things stand when i sectors have been looked at -/
structure Rf (w wr : World) (A : Option Addr) (n c : Nat) (u : List Bool) (i : Nat) (v : Value) (fs : List X) : Prop where
  bel : Below w.heap.size w wr
  bx : Box wr w.heap.size 30 #[.slice A n c]
  own : wr.ownsRow (w.heap.size + 1) 42 2 v fs.length (cellsX fs)
  lo : w.heap.size + 1 ≤ wr.heap.size
  ft : Ft u i fs
theorem cellsX_set (a : List X) (e : X) (z : Int) : (cellsX (a ++ [e])).set (a.length * 2 + 1) (.int .i64 z) = cellsX (a ++ [(e.1, z)]) := by
  rw [cellsX_app, cellsX_app, List.set_append_right _ _ (by rw [cellsX_len]; omega), cellsX_len, show a.length * 2 + 1 - a.length * 2 = 1 by omega]
  rfl
theorem Rf.bump {w wr : World} {A : Option Addr} {n c g k : Nat} {u : List Bool} {i : Nat} {a : List X} {e : X} (h : Rf w wr A n c u i (.slice (some ⟨g, 0, none⟩) (a.length + 1) k) (a ++ [e])) (hi : i < u.length) (hu : u.getD i true = false) (he : e.1 + e.2 = i) :
    Rf w (wr.setCell ⟨g, a.length * 2 + 1, none⟩ (.int .i64 (e.2 + 1))) A n c u (i + 1) (.slice (some ⟨g, 0, none⟩) (a.length + 1) k) (a ++ [(e.1, e.2 + 1)]) := by
  have hown := h.own
  rw [show (a ++ [e]).length = a.length + 1 by simp] at hown
  have hg : w.heap.size + 1 ≤ g := own_lo hown rfl
  obtain ⟨s1, s2⟩ := hown.stored (a.length * 2 + 1) (.int .i64 (e.2 + 1))
  rw [cellsX_set] at s1
  refine ⟨Below.setCell (p := ⟨g, a.length * 2 + 1, none⟩) h.bel (by simp only; omega) _, h.bx.beside (by simp only; omega) _, by rw [show (a ++ [(e.1, e.2 + 1)]).length = a.length + 1 by simp]; exact s1, by have := h.lo; simp [World.setCell]; omega, h.ft.more hi hu he⟩
theorem below_kept2 {w a b c : World} {S : Nat → Prop} (h : Below w.heap.size w a) (k : Below a.heap.size a b) (k2 : Kept S b c) (hS : ∀ i, i < w.heap.size → ¬ S i) : Below w.heap.size w c := (on_trans h k).trans (k2.below (on_trans h k).size hS)
/-- what the reference's Free answers -/
def RFree (u : List Bool) (w : World) (r : Ending) (w' : World) : Prop := ∃ A n c fs, r = .returned (.slice A n c) ∧ Xl (fun b => w.heap.size ≤ b) w' A n c fs ∧ Can u fs ∧ Below w.heap.size w w'
set_option maxHeartbeats 3200000 in
set_option maxRecDepth 20000 in
theorem refFree_any (w : World) (K : Nat → Prop) (A : Option Addr) (n c : Nat) (u : List Bool) (hx : Bl K w A n c u) (hn : n ≤ 4096) : Calls Try.prog 17 #[.agg #[.slice A n c]] w (RFree u w) := by
  have hmax := hx.max
  have hcap := hx.cap
  unfold maxLen at hmax
  have HX := Lib.hid (And.intro hx hx.lenB)
  obtain ⟨w1, hw1⟩ : ∃ w1, w.alloc (.cells #[.slice A n c] 30) = w1 := ⟨_, rfl⟩
  have H1 := Lib.hid (show Rf w w1 A n c u 0 (.slice none 0 0) [] from ⟨by rw [← hw1]; exact on_alloc _ _, by rw [← hw1]; exact Box.made _ _ _, World.ownsRow_nil _ _ _ _, by rw [← hw1]; simp, Ft.nil_ u⟩)
  clear hx
  go_enter Try.func17, Try.ntmps17
  go_wp2_with fail
  clear hw1
  go_loopw [3, 4] (fun s i wr => ∃ (k q cq : Nat) (Aq : Option Addr) (fs : List X), k ≤ n ∧ i = .int .i64 (k : Int) ∧ s = .slice Aq q cq ∧ Rf w wr A n c u k (.slice Aq q cq) fs) (fun _ i _ => n - (intOf i).toNat)
  case atStart => exact ⟨0, 0, 0, none, [], by omega, rfl, rfl, H1.out⟩
  case round =>
    obtain ⟨k, q, cq, Aq, fs, hk, rfl, rfl, hR⟩ := hrel
    have c0 : wr.cell? ⟨w.heap.size, 0, none⟩ = some (.slice A n c) := hR.bx.cell 0
    have HR := Lib.hid hR
    clear hR
    by_cases hkn : k < n
    · obtain ⟨b, off, rfl, hbs, hK, d0⟩ := (HX.out.1.on HR.out.bel).getB hkn
      have hku : k < u.length := by rw [HX.out.2]; exact hkn
      cases hu : u.getD k true with
      | true =>
        rw [hu] at d0
        have HN := Lib.hid (HR.out.ft.used hku hu)
        clear hu
        go_wp2_with fail
        go_roundw
        case rel => exact ⟨k + 1, q, cq, Aq, fs, by omega, by go_num, rfl, ⟨HR.out.bel, HR.out.bx, HR.out.own, HR.out.lo, HN.out⟩⟩
        case measure => simp [intOf]; omega
      | false =>
        rw [hu] at d0
        have fresh : (k = 0 ∨ u.getD (k - 1) true = true) → Ft u (k + 1) (fs ++ [((k : Int), 1)]) := fun h => HR.out.ft.fresh hku hu h
        have hql : q = fs.length := by
          have := HR.out.own.1
          rcases HR.out.own.2 with ⟨h', h0⟩ | ⟨g', cap', cur, h', _⟩
          · cases h'; omega
          · cases h'; rfl
        have hq9 : q ≤ 4096 := by have := HR.out.ft.few; omega
        have HFr := Lib.hid (And.intro fresh (And.intro hku (And.intro hu hql)))
        clear fresh hku hu hql
        by_cases hk0 : k = 0
        · subst hk0
          rw [Nat.add_zero] at d0
          obtain ⟨w6, hw6⟩ : ∃ w6, wr.alloc (.cells #[.int .i64 (0), .int .i64 1] 42) = w6 := ⟨_, rfl⟩
          have b6 : Below wr.heap.size wr w6 := by rw [← hw6]; exact on_alloc _ _
          have bx6 : Box w6 wr.heap.size 42 (cellsX [((0 : Int), 1)]).toArray := by rw [← hw6]; exact Box.made _ _ _
          have H6 := Lib.hid (And.intro b6 (And.intro bx6 (show Ft u (0 + 1) (fs ++ [((0 : Int), 1)]) from HFr.out.1 (.inl rfl))))
          clear b6 bx6
          go_wp2_with (first
            | ((with_reducible refine wpList_append_own2 (o := ⟨some 42, _, _, _, _, _⟩) el_ext rfl (.tmp 38) (.tmp 41) rfl (w.heap.size + 1) (.slice Aq q cq) fs.length (cellsX fs) rfl (ownsRow_block HR.out.own (fun g _ _ hh => H6.out.1.block g (Array.getElem?_eq_some_iff.1 hh).1)) (fun _ => True) (some ⟨wr.heap.size, 0, none⟩) 1 1 (cellsX [((0 : Int), 1)]) rfl (rd_of_box H6.out.2.1 rfl (by decide) trivial) (cellsX_one _) (by have := HFr.out.2.2.2; omega) (by have := HR.out.lo; have := H6.out.1.size; omega) ?_)
               intro v' w7 hown hk7 _
               obtain ⟨A7, c7, hv7⟩ := own_slice hown
               subst hv7
               have H7 := Lib.hid (And.intro hown hk7)
               clear hown hk7)
            | fail)
          go_roundw
          case rel =>
            obtain ⟨o7, k7⟩ := H7.out
            rw [← cellsX_app] at o7
            refine ⟨0 + 1, _, _, _, fs ++ [((0 : Int), 1)], by omega, by go_num, rfl, below_kept2 (HR.out.bel) H6.out.1 k7 (fun i hi e => by have := own_lo HR.out.own e; omega), k7.box (HR.out.bx.on H6.out.1) (fun e => by have := own_lo HR.out.own e; omega), by rw [List.length_append]; exact o7, by have := HR.out.lo; have := H6.out.1.size; have := k7.size; omega, H6.out.2.2⟩
          case measure => simp [intOf]; omega
        · obtain ⟨k1, hk1⟩ : ∃ k1 : Nat, k = k1 + 1 := ⟨k - 1, by omega⟩
          subst hk1
          clear hk0
          cases hv : u.getD k1 true with
          | true =>
            obtain ⟨b', off', hA, _, _, d1⟩ := (HX.out.1.on HR.out.bel).getB (i := k1) (by omega)
            cases hA
            rw [hv] at d1
            obtain ⟨w6, hw6⟩ : ∃ w6, wr.alloc (.cells #[.int .i64 ((k1 : Int) + 1), .int .i64 1] 42) = w6 := ⟨_, rfl⟩
            have b6 : Below wr.heap.size wr w6 := by rw [← hw6]; exact on_alloc _ _
            have bx6 : Box w6 wr.heap.size 42 (cellsX [(((k1 : Int) + 1 : Int), 1)]).toArray := by rw [← hw6]; exact Box.made _ _ _
            have H6 := Lib.hid (And.intro b6 (And.intro bx6 (show Ft u ((k1 + 1) + 1) (fs ++ [(((k1 : Int) + 1 : Int), 1)]) from HFr.out.1 (.inr (by rw [Nat.add_sub_cancel]; exact hv)))))
            clear b6 bx6
            go_wp2_with (first
              | ((with_reducible refine wpList_append_own2 (o := ⟨some 42, _, _, _, _, _⟩) el_ext rfl (.tmp 38) (.tmp 41) rfl (w.heap.size + 1) (.slice Aq q cq) fs.length (cellsX fs) rfl (ownsRow_block HR.out.own (fun g _ _ hh => H6.out.1.block g (Array.getElem?_eq_some_iff.1 hh).1)) (fun _ => True) (some ⟨wr.heap.size, 0, none⟩) 1 1 (cellsX [(((k1 : Int) + 1 : Int), 1)]) rfl (rd_of_box H6.out.2.1 rfl (by decide) trivial) (cellsX_one _) (by have := HFr.out.2.2.2; omega) (by have := HR.out.lo; have := H6.out.1.size; omega) ?_)
                 intro v' w7 hown hk7 _
                 obtain ⟨A7, c7, hv7⟩ := own_slice hown
                 subst hv7
                 have H7 := Lib.hid (And.intro hown hk7)
                 clear hown hk7)
              | fail)
            go_roundw
            case rel =>
              obtain ⟨o7, k7⟩ := H7.out
              rw [← cellsX_app] at o7
              refine ⟨(k1 + 1) + 1, _, _, _, fs ++ [(((k1 : Int) + 1 : Int), 1)], by omega, by go_num, rfl, below_kept2 (HR.out.bel) H6.out.1 k7 (fun i hi e => by have := own_lo HR.out.own e; omega), k7.box (HR.out.bx.on H6.out.1) (fun e => by have := own_lo HR.out.own e; omega), by rw [List.length_append]; exact o7, by have := HR.out.lo; have := H6.out.1.size; have := k7.size; omega, H6.out.2.2⟩
            case measure => simp [intOf]; omega
          | false =>
            have hku := HFr.out.2.1
            have huf := HFr.out.2.2.1
            have hql := HFr.out.2.2.2
            obtain ⟨a, e, hfs, he⟩ := HR.out.ft.last (by omega) (by rw [Nat.add_sub_cancel]; exact hv)
            subst hfs
            have hq2 : q = a.length + 1 := by rw [hql]; simp
            subst hq2
            obtain ⟨g, cg, hvg, hg, hgs⟩ := ownsRow_some HR.out.own (fun h => by cases h)
            have hvj := Value.slice.inj hvg
            obtain ⟨hA1, _, hc1⟩ := hvj
            subst hA1 hc1
            clear hvg
            have hbmp := HR.out.bump hku huf he
            have hown := HR.out.own
            rw [show (a ++ [e]).length = a.length + 1 by simp] at hown
            have x1 : wr.cell? ⟨g, a.length * 2 + 1, none⟩ = some (.int .i64 e.2) := by
              rw [hown.cellAt _ (by omega)]
              have := (cellsX_at (a ++ [e]) a.length (by simp)).2
              simpa using this
            have x2 : wr.frozen? ⟨g, a.length * 2 + 1, none⟩ = false := by
              rcases hown.2 with ⟨h', _⟩ | ⟨g', cap', cur, h', _, hh, _⟩
              · cases h'
              · cases h'; simp [World.frozen?, hh]
            obtain ⟨y, hy⟩ : ∃ y, e.2 = y := ⟨_, rfl⟩
            obtain ⟨p, hp⟩ : ∃ p, a.length = p := ⟨_, rfl⟩
            have hys : 1 ≤ y ∧ y ≤ 4096 := by
              have := HR.out.ft.can.rise.at_ e (by simp)
              omega
            obtain ⟨y0, y1⟩ := hys
            rw [hy] at x1 hbmp
            rw [hp] at x1 x2 hbmp hq9 ⊢
            have HBm := Lib.hid hbmp
            have p0 : (0 : Int) ≤ (p : Int) := by omega
            obtain ⟨b', off', hA, _, _, d1⟩ := (HX.out.1.on HR.out.bel).getB (i := k1) (by omega)
            cases hA
            rw [hv] at d1
            clear hku huf hql he hg hgs hbmp hown hv hy hp
            clear HFr
            go_wp2_with fail
            go_roundw
            case rel => exact ⟨k1 + 1 + 1, p + 1, cq, _, _, by omega, by go_num, rfl, HBm.out⟩
            case measure => simp [intOf]; omega
    · go_wp2_with fail
      go_ret
      obtain rfl : k = n := by omega
      have hql : q = fs.length := by
        have := HR.out.own.1
        rcases HR.out.own.2 with ⟨h', h0⟩ | ⟨g', cap', cur, h', _⟩
        · cases h'; omega
        · cases h'; rfl
      obtain ⟨A2, c2, e, hx2⟩ := rd_of_own HR.out.own
      rw [← hql] at e hx2
      cases e
      exact ⟨_, _, _, fs, rfl, hx2.mono (fun b _ hb => by omega), by unfold Can; rw [HX.out.2]; exact HR.out.ft.can, HR.out.bel⟩
set_option maxHeartbeats 1600000 in
theorem refLeft_any (w : World) (K : Nat → Prop) (A : Option Addr) (n c : Nat) (u : List Bool) (hx : Bl K w A n c u) (hn : n ≤ 4096) : Calls Try.prog 25 #[.agg #[.slice A n c]] w fun r w' => r = .returned (.int .i64 ((u.count false : Nat) : Int)) ∧ Below w.heap.size w w' := by
  have hmax := hx.max
  have hcap := hx.cap
  unfold maxLen at hmax
  have HX := Lib.hid (And.intro hx hx.lenB)
  obtain ⟨w1, hw1⟩ : ∃ w1, w.alloc (.cells #[.slice A n c] 30) = w1 := ⟨_, rfl⟩
  have k1 : Below w.heap.size w w1 := by rw [← hw1]; exact on_alloc _ _
  have bx : Box w1 w.heap.size 30 #[.slice A n c] := by rw [← hw1]; exact Box.made _ _ _
  have H1 := Lib.hid (And.intro k1 bx)
  clear hx k1 bx
  go_enter Try.func25, Try.ntmps25
  go_wp2_with fail
  clear hw1
  go_loopw [3, 4] (fun s i wr => ∃ (k : Nat), k ≤ n ∧ i = .int .i64 (k : Int) ∧ s = .int .i64 (((u.take k).count false : Nat) : Int) ∧ Below w1.heap.size w1 wr) (fun _ i _ => n - (intOf i).toNat)
  case atStart => exact ⟨0, by omega, rfl, by simp, Below.refl _ _⟩
  case round =>
    obtain ⟨k, hk, rfl, rfl, hb⟩ := hrel
    have c0 : wr.cell? ⟨w.heap.size, 0, none⟩ = some (.slice A n c) := (H1.out.2.on hb).cell 0
    have HB := Lib.hid hb
    clear hb
    by_cases hkn : k < n
    · obtain ⟨b, off, rfl, hbs, hK, d0⟩ := (HX.out.1.on (on_trans H1.out.1 HB.out)).getB hkn
      have hct := count_take u k (by rw [HX.out.2]; exact hkn)
      have hcl : (u.take k).count false ≤ k := Nat.le_trans List.count_le_length (List.length_take_le _ _)
      obtain ⟨s, hs⟩ : ∃ s, (u.take k).count false = s := ⟨_, rfl⟩
      rw [hs] at hct hcl ⊢
      have hsn : s ≤ 4096 := by omega
      cases hu : u.getD k true with
      | true =>
        rw [hu] at d0 hct
        have HN := Lib.hid hct
        clear hct hu hs hcl
        go_wp2_with fail
        go_roundw
        case rel => exact ⟨k + 1, by omega, by go_num, by rw [HN.out]; simp, HB.out⟩
        case measure => simp [intOf]; omega
      | false =>
        rw [hu] at d0 hct
        have HN := Lib.hid hct
        clear hct hu hs hcl
        go_wp2_with fail
        go_roundw
        case rel => exact ⟨k + 1, by omega, by go_num, by rw [HN.out]; simp, HB.out⟩
        case measure => simp [intOf]; omega
    · obtain rfl : k = n := by omega
      have hall : u.take k = u := List.take_of_length_le (by rw [HX.out.2]; exact Nat.le_refl _)
      rw [hall]
      clear hall
      obtain ⟨z, hz⟩ : ∃ z, u.count false = z := ⟨_, rfl⟩
      rw [hz]
      have HZ := Lib.hid hz
      clear hz
      go_wp2_with fail
      go_ret
      exact ⟨ret_int (by rw [HZ.out]), on_trans H1.out.1 HB.out⟩
def REnd (u : List Bool) (w : World) (r : Ending) (w' : World) : Prop := (∃ z : Nat, r = .returned (.int .i64 (z : Int)) ∧ EndOf u z) ∧ Below w.heap.size w w'
set_option maxHeartbeats 1600000 in
theorem refEnd_any (w : World) (K : Nat → Prop) (A : Option Addr) (n c : Nat) (u : List Bool) (hx : Bl K w A n c u) (hn : n ≤ 4096) : Calls Try.prog 27 #[.agg #[.slice A n c]] w (REnd u w) := by
  have hmax := hx.max
  have hcap := hx.cap
  unfold maxLen at hmax
  have HX := Lib.hid (And.intro hx hx.lenB)
  obtain ⟨w1, hw1⟩ : ∃ w1, w.alloc (.cells #[.slice A n c] 30) = w1 := ⟨_, rfl⟩
  have k1 : Below w.heap.size w w1 := by rw [← hw1]; exact on_alloc _ _
  have bx : Box w1 w.heap.size 30 #[.slice A n c] := by rw [← hw1]; exact Box.made _ _ _
  have H1 := Lib.hid (And.intro k1 bx)
  clear hx k1 bx
  go_enter Try.func27, Try.ntmps27
  go_wp2_with fail
  clear hw1
  go_loopw [3, 4] (fun s i wr => ∃ (k z : Nat), k ≤ n ∧ i = .int .i64 (k : Int) ∧ s = .int .i64 (z : Int) ∧ Et u k z ∧ Below w1.heap.size w1 wr) (fun _ i _ => n - (intOf i).toNat)
  case atStart => exact ⟨0, 0, by omega, rfl, rfl, ⟨Nat.le_refl _, .inl rfl, fun k h1 h2 => by omega⟩, Below.refl _ _⟩
  case round =>
    obtain ⟨k, z, hk, rfl, rfl, he, hb⟩ := hrel
    have c0 : wr.cell? ⟨w.heap.size, 0, none⟩ = some (.slice A n c) := (H1.out.2.on hb).cell 0
    have HB := Lib.hid (And.intro hb he)
    clear hb he
    by_cases hkn : k < n
    · obtain ⟨b, off, rfl, hbs, hK, d0⟩ := (HX.out.1.on (on_trans H1.out.1 HB.out.1)).getB hkn
      cases hu : u.getD k true with
      | true =>
        rw [hu] at d0
        have HN := Lib.hid (et_used (i := k) hu)
        clear hu
        go_wp2_with fail
        go_roundw
        case rel => exact ⟨k + 1, k + 1, by omega, by go_num, by go_num, HN.out, HB.out.1⟩
        case measure => simp [intOf]; omega
      | false =>
        rw [hu] at d0
        have HN := Lib.hid (HB.out.2.free_ hu)
        clear hu
        go_wp2_with fail
        go_roundw
        case rel => exact ⟨k + 1, z, by omega, by go_num, rfl, HN.out, HB.out.1⟩
        case measure => simp [intOf]; omega
    · obtain rfl : k = n := by omega
      go_wp2_with fail
      go_ret
      refine ⟨⟨z, rfl, ⟨?_, HB.out.2.last, fun j h1 h2 => HB.out.2.free j h1 (by rw [← HX.out.2]; exact h2)⟩⟩, on_trans H1.out.1 HB.out.1⟩
      rw [HX.out.2]
      exact HB.out.2.le
end Go.Proofs.Ytcgajomngcgchaa
