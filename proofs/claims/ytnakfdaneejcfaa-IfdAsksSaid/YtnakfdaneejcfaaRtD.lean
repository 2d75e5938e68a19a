/-
  A list of fields, read; may it be a directory?
-/
import Derived.Test.YtnakfdaneejcfaaIsf
import Derived.Deep.Cut
import Derived.WalkMore
import Derived.IntWalk
namespace Go.Proofs.Ytnakfdaneejcfaa
open Go.RowKit

theorem if_then {c : Prop} [Decidable c] {A B : Prop} (hc : c) (h : A) : if c then A else B := by rw [if_pos hc]; exact h
/-- an operation is taken first, and its slot is named -/
theorem take_to {ops : Array Oper} {Q : Exit → Act → World → Prop} {md : Region.Mode} {S : World → Prop} {i : Nat} {oi : Oper} {v : Value} {fuel : Nat} {listed : Array Bool} {a : Act} {w : World} (hi : ops[i]? = some oi)
    (hs : Region.noSelect ops = true) (hf : Region.free md ops listed i = true) (hr : (Region.ready md ops listed).contains i = true)
    (hQ : ∀ c a w, Q (.panic c) (a.put oi.dst v) w → Q (.panic c) a w) (hy : YieldsIf Try.prog ops S oi v a) (hS : S w) (d : Option Tmp) (hd : oi.dst = d)
    (h : wpAnyH Try.prog md ops Q S fuel (listed.setIfInBounds i true) (a.put d v) w) : wpAnyH Try.prog md ops Q S (fuel + 1) listed a w :=
  wpAnyH_take hi hs hf hr hQ hy hS (by rw [hd]; exact h)
structure Fd where
  t : Int
  k : Int
  A : Option Addr
  n : Nat
  c : Nat
  xs : List Int
def fd0 : Fd := ⟨0, 0, none, 0, 0, []⟩
instance : Inhabited Fd := ⟨fd0⟩
/-- a slice that reads as fields, each with its values -/
structure Fl (w : World) (A : Option Addr) (n c : Nat) (l : List Fd) : Prop where
  len : l.length = n
  cap : n ≤ c
  max : c ≤ maxLen
  at_ : ∀ i, i < n → ∃ b off, A = some ⟨b, off, none⟩ ∧ b < w.heap.size ∧ w.cell? ⟨b, off + i * 3, none⟩ = some (.int .i64 (l.getD i fd0).t) ∧ w.cell? ⟨b, off + i * 3 + 1, none⟩ = some (.int .i64 (l.getD i fd0).k) ∧
    w.cell? ⟨b, off + i * 3 + 2, none⟩ = some (.slice (l.getD i fd0).A (l.getD i fd0).n (l.getD i fd0).c) ∧ Il w (l.getD i fd0).A (l.getD i fd0).n (l.getD i fd0).c (l.getD i fd0).xs
theorem Fl.on {w w' : World} {A : Option Addr} {n c : Nat} {l : List Fd} (h : Fl w A n c l) (k : Below w.heap.size w w') : Fl w' A n c l := by
  refine ⟨h.len, h.cap, h.max, fun i hi => ?_⟩
  obtain ⟨b, off, e, hb, h0, h1, h2, h3⟩ := h.at_ i hi
  exact ⟨b, off, e, Nat.lt_of_lt_of_le hb k.size, on_cell h0 k, on_cell h1 k, on_cell h2 k, h3.on k⟩
def FdOk (f : Fd) (big : Bool) : Prop := FieldOk f.t f.k f.xs big
instance (f : Fd) (big : Bool) : Decidable (FdOk f big) := by unfold FdOk; infer_instance
/-- may a list of fields be a directory? -/
def DirOk (l : List Fd) (big : Bool) : Prop := (1 ≤ l.length ∧ l.length ≤ 32) ∧ ∀ i, i < l.length → FdOk (l.getD i fd0) big ∧ (0 < i → (l.getD (i - 1) fd0).t < (l.getD i fd0).t)
instance (l : List Fd) (big : Bool) : Decidable (DirOk l big) := by unfold DirOk; infer_instance
set_option maxHeartbeats 3200000 in
set_option maxRecDepth 20000 in
theorem right_any (A : Option Addr) (n c : Nat) (l : List Fd) (big : Bool) (w : World) (hx : Fl w A n c l) : Calls Try.prog 20 #[.slice A n c, .bool big] w fun r w' => r = .returned (.bool (decide (DirOk l big))) ∧ Below w.heap.size w w' := by
  have hmax := hx.max
  have hcap := hx.cap
  have hlen := hx.len
  unfold maxLen at hmax
  by_cases h0 : n < 1
  · have hr : Ending.returned (.bool false) = .returned (.bool (decide (DirOk l big))) := ret_dec ⟨(fun h => by cases h), fun h => by have := h.1.1; omega⟩
    go_enter Try.func20, Try.ntmps20
    go_wp2_with fail
    go_ret
    exact ⟨hr, Below.refl _ _⟩
  by_cases h1 : 32 < n
  · have hr : Ending.returned (.bool false) = .returned (.bool (decide (DirOk l big))) := ret_dec ⟨(fun h => by cases h), fun h => by have := h.1.2; omega⟩
    go_enter Try.func20, Try.ntmps20
    go_wp2_with fail
    go_ret
    exact ⟨hr, Below.refl _ _⟩
  have H0 := Lib.hid (And.intro hx hlen)
  clear hx hlen
  go_enter Try.func20, Try.ntmps20
  go_wp2_with fail
  go_loopw [5, 6, 17] (fun _ _ i wr => ∃ j : Nat, j ≤ n ∧ i = .int .i64 (j : Int) ∧ Below w.heap.size w wr ∧ ∀ i, i < j → FdOk (l.getD i fd0) big ∧ (0 < i → (l.getD (i - 1) fd0).t < (l.getD i fd0).t)) (fun _ _ i _ => n - (intOf i).toNat)
  case atStart => exact ⟨0, by omega, rfl, Below.refl _ _, fun i hi => by omega⟩
  case round =>
    obtain ⟨j, hj, rfl, hb, hno⟩ := hrel
    have HB := Lib.hid (And.intro hb hno)
    clear hb hno
    by_cases hjn : j < n
    · obtain ⟨b, off, rfl, hbs, d0, d1, d2, -⟩ := (H0.out.1.on HB.out.1).at_ j hjn
      obtain ⟨t, k, fA, fn, fc, fx, hf⟩ : ∃ t k fA fn fc fx, l.getD j fd0 = ⟨t, k, fA, fn, fc, fx⟩ := ⟨_, _, _, _, _, _, rfl⟩
      rw [hf] at d0 d1 d2
      simp only at d0 d1 d2
      have HF := Lib.hid (And.intro hf (show j < l.length by rw [H0.out.2]; exact hjn))
      obtain ⟨w6, hw6⟩ : ∃ w6, wr.alloc (.cells #[.int .i64 t, .int .i64 k, .slice fA fn fc] 48) = w6 := ⟨_, rfl⟩
      have b6 : Below wr.heap.size wr w6 := by rw [← hw6]; exact on_alloc _ _
      have bx6 : Box w6 wr.heap.size 48 #[.int .i64 t, .int .i64 k, .slice fA fn fc] := by rw [← hw6]; exact Box.made _ _ _
      have HX := Lib.hid (show Box w6 wr.heap.size 48 #[.int .i64 t, .int .i64 k, .slice fA fn fc] ∧ Fl w6 (some ⟨b, off, none⟩) n c l ∧ Below w.heap.size w w6 from ⟨bx6, (H0.out.1.on HB.out.1).on b6, on_trans HB.out.1 b6⟩)
      clear hf b6 bx6
      by_cases hq : FieldOk t k fx big
      · have hok : decide (FieldOk t k fx big) = true := decide_eq_true hq
        have HQ := Lib.hid hq
        clear hq
        by_cases hz : j = 0
        · subst hz
          simp only [Nat.zero_mul, Nat.add_zero] at d0 d1 d2
          go_upto_region 6 with fail
          refine wp_region_held_drew (S := fun w' => Hid (Box w' wr.heap.size 48 #[.int .i64 t, .int .i64 k, .slice fA fn fc] ∧ Fl w' (some ⟨b, off, none⟩) n c l ∧ Below w.heap.size w w')) (by kernel_rfl) (Lib.hid ⟨HX.out.1.on (on_drew w6), HX.out.2.1.on (on_drew w6), on_trans HX.out.2.2 (on_drew w6)⟩) fun s0 => ?_
          refine take_to (i := 0) (v := .agg #[.int .i64 t, .int .i64 k, .slice fA fn fc]) rfl (by kernel_rfl) (by kernel_rfl) (by kernel_rfl) (fun _ _ _ h => h) (Or.inl ⟨by rfl, fun w' hS => by have h0 := hS.out.1.cell 0; have h1 := hS.out.1.cell 1; have h2 := hS.out.1.cell 2; simp at h0 h1 h2; go_simp⟩) s0 (some 22) rfl ?_
          try simp only [Act.put, List.setIfInBounds_toArray, List.set_cons_zero, List.set_cons_succ]
          refine take_to (i := 1) (v := .bool big) rfl (by kernel_rfl) (by kernel_rfl) (by kernel_rfl) (fun _ _ _ h => h) (Or.inl ⟨by rfl, fun w' hS => by go_simp⟩) s0 (some 23) rfl ?_
          try simp only [Act.put, List.setIfInBounds_toArray, List.set_cons_zero, List.set_cons_succ]
          refine wpAnyH_ready (rs := [2]) (by kernel_rfl) (by simp) ?_
          refine AllReadyH.cons rfl (fun Kq hKq => ?_) AllReadyH.nil
          try refine if_then (by rfl) ?_
          go_simp
          have hil := (s0.out.2.1.at_ 0 hjn).choose_spec.choose_spec.2.2.2.2.2
          rw [HF.out.1] at hil
          refine Calls.mono (isField_any t k fA fn fc fx big _ hil) ?_
          rintro e w7 ⟨rfl, b7⟩
          rw [hok]
          have s1 := Lib.hid (show Box w7 wr.heap.size 48 #[.int .i64 t, .int .i64 k, .slice fA fn fc] ∧ Fl w7 (some ⟨b, off, none⟩) n c l ∧ Below w.heap.size w w7 from ⟨s0.out.1.on b7, s0.out.2.1.on b7, on_trans s0.out.2.2 b7⟩)
          refine hKq.out _ _ s1 fun _ => ?_
          clear hKq Kq b7 hil
          try simp only [Act.put, List.setIfInBounds_toArray, List.set_cons_zero, List.set_cons_succ]
          refine take_to (i := 3) (v := .bool false) rfl (by kernel_rfl) (by kernel_rfl) (by kernel_rfl) (fun _ _ _ h => h) (Or.inl ⟨by rfl, fun w' hS => by go_simp⟩) s1 (some 25) rfl ?_
          try simp only [Act.put, List.setIfInBounds_toArray, List.set_cons_zero, List.set_cons_succ]
          refine take_to (i := 4) (v := .bool false) rfl (by kernel_rfl) (by kernel_rfl) (by kernel_rfl) (fun _ _ _ h => h) (Or.inl ⟨by rfl, fun w' hS => by go_simp⟩) s1 (some 26) rfl ?_
          try simp only [Act.put, List.setIfInBounds_toArray, List.set_cons_zero, List.set_cons_succ]
          refine take_to (i := 5) (v := .int .i64 0) rfl (by kernel_rfl) (by kernel_rfl) (by kernel_rfl) (fun _ _ _ h => h) (Or.inl ⟨by rfl, fun w' hS => by go_simp⟩) s1 (some 27) rfl ?_
          try simp only [Act.put, List.setIfInBounds_toArray, List.set_cons_zero, List.set_cons_succ]
          refine take_to (i := 6) (v := .bool false) rfl (by kernel_rfl) (by kernel_rfl) (by kernel_rfl) (fun _ _ _ h => h) (Or.inl ⟨by rfl, fun w' hS => by go_simp⟩) s1 (some 28) rfl ?_
          try simp only [Act.put, List.setIfInBounds_toArray, List.set_cons_zero, List.set_cons_succ]
          refine take_to (i := 7) (v := .bool false) rfl (by kernel_rfl) (by kernel_rfl) (by kernel_rfl) (fun _ _ _ h => h) (Or.inl ⟨by rfl, fun w' hS => by go_simp⟩) s1 (some 29) rfl ?_
          try simp only [Act.put, List.setIfInBounds_toArray, List.set_cons_zero, List.set_cons_succ]
          refine take_to (i := 8) (v := undef) rfl (by kernel_rfl) (by kernel_rfl) (by kernel_rfl) (fun _ _ _ h => h) (Or.inr ⟨by rfl, rfl⟩) s1 (some 30) rfl ?_
          try simp only [Act.put, List.setIfInBounds_toArray, List.set_cons_zero, List.set_cons_succ]
          refine take_to (i := 9) (v := undef) rfl (by kernel_rfl) (by kernel_rfl) (by kernel_rfl) (fun _ _ _ h => h) (Or.inr ⟨by rfl, rfl⟩) s1 (some 31) rfl ?_
          try simp only [Act.put, List.setIfInBounds_toArray, List.set_cons_zero, List.set_cons_succ]
          refine take_to (i := 10) (v := undef) rfl (by kernel_rfl) (by kernel_rfl) (by kernel_rfl) (fun _ _ _ h => h) (Or.inr ⟨by rfl, rfl⟩) s1 (some 32) rfl ?_
          try simp only [Act.put, List.setIfInBounds_toArray, List.set_cons_zero, List.set_cons_succ]
          refine take_to (i := 11) (v := undef) rfl (by kernel_rfl) (by kernel_rfl) (by kernel_rfl) (fun _ _ _ h => h) (Or.inr ⟨by rfl, rfl⟩) s1 (some 33) rfl ?_
          try simp only [Act.put, List.setIfInBounds_toArray, List.set_cons_zero, List.set_cons_succ]
          refine take_to (i := 12) (v := undef) rfl (by kernel_rfl) (by kernel_rfl) (by kernel_rfl) (fun _ _ _ h => h) (Or.inr ⟨by rfl, rfl⟩) s1 (some 34) rfl ?_
          try simp only [Act.put, List.setIfInBounds_toArray, List.set_cons_zero, List.set_cons_succ]
          refine take_to (i := 13) (v := undef) rfl (by kernel_rfl) (by kernel_rfl) (by kernel_rfl) (fun _ _ _ h => h) (Or.inr ⟨by rfl, rfl⟩) s1 (some 35) rfl ?_
          try simp only [Act.put, List.setIfInBounds_toArray, List.set_cons_zero, List.set_cons_succ]
          refine take_to (i := 14) (v := undef) rfl (by kernel_rfl) (by kernel_rfl) (by kernel_rfl) (fun _ _ _ h => h) (Or.inr ⟨by rfl, rfl⟩) s1 (some 36) rfl ?_
          try simp only [Act.put, List.setIfInBounds_toArray, List.set_cons_zero, List.set_cons_succ]
          refine take_to (i := 15) (v := undef) rfl (by kernel_rfl) (by kernel_rfl) (by kernel_rfl) (fun _ _ _ h => h) (Or.inr ⟨by rfl, rfl⟩) s1 (some 37) rfl ?_
          try simp only [Act.put, List.setIfInBounds_toArray, List.set_cons_zero, List.set_cons_succ]
          refine take_to (i := 16) (v := undef) rfl (by kernel_rfl) (by kernel_rfl) (by kernel_rfl) (fun _ _ _ h => h) (Or.inr ⟨by rfl, rfl⟩) s1 (some 38) rfl ?_
          try simp only [Act.put, List.setIfInBounds_toArray, List.set_cons_zero, List.set_cons_succ]
          refine take_to (i := 17) (v := .bool false) rfl (by kernel_rfl) (by kernel_rfl) (by kernel_rfl) (fun _ _ _ h => h) (Or.inl ⟨by rfl, fun w' hS => by go_simp⟩) s1 (some 39) rfl ?_
          try simp only [Act.put, List.setIfInBounds_toArray, List.set_cons_zero, List.set_cons_succ]
          refine take_to (i := 18) (v := .bool false) rfl (by kernel_rfl) (by kernel_rfl) (by kernel_rfl) (fun _ _ _ h => h) (Or.inl ⟨by rfl, fun w' hS => by go_simp⟩) s1 (some 40) rfl ?_
          try simp only [Act.put, List.setIfInBounds_toArray, List.set_cons_zero, List.set_cons_succ]
          refine wpAnyH_done (by kernel_rfl) ?_ _
          go_wp2_with fail
          go_roundw
          case rel =>
            refine ⟨0 + 1, by omega, by go_num, s1.out.2.2, fun i hi => ⟨?_, fun h => by omega⟩⟩
            obtain rfl : i = 0 := by omega
            rw [HF.out.1]
            exact HQ.out
          case measure => simp [intOf]; omega
        · obtain ⟨j1, hj1⟩ : ∃ j1 : Nat, j = j1 + 1 := ⟨j - 1, by omega⟩
          subst hj1
          clear hz
          obtain ⟨tp, htp⟩ : ∃ tp, (l.getD j1 fd0).t = tp := ⟨_, rfl⟩
          have HP := Lib.hid (fun (w' : World) (h : Fl w' (some ⟨b, off, none⟩) n c l) => show w'.cell? ⟨b, off + j1 * 3, none⟩ = some (.int .i64 tp) from by
            obtain ⟨b', off', e, _, e0, _⟩ := h.at_ j1 (by omega)
            cases e
            rw [e0, htp])
          have HTP := Lib.hid htp
          clear htp
          by_cases hle : t ≤ tp
          · have hle2 : decide (t ≤ tp) = true := decide_eq_true hle
            have hr : Ending.returned (.bool false) = .returned (.bool (decide (DirOk l big))) := ret_dec ⟨(fun h => by cases h), fun h => by
              have h9 := (h.2 (j1 + 1) HF.out.2).2 (by omega)
              rw [HF.out.1, Nat.add_sub_cancel, HTP.out] at h9
              simp only at h9
              omega⟩
            go_upto_region 6 with fail
            refine wp_region_held_drew (S := fun w' => Hid (Box w' wr.heap.size 48 #[.int .i64 t, .int .i64 k, .slice fA fn fc] ∧ Fl w' (some ⟨b, off, none⟩) n c l ∧ Below w.heap.size w w')) (by kernel_rfl) (Lib.hid ⟨HX.out.1.on (on_drew w6), HX.out.2.1.on (on_drew w6), on_trans HX.out.2.2 (on_drew w6)⟩) fun s0 => ?_
            refine take_to (i := 0) (v := .agg #[.int .i64 t, .int .i64 k, .slice fA fn fc]) rfl (by kernel_rfl) (by kernel_rfl) (by kernel_rfl) (fun _ _ _ h => h) (Or.inl ⟨by rfl, fun w' hS => by have h0 := hS.out.1.cell 0; have h1 := hS.out.1.cell 1; have h2 := hS.out.1.cell 2; simp at h0 h1 h2; go_simp⟩) s0 (some 22) rfl ?_
            try simp only [Act.put, List.setIfInBounds_toArray, List.set_cons_zero, List.set_cons_succ]
            refine take_to (i := 1) (v := .bool big) rfl (by kernel_rfl) (by kernel_rfl) (by kernel_rfl) (fun _ _ _ h => h) (Or.inl ⟨by rfl, fun w' hS => by go_simp⟩) s0 (some 23) rfl ?_
            try simp only [Act.put, List.setIfInBounds_toArray, List.set_cons_zero, List.set_cons_succ]
            refine wpAnyH_ready (rs := [2]) (by kernel_rfl) (by simp) ?_
            refine AllReadyH.cons rfl (fun Kq hKq => ?_) AllReadyH.nil
            try refine if_then (by rfl) ?_
            go_simp
            have hil := (s0.out.2.1.at_ (j1 + 1) hjn).choose_spec.choose_spec.2.2.2.2.2
            rw [HF.out.1] at hil
            refine Calls.mono (isField_any t k fA fn fc fx big _ hil) ?_
            rintro e w7 ⟨rfl, b7⟩
            rw [hok]
            have s1 := Lib.hid (show Box w7 wr.heap.size 48 #[.int .i64 t, .int .i64 k, .slice fA fn fc] ∧ Fl w7 (some ⟨b, off, none⟩) n c l ∧ Below w.heap.size w w7 from ⟨s0.out.1.on b7, s0.out.2.1.on b7, on_trans s0.out.2.2 b7⟩)
            refine hKq.out _ _ s1 fun _ => ?_
            clear hKq Kq b7 hil
            try simp only [Act.put, List.setIfInBounds_toArray, List.set_cons_zero, List.set_cons_succ]
            refine take_to (i := 3) (v := .bool false) rfl (by kernel_rfl) (by kernel_rfl) (by kernel_rfl) (fun _ _ _ h => h) (Or.inl ⟨by rfl, fun w' hS => by go_simp⟩) s1 (some 25) rfl ?_
            try simp only [Act.put, List.setIfInBounds_toArray, List.set_cons_zero, List.set_cons_succ]
            refine take_to (i := 4) (v := .bool false) rfl (by kernel_rfl) (by kernel_rfl) (by kernel_rfl) (fun _ _ _ h => h) (Or.inl ⟨by rfl, fun w' hS => by go_simp⟩) s1 (some 26) rfl ?_
            try simp only [Act.put, List.setIfInBounds_toArray, List.set_cons_zero, List.set_cons_succ]
            refine take_to (i := 5) (v := .int .i64 ((j1 : Int) + 1)) rfl (by kernel_rfl) (by kernel_rfl) (by kernel_rfl) (fun _ _ _ h => h) (Or.inl ⟨by rfl, fun w' hS => by go_simp⟩) s1 (some 27) rfl ?_
            try simp only [Act.put, List.setIfInBounds_toArray, List.set_cons_zero, List.set_cons_succ]
            refine take_to (i := 6) (v := .bool true) rfl (by kernel_rfl) (by kernel_rfl) (by kernel_rfl) (fun _ _ _ h => h) (Or.inl ⟨by rfl, fun w' hS => by go_simp; try omega⟩) s1 (some 28) rfl ?_
            try simp only [Act.put, List.setIfInBounds_toArray, List.set_cons_zero, List.set_cons_succ]
            refine take_to (i := 7) (v := .bool true) rfl (by kernel_rfl) (by kernel_rfl) (by kernel_rfl) (fun _ _ _ h => h) (Or.inl ⟨by rfl, fun w' hS => by go_simp⟩) s1 (some 29) rfl ?_
            try simp only [Act.put, List.setIfInBounds_toArray, List.set_cons_zero, List.set_cons_succ]
            refine take_to (i := 8) (v := .pointer (some ⟨wr.heap.size, 0, none⟩)) rfl (by kernel_rfl) (by kernel_rfl) (by kernel_rfl) (fun _ _ _ h => h) (Or.inl ⟨by rfl, fun w' hS => by go_simp⟩) s1 (some 30) rfl ?_
            try simp only [Act.put, List.setIfInBounds_toArray, List.set_cons_zero, List.set_cons_succ]
            refine take_to (i := 9) (v := .int .i64 t) rfl (by kernel_rfl) (by kernel_rfl) (by kernel_rfl) (fun _ _ _ h => h) (Or.inl ⟨by rfl, fun w' hS => by have h0 := hS.out.1.cell 0; simp at h0; go_simp⟩) s1 (some 31) rfl ?_
            try simp only [Act.put, List.setIfInBounds_toArray, List.set_cons_zero, List.set_cons_succ]
            refine take_to (i := 10) (v := .slice (some ⟨b, off, none⟩) n c) rfl (by kernel_rfl) (by kernel_rfl) (by kernel_rfl) (fun _ _ _ h => h) (Or.inl ⟨by rfl, fun w' hS => by go_simp⟩) s1 (some 32) rfl ?_
            try simp only [Act.put, List.setIfInBounds_toArray, List.set_cons_zero, List.set_cons_succ]
            refine take_to (i := 11) (v := .int .i64 ((j1 : Int) + 1)) rfl (by kernel_rfl) (by kernel_rfl) (by kernel_rfl) (fun _ _ _ h => h) (Or.inl ⟨by rfl, fun w' hS => by go_simp⟩) s1 (some 33) rfl ?_
            try simp only [Act.put, List.setIfInBounds_toArray, List.set_cons_zero, List.set_cons_succ]
            refine take_to (i := 12) (v := .int .i64 (j1 : Int)) rfl (by kernel_rfl) (by kernel_rfl) (by kernel_rfl) (fun _ _ _ h => h) (Or.inl ⟨by rfl, fun w' hS => by go_simp; exact wrap_small (by omega) (by omega)⟩) s1 (some 34) rfl ?_
            try simp only [Act.put, List.setIfInBounds_toArray, List.set_cons_zero, List.set_cons_succ]
            refine take_to (i := 13) (v := .pointer (some ⟨b, off + j1 * 3, none⟩)) rfl (by kernel_rfl) (by kernel_rfl) (by kernel_rfl) (fun _ _ _ h => h) (Or.inl ⟨by rfl, fun w' hS => by go_simp; exact fun h => absurd h (by omega)⟩) s1 (some 35) rfl ?_
            try simp only [Act.put, List.setIfInBounds_toArray, List.set_cons_zero, List.set_cons_succ]
            refine take_to (i := 14) (v := .pointer (some ⟨b, off + j1 * 3, none⟩)) rfl (by kernel_rfl) (by kernel_rfl) (by kernel_rfl) (fun _ _ _ h => h) (Or.inl ⟨by rfl, fun w' hS => by go_simp⟩) s1 (some 36) rfl ?_
            try simp only [Act.put, List.setIfInBounds_toArray, List.set_cons_zero, List.set_cons_succ]
            refine take_to (i := 15) (v := .int .i64 tp) rfl (by kernel_rfl) (by kernel_rfl) (by kernel_rfl) (fun _ _ _ h => h) (Or.inl ⟨by rfl, fun w' hS => by have h0 := HP.out w' hS.out.2.1; go_simp⟩) s1 (some 37) rfl ?_
            try simp only [Act.put, List.setIfInBounds_toArray, List.set_cons_zero, List.set_cons_succ]
            refine take_to (i := 16) (v := .bool true) rfl (by kernel_rfl) (by kernel_rfl) (by kernel_rfl) (fun _ _ _ h => h) (Or.inl ⟨by rfl, fun w' hS => by go_simp⟩) s1 (some 38) rfl ?_
            try simp only [Act.put, List.setIfInBounds_toArray, List.set_cons_zero, List.set_cons_succ]
            refine take_to (i := 17) (v := .bool true) rfl (by kernel_rfl) (by kernel_rfl) (by kernel_rfl) (fun _ _ _ h => h) (Or.inl ⟨by rfl, fun w' hS => by go_simp⟩) s1 (some 39) rfl ?_
            try simp only [Act.put, List.setIfInBounds_toArray, List.set_cons_zero, List.set_cons_succ]
            refine take_to (i := 18) (v := .bool true) rfl (by kernel_rfl) (by kernel_rfl) (by kernel_rfl) (fun _ _ _ h => h) (Or.inl ⟨by rfl, fun w' hS => by go_simp⟩) s1 (some 40) rfl ?_
            try simp only [Act.put, List.setIfInBounds_toArray, List.set_cons_zero, List.set_cons_succ]
            refine wpAnyH_done (by kernel_rfl) ?_ _
            go_wp2_with fail
            go_ret
            exact ⟨hr, s1.out.2.2⟩
          · have hle2 : decide (t ≤ tp) = false := decide_eq_false hle
            go_upto_region 6 with fail
            refine wp_region_held_drew (S := fun w' => Hid (Box w' wr.heap.size 48 #[.int .i64 t, .int .i64 k, .slice fA fn fc] ∧ Fl w' (some ⟨b, off, none⟩) n c l ∧ Below w.heap.size w w')) (by kernel_rfl) (Lib.hid ⟨HX.out.1.on (on_drew w6), HX.out.2.1.on (on_drew w6), on_trans HX.out.2.2 (on_drew w6)⟩) fun s0 => ?_
            refine take_to (i := 0) (v := .agg #[.int .i64 t, .int .i64 k, .slice fA fn fc]) rfl (by kernel_rfl) (by kernel_rfl) (by kernel_rfl) (fun _ _ _ h => h) (Or.inl ⟨by rfl, fun w' hS => by have h0 := hS.out.1.cell 0; have h1 := hS.out.1.cell 1; have h2 := hS.out.1.cell 2; simp at h0 h1 h2; go_simp⟩) s0 (some 22) rfl ?_
            try simp only [Act.put, List.setIfInBounds_toArray, List.set_cons_zero, List.set_cons_succ]
            refine take_to (i := 1) (v := .bool big) rfl (by kernel_rfl) (by kernel_rfl) (by kernel_rfl) (fun _ _ _ h => h) (Or.inl ⟨by rfl, fun w' hS => by go_simp⟩) s0 (some 23) rfl ?_
            try simp only [Act.put, List.setIfInBounds_toArray, List.set_cons_zero, List.set_cons_succ]
            refine wpAnyH_ready (rs := [2]) (by kernel_rfl) (by simp) ?_
            refine AllReadyH.cons rfl (fun Kq hKq => ?_) AllReadyH.nil
            try refine if_then (by rfl) ?_
            go_simp
            have hil := (s0.out.2.1.at_ (j1 + 1) hjn).choose_spec.choose_spec.2.2.2.2.2
            rw [HF.out.1] at hil
            refine Calls.mono (isField_any t k fA fn fc fx big _ hil) ?_
            rintro e w7 ⟨rfl, b7⟩
            rw [hok]
            have s1 := Lib.hid (show Box w7 wr.heap.size 48 #[.int .i64 t, .int .i64 k, .slice fA fn fc] ∧ Fl w7 (some ⟨b, off, none⟩) n c l ∧ Below w.heap.size w w7 from ⟨s0.out.1.on b7, s0.out.2.1.on b7, on_trans s0.out.2.2 b7⟩)
            refine hKq.out _ _ s1 fun _ => ?_
            clear hKq Kq b7 hil
            try simp only [Act.put, List.setIfInBounds_toArray, List.set_cons_zero, List.set_cons_succ]
            refine take_to (i := 3) (v := .bool false) rfl (by kernel_rfl) (by kernel_rfl) (by kernel_rfl) (fun _ _ _ h => h) (Or.inl ⟨by rfl, fun w' hS => by go_simp⟩) s1 (some 25) rfl ?_
            try simp only [Act.put, List.setIfInBounds_toArray, List.set_cons_zero, List.set_cons_succ]
            refine take_to (i := 4) (v := .bool false) rfl (by kernel_rfl) (by kernel_rfl) (by kernel_rfl) (fun _ _ _ h => h) (Or.inl ⟨by rfl, fun w' hS => by go_simp⟩) s1 (some 26) rfl ?_
            try simp only [Act.put, List.setIfInBounds_toArray, List.set_cons_zero, List.set_cons_succ]
            refine take_to (i := 5) (v := .int .i64 ((j1 : Int) + 1)) rfl (by kernel_rfl) (by kernel_rfl) (by kernel_rfl) (fun _ _ _ h => h) (Or.inl ⟨by rfl, fun w' hS => by go_simp⟩) s1 (some 27) rfl ?_
            try simp only [Act.put, List.setIfInBounds_toArray, List.set_cons_zero, List.set_cons_succ]
            refine take_to (i := 6) (v := .bool true) rfl (by kernel_rfl) (by kernel_rfl) (by kernel_rfl) (fun _ _ _ h => h) (Or.inl ⟨by rfl, fun w' hS => by go_simp; try omega⟩) s1 (some 28) rfl ?_
            try simp only [Act.put, List.setIfInBounds_toArray, List.set_cons_zero, List.set_cons_succ]
            refine take_to (i := 7) (v := .bool true) rfl (by kernel_rfl) (by kernel_rfl) (by kernel_rfl) (fun _ _ _ h => h) (Or.inl ⟨by rfl, fun w' hS => by go_simp⟩) s1 (some 29) rfl ?_
            try simp only [Act.put, List.setIfInBounds_toArray, List.set_cons_zero, List.set_cons_succ]
            refine take_to (i := 8) (v := .pointer (some ⟨wr.heap.size, 0, none⟩)) rfl (by kernel_rfl) (by kernel_rfl) (by kernel_rfl) (fun _ _ _ h => h) (Or.inl ⟨by rfl, fun w' hS => by go_simp⟩) s1 (some 30) rfl ?_
            try simp only [Act.put, List.setIfInBounds_toArray, List.set_cons_zero, List.set_cons_succ]
            refine take_to (i := 9) (v := .int .i64 t) rfl (by kernel_rfl) (by kernel_rfl) (by kernel_rfl) (fun _ _ _ h => h) (Or.inl ⟨by rfl, fun w' hS => by have h0 := hS.out.1.cell 0; simp at h0; go_simp⟩) s1 (some 31) rfl ?_
            try simp only [Act.put, List.setIfInBounds_toArray, List.set_cons_zero, List.set_cons_succ]
            refine take_to (i := 10) (v := .slice (some ⟨b, off, none⟩) n c) rfl (by kernel_rfl) (by kernel_rfl) (by kernel_rfl) (fun _ _ _ h => h) (Or.inl ⟨by rfl, fun w' hS => by go_simp⟩) s1 (some 32) rfl ?_
            try simp only [Act.put, List.setIfInBounds_toArray, List.set_cons_zero, List.set_cons_succ]
            refine take_to (i := 11) (v := .int .i64 ((j1 : Int) + 1)) rfl (by kernel_rfl) (by kernel_rfl) (by kernel_rfl) (fun _ _ _ h => h) (Or.inl ⟨by rfl, fun w' hS => by go_simp⟩) s1 (some 33) rfl ?_
            try simp only [Act.put, List.setIfInBounds_toArray, List.set_cons_zero, List.set_cons_succ]
            refine take_to (i := 12) (v := .int .i64 (j1 : Int)) rfl (by kernel_rfl) (by kernel_rfl) (by kernel_rfl) (fun _ _ _ h => h) (Or.inl ⟨by rfl, fun w' hS => by go_simp; exact wrap_small (by omega) (by omega)⟩) s1 (some 34) rfl ?_
            try simp only [Act.put, List.setIfInBounds_toArray, List.set_cons_zero, List.set_cons_succ]
            refine take_to (i := 13) (v := .pointer (some ⟨b, off + j1 * 3, none⟩)) rfl (by kernel_rfl) (by kernel_rfl) (by kernel_rfl) (fun _ _ _ h => h) (Or.inl ⟨by rfl, fun w' hS => by go_simp; exact fun h => absurd h (by omega)⟩) s1 (some 35) rfl ?_
            try simp only [Act.put, List.setIfInBounds_toArray, List.set_cons_zero, List.set_cons_succ]
            refine take_to (i := 14) (v := .pointer (some ⟨b, off + j1 * 3, none⟩)) rfl (by kernel_rfl) (by kernel_rfl) (by kernel_rfl) (fun _ _ _ h => h) (Or.inl ⟨by rfl, fun w' hS => by go_simp⟩) s1 (some 36) rfl ?_
            try simp only [Act.put, List.setIfInBounds_toArray, List.set_cons_zero, List.set_cons_succ]
            refine take_to (i := 15) (v := .int .i64 tp) rfl (by kernel_rfl) (by kernel_rfl) (by kernel_rfl) (fun _ _ _ h => h) (Or.inl ⟨by rfl, fun w' hS => by have h0 := HP.out w' hS.out.2.1; go_simp⟩) s1 (some 37) rfl ?_
            try simp only [Act.put, List.setIfInBounds_toArray, List.set_cons_zero, List.set_cons_succ]
            refine take_to (i := 16) (v := .bool false) rfl (by kernel_rfl) (by kernel_rfl) (by kernel_rfl) (fun _ _ _ h => h) (Or.inl ⟨by rfl, fun w' hS => by go_simp⟩) s1 (some 38) rfl ?_
            try simp only [Act.put, List.setIfInBounds_toArray, List.set_cons_zero, List.set_cons_succ]
            refine take_to (i := 17) (v := .bool false) rfl (by kernel_rfl) (by kernel_rfl) (by kernel_rfl) (fun _ _ _ h => h) (Or.inl ⟨by rfl, fun w' hS => by go_simp⟩) s1 (some 39) rfl ?_
            try simp only [Act.put, List.setIfInBounds_toArray, List.set_cons_zero, List.set_cons_succ]
            refine take_to (i := 18) (v := .bool false) rfl (by kernel_rfl) (by kernel_rfl) (by kernel_rfl) (fun _ _ _ h => h) (Or.inl ⟨by rfl, fun w' hS => by go_simp⟩) s1 (some 40) rfl ?_
            try simp only [Act.put, List.setIfInBounds_toArray, List.set_cons_zero, List.set_cons_succ]
            refine wpAnyH_done (by kernel_rfl) ?_ _
            go_wp2_with fail
            go_roundw
            case rel => exact ⟨j1 + 1 + 1, by omega, by go_num, s1.out.2.2, fun i hi => by
              rcases Nat.lt_or_ge i (j1 + 1) with h | h
              · exact HB.out.2 i h
              · obtain rfl : i = j1 + 1 := by omega
                refine ⟨by rw [HF.out.1]; exact HQ.out, fun _ => ?_⟩
                rw [HF.out.1, Nat.add_sub_cancel, HTP.out]
                simp only
                omega⟩
            case measure => simp [intOf]; omega
      · have hok : decide (FieldOk t k fx big) = false := decide_eq_false hq
        have hr : Ending.returned (.bool false) = .returned (.bool (decide (DirOk l big))) := ret_dec ⟨(fun h => by cases h), fun h => by
          have h9 := (h.2 j HF.out.2).1
          rw [HF.out.1] at h9
          exact absurd h9 hq⟩
        clear hq
        go_upto_region 6 with fail
        refine wp_region_held_drew (S := fun w' => Hid (Box w' wr.heap.size 48 #[.int .i64 t, .int .i64 k, .slice fA fn fc] ∧ Fl w' (some ⟨b, off, none⟩) n c l ∧ Below w.heap.size w w')) (by kernel_rfl) (Lib.hid ⟨HX.out.1.on (on_drew w6), HX.out.2.1.on (on_drew w6), on_trans HX.out.2.2 (on_drew w6)⟩) fun s0 => ?_
        refine take_to (i := 0) (v := .agg #[.int .i64 t, .int .i64 k, .slice fA fn fc]) rfl (by kernel_rfl) (by kernel_rfl) (by kernel_rfl) (fun _ _ _ h => h) (Or.inl ⟨by rfl, fun w' hS => by have h0 := hS.out.1.cell 0; have h1 := hS.out.1.cell 1; have h2 := hS.out.1.cell 2; simp at h0 h1 h2; go_simp⟩) s0 (some 22) rfl ?_
        try simp only [Act.put, List.setIfInBounds_toArray, List.set_cons_zero, List.set_cons_succ]
        refine take_to (i := 1) (v := .bool big) rfl (by kernel_rfl) (by kernel_rfl) (by kernel_rfl) (fun _ _ _ h => h) (Or.inl ⟨by rfl, fun w' hS => by go_simp⟩) s0 (some 23) rfl ?_
        try simp only [Act.put, List.setIfInBounds_toArray, List.set_cons_zero, List.set_cons_succ]
        refine wpAnyH_ready (rs := [2]) (by kernel_rfl) (by simp) ?_
        refine AllReadyH.cons rfl (fun Kq hKq => ?_) AllReadyH.nil
        try refine if_then (by rfl) ?_
        go_simp
        have hil := (s0.out.2.1.at_ j hjn).choose_spec.choose_spec.2.2.2.2.2
        rw [HF.out.1] at hil
        refine Calls.mono (isField_any t k fA fn fc fx big _ hil) ?_
        rintro e w7 ⟨rfl, b7⟩
        rw [hok]
        have s1 := Lib.hid (show Box w7 wr.heap.size 48 #[.int .i64 t, .int .i64 k, .slice fA fn fc] ∧ Fl w7 (some ⟨b, off, none⟩) n c l ∧ Below w.heap.size w w7 from ⟨s0.out.1.on b7, s0.out.2.1.on b7, on_trans s0.out.2.2 b7⟩)
        refine hKq.out _ _ s1 fun _ => ?_
        clear hKq Kq b7 hil
        try simp only [Act.put, List.setIfInBounds_toArray, List.set_cons_zero, List.set_cons_succ]
        refine take_to (i := 3) (v := .bool true) rfl (by kernel_rfl) (by kernel_rfl) (by kernel_rfl) (fun _ _ _ h => h) (Or.inl ⟨by rfl, fun w' hS => by go_simp⟩) s1 (some 25) rfl ?_
        try simp only [Act.put, List.setIfInBounds_toArray, List.set_cons_zero, List.set_cons_succ]
        refine take_to (i := 4) (v := .bool true) rfl (by kernel_rfl) (by kernel_rfl) (by kernel_rfl) (fun _ _ _ h => h) (Or.inl ⟨by rfl, fun w' hS => by go_simp⟩) s1 (some 26) rfl ?_
        try simp only [Act.put, List.setIfInBounds_toArray, List.set_cons_zero, List.set_cons_succ]
        refine take_to (i := 5) (v := undef) rfl (by kernel_rfl) (by kernel_rfl) (by kernel_rfl) (fun _ _ _ h => h) (Or.inr ⟨by rfl, rfl⟩) s1 (some 27) rfl ?_
        try simp only [Act.put, List.setIfInBounds_toArray, List.set_cons_zero, List.set_cons_succ]
        refine take_to (i := 6) (v := undef) rfl (by kernel_rfl) (by kernel_rfl) (by kernel_rfl) (fun _ _ _ h => h) (Or.inr ⟨by rfl, rfl⟩) s1 (some 28) rfl ?_
        try simp only [Act.put, List.setIfInBounds_toArray, List.set_cons_zero, List.set_cons_succ]
        refine take_to (i := 7) (v := undef) rfl (by kernel_rfl) (by kernel_rfl) (by kernel_rfl) (fun _ _ _ h => h) (Or.inr ⟨by rfl, rfl⟩) s1 (some 29) rfl ?_
        try simp only [Act.put, List.setIfInBounds_toArray, List.set_cons_zero, List.set_cons_succ]
        refine take_to (i := 8) (v := undef) rfl (by kernel_rfl) (by kernel_rfl) (by kernel_rfl) (fun _ _ _ h => h) (Or.inr ⟨by rfl, rfl⟩) s1 (some 30) rfl ?_
        try simp only [Act.put, List.setIfInBounds_toArray, List.set_cons_zero, List.set_cons_succ]
        refine take_to (i := 9) (v := undef) rfl (by kernel_rfl) (by kernel_rfl) (by kernel_rfl) (fun _ _ _ h => h) (Or.inr ⟨by rfl, rfl⟩) s1 (some 31) rfl ?_
        try simp only [Act.put, List.setIfInBounds_toArray, List.set_cons_zero, List.set_cons_succ]
        refine take_to (i := 10) (v := undef) rfl (by kernel_rfl) (by kernel_rfl) (by kernel_rfl) (fun _ _ _ h => h) (Or.inr ⟨by rfl, rfl⟩) s1 (some 32) rfl ?_
        try simp only [Act.put, List.setIfInBounds_toArray, List.set_cons_zero, List.set_cons_succ]
        refine take_to (i := 11) (v := undef) rfl (by kernel_rfl) (by kernel_rfl) (by kernel_rfl) (fun _ _ _ h => h) (Or.inr ⟨by rfl, rfl⟩) s1 (some 33) rfl ?_
        try simp only [Act.put, List.setIfInBounds_toArray, List.set_cons_zero, List.set_cons_succ]
        refine take_to (i := 12) (v := undef) rfl (by kernel_rfl) (by kernel_rfl) (by kernel_rfl) (fun _ _ _ h => h) (Or.inr ⟨by rfl, rfl⟩) s1 (some 34) rfl ?_
        try simp only [Act.put, List.setIfInBounds_toArray, List.set_cons_zero, List.set_cons_succ]
        refine take_to (i := 13) (v := undef) rfl (by kernel_rfl) (by kernel_rfl) (by kernel_rfl) (fun _ _ _ h => h) (Or.inr ⟨by rfl, rfl⟩) s1 (some 35) rfl ?_
        try simp only [Act.put, List.setIfInBounds_toArray, List.set_cons_zero, List.set_cons_succ]
        refine take_to (i := 14) (v := undef) rfl (by kernel_rfl) (by kernel_rfl) (by kernel_rfl) (fun _ _ _ h => h) (Or.inr ⟨by rfl, rfl⟩) s1 (some 36) rfl ?_
        try simp only [Act.put, List.setIfInBounds_toArray, List.set_cons_zero, List.set_cons_succ]
        refine take_to (i := 15) (v := undef) rfl (by kernel_rfl) (by kernel_rfl) (by kernel_rfl) (fun _ _ _ h => h) (Or.inr ⟨by rfl, rfl⟩) s1 (some 37) rfl ?_
        try simp only [Act.put, List.setIfInBounds_toArray, List.set_cons_zero, List.set_cons_succ]
        refine take_to (i := 16) (v := undef) rfl (by kernel_rfl) (by kernel_rfl) (by kernel_rfl) (fun _ _ _ h => h) (Or.inr ⟨by rfl, rfl⟩) s1 (some 38) rfl ?_
        try simp only [Act.put, List.setIfInBounds_toArray, List.set_cons_zero, List.set_cons_succ]
        refine take_to (i := 17) (v := undef) rfl (by kernel_rfl) (by kernel_rfl) (by kernel_rfl) (fun _ _ _ h => h) (Or.inr ⟨by rfl, rfl⟩) s1 (some 39) rfl ?_
        try simp only [Act.put, List.setIfInBounds_toArray, List.set_cons_zero, List.set_cons_succ]
        refine take_to (i := 18) (v := .bool true) rfl (by kernel_rfl) (by kernel_rfl) (by kernel_rfl) (fun _ _ _ h => h) (Or.inl ⟨by rfl, fun w' hS => by go_simp⟩) s1 (some 40) rfl ?_
        try simp only [Act.put, List.setIfInBounds_toArray, List.set_cons_zero, List.set_cons_succ]
        refine wpAnyH_done (by kernel_rfl) ?_ _
        go_wp2_with fail
        go_ret
        exact ⟨hr, s1.out.2.2⟩
    · have hr : Ending.returned (.bool true) = .returned (.bool (decide (DirOk l big))) := ret_dec ⟨(fun _ => ⟨⟨by rw [H0.out.2]; omega, by rw [H0.out.2]; omega⟩, fun i hi => HB.out.2 i (by rw [H0.out.2] at hi; omega)⟩), fun _ => rfl⟩
      go_wp2_with fail
      go_ret
      exact ⟨hr, HB.out.1⟩
end Go.Proofs.Ytnakfdaneejcfaa
