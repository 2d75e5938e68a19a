/-
  The contract of the reference's merge. How the reference's heaps stand while they are joined: no code. Slices of 257 and of 300 numbers are made. The contract of the reference's Lengths.
-/
import Derived.Test.YtmaffonnekgekaaHpTake
import Derived.Test.YtmaffonnekgekaaNewBase
import Derived.Deep.LoopGhost
import Derived.Test.YtmaffonnekgekaaGrow
import Derived.Test.YtmaffonnekgekaaOwn
namespace Go.Proofs.Ytmaffonnekgekaa
open Go.RowKit

/-- two rising lists as one -/
def mrg : List Nat → List Nat → List Nat
  | [], b => b
  | x :: a, [] => x :: a
  | x :: a, y :: b => if x < y then x :: mrg a (y :: b) else y :: mrg (x :: a) b
termination_by a b => a.length + b.length
theorem mrg_nil (b : List Nat) : mrg [] b = b := by unfold mrg; rfl
theorem mrg_nil' (a : List Nat) : mrg a [] = a := by cases a <;> (unfold mrg; rfl)
theorem mrg_lt {x y : Nat} (a b : List Nat) (h : x < y) : mrg (x :: a) (y :: b) = x :: mrg a (y :: b) := by
  rw [mrg, if_pos h]
theorem mrg_ge {x y : Nat} (a b : List Nat) (h : ¬ x < y) : mrg (x :: a) (y :: b) = y :: mrg (x :: a) b := by
  rw [mrg, if_neg h]
theorem mrg_perm : ∀ (n : Nat) (a b : List Nat), a.length + b.length = n → (mrg a b).Perm (a ++ b)
  | n, [], b, _ => by rw [mrg_nil]; exact List.Perm.refl _
  | n, x :: a, [], _ => by rw [mrg_nil', List.append_nil]
  | 0, x :: a, y :: b, h => by simp at h
  | n + 1, x :: a, y :: b, h => by
    by_cases hxy : x < y
    · rw [mrg_lt a b hxy]
      exact (mrg_perm n a (y :: b) (by simp at h ⊢; omega)).cons x
    · rw [mrg_ge a b hxy]
      have := (mrg_perm n (x :: a) b (by simp at h ⊢; omega)).cons y
      exact this.trans (List.perm_middle (l₁ := x :: a)).symm
theorem mrg_rises : ∀ (n : Nat) (a b : List Nat), a.length + b.length = n → a.Pairwise (· < ·) → b.Pairwise (· < ·) → (∀ v ∈ a, v ∉ b) → (mrg a b).Pairwise (· < ·)
  | n, [], b, _, _, hb, _ => by rw [mrg_nil]; exact hb
  | n, x :: a, [], _, ha, _, _ => by rw [mrg_nil']; exact ha
  | 0, x :: a, y :: b, h, _, _, _ => by simp at h
  | n + 1, x :: a, y :: b, h, ha, hb, hd => by
    rw [List.pairwise_cons] at ha hb
    by_cases hxy : x < y
    · rw [mrg_lt a b hxy, List.pairwise_cons]
      have hl : a.length + (y :: b).length = n := by simp at h ⊢; omega
      refine ⟨fun v hv => ?_, mrg_rises n a (y :: b) hl ha.2 (List.pairwise_cons.2 hb) (fun v hv => hd v (List.mem_cons_of_mem _ hv))⟩
      rcases List.mem_append.1 ((mrg_perm n a (y :: b) hl).mem_iff.1 hv) with h1 | h1
      · exact ha.1 v h1
      · rcases List.mem_cons.1 h1 with rfl | h1
        · exact hxy
        · have := hb.1 v h1
          omega
    · rw [mrg_ge a b hxy, List.pairwise_cons]
      have hl : (x :: a).length + b.length = n := by simp at h ⊢; omega
      have hne : x ≠ y := fun e => hd x (List.mem_cons_self ..) (e ▸ List.mem_cons_self ..)
      refine ⟨fun v hv => ?_, mrg_rises n (x :: a) b hl (List.pairwise_cons.2 ha) hb.2 (fun v hv h' => hd v hv (List.mem_cons_of_mem _ h'))⟩
      rcases List.mem_append.1 ((mrg_perm n (x :: a) b hl).mem_iff.1 hv) with h1 | h1
      · rcases List.mem_cons.1 h1 with rfl | h1
        · omega
        · have := ha.1 v h1
          omega
      · exact hb.1 v h1

/-- what merge tells -/
def Merged (w : World) (TA TB : List Nat) (e : Ending) (w' : World) : Prop := ∃ A c, e = .returned (.slice A (mrg TA TB).length c) ∧ w'.ownsRow w.heap.size 3 1 (.slice A (mrg TA TB).length c) (mrg TA TB).length (cellsI (ints (mrg TA TB))) ∧ Below w.heap.size w w'
theorem ints_cons (x : Nat) (a : List Nat) : ints (x :: a) = (x : Int) :: ints a := rfl

theorem Row.drewN {w0 wr : World} {v : Value} {l : List Nat} (h : Row w0 wr v l) (k : Nat) : Row w0 (wr.drewN k) v l := ⟨h.own, ⟨h.bel.os, h.bel.tape, h.bel.output, h.bel.size, h.bel.block⟩⟩
/-- one value more -/
theorem row_more_ {w0 wr w9 : World} {out : List Nat} {v v9 : Value} {x : Nat} (h : Row w0 wr v out) (hown : w9.ownsRow w0.heap.size 3 1 v9 (out.length + 1) (cellsI (ints out ++ [(x : Int)]))) (hb : Below w0.heap.size (wr.alloc (.cells #[.int .i64 (x : Int)] 3)) w9) : Row w0 w9 v9 (out ++ [x]) := by
  refine ⟨?_, (h.bel.trans ((on_alloc _ _).mono h.bel.size)).trans hb⟩
  rw [ints_app, List.length_append]
  exact hown
/-- the rest of a slice behind its first number -/
theorem il_behind {w : World} {bb off m xa : Nat} {x : Nat} {a : List Nat} (h : Il w (some ⟨bb, off, none⟩) m xa (ints (x :: a))) : (xa = 1 → Il w (some ⟨bb, off, none⟩) (m - 1) 0 (ints a)) ∧ (¬ xa = 1 → Il w (some ⟨bb, off + 1, none⟩) (m - 1) (xa - 1) (ints a)) ∧ m - 1 = a.length := by
  have hm : m = a.length + 1 := by have := h.len; rw [ints_len] at this; simpa using this.symm
  have h1 := il_rest h (k := 1) (by omega)
  have e : (ints (x :: a)).drop 1 = ints a := rfl
  rw [e] at h1
  refine ⟨fun hx => ?_, fun hx => ?_, by omega⟩
  · rw [if_pos hx, show xa - 1 = 0 by omega] at h1; exact h1
  · rw [if_neg hx] at h1; exact h1
set_option maxRecDepth 20000 in
set_option maxHeartbeats 3200000 in
theorem merge_any (w : World) (TA TB : List Nat) (A B : Option Addr) (ca cb : Nat) (ha : Il w A TA.length ca (ints TA)) (hb : Il w B TB.length cb (ints TB)) (hla : TA.length ≤ 300) (hlb : TB.length ≤ 300) :
    Calls Try.prog 31 #[.slice A TA.length ca, .slice B TB.length cb] w (Merged w TA TB) := by
  have HI := Lib.hid (And.intro ha hb)
  obtain ⟨na, hna⟩ : ∃ na, na = TA.length := ⟨_, rfl⟩
  obtain ⟨nb, hnb⟩ : ∃ nb, nb = TB.length := ⟨_, rfl⟩
  rw [← hna, ← hnb]
  have HN := Lib.hid (And.intro hna (And.intro hnb (And.intro hla hlb)))
  clear ha hb hna hnb hla hlb
  go_enter Try.func31, Try.ntmps31
  go_wp2
  go_loopg [0, 1, 5] (na + nb) (fun q s0 s1 v wr => ∃ (a b out : List Nat) (Aa Ab : Option Addr) (xa xb : Nat), s0 = .slice Aa a.length xa ∧ s1 = .slice Ab b.length xb ∧ Il w Aa a.length xa (ints a) ∧ Il w Ab b.length xb (ints b) ∧ Row w wr v out ∧ out ++ mrg a b = mrg TA TB ∧ a.length + b.length + out.length = TA.length + TB.length ∧ q = a.length + b.length)
  case atStart => exact ⟨TA, TB, [], A, B, ca, cb, by rw [HN.out.1], by rw [HN.out.2.1], HI.out.1, HI.out.2, ⟨⟨rfl, .inl ⟨rfl, rfl⟩⟩, Below.refl _ _⟩, rfl, by simp, by rw [HN.out.1, HN.out.2.1]⟩
  case round =>
    obtain ⟨a, b, out, Aa, Ab, xa, xb, rfl, rfl, hia, hib, hR, hm, hl, hq⟩ := hrel
    have HR := Lib.hid (And.intro hia (And.intro hib (And.intro hR (And.intro hm hq))))
    have hol : out.length ≤ 600 := by have := HN.out.2.2; omega
    obtain ⟨Av, cv, hv⟩ := own_slice hR.own
    subst hv
    cases a with
    | nil =>
      cases b with
      | nil =>
        clear hia hib hR hm hq hl
        go_wp2
        go_ret
        have hm := HR.out.2.2.2.1
        rw [mrg_nil, List.append_nil] at hm
        have hr := HR.out.2.2.1
        rw [hm] at hr ⊢
        exact ⟨Av, cv, rfl, hr.own, hr.bel⟩
      | cons y b =>
        obtain ⟨bb, offb, hB, hbl, hcb⟩ := hib.at_ (by simp)
        have cb0 := (hR.bel.cell (p := ⟨bb, offb + 0, none⟩) hbl).trans (hcb 0 (by simp))
        have hbc := hib.cap
        subst hB
        have hgy : (ints (y :: b)).getD 0 0 = (y : Int) := rfl
        rw [hgy, Nat.add_zero] at cb0
        obtain ⟨m, hmm⟩ : ∃ m, m = (y :: b).length := ⟨_, rfl⟩
        have hm0 : 0 < m := by rw [hmm, List.length_cons]; omega
        have hmi : ((m : Int) == 0) = false := beq_eq_false_iff_ne.2 (by omega)
        have hmi1 : (1 : Int) ≤ (m : Int) := by omega
        have hmx : m ≤ xb := by rw [hmm]; exact hbc
        have hm6 : m ≤ 600 := by have := HN.out.2; rw [hmm]; omega
        have hbh := il_behind hib
        have e0 : ([] : List Nat).length = 0 := rfl
        rw [e0, ← hmm]
        rw [← hmm] at hbh
        have HB := Lib.hid (And.intro hmm (And.intro hbh hl))
        clear hia hib hR hm hq hl hmm e0 hcb hgy hbh hbc
        by_cases hxc : xb = 1
        · go_wp2_with fail
          go_quiet (fail)
          go_wp2_with (first
            | (at_builtin; refine wpList_append_il rfl (.tmp 39) (.tmp 43) rfl w.heap.size (.slice Av out.length cv) out.length (ints out) rfl ((HR.out.2.2.1.drewN _).own.alloc _) (some ⟨wr.heap.size, 0, none⟩) 1 1 [(y : Int)] rfl (il_one _ y) (by omega) (by have := HR.out.2.2.1.bel.size; simp; omega) ?_; intro v9 w9 hown9 b9; have H9 := Lib.hid (row_more_ (HR.out.2.2.1.drewN _) hown9 b9); clear hown9 b9)
            | fail)
          obtain ⟨A9, c9, hv9⟩ := own_slice H9.out.own
          subst hv9
          go_roundg (([] : List Nat).length + b.length)
          case rel =>
            have hl3 := HB.out.2.2
            have e3 := HB.out.2.1.2.2
            refine ⟨[], b, out ++ [y], _, _, _, _, rfl, by rw [← e3], HR.out.1, by rw [← e3]; exact HB.out.2.1.1 hxc, H9.out, ?_, ?_, rfl⟩
            · have hm := HR.out.2.2.2.1
              rw [mrg_nil] at hm
              rw [mrg_nil, List.append_assoc]
              exact hm
            · simp at hl3 ⊢
              omega
          case measure => rw [HR.out.2.2.2.2]; simp
        · go_wp2_with fail
          go_quiet (fail)
          go_wp2_with (first
            | (at_builtin; refine wpList_append_il rfl (.tmp 39) (.tmp 43) rfl w.heap.size (.slice Av out.length cv) out.length (ints out) rfl ((HR.out.2.2.1.drewN _).own.alloc _) (some ⟨wr.heap.size, 0, none⟩) 1 1 [(y : Int)] rfl (il_one _ y) (by omega) (by have := HR.out.2.2.1.bel.size; simp; omega) ?_; intro v9 w9 hown9 b9; have H9 := Lib.hid (row_more_ (HR.out.2.2.1.drewN _) hown9 b9); clear hown9 b9)
            | fail)
          obtain ⟨A9, c9, hv9⟩ := own_slice H9.out.own
          subst hv9
          go_roundg (([] : List Nat).length + b.length)
          case rel =>
            have hl3 := HB.out.2.2
            have e3 := HB.out.2.1.2.2
            refine ⟨[], b, out ++ [y], _, _, _, _, rfl, by rw [← e3], HR.out.1, by rw [← e3]; exact HB.out.2.1.2.1 hxc, H9.out, ?_, ?_, rfl⟩
            · have hm := HR.out.2.2.2.1
              rw [mrg_nil] at hm
              rw [mrg_nil, List.append_assoc]
              exact hm
            · simp at hl3 ⊢
              omega
          case measure => rw [HR.out.2.2.2.2]; simp
    | cons x a =>
      cases b with
      | nil =>
        obtain ⟨ba, offa, hA, hal, hca⟩ := hia.at_ (by simp)
        have ca0 := (hR.bel.cell (p := ⟨ba, offa + 0, none⟩) hal).trans (hca 0 (by simp))
        have hac := hia.cap
        subst hA
        have hgx : (ints (x :: a)).getD 0 0 = (x : Int) := rfl
        rw [hgx, Nat.add_zero] at ca0
        obtain ⟨n, hnn⟩ : ∃ n, n = (x :: a).length := ⟨_, rfl⟩
        have hn0 : 0 < n := by rw [hnn, List.length_cons]; omega
        have hni : ((n : Int) == 0) = false := beq_eq_false_iff_ne.2 (by omega)
        have hni1 : (1 : Int) ≤ (n : Int) := by omega
        have hnx : n ≤ xa := by rw [hnn]; exact hac
        have hn6 : n ≤ 600 := by have := HN.out.2; rw [hnn]; omega
        have hah := il_behind hia
        have e0 : ([] : List Nat).length = 0 := rfl
        rw [e0, ← hnn]
        rw [← hnn] at hah
        have HA := Lib.hid (And.intro hnn (And.intro hah hl))
        clear hia hib hR hm hq hl hnn e0 hca hgx hah hac
        by_cases hxc : xa = 1
        · go_wp2_with fail
          go_quiet (fail)
          go_wp2_with (first
            | (at_builtin; refine wpList_append_il rfl (.tmp 31) (.tmp 35) rfl w.heap.size (.slice Av out.length cv) out.length (ints out) rfl ((HR.out.2.2.1.drewN _).own.alloc _) (some ⟨wr.heap.size, 0, none⟩) 1 1 [(x : Int)] rfl (il_one _ x) (by omega) (by have := HR.out.2.2.1.bel.size; simp; omega) ?_; intro v9 w9 hown9 b9; have H9 := Lib.hid (row_more_ (HR.out.2.2.1.drewN _) hown9 b9); clear hown9 b9)
            | fail)
          obtain ⟨A9, c9, hv9⟩ := own_slice H9.out.own
          subst hv9
          go_roundg (a.length + ([] : List Nat).length)
          case rel =>
            have hl3 := HA.out.2.2
            have e3 := HA.out.2.1.2.2
            refine ⟨a, [], out ++ [x], _, _, _, _, by rw [← e3], rfl, by rw [← e3]; exact HA.out.2.1.1 hxc, HR.out.2.1, H9.out, ?_, ?_, rfl⟩
            · have hm := HR.out.2.2.2.1
              rw [mrg_nil'] at hm
              rw [mrg_nil', List.append_assoc]
              exact hm
            · simp at hl3 ⊢
              omega
          case measure => rw [HR.out.2.2.2.2]; simp
        · go_wp2_with fail
          go_quiet (fail)
          go_wp2_with (first
            | (at_builtin; refine wpList_append_il rfl (.tmp 31) (.tmp 35) rfl w.heap.size (.slice Av out.length cv) out.length (ints out) rfl ((HR.out.2.2.1.drewN _).own.alloc _) (some ⟨wr.heap.size, 0, none⟩) 1 1 [(x : Int)] rfl (il_one _ x) (by omega) (by have := HR.out.2.2.1.bel.size; simp; omega) ?_; intro v9 w9 hown9 b9; have H9 := Lib.hid (row_more_ (HR.out.2.2.1.drewN _) hown9 b9); clear hown9 b9)
            | fail)
          obtain ⟨A9, c9, hv9⟩ := own_slice H9.out.own
          subst hv9
          go_roundg (a.length + ([] : List Nat).length)
          case rel =>
            have hl3 := HA.out.2.2
            have e3 := HA.out.2.1.2.2
            refine ⟨a, [], out ++ [x], _, _, _, _, by rw [← e3], rfl, by rw [← e3]; exact HA.out.2.1.2.1 hxc, HR.out.2.1, H9.out, ?_, ?_, rfl⟩
            · have hm := HR.out.2.2.2.1
              rw [mrg_nil'] at hm
              rw [mrg_nil', List.append_assoc]
              exact hm
            · simp at hl3 ⊢
              omega
          case measure => rw [HR.out.2.2.2.2]; simp
      | cons y b =>
        obtain ⟨bb, offb, hB, hbl, hcb⟩ := hib.at_ (by simp)
        have cb0 := (hR.bel.cell (p := ⟨bb, offb + 0, none⟩) hbl).trans (hcb 0 (by simp))
        have hbc := hib.cap
        subst hB
        have hgy : (ints (y :: b)).getD 0 0 = (y : Int) := rfl
        rw [hgy, Nat.add_zero] at cb0
        obtain ⟨m, hmm⟩ : ∃ m, m = (y :: b).length := ⟨_, rfl⟩
        have hm0 : 0 < m := by rw [hmm, List.length_cons]; omega
        have hmi : ((m : Int) == 0) = false := beq_eq_false_iff_ne.2 (by omega)
        have hmi1 : (1 : Int) ≤ (m : Int) := by omega
        have hmx : m ≤ xb := by rw [hmm]; exact hbc
        have hm6 : m ≤ 600 := by have := HN.out.2; rw [hmm]; omega
        have hbh := il_behind hib
        obtain ⟨ba, offa, hA, hal, hca⟩ := hia.at_ (by simp)
        have ca0 := (hR.bel.cell (p := ⟨ba, offa + 0, none⟩) hal).trans (hca 0 (by simp))
        have hac := hia.cap
        subst hA
        have hgx : (ints (x :: a)).getD 0 0 = (x : Int) := rfl
        rw [hgx, Nat.add_zero] at ca0
        obtain ⟨n, hnn⟩ : ∃ n, n = (x :: a).length := ⟨_, rfl⟩
        have hn0 : 0 < n := by rw [hnn, List.length_cons]; omega
        have hni : ((n : Int) == 0) = false := beq_eq_false_iff_ne.2 (by omega)
        have hni1 : (1 : Int) ≤ (n : Int) := by omega
        have hnx : n ≤ xa := by rw [hnn]; exact hac
        have hn6 : n ≤ 600 := by have := HN.out.2; rw [hnn]; omega
        have hah := il_behind hia
        rw [← hmm, ← hnn]
        rw [← hmm] at hbh
        rw [← hnn] at hah
        have HA := Lib.hid (And.intro hnn (And.intro hah hl))
        have HB := Lib.hid (And.intro hmm (And.intro hbh hl))
        clear hia hib hR hm hq hl hnn hmm hca hcb hgx hgy hah hbh hac hbc
        by_cases hxy : x < y
        · by_cases hxc : xa = 1
          · go_wp2_with fail
            go_quiet (fail)
            go_wp2_with (first
              | (at_builtin; refine wpList_append_il rfl (.tmp 31) (.tmp 35) rfl w.heap.size (.slice Av out.length cv) out.length (ints out) rfl ((HR.out.2.2.1.drewN _).own.alloc _) (some ⟨wr.heap.size, 0, none⟩) 1 1 [(x : Int)] rfl (il_one _ x) (by omega) (by have := HR.out.2.2.1.bel.size; simp; omega) ?_; intro v9 w9 hown9 b9; have H9 := Lib.hid (row_more_ (HR.out.2.2.1.drewN _) hown9 b9); clear hown9 b9)
              | fail)
            obtain ⟨A9, c9, hv9⟩ := own_slice H9.out.own
            subst hv9
            go_roundg (a.length + (y :: b).length)
            case rel =>
              have hl3 := HA.out.2.2
              have e3 := HA.out.2.1.2.2
              refine ⟨a, (y :: b), out ++ [x], _, _, _, _, by rw [← e3], by rw [HB.out.1], by rw [← e3]; exact HA.out.2.1.1 hxc, HR.out.2.1, H9.out, ?_, ?_, rfl⟩
              · have hm := HR.out.2.2.2.1
                rw [mrg_lt _ _ hxy] at hm
                rw [List.append_assoc]
                exact hm
              · simp at hl3 ⊢
                omega
            case measure => rw [HR.out.2.2.2.2]; simp
          · go_wp2_with fail
            go_quiet (fail)
            go_wp2_with (first
              | (at_builtin; refine wpList_append_il rfl (.tmp 31) (.tmp 35) rfl w.heap.size (.slice Av out.length cv) out.length (ints out) rfl ((HR.out.2.2.1.drewN _).own.alloc _) (some ⟨wr.heap.size, 0, none⟩) 1 1 [(x : Int)] rfl (il_one _ x) (by omega) (by have := HR.out.2.2.1.bel.size; simp; omega) ?_; intro v9 w9 hown9 b9; have H9 := Lib.hid (row_more_ (HR.out.2.2.1.drewN _) hown9 b9); clear hown9 b9)
              | fail)
            obtain ⟨A9, c9, hv9⟩ := own_slice H9.out.own
            subst hv9
            go_roundg (a.length + (y :: b).length)
            case rel =>
              have hl3 := HA.out.2.2
              have e3 := HA.out.2.1.2.2
              refine ⟨a, (y :: b), out ++ [x], _, _, _, _, by rw [← e3], by rw [HB.out.1], by rw [← e3]; exact HA.out.2.1.2.1 hxc, HR.out.2.1, H9.out, ?_, ?_, rfl⟩
              · have hm := HR.out.2.2.2.1
                rw [mrg_lt _ _ hxy] at hm
                rw [List.append_assoc]
                exact hm
              · simp at hl3 ⊢
                omega
            case measure => rw [HR.out.2.2.2.2]; simp
        · by_cases hxc : xb = 1
          · go_wp2_with fail
            go_quiet (fail)
            go_wp2_with (first
              | (at_builtin; refine wpList_append_il rfl (.tmp 39) (.tmp 43) rfl w.heap.size (.slice Av out.length cv) out.length (ints out) rfl ((HR.out.2.2.1.drewN _).own.alloc _) (some ⟨wr.heap.size, 0, none⟩) 1 1 [(y : Int)] rfl (il_one _ y) (by omega) (by have := HR.out.2.2.1.bel.size; simp; omega) ?_; intro v9 w9 hown9 b9; have H9 := Lib.hid (row_more_ (HR.out.2.2.1.drewN _) hown9 b9); clear hown9 b9)
              | fail)
            obtain ⟨A9, c9, hv9⟩ := own_slice H9.out.own
            subst hv9
            go_roundg ((x :: a).length + b.length)
            case rel =>
              have hl3 := HB.out.2.2
              have e3 := HB.out.2.1.2.2
              refine ⟨(x :: a), b, out ++ [y], _, _, _, _, by rw [HA.out.1], by rw [← e3], HR.out.1, by rw [← e3]; exact HB.out.2.1.1 hxc, H9.out, ?_, ?_, rfl⟩
              · have hm := HR.out.2.2.2.1
                rw [mrg_ge _ _ hxy] at hm
                rw [List.append_assoc]
                exact hm
              · simp at hl3 ⊢
                omega
            case measure => rw [HR.out.2.2.2.2]; simp
          · go_wp2_with fail
            go_quiet (fail)
            go_wp2_with (first
              | (at_builtin; refine wpList_append_il rfl (.tmp 39) (.tmp 43) rfl w.heap.size (.slice Av out.length cv) out.length (ints out) rfl ((HR.out.2.2.1.drewN _).own.alloc _) (some ⟨wr.heap.size, 0, none⟩) 1 1 [(y : Int)] rfl (il_one _ y) (by omega) (by have := HR.out.2.2.1.bel.size; simp; omega) ?_; intro v9 w9 hown9 b9; have H9 := Lib.hid (row_more_ (HR.out.2.2.1.drewN _) hown9 b9); clear hown9 b9)
              | fail)
            obtain ⟨A9, c9, hv9⟩ := own_slice H9.out.own
            subst hv9
            go_roundg ((x :: a).length + b.length)
            case rel =>
              have hl3 := HB.out.2.2
              have e3 := HB.out.2.1.2.2
              refine ⟨(x :: a), b, out ++ [y], _, _, _, _, by rw [HA.out.1], by rw [← e3], HR.out.1, by rw [← e3]; exact HB.out.2.1.2.1 hxc, H9.out, ?_, ?_, rfl⟩
              · have hm := HR.out.2.2.2.1
                rw [mrg_ge _ _ hxy] at hm
                rw [List.append_assoc]
                exact hm
              · simp at hl3 ⊢
                omega
            case measure => rw [HR.out.2.2.2.2]; simp
end Go.Proofs.Ytmaffonnekgekaa

namespace Go.Proofs.Ytmaffonnekgekaa
open Go.RowKit

/-- those of the first k values that are counted -/
def usTo (C : List Int) (k : Nat) : List Nat := (List.range k).filter fun v => decide (0 < C.getD v 0)
theorem usTo_more (C : List Int) (k : Nat) : usTo C (k + 1) = usTo C k ++ if 0 < C.getD k 0 then [k] else [] := by
  unfold usTo
  rw [List.range_succ, List.filter_append]
  congr 1
  by_cases h : 0 < C.getD k 0
  · rw [if_pos h]; simp only [List.filter_cons, decide_eq_true_eq, if_pos h, List.filter_nil]
  · rw [if_neg h]; simp only [List.filter_cons, decide_eq_true_eq, if_neg h, List.filter_nil]
theorem usTo_len (C : List Int) (k : Nat) : (usTo C k).length ≤ k := by
  have := List.length_filter_le (fun v => decide (0 < C.getD v 0)) (List.range k)
  rw [List.length_range] at this
  exact this
theorem RunB.perm {cn : Nat → Nat} {ts ts' : List (List Nat)} {out fin : Nat → Nat} (r : RunB cn ts out fin) (p : ts'.Perm ts) : RunB cn ts' out fin := by
  cases r with
  | done T _ =>
    have e : ts' = [T] := List.perm_singleton.1 p
    subst e
    exact .done T out
  | join p2 ha hb c s r => exact .join (p.trans p2) ha hb c s r

theorem Reads.to {w : World} {o o' : Nat} {h : Hp} {cn : Nat → Nat} {T : List Nat} (r : Reads w o h cn T) (ho : w.heap.size ≤ o') : Reads w o' h cn T := by
  refine ⟨r.cnt, r.vals, fun b off e => ?_, r.rises, r.some_⟩
  obtain ⟨b', off', e', hb, _⟩ := r.vals.at_ r.len.2
  rw [e] at e'
  cases e'
  omega
theorem Reads.kept {w w' : World} {o : Nat} {h : Hp} {cn : Nat → Nat} {T : List Nat} (r : Reads w o h cn T) (k : Kept (fun i => i = o) w w') : Reads w' o h cn T :=
  ⟨r.cnt, r.vals.kept k (fun b off e e2 => r.apart b off e e2), r.apart, r.rises, r.some_⟩
/-- what is appended to a row of one's own: only the row's own block turns -/
theorem run_append_hk (w : World) (ty : TypeId) (base : Nat) (v : Value) (n : Nat) (L : List Ht) (hown : w.ownsRow base 69 2 v n (cellsH L)) (ad : Addr) (m c : Nat) (M : List Ht) (hr : Hr w (some ad) m M) (h63 : n + m ≤ 1000000) (hbase : base ≤ w.heap.size) :
    ∃ v' w', (Builtin.append_ #[67, 67] ty #[v, .slice (some ad) m c]).run Try.prog w = .ok v' w' ∧ w'.ownsRow base 69 2 v' (n + m) (cellsH (L ++ M)) ∧ Kept (fun i => v.ownBlock = some i) w w' := by
  obtain ⟨i0, hi0, hz0, hz1, hz2⟩ := info_partsH
  obtain ⟨v', w', h0, h1, h2, _⟩ := run_append_own (P := Try.prog) w base 67 ty 69 i0 _ 2 32 Try.underlying67 hi0 hz0 hz1 hz2 rfl (by omega) v n (cellsH L) hown ad m c (cellsH M) (by rw [cellsH_len, hr.len]) hr.read (cellsH_one M) (by simp only [maxLen]; omega) (by omega) hbase
  rw [← cellsH_app] at h1
  exact ⟨v', w', h0, h1, ⟨h2.os, h2.tape, h2.output, h2.size, fun k hk hn => h2.block k hk (fun e => hn e.symm)⟩⟩
theorem wpList_append_hk {w : World} {ops : Array Oper} {rest : List Oper} {o : Oper} {a : Act} {Q : Exit → Act → World → Prop} (hgd : o.guard = none) (s x : Operand)
    (ho : o.op = .call { callee := .builtin .append, args := #[s, x], argTypes := #[67, 67] })
    (base : Nat) (v : Value) (n : Nat) (L : List Ht) (hs : a.eval s = v) (hown : w.ownsRow base 69 2 v n (cellsH L)) (ad : Addr) (m c : Nat) (M : List Ht)
    (hx : a.eval x = .slice (some ad) m c) (hr : Hr w (some ad) m M) (h63 : n + m ≤ 1000000) (hbase : base ≤ w.heap.size)
    (h : ∀ v' w', w'.ownsRow base 69 2 v' (n + m) (cellsH (L ++ M)) → Kept (fun i => v.ownBlock = some i) w w' → wpList Try.prog ops Q rest (a.put o.dst v') w') : wpList Try.prog ops Q (o :: rest) a w :=
  wpList_plain hgd fun _ hQ => by
    obtain ⟨v', w', h0, h1, h2⟩ := run_append_hk w o.type base v n L hown ad m c M hr h63 hbase
    unfold Oper.wp
    simp [execOp, ho, resolve, invoke, builtin, hs, hx, h0, Result.andThen]
    exact hQ _ _ (h v' w' h1 h2)
theorem own_block {w : World} {base e size n i : Nat} {v : Value} {xs : List Value} (h : w.ownsRow base e size v n xs) (hi : v.ownBlock = some i) : base ≤ i ∧ ∃ cs, w.heap[i]? = some (.cells cs e (0, 0)) := by
  rcases h.2 with ⟨rfl, _⟩ | ⟨g, cap, cur, rfl, hg, hh, _⟩
  · cases hi
  · cases hi
    exact ⟨hg, _, hh⟩
theorem Reads.grow {w w' : World} {o base n : Nat} {h : Hp} {cn : Nat → Nat} {T : List Nat} {v : Value} {xs : List Value} (r : Reads w o h cn T) (hown : w.ownsRow base 69 2 v n xs) (k : Kept (fun i => v.ownBlock = some i) w w') : Reads w' o h cn T := by
  refine ⟨r.cnt, r.vals.kept k (fun b off e e2 => ?_), r.apart, r.rises, r.some_⟩
  obtain ⟨_, cs, h1⟩ := own_block hown e2
  obtain ⟨cs2, fr, h2⟩ := r.vals.typ b off e
  rw [h1] at h2
  simp at h2
theorem hr_made (w : World) (x : Ht) (g : Nat) (hg : g = w.heap.size) : Hr (w.alloc (.cells (hpC x.1).toArray 69)) (some ⟨g, 0, none⟩) 1 [x] := hg ▸ hr_one w x
/-- heaps at the start: of the first k values -/
structure Begun (w wr : World) (C : List Int) (k : Nat) (v : Value) (L : List Ht) : Prop where
  own : wr.ownsRow w.heap.size 69 2 v L.length (cellsH L)
  bel : Below w.heap.size w wr
  reads : ∀ x ∈ L, Reads wr wr.heap.size x.1 (cn256 (cnF C)) x.2
  vals : L.map Prod.snd = (usTo C k).map fun v => [v]
theorem Begun.len {w wr : World} {C : List Int} {k : Nat} {v : Value} {L : List Ht} (h : Begun w wr C k v L) : L.length ≤ k := by
  have h1 := congrArg List.length h.vals
  rw [List.length_map, List.length_map] at h1
  have := usTo_len C k
  omega
/-- one heap more -/
theorem begun_more {w wr w9 : World} {L : List Ht} {v v9 : Value} {base : Nat} {cn : Nat → Nat} {x : Nat} {z : Int} (hz : z = (wOf cn [x] : Int)) (hown : wr.ownsRow base 69 2 v L.length (cellsH L)) (hbel : Below w.heap.size w wr) (hb : w.heap.size ≤ base) (hr : ∀ y ∈ L, Reads wr wr.heap.size y.1 cn y.2)
    (k : Kept (fun i => v.ownBlock = some i) ((wr.alloc (.cells #[.int .i64 (x : Int)] 3)).alloc (.cells #[.int .i64 z, .slice (some ⟨wr.heap.size, 0, none⟩) 1 1] 69)) w9)
    (hown9 : w9.ownsRow base 69 2 v9 (L.length + 1) (cellsH (L ++ [(⟨z, some ⟨wr.heap.size, 0, none⟩, 1, 1⟩, [x])]))) :
    w9.ownsRow base 69 2 v9 (L ++ [((⟨z, some ⟨wr.heap.size, 0, none⟩, 1, 1⟩ : Hp), [x])]).length (cellsH (L ++ [(⟨z, some ⟨wr.heap.size, 0, none⟩, 1, 1⟩, [x])])) ∧ Below w.heap.size w w9 ∧ ∀ y ∈ L ++ [((⟨z, some ⟨wr.heap.size, 0, none⟩, 1, 1⟩ : Hp), [x])], Reads w9 w9.heap.size y.1 cn y.2 := by
  have b1 : Below wr.heap.size wr (wr.alloc (.cells #[.int .i64 (x : Int)] 3)) := on_alloc _ _
  have o1 := hown.alloc (.cells #[.int .i64 (x : Int)] 3)
  have o2 := o1.alloc (.cells #[.int .i64 z, .slice (some ⟨wr.heap.size, 0, none⟩) 1 1] 69)
  have hbel2 : Below w.heap.size w ((wr.alloc (.cells #[.int .i64 (x : Int)] 3)).alloc (.cells #[.int .i64 z, .slice (some ⟨wr.heap.size, 0, none⟩) 1 1] 69)) := on_trans (on_trans hbel (on_alloc _ _)) (on_alloc _ _)
  refine ⟨by rw [List.length_append]; exact hown9, hbel2.trans (k.below hbel2.size (fun i hi e => by have := (own_block o2 e).1; omega)), fun y hy => ?_⟩
  rcases List.mem_append.1 hy with hy | hy
  · have r0 := hr y hy
    have r1 : Reads ((wr.alloc (.cells #[.int .i64 (x : Int)] 3)).alloc (.cells #[.int .i64 z, .slice (some ⟨wr.heap.size, 0, none⟩) 1 1] 69)) wr.heap.size y.1 cn y.2 := (r0.on (on_alloc _ _)).on (on_alloc _ _)
    have r2 := r1.grow o2 k
    exact r2.to (Nat.le_refl _)
  · rw [List.mem_singleton] at hy
    subst hy
    have hi : Il ((wr.alloc (.cells #[.int .i64 (x : Int)] 3)).alloc (.cells #[.int .i64 z, .slice (some ⟨wr.heap.size, 0, none⟩) 1 1] 69)) (some ⟨wr.heap.size, 0, none⟩) 1 1 (ints [x]) := (il_one wr x).alloc _
    have r1 : Reads ((wr.alloc (.cells #[.int .i64 (x : Int)] 3)).alloc (.cells #[.int .i64 z, .slice (some ⟨wr.heap.size, 0, none⟩) 1 1] 69)) (wr.heap.size + 1) ⟨z, some ⟨wr.heap.size, 0, none⟩, 1, 1⟩ cn [x] := by
      refine ⟨hz, hi, fun b off e => ?_, by simp, by simp⟩
      cases e
      omega
    exact (r1.grow o2 k).to (Nat.le_refl _)

theorem one_count {C : List Int} {k : Nat} {z : Int} (hk : k < 256) (hz : z = C.getD k 0) (h0 : 0 < z) : z = (wOf (cn256 (cnF C)) [k] : Int) := by
  have e : wOf (cn256 (cnF C)) [k] = cnF C k := by simp [wOf, cn256]; omega
  rw [e]
  unfold cnF
  omega
theorem last_count (C : List Int) : (1 : Int) = (wOf (cn256 (cnF C)) [256] : Int) := by simp [wOf, cn256]
theorem Begun.more {w wr w9 : World} {C : List Int} {k : Nat} {v v9 : Value} {L : List Ht} {h : Hp} (hB : Begun w wr C k v L) (h0 : 0 < C.getD k 0)
    (hm : w9.ownsRow w.heap.size 69 2 v9 (L ++ [(h, [k])]).length (cellsH (L ++ [(h, [k])])) ∧ Below w.heap.size w w9 ∧ ∀ y ∈ L ++ [(h, [k])], Reads w9 w9.heap.size y.1 (cn256 (cnF C)) y.2) : Begun w w9 C (k + 1) v9 (L ++ [(h, [k])]) := by
  refine ⟨hm.1, hm.2.1, hm.2.2, ?_⟩
  rw [usTo_more, if_pos h0, List.map_append, List.map_append, hB.vals]
  rfl

/-- how the reference's joining stands -/
structure Lens (w wr : World) (o : Nat) (C : List Int) (L : List Ht) (Z : List Int) (out : Nat → Nat) : Prop where
  reads : ∀ x ∈ L, Reads wr o x.1 (cn256 (cnF C)) x.2
  box : Box wr o 3 (cellsI Z).toArray
  zl : Z.length = 257
  lens : ∀ v, v < 257 → Z.getD v 0 = (out v : Int)
  few : ∀ v, out v + L.length ≤ 257
  trees : Trees (L.map Prod.snd)
  flat : (L.map Prod.snd).flatten.Perm (usF C ++ [256])
  goes : ∀ fin, RunB (cn256 (cnF C)) (L.map Prod.snd) out fin → LengthsOf (cnF C) (usF C) fin
  bel : Below w.heap.size w wr
  ord : w.heap.size ≤ o
theorem flat_long : ∀ {ts : List (List Nat)} {T : List Nat}, T ∈ ts → T.length ≤ ts.flatten.length
  | B :: ts, T, h => by
    rw [List.flatten_cons, List.length_append]
    rcases List.mem_cons.1 h with rfl | h
    · omega
    · have := flat_long h
      omega
section
variable {w wr : World} {o : Nat} {C : List Int} {L : List Ht} {Z : List Int} {out : Nat → Nat}
theorem Lens.long (h : Lens w wr o C L Z out) (hg : Good C) : ∀ x ∈ L, x.2.length ≤ 257 := fun x hx => by
  have h1 := flat_long (List.mem_map.2 ⟨x, hx, rfl⟩ : x.2 ∈ L.map Prod.snd)
  have h2 := h.flat.length_eq
  have h3 := few_us hg.counted.nodup hg.counted.few
  rw [List.length_append, List.length_singleton] at h2
  omega
theorem Lens.count (h : Lens w wr o C L Z out) (hg : Good C) : ∀ x ∈ L, wOf (cn256 (cnF C)) x.2 ≤ 282574488338432 := fun x hx => by
  have h1 := wOf_le (cn := cn256 (cnF C)) (List.mem_map.2 ⟨x, hx, rfl⟩ : x.2 ∈ L.map Prod.snd)
  have h2 := hg.total
  have h3 : wOf (cn256 (cnF C)) (L.map Prod.snd).flatten = wOf (cn256 (cnF C)) (usF C ++ [256]) := sum_map_perm h.flat _
  omega
theorem Lens.some_ (h : Lens w wr o C L Z out) : 0 < L.length := by
  rcases Nat.eq_zero_or_pos L.length with e | e
  · have := h.flat.length_eq
    rw [List.eq_nil_of_length_eq_zero e] at this
    simp at this
  · exact e
/-- where there is one heap, its lengths are told -/
theorem Lens.ends (h : Lens w wr o C L Z out) (h1 : L.length ≤ 1) : LengthsOf (cnF C) (usF C) out := by
  have h0 := h.some_
  obtain ⟨x, rfl⟩ := List.length_eq_one_iff.1 (show L.length = 1 by omega)
  exact h.goes out (.done x.2 out)
theorem lens_start (hg : Good C) : Trees (((usTo C C.length).map fun v => [v]) ++ [[256]]) ∧ (((usTo C C.length).map fun v => [v]) ++ [[256]]).flatten.Perm (usF C ++ [256]) ∧ ∀ fin, RunB (cn256 (cnF C)) (((usTo C C.length).map fun v => [v]) ++ [[256]]) (fun _ => 0) fin → LengthsOf (cnF C) (usF C) fin := by
  have e : ((usTo C C.length).map fun v => [v]) ++ [[256]] = (usF C ++ [256]).map fun v => [v] := by
    rw [List.map_append]; rfl
  rw [e]
  exact ⟨hg.counted.trees, by rw [flat_ones], fun fin r => r⟩
end
/-- how the joining begins -/
theorem lens_made {w wr w9 : World} {C : List Int} {v : Value} {L : List Ht} {h : Hp} {Z : List Int} (hg : Good C) (hB : Begun w wr C C.length v L) (hm : Below w.heap.size w w9 ∧ ∀ y ∈ L ++ [(h, [256])], Reads w9 w9.heap.size y.1 (cn256 (cnF C)) y.2) (hZ : Z = List.replicate 257 0) :
    Lens w (w9.alloc (.cells (cellsI Z).toArray 3)) w9.heap.size C (L ++ [(h, [256])]) Z (fun _ => 0) := by
  have e : (L ++ [(h, [256])]).map Prod.snd = ((usTo C C.length).map fun v => [v]) ++ [[256]] := by
    rw [List.map_append, hB.vals]; rfl
  have hl := hB.len
  have hf := hg.few
  obtain ⟨h1, h2, h3⟩ := lens_start hg
  rw [← e] at h1 h2 h3
  refine ⟨fun x hx => (hm.2 x hx).on (on_alloc _ _), Box.made _ _ _, by rw [hZ, List.length_replicate], fun v _ => by rw [hZ]; exact zeros_at _ _, fun v => ?_, h1, h2, h3, on_trans hm.1 (on_alloc _ _), hm.1.size⟩
  rw [List.length_append, List.length_singleton]
  omega
/-- two taken, joined, put behind the others -/
structure TwoH (C : List Int) (L : List Ht) (a b : Ht) (rest : List Ht) : Prop where
  perm : L.Perm (a :: b :: rest)
  fst : ∀ x ∈ b :: rest, ¬ Bef (cn256 (cnF C)) x.2 a.2
  snd : ∀ x ∈ rest, ¬ Bef (cn256 (cnF C)) x.2 b.2
theorem two_of {C : List Int} {L r1 r2 : List Ht} {a b : Ht} (p1 : L.Perm (a :: r1)) (h1 : ∀ x ∈ r1, ¬ Bef (cn256 (cnF C)) x.2 a.2) (p2 : r1.Perm (b :: r2)) (h2 : ∀ x ∈ r2, ¬ Bef (cn256 (cnF C)) x.2 b.2) : TwoH C L a b r2 :=
  ⟨p1.trans (p2.cons a), fun x hx => h1 x (p2.mem_iff.2 hx), h2⟩
section
variable {w wr : World} {o : Nat} {C : List Int} {L : List Ht} {Z : List Int} {out : Nat → Nat} {a b : Ht} {rest : List Ht}
theorem TwoH.map (h : TwoH C L a b rest) : (L.map Prod.snd).Perm (a.2 :: b.2 :: rest.map Prod.snd) := h.perm.map Prod.snd
theorem TwoH.apart (h : TwoH C L a b rest) (ht : Trees (L.map Prod.snd)) : (a.2 ++ b.2).Nodup := by
  have hn := (ht.perm h.map).nodup
  rw [List.flatten_cons, List.flatten_cons, ← List.append_assoc, List.nodup_append] at hn
  exact hn.1
theorem TwoH.merged (h : TwoH C L a b rest) (hl : Lens w wr o C L Z out) : (mrg a.2 b.2).Perm (a.2 ++ b.2) ∧ (mrg a.2 b.2).Pairwise (· < ·) ∧ (∀ v ∈ mrg a.2 b.2, v ≤ 256) ∧ (mrg a.2 b.2).Nodup ∧ mrg a.2 b.2 ≠ [] := by
  have p := mrg_perm _ a.2 b.2 rfl
  have hn := h.apart hl.trees
  have hd : ∀ v ∈ a.2, v ∉ b.2 := fun v h1 h2 => (List.nodup_append.1 hn).2.2 v h1 v h2 rfl
  have ha := hl.reads a (h.perm.mem_iff.2 (List.mem_cons_self ..))
  have hb := hl.reads b (h.perm.mem_iff.2 (List.mem_cons_of_mem _ (List.mem_cons_self ..)))
  refine ⟨p, mrg_rises _ _ _ rfl ha.rises hb.rises hd, fun v hv => hl.trees.few v ?_, p.nodup_iff.2 hn, fun e => ?_⟩
  · have hv := p.mem_iff.1 hv
    refine h.map.flatten.mem_iff.2 ?_
    rw [List.flatten_cons, List.flatten_cons, ← List.append_assoc]
    exact List.mem_append_left _ hv
  · rw [e] at p
    have := List.nil_perm.1 p
    exact ha.some_ (List.append_eq_nil_iff.1 this).1
/-- behind a joining -/
theorem TwoH.joins (h : TwoH C L a b rest) (hl : Lens w wr o C L Z out) {w' : World} {Z' : List Int} {x : Hp} (hx : Reads w' o x (cn256 (cnF C)) (mrg a.2 b.2)) (hr : ∀ y ∈ rest, Reads w' o y.1 (cn256 (cnF C)) y.2)
    (hb : Box w' o 3 (cellsI Z').toArray) (hz : Z'.length = 257) (hZ : ∀ v, v < 257 → Z'.getD v 0 = (inc (mrg a.2 b.2) out v : Int)) (hbel : Below w.heap.size w w') :
    Lens w w' o C (rest ++ [(x, mrg a.2 b.2)]) Z' (inc (mrg a.2 b.2) out) ∧ (rest ++ [(x, mrg a.2 b.2)]).length < L.length := by
  obtain ⟨hp, hs, -, -, -⟩ := h.merged hl
  have e : (rest ++ [(x, mrg a.2 b.2)]).map Prod.snd = rest.map Prod.snd ++ [mrg a.2 b.2] := by simp
  have p0 : (rest.map Prod.snd ++ [mrg a.2 b.2]).Perm (mrg a.2 b.2 :: rest.map Prod.snd) := List.perm_append_singleton _ _
  have hlen := h.perm.length_eq
  simp only [List.length_cons] at hlen
  refine ⟨⟨fun y hy => ?_, hb, hz, hZ, fun v => ?_, ?_, ?_, fun fin r => hl.goes fin (.join h.map (fun T hT => ?_) (fun T hT => ?_) hp hs (r.perm ?_)), hbel, hl.ord⟩, by rw [List.length_append, List.length_singleton]; omega⟩
  · rcases List.mem_append.1 hy with hy | hy
    · exact hr y hy
    · rw [List.mem_singleton] at hy
      subst hy
      exact hx
  · have h1 := hl.few v
    rw [List.length_append, List.length_singleton]
    unfold inc
    split <;> omega
  · rw [e]
    exact (hl.trees.join h.map hp).perm p0.symm
  · rw [e]
    exact (p0.flatten.trans (flat_join h.map hp)).trans hl.flat
  · rcases List.mem_cons.1 hT with rfl | hT
    · exact h.fst b (List.mem_cons_self ..)
    · obtain ⟨y, hy, rfl⟩ := List.mem_map.1 hT
      exact h.fst y (List.mem_cons_of_mem _ hy)
  · obtain ⟨y, hy, rfl⟩ := List.mem_map.1 hT
    exact h.snd y hy
  · rw [e]; exact p0.symm
end
/-- what is held on to between the joining of two and its end -/
structure Mid3 (w w3 : World) (o ra rb base bm : Nat) (C : List Int) (L r2 : List Ht) (a b : Ht) (Z : List Int) (v : Value) (A5 : Option Addr) (c5 : Nat) : Prop where
  two : TwoH C L a b r2
  reads : ∀ y ∈ L, Reads w3 o y.1 (cn256 (cnF C)) y.2
  own : w3.ownsRow base 69 2 v r2.length (cellsH r2)
  boxa : Box w3 ra 69 #[.int .i64 a.1.cnt, .slice a.1.A a.1.n a.1.c]
  boxb : Box w3 rb 69 #[.int .i64 b.1.cnt, .slice b.1.A b.1.n b.1.c]
  out : Box w3 o 3 (cellsI Z).toArray
  mer : w3.ownsRow bm 3 1 (.slice A5 (mrg a.2 b.2).length c5) (mrg a.2 b.2).length (cellsI (ints (mrg a.2 b.2)))
  bel : Below w.heap.size w w3
  ord : o < base ∧ o < bm ∧ o < ra ∧ o < rb ∧ w.heap.size ≤ o
  big : base ≤ w3.heap.size
section
variable {w w3 w4 : World} {o ra rb base bm : Nat} {C : List Int} {L r2 : List Ht} {a b : Ht} {Z Z4 : List Int} {v : Value} {A5 : Option Addr} {c5 : Nat}
theorem Mid3.kept (h : Mid3 w w3 o ra rb base bm C L r2 a b Z v A5 c5) (k : Kept (fun i => i = o) w3 w4) (hb : Box w4 o 3 (cellsI Z4).toArray) : Mid3 w w4 o ra rb base bm C L r2 a b Z4 v A5 c5 := by
  obtain ⟨h1, h2, h3, h4, h5⟩ := h.ord
  exact ⟨h.two, fun y hy => (h.reads y hy).kept k, own_kept h.own k (fun g hg e => by omega), k.box h.boxa (by omega), k.box h.boxb (by omega), hb, own_kept h.mer k (fun g hg e => by omega), h.bel.trans (k.below h.bel.size (fun i hi e => by omega)), h.ord, Nat.le_trans h.big k.size⟩
theorem Mid3.il (h : Mid3 w w3 o ra rb base bm C L r2 a b Z v A5 c5) : Il w3 A5 (mrg a.2 b.2).length c5 (ints (mrg a.2 b.2)) ∧ ∀ b5 off, A5 = some ⟨b5, off, none⟩ → bm ≤ b5 := by
  obtain ⟨A, c, e, h1, h2⟩ := il_of_own h.mer
  cases e
  exact ⟨h1, h2⟩
theorem Mid3.done {wr w9 : World} {Z2 : List Int} {out : Nat → Nat} {v9 : Value} (h : Mid3 w w4 o ra rb base bm C L r2 a b Z4 v A5 c5) (hl : Lens w wr o C L Z2 out) (hz : Z4.length = 257) (hZ : ∀ u, u < 257 → Z4.getD u 0 = (inc (mrg a.2 b.2) out u : Int))
    (k9 : Kept (fun i => v.ownBlock = some i) (w4.alloc (.cells #[.int .i64 (a.1.cnt + b.1.cnt), .slice A5 (mrg a.2 b.2).length c5] 69)) w9)
    (hown : w9.ownsRow base 69 2 v9 (r2.length + 1) (cellsH (r2 ++ [(⟨a.1.cnt + b.1.cnt, A5, (mrg a.2 b.2).length, c5⟩, mrg a.2 b.2)]))) :
    ∃ A9 c9, v9 = .slice A9 (r2 ++ [((⟨a.1.cnt + b.1.cnt, A5, (mrg a.2 b.2).length, c5⟩ : Hp), mrg a.2 b.2)]).length c9 ∧ (r2 ++ [((⟨a.1.cnt + b.1.cnt, A5, (mrg a.2 b.2).length, c5⟩ : Hp), mrg a.2 b.2)]).length ≤ c9 ∧
      Hr w9 A9 (r2 ++ [((⟨a.1.cnt + b.1.cnt, A5, (mrg a.2 b.2).length, c5⟩ : Hp), mrg a.2 b.2)]).length (r2 ++ [(⟨a.1.cnt + b.1.cnt, A5, (mrg a.2 b.2).length, c5⟩, mrg a.2 b.2)]) ∧
      Lens w w9 o C (r2 ++ [(⟨a.1.cnt + b.1.cnt, A5, (mrg a.2 b.2).length, c5⟩, mrg a.2 b.2)]) Z4 (inc (mrg a.2 b.2) out) ∧ (r2 ++ [((⟨a.1.cnt + b.1.cnt, A5, (mrg a.2 b.2).length, c5⟩ : Hp), mrg a.2 b.2)]).length < L.length := by
  obtain ⟨h1, h2, h3, h4, h5⟩ := h.ord
  obtain ⟨hp, hs, -, -, hne⟩ := h.two.merged hl
  have o1 := h.own.alloc (.cells #[.int .i64 (a.1.cnt + b.1.cnt), .slice A5 (mrg a.2 b.2).length c5] 69)
  have hca := (h.reads a (h.two.perm.mem_iff.2 (List.mem_cons_self ..))).cnt
  have hcb := (h.reads b (h.two.perm.mem_iff.2 (List.mem_cons_of_mem _ (List.mem_cons_self ..)))).cnt
  have hw : wOf (cn256 (cnF C)) (mrg a.2 b.2) = wOf (cn256 (cnF C)) a.2 + wOf (cn256 (cnF C)) b.2 := wOf_perm hp
  obtain ⟨hi, hlo⟩ := h.il
  have r1 : Reads (w4.alloc (.cells #[.int .i64 (a.1.cnt + b.1.cnt), .slice A5 (mrg a.2 b.2).length c5] 69)) o ⟨a.1.cnt + b.1.cnt, A5, (mrg a.2 b.2).length, c5⟩ (cn256 (cnF C)) (mrg a.2 b.2) :=
    ⟨by rw [hw]; show a.1.cnt + b.1.cnt = _; omega, hi.alloc _, fun b5 off e => by have := hlo b5 off e; omega, hs, hne⟩
  have hb0 : Below w.heap.size w (w4.alloc (.cells #[.int .i64 (a.1.cnt + b.1.cnt), .slice A5 (mrg a.2 b.2).length c5] 69)) := on_trans h.bel (on_alloc _ _)
  obtain ⟨hL, hlt⟩ := h.two.joins hl (w' := w9) (Z' := Z4) (r1.grow o1 k9) (fun y hy => ((h.reads y (h.two.perm.mem_iff.2 (List.mem_cons_of_mem _ (List.mem_cons_of_mem _ hy)))).on (on_alloc _ _)).grow o1 k9)
    (k9.box (h.out.alloc _) (fun e => by have := (own_block o1 e).1; omega)) hz hZ (hb0.trans (k9.below hb0.size (fun i hi e => by have := (own_block o1 e).1; omega)))
  have e : (r2 ++ [((⟨a.1.cnt + b.1.cnt, A5, (mrg a.2 b.2).length, c5⟩ : Hp), mrg a.2 b.2)]).length = r2.length + 1 := by rw [List.length_append]; rfl
  rw [← e] at hown
  obtain ⟨A9, c9, hv, hc, hH, _⟩ := hr_of_own hown
  exact ⟨A9, c9, hv, hc, hH, hL, hlt⟩
end
theorem Mid3.done_m {w w4 wr w9 : World} {o ra rb base bm m : Nat} {C : List Int} {L r2 : List Ht} {a b : Ht} {Z2 Z4 : List Int} {v v9 : Value} {A5 : Option Addr} {c5 : Nat} {out : Nat → Nat} (hm : m = (mrg a.2 b.2).length) (h : Mid3 w w4 o ra rb base bm C L r2 a b Z4 v A5 c5) (hl : Lens w wr o C L Z2 out) (hz : Z4.length = 257) (hZ : ∀ u, u < 257 → Z4.getD u 0 = (inc ((mrg a.2 b.2).take m) out u : Int))
    (k9 : Kept (fun i => v.ownBlock = some i) (w4.alloc (.cells #[.int .i64 (a.1.cnt + b.1.cnt), .slice A5 m c5] 69)) w9)
    (hown : w9.ownsRow base 69 2 v9 (r2.length + 1) (cellsH (r2 ++ [(⟨a.1.cnt + b.1.cnt, A5, m, c5⟩, mrg a.2 b.2)]))) :
    ∃ A9 c9, v9 = .slice A9 (r2 ++ [((⟨a.1.cnt + b.1.cnt, A5, m, c5⟩ : Hp), mrg a.2 b.2)]).length c9 ∧ (r2 ++ [((⟨a.1.cnt + b.1.cnt, A5, m, c5⟩ : Hp), mrg a.2 b.2)]).length ≤ c9 ∧
      Hr w9 A9 (r2 ++ [((⟨a.1.cnt + b.1.cnt, A5, m, c5⟩ : Hp), mrg a.2 b.2)]).length (r2 ++ [(⟨a.1.cnt + b.1.cnt, A5, m, c5⟩, mrg a.2 b.2)]) ∧
      Lens w w9 o C (r2 ++ [(⟨a.1.cnt + b.1.cnt, A5, m, c5⟩, mrg a.2 b.2)]) Z4 (inc (mrg a.2 b.2) out) ∧ (r2 ++ [((⟨a.1.cnt + b.1.cnt, A5, m, c5⟩ : Hp), mrg a.2 b.2)]).length < L.length := by
  subst hm
  rw [List.take_length] at hZ
  exact h.done hl hz hZ k9 hown
theorem flat_len3 {w wr : World} {o : Nat} {C : List Int} {L r2 : List Ht} {a b : Ht} {Z : List Int} {out : Nat → Nat} (h : TwoH C L a b r2) (hl : Lens w wr o C L Z out) (hg : Good C) : (a.2 ++ b.2).length ≤ 257 := by
  have h1 := h.map.flatten.length_eq
  have h2 := hl.flat.length_eq
  have h3 := few_us hg.counted.nodup hg.counted.few
  rw [List.flatten_cons, List.flatten_cons, List.length_append, List.length_append] at h1
  rw [List.length_append, List.length_singleton] at h2
  rw [List.length_append]
  omega
theorem own_bel {w w' : World} {base e size n : Nat} {v : Value} {xs : List Value} (h : w.ownsRow base e size v n xs) (k : Below w.heap.size w w') : w'.ownsRow base e size v n xs :=
  ownsRow_block h fun _ _ _ hh => k.block _ (Array.getElem?_eq_some_iff.1 hh).1
/-- one more of a list -/
theorem inc_more {M : List Nat} {out : Nat → Nat} {Z : List Int} {i : Nat} (hn : M.Nodup) (hi : i < M.length) (hz : Z.length = 257) (hv : M.getD i 0 < 257) (h : ∀ v, v < 257 → Z.getD v 0 = (inc (M.take i) out v : Int)) :
    ∀ v, v < 257 → (Z.set (M.getD i 0) (Z.getD (M.getD i 0) 0 + 1)).getD v 0 = (inc (M.take (i + 1)) out v : Int) := fun v hv2 => by
  have e : M.take (i + 1) = M.take i ++ [M.getD i 0] := by
    rw [List.take_succ_eq_append_getElem hi, List.getD_eq_getElem?_getD, List.getElem?_eq_getElem hi]
    rfl
  have hx : M.getD i 0 ∉ M.take i := by
    rw [← List.take_append_drop (i + 1) M, e] at hn
    rw [List.append_assoc, List.nodup_append] at hn
    intro h'
    exact hn.2.2 _ h' (M.getD i 0) (by simp) rfl
  rw [e]
  by_cases hq : M.getD i 0 = v
  · subst hq
    rw [getD_set_same _ (by omega), h _ hv2, inc, if_neg hx, inc, if_pos (by simp)]
    omega
  · rw [getD_set_ne _ hq, h v hv2]
    unfold inc
    by_cases hm : v ∈ M.take i
    · rw [if_pos hm, if_pos (List.mem_append_left _ hm)]
    · rw [if_neg hm, if_neg (fun hc => by
        rcases List.mem_append.1 hc with hc | hc
        · exact hm hc
        · simp at hc
          exact hq hc.symm)]
theorem inc_more' {M : List Nat} {out : Nat → Nat} {Z : List Int} {i x y : Nat} (hn : M.Nodup) (hi : i < M.length) (hz : Z.length = 257) (hx : x = M.getD i 0) (hv : x < 257) (h : ∀ v, v < 257 → Z.getD v 0 = (inc (M.take i) out v : Int)) (hy : Z.getD x 0 = (y : Int)) :
    ∀ v, v < 257 → (Z.set x ((y : Int) + 1)).getD v 0 = (inc (M.take (i + 1)) out v : Int) := by
  rw [← hy, hx]
  exact inc_more hn hi hz (hx ▸ hv) h
end Go.Proofs.Ytmaffonnekgekaa

namespace Go.Proofs.Ytmaffonnekgekaa
open Go.RowKit

theorem make257 (w : World) : (Instr.makeSlice 22 (.int .i64 257) (.int .i64 257)).run Try.prog w = .ok (.slice (some ⟨w.heap.size, 0, none⟩) 257 257) (w.alloc (.cells (cellsI (List.replicate 257 0)).toArray 3)) := by kernel_rfl
theorem make300 (w : World) : (Instr.makeSlice 22 (.int .i64 300) (.int .i64 300)).run Try.prog w = .ok (.slice (some ⟨w.heap.size, 0, none⟩) 300 300) (w.alloc (.cells (cellsI (List.replicate 300 0)).toArray 3)) := by kernel_rfl
end Go.Proofs.Ytmaffonnekgekaa

namespace Go.Proofs.Ytmaffonnekgekaa
open Go.RowKit

/-- what the reference's Lengths tells -/
def GotL (w : World) (C : List Int) (e : Ending) (w' : World) : Prop := ∃ fin A c L, e = .returned (.slice A 257 c) ∧ Il w' A 257 c L ∧ LensOf C L fin ∧ (∀ b off, A = some ⟨b, off, none⟩ → w.heap.size ≤ b) ∧ Below w.heap.size w w'

set_option maxRecDepth 20000 in
set_option maxHeartbeats 3200000 in
theorem lengthsH_any (w : World) (C : List Int) (A : Option Addr) (n c : Nat) (h : Ia w A n c C) (hg : Good C) : Calls Try.prog 17 #[.slice A n c] w (GotL w C) := by
  have hlen := h.len
  have hn256 : n ≤ 256 := by have := hg.few; omega
  have HI := Lib.hid (And.intro h (And.intro hg hlen))
  clear h hg hlen
  have hmk := make257
  obtain ⟨Z, hZ⟩ : ∃ Z : List Int, Z = List.replicate 257 0 := ⟨_, rfl⟩
  rw [← hZ] at hmk
  obtain ⟨Z1, hZ1⟩ : ∃ Z1, Z1 = (cellsI Z).toArray := ⟨_, rfl⟩
  rw [← hZ1] at hmk
  have HZ := Lib.hid (And.intro hZ hZ1)
  have hz := zero69
  clear hZ hZ1
  go_enter Try.func17, Try.ntmps17
  go_wp2_with fail
  go_loopw [3, 4] (fun v i wr => ∃ (k : Nat) (L : List Ht), k ≤ n ∧ i = .int .i64 k ∧ Begun w wr C k v L) (fun _ i _ => n - (intOf i).toNat)
  case atStart => exact ⟨0, [], Nat.zero_le _, rfl, ⟨⟨rfl, .inl ⟨rfl, rfl⟩⟩, Below.refl _ _, (fun x hx => by cases hx), rfl⟩⟩
  case round =>
    obtain ⟨k, L, hk, rfl, hB⟩ := hrel
    have hLk := hB.len
    obtain ⟨Av, cv, hv⟩ := own_slice hB.own
    by_cases hlt : k < n
    · have hi := HI.out.1.on hB.bel
      obtain ⟨b, off, hA, hbl, hc⟩ := hi.at_ (by omega)
      have hck := hc k hlt
      obtain ⟨z, hz⟩ : ∃ z, z = C.getD k 0 := ⟨_, rfl⟩
      rw [← hz] at hck
      have HB := Lib.hid (And.intro hB (And.intro hz hbl))
      clear hB hi hc hz hbl
      subst hA hv
      by_cases h0 : 0 < z
      · go_wp2_with (first
          | (at_builtin; refine wpList_append_hk rfl (.tmp 22) (.tmp 30) rfl w.heap.size (.slice Av L.length cv) L.length L rfl ((HB.out.1.own.alloc _).alloc _) ⟨wr.heap.size + 1, 0, none⟩ 1 1 [(⟨z, some ⟨wr.heap.size, 0, none⟩, 1, 1⟩, [k])] rfl (hr_made _ (⟨z, some ⟨wr.heap.size, 0, none⟩, 1, 1⟩, [k]) _ (by simp)) (by omega) (by have := HB.out.1.bel.size; simp; omega) ?_; intro v9 w9 hown9 k9; have H9 := Lib.hid (begun_more (one_count (C := C) (k := k) (by omega) HB.out.2.1 h0) HB.out.1.own HB.out.1.bel (Nat.le_refl _) HB.out.1.reads k9 hown9); clear hown9 k9)
          | fail)
        obtain ⟨A9, c9, hv9⟩ := own_slice H9.out.1
        subst hv9
        go_roundw
        case rel => exact ⟨k + 1, _, by omega, by go_num, HB.out.1.more (by rw [← HB.out.2.1]; exact h0) H9.out⟩
        case measure => simp [intOf]; omega
      · go_wp2_with fail
        go_roundw
        case rel =>
          refine ⟨k + 1, L, by omega, by go_num, HB.out.1.own, HB.out.1.bel, HB.out.1.reads, ?_⟩
          rw [usTo_more, if_neg (by rw [← HB.out.2.1]; exact h0), List.append_nil]
          exact HB.out.1.vals
        case measure => simp [intOf]; omega
    · have ek : k = n := by omega
      subst ek
      have HB := Lib.hid hB
      clear hB
      subst hv
      go_wp2_with (first
        | (at_builtin; refine wpList_append_hk rfl (.tmp 32) (.tmp 35) rfl w.heap.size (.slice Av L.length cv) L.length L rfl ((HB.out.own.alloc _).alloc _) ⟨wr.heap.size + 1, 0, none⟩ 1 1 [(⟨1, some ⟨wr.heap.size, 0, none⟩, 1, 1⟩, [256])] rfl (hr_made _ (⟨1, some ⟨wr.heap.size, 0, none⟩, 1, 1⟩, [256]) _ (by simp)) (by omega) (by have := HB.out.bel.size; simp; omega) ?_; intro v9 w9 hown9 k9; have H9 := Lib.hid (begun_more (last_count C) HB.out.own HB.out.bel (Nat.le_refl _) HB.out.reads k9 hown9); clear hown9 k9)
        | fail)
      obtain ⟨A9, c9, hv9, hc9, hH9, _⟩ := hr_of_own H9.out.1
      have hL0 := lens_made (Z := Z) HI.out.2.1 (by rw [HI.out.2.2]; exact HB.out) ⟨H9.out.2.1, H9.out.2.2⟩ HZ.out.1
      rw [← HZ.out.2] at hL0
      have HL0 := Lib.hid (And.intro hL0 (And.intro hc9 (hH9.on (on_alloc w9 (.cells Z1 3)))))
      obtain ⟨L0, hL0e⟩ : ∃ L0, L0 = L ++ [((⟨1, some ⟨wr.heap.size, 0, none⟩, 1, 1⟩ : Hp), [256])] := ⟨_, rfl⟩
      rw [← hL0e] at HL0 hv9
      obtain ⟨o, ho⟩ : ∃ o, o = w9.heap.size := ⟨_, rfl⟩
      obtain ⟨w10, hw10⟩ : ∃ w10, w10 = w9.alloc (.cells Z1 3) := ⟨_, rfl⟩
      rw [← ho, ← hw10] at HL0 ⊢
      clear hL0 hc9 hH9 hL0e ho hw10 H9 hmk
      subst hv9
      go_loopg [3] L0.length (fun q v wr => ∃ (L : List Ht) (Z : List Int) (out : Nat → Nat) (A : Option Addr) (c : Nat), v = .slice A L.length c ∧ L.length ≤ c ∧ Hr wr A L.length L ∧ Lens w wr o C L Z out ∧ q = L.length)
      case atStart => exact ⟨L0, Z, _, A9, c9, rfl, HL0.out.2.1, HL0.out.2.2, HL0.out.1, rfl⟩
      case round =>
        obtain ⟨L2, Z2, out, A2, c2, rfl, hc2, hH, hL, hq⟩ := hrel
        have hL257 : L2.length ≤ 257 := by have := hL.few 0; omega
        have HR := Lib.hid (And.intro hH (And.intro hL hq))
        clear hH hL hq
        by_cases h1 : L2.length ≤ 1
        · go_wp2_with fail
          go_ret
          have hL := HR.out.2.1
          exact ⟨out, some ⟨o, 0, none⟩, 257, Z2, rfl, il_of_box hL.box hL.zl (by unfold maxLen; omega), ⟨hL.zl, hL.lens, hL.ends h1⟩, fun b off e => by cases e; exact hL.ord, hL.bel⟩
        · have h2 : (1 : Int) < (L2.length : Int) := by omega
          go_wp2_with fail
          refine (takeH_any _ o (cn256 (cnF C)) L2 A2 L2.length c2 HR.out.1 (by omega) (by omega) hc2 (fun x hx => ⟨HR.out.2.1.reads x hx, by have := HR.out.2.1.long HI.out.2.1 x hx; omega⟩)).mono ?_
          rintro e w1 ⟨a, r1, A3, c3, rfl, p1, m1, own1, b1⟩
          have H1 := Lib.hid (And.intro p1 (And.intro m1 (And.intro own1 b1)))
          clear p1 m1 own1 b1
          unfold hpV
          go_wp2_with fail
          have hRa : ∀ y ∈ L2, Reads (w1.alloc (.cells #[.int .i64 a.1.cnt, .slice a.1.A a.1.n a.1.c] 69)) o y.1 (cn256 (cnF C)) y.2 := fun y hy => ((HR.out.2.1.reads y hy).on H1.out.2.2.2).on (on_alloc _ _)
          have hba : Below w.heap.size w (w1.alloc (.cells #[.int .i64 a.1.cnt, .slice a.1.A a.1.n a.1.c] 69)) := on_trans (on_trans HR.out.2.1.bel H1.out.2.2.2) (on_alloc _ _)
          obtain ⟨A3', c3', hv3, hc3, hH3, _⟩ := hr_of_own H1.out.2.2.1
          cases hv3
          have hHa := hH3.on (on_alloc w1 (.cells #[.int .i64 a.1.cnt, .slice a.1.A a.1.n a.1.c] 69))
          have hoa : o < w1.heap.size := Nat.lt_of_lt_of_le HR.out.2.1.box.lt H1.out.2.2.2.size
          have hxa := (HR.out.2.1.box.on H1.out.2.2.2).alloc (.cells #[.int .i64 a.1.cnt, .slice a.1.A a.1.n a.1.c] 69)
          have hya := Box.made w1 69 #[.int .i64 a.1.cnt, .slice a.1.A a.1.n a.1.c]
          obtain ⟨ra, hra⟩ : ∃ ra, ra = w1.heap.size := ⟨_, rfl⟩
          obtain ⟨wa, hwa⟩ : ∃ wa, wa = w1.alloc (.cells #[.int .i64 a.1.cnt, .slice a.1.A a.1.n a.1.c] 69) := ⟨_, rfl⟩
          rw [← hra] at hoa hya ⊢
          rw [← hwa] at hRa hba hHa hxa hya ⊢
          have hr1 : r1.length + 1 = L2.length := by have := H1.out.1.length_eq; rw [List.length_cons] at this; omega
          have HA := Lib.hid (And.intro hRa (And.intro hba (And.intro hHa (And.intro hoa (And.intro hxa hya)))))
          clear hRa hba hH3 hHa hoa hxa hya hra hwa
          refine (takeH_any wa o (cn256 (cnF C)) r1 A3 r1.length c3 HA.out.2.2.1 (by omega) (by omega) hc3 (fun x hx => ⟨HA.out.1 x (H1.out.1.mem_iff.2 (List.mem_cons_of_mem _ hx)), by have := HR.out.2.1.long HI.out.2.1 x (H1.out.1.mem_iff.2 (List.mem_cons_of_mem _ hx)); omega⟩)).mono ?_
          rintro e w2 ⟨b, r2, A4, c4, rfl, p2, m2, own2, b2⟩
          have hT := two_of H1.out.1 H1.out.2.1 p2 m2
          have H2 := Lib.hid (And.intro hT (And.intro own2 b2))
          clear p2 m2 own2 b2 hT
          unfold hpV
          have ca1 : (w2.alloc (.cells #[.int .i64 b.1.cnt, .slice b.1.A b.1.n b.1.c] 69)).cell? ⟨ra, 1, none⟩ = some (.slice a.1.A a.1.n a.1.c) := ((HA.out.2.2.2.2.2.on H2.out.2.2).alloc _).cell 1
          have cb1 : (w2.alloc (.cells #[.int .i64 b.1.cnt, .slice b.1.A b.1.n b.1.c] 69)).cell? ⟨w2.heap.size, 1, none⟩ = some (.slice b.1.A b.1.n b.1.c) := (Box.made _ _ _).cell 1
          go_wp2_with fail
          obtain ⟨rb, hrb⟩ : ∃ rb, rb = w2.heap.size := ⟨_, rfl⟩
          obtain ⟨wb, hwb⟩ : ∃ wb, wb = w2.alloc (.cells #[.int .i64 b.1.cnt, .slice b.1.A b.1.n b.1.c] 69) := ⟨_, rfl⟩
          have hRb : ∀ y ∈ L2, Reads wb o y.1 (cn256 (cnF C)) y.2 := fun y hy => by rw [hwb]; exact ((HA.out.1 y hy).on H2.out.2.2).on (on_alloc _ _)
          have hbb : Below w.heap.size w wb ∧ wa.heap.size ≤ wb.heap.size := by rw [hwb]; exact ⟨on_trans (on_trans HA.out.2.1 H2.out.2.2) (on_alloc _ _), by have := H2.out.2.2.size; simp; omega⟩
          have hbx : Box wb o 3 (cellsI Z2).toArray ∧ Box wb ra 69 #[.int .i64 a.1.cnt, .slice a.1.A a.1.n a.1.c] ∧ Box wb rb 69 #[.int .i64 b.1.cnt, .slice b.1.A b.1.n b.1.c] := by
            rw [hwb, hrb]
            exact ⟨(HA.out.2.2.2.2.1.on H2.out.2.2).alloc _, (HA.out.2.2.2.2.2.on H2.out.2.2).alloc _, Box.made _ _ _⟩
          have hob : wb.ownsRow wa.heap.size 69 2 (.slice A4 r2.length c4) r2.length (cellsH r2) := by rw [hwb]; exact H2.out.2.1.alloc _
          have hord : o < wa.heap.size ∧ o < wb.heap.size ∧ o < ra ∧ o < rb ∧ w.heap.size ≤ o := by
            have h1 := HA.out.2.2.2.2.2.lt
            have h2 := H2.out.2.2.size
            exact ⟨by have := HA.out.2.2.2.1; omega, by have := hbb.2; have := HA.out.2.2.2.1; omega, HA.out.2.2.2.1, by have := HA.out.2.2.2.1; omega, HR.out.2.1.ord⟩
          rw [← hwb, ← hrb] at *
          have hma := H2.out.1.perm.mem_iff.2 (List.mem_cons_self ..)
          have hmb := H2.out.1.perm.mem_iff.2 (List.mem_cons_of_mem _ (List.mem_cons_self ..))
          have HM := merge_any wb a.2 b.2 a.1.A b.1.A a.1.c b.1.c (by rw [(hRb a hma).len.1]; exact (hRb a hma).vals) (by rw [(hRb b hmb).len.1]; exact (hRb b hmb).vals) (by have := HR.out.2.1.long HI.out.2.1 a hma; omega) (by have := HR.out.2.1.long HI.out.2.1 b hmb; omega)
          rw [(hRb a hma).len.1, (hRb b hmb).len.1] at HM
          have HB := Lib.hid (And.intro hRb (And.intro hbb (And.intro hbx (And.intro hob hord))))
          have HM := Lib.hid HM
          clear hRb hbb hbx hob hord hma hmb ca1 cb1 hwb hrb
          refine HM.out.mono ?_
          rintro e w3 ⟨A5, c5, rfl, own5, b5⟩
          have hM3 : Mid3 w w3 o ra rb wa.heap.size wb.heap.size C L2 r2 a b Z2 (.slice A4 r2.length c4) A5 c5 :=
            ⟨H2.out.1, fun y hy => (HB.out.1 y hy).on b5, own_bel HB.out.2.2.2.1 b5, HB.out.2.2.1.2.1.on b5, HB.out.2.2.1.2.2.on b5, HB.out.2.2.1.1.on b5, own5, on_trans HB.out.2.1.1 b5, HB.out.2.2.2.2, Nat.le_trans HB.out.2.1.2 b5.size⟩
          obtain ⟨-, -, hmf, hmn, -⟩ := H2.out.1.merged HR.out.2.1
          have hml : (mrg a.2 b.2).length ≤ 257 := by
            have h1 := (H2.out.1.merged HR.out.2.1).1.length_eq
            have h2 := flat_len3 H2.out.1 HR.out.2.1 HI.out.2.1
            omega
          have H3 := Lib.hid (And.intro hM3 (And.intro hmf hmn))
          clear own5 b5 hM3 hmf hmn
          obtain ⟨m, hm⟩ : ∃ m, m = (mrg a.2 b.2).length := ⟨_, rfl⟩
          rw [← hm] at hml ⊢
          have Hm := Lib.hid hm
          clear hm
          have hr2 : r2.length ≤ 257 := by have := H2.out.1.perm.length_eq; simp only [List.length_cons] at this; omega
          clear hr1 hc3
          go_wp2_with fail
          go_loopw [10] (fun i wr' => ∃ (j : Nat) (Z4 : List Int), j ≤ m ∧ i = .int .i64 j ∧ Mid3 w wr' o ra rb wa.heap.size wb.heap.size C L2 r2 a b Z4 (.slice A4 r2.length c4) A5 c5 ∧ Z4.length = 257 ∧ ∀ v, v < 257 → Z4.getD v 0 = (inc ((mrg a.2 b.2).take j) out v : Int)) (fun i _ => m - (intOf i).toNat)
          case atStart => exact ⟨0, Z2, Nat.zero_le _, rfl, H3.out.1, HR.out.2.1.zl, fun v hv => by rw [HR.out.2.1.lens v hv]; rfl⟩
          case round =>
            obtain ⟨j, Z4, hj, rfl, hM, hz4, hZ4⟩ := hrel
            by_cases hjm : j < m
            · have hji : (j : Int) < (m : Int) := by omega
              obtain ⟨b5, off5, hA5, hb5, hc5⟩ := hM.il.1.at_ (by have := Hm.out; omega)
              have cj := hc5 j (by have := Hm.out; omega)
              rw [ints_getD _ _ (by have := Hm.out; omega)] at cj
              obtain ⟨x, hx⟩ : ∃ x, x = (mrg a.2 b.2).getD j 0 := ⟨_, rfl⟩
              have hx257 : x < 257 := by
                have := H3.out.2.1 x (by rw [hx, List.getD_eq_getElem?_getD, List.getElem?_eq_getElem (by have := Hm.out; omega)]; exact List.getElem_mem _)
                omega
              rw [← hx] at cj
              have hy := hZ4 x hx257
              obtain ⟨y, hyy⟩ : ∃ y, y = inc ((mrg a.2 b.2).take j) out x := ⟨_, rfl⟩
              rw [← hyy] at hy
              have hy258 : y ≤ 258 := by
                have := HR.out.2.1.few x
                rw [hyy]
                unfold inc
                split <;> omega
              have cx : wr.cell? ⟨o, x, none⟩ = some (.int .i64 (y : Int)) := by
                rw [hM.out.cell x, List.getElem?_toArray, cellsI_get _ _ (by omega), hy]
              have fx := hM.out.free x
              have gx := hM.out.lt
              have HQ := Lib.hid (And.intro hM (And.intro hz4 (And.intro hZ4 (And.intro hx (And.intro hy hyy)))))
              clear hM hz4 hZ4 hx hy hc5 hyy
              subst hA5
              go_wp2_with fail
              go_roundw
              case rel =>
                have hb := HQ.out.1.out.put x (.int .i64 ((y : Int) + 1))
                rw [put_cellsI] at hb
                exact ⟨j + 1, _, by omega, by go_num, HQ.out.1.kept ((Kept.refl (fun i => i = o) wr).setCell (p := ⟨o, x, none⟩) (fun _ => rfl) _) hb, by rw [List.length_set]; exact HQ.out.2.1, inc_more' H3.out.2.2 (by have := Hm.out; omega) HQ.out.2.1 HQ.out.2.2.2.1 hx257 HQ.out.2.2.1 HQ.out.2.2.2.2.1⟩
              case measure => simp [intOf]; omega
            · have ej : j = m := by omega
              have HQ := Lib.hid (And.intro hM (And.intro hz4 (And.intro hZ4 ej)))
              have ca0 : wr.cell? ⟨ra, 0, none⟩ = some (.int .i64 a.1.cnt) := hM.boxa.cell 0
              have cb0 : wr.cell? ⟨rb, 0, none⟩ = some (.int .i64 b.1.cnt) := hM.boxb.cell 0
              have ha1 := (hM.reads a (hM.two.perm.mem_iff.2 (List.mem_cons_self ..))).cnt
              have hb1 := (hM.reads b (hM.two.perm.mem_iff.2 (List.mem_cons_of_mem _ (List.mem_cons_self ..)))).cnt
              have ha2 := HR.out.2.1.count HI.out.2.1 a (hM.two.perm.mem_iff.2 (List.mem_cons_self ..))
              have hb2 := HR.out.2.1.count HI.out.2.1 b (hM.two.perm.mem_iff.2 (List.mem_cons_of_mem _ (List.mem_cons_self ..)))
              have hs0 : 0 ≤ a.1.cnt + b.1.cnt := by omega
              have hs1 : a.1.cnt + b.1.cnt ≤ 600000000000000 := by omega
              clear hM hz4 hZ4 ej ha1 hb1 ha2 hb2
              go_wp2_with (first
                | (at_builtin; refine wpList_append_hk rfl (.tmp 71) (.tmp 79) rfl wa.heap.size (.slice A4 r2.length c4) r2.length r2 rfl (HQ.out.1.own.alloc _) ⟨wr.heap.size, 0, none⟩ 1 1 [(⟨a.1.cnt + b.1.cnt, A5, m, c5⟩, mrg a.2 b.2)] rfl (hr_made _ (⟨a.1.cnt + b.1.cnt, A5, m, c5⟩, mrg a.2 b.2) _ rfl) (by omega) (by have := HQ.out.1.big; simp; omega) ?_; intro v9 w9 hown9 k9; have H9 := Lib.hid (Mid3.done_m Hm.out HQ.out.1 HR.out.2.1 HQ.out.2.1 (by rw [← HQ.out.2.2.2]; exact HQ.out.2.2.1) k9 hown9); clear hown9 k9)
                | fail)
              obtain ⟨A9, c9, rfl, hc9, hH9, hL9, hlt9⟩ := H9.out
              go_roundg (r2 ++ [((⟨a.1.cnt + b.1.cnt, A5, m, c5⟩ : Hp), mrg a.2 b.2)]).length
              case rel => exact ⟨_, Z4, _, A9, c9, rfl, hc9, hH9, hL9, rfl⟩
              case measure => rw [HR.out.2.2]; exact hlt9
end Go.Proofs.Ytmaffonnekgekaa
