/-
  The contract of the reference's Number, where there are enough bytes.
-/
import Derived.Test.YthjnknhdnogaeaaRefHead
namespace Go.Proofs.Ythjnknhdnogaeaa
open Go.RowKit

set_option maxHeartbeats 1000000 in
theorem ref_num_big_eight (w : World) (A : Option Addr) (n c : Nat) (at_ : Nat) (K : Nat → Prop) (l : List Int) (m : Nat) (V : Int) (hl : Sl w K A n c l) (hm : decide ((m : Int) = 1 ∨ (m : Int) = 2 ∨ (m : Int) = 4 ∨ (m : Int) = 8) = true) (hat : at_ + m ≤ n) (hn : n ≤ 4000)
    (hV : val true ((l.drop at_).take m) = V) (h8 : Hid (m = 8)) (hV1 : V ≤ 9223372036854775807) :
    Calls Try.prog 39 #[refCur A n c true at_ 0, .int .i64 m] w fun r w' => r = .returned (.tuple #[.int .i64 V, refCur A n c true (at_ + m) 0]) ∧ Below w.heap.size w w' := by
  have HF := Lib.hid (fun W => ref_fail W A n c true at_ 0 2)
  have HI := Lib.hid (fun W => width_any m W)
  have HM := Lib.hid hm
  have hm8 : m ≤ 8 := by have := of_decide_eq_true hm; omega
  have hm0 : 0 < m := by have := of_decide_eq_true hm; omega
  have hs2 : ¬ (n : Int) - (at_ : Int) < (m : Int) := by omega
  have hcap := hl.cap
  have hmax := hl.max
  unfold maxLen at hmax
  have HL := Lib.hid hl
  have HV := Lib.hid hV
  have hcut : (if c = at_ then A else Option.map (fun x => x.add at_) A) = cutAt A c at_ := rfl
  have hcc : ¬ c = at_ := by omega
  have hcut2 : Option.map (fun x => x.add at_) A = cutAt A c at_ := by unfold cutAt; rw [if_neg hcc]
  have hb8 : ((m : Int) == 8) = true := by have := h8.out; simp; omega
  unfold refCur at *
  clear hm hl hV
  go_enter Try.func39, Try.ntmps39
  go_wp2_with (go_at_call 36; refine (HI.out _).mono ?_; rw [HM.out]; rintro r w' ⟨rfl, rfl⟩)
  clear hcut hcut2
  obtain ⟨W0, hW0⟩ : ∃ W0, W0 = (w.alloc (.cells #[.slice A n c, .int .i64 at_, .bool true, .int .i64 0] 30)).alloc (.cells #[.slice none 0 0, .int .i64 0, .bool false, .int .i64 0] 30) := ⟨_, rfl⟩
  obtain ⟨x0, y0, bw0⟩ := twoFour w _ _ _ _ _ _ _ _ W0 hW0
  rw [← hW0]
  have hsl0 : Sl W0 (fun _ => True) (cutAt A c at_) m (c - at_) ((l.drop at_).take m) := by
    have h1 := (HL.out.mono (K' := fun b => b < w.heap.size) (fun _ h _ => h)).below bw0 (fun _ _ h => h)
    have h2 := h1.bts.cut (k := at_) (m := m) (c := c) (by rw [h1.len]; exact hat) (by rw [h1.len]; exact hcap)
    exact ⟨h2.mono (fun _ _ _ => trivial), by rw [List.length_take, List.length_drop, h1.len]; omega, by omega, by simp only [maxLen]; omega, fun e => by
      rw [cutAt, if_neg hcc] at e
      cases A with
      | none => have := h1.nil rfl; omega
      | some a => cases e⟩
  have hsB := hsl0
  obtain ⟨WB, eWB⟩ : ∃ WB, WB = W0 := ⟨_, rfl⟩
  rw [← eWB] at hsB x0 y0 bw0 ⊢
  have xB := x0
  have yB := y0
  have bwB := bw0
  obtain ⟨LL, eLL⟩ : ∃ LL, LL = (l.drop at_).take m := ⟨_, rfl⟩
  rw [← eLL] at hsB
  have hfitL := hsB.bts.fit
  have hLlen : LL.length = m := hsB.len
  have hbeL : be LL = V := by rw [eLL]; exact HV.out
  obtain ⟨bb, off, hAe, _, _, hcell0⟩ := hsB.bts.at_ (by omega)
  have hcell : ∀ i, i < m → WB.cell? ⟨bb, off + i, none⟩ = some (.int .u8 (LL.getD i 0)) := fun i hi => hcell0 i (by omega)
  rw [hAe]
  try simp only [Nat.add_sub_cancel_left]
  clear hcell0 eLL hW0 eWB x0 y0 bw0 hsl0 hAe
  have hz0 : WB.cell? ⟨bb, off + 0, none⟩ = some (.int .u8 (LL.getD 0 0)) := hcell 0 (by omega)
  rw [Nat.add_zero] at hz0
  have hfit := hfitL
  have hfz := hfit.getD 0
  have hhd : ¬ (128 : Int) ≤ LL.getD 0 0 := fun e => by have := (be_head LL hfit (by have := h8.out; omega)).1 e; omega
  have HCELL := Lib.hid hcell
  have HX := Lib.hid (And.intro xB (And.intro yB (And.intro bwB (And.intro hLlen (And.intro hfit hbeL)))))
  obtain ⟨z0, ez0⟩ : ∃ z0, z0 = LL.getD 0 0 := ⟨_, rfl⟩
  rw [← ez0] at hz0 hfz hhd
  clear ez0 hcell hsB xB yB bwB hfit hLlen hbeL hfitL
  go_wp2_with fail
  go_loop [7, 8] (fun v i => ∃ k : Nat, k ≤ m ∧ i = .int .i64 k ∧ v = .int .i64 (be (LL.take k))) (fun _ i => m - (intOf i).toNat)
  case atStart => exact ⟨0, Nat.zero_le _, rfl, rfl⟩
  case round =>
    obtain ⟨k, hk, rfl, rfl⟩ := hrel
    obtain ⟨xB, yB, bwB, hLlen, hfit, hbeL⟩ := HX.out
    have hy1 := be_part LL hfit k
    have hy0 := (be_bounds (LL.take k) (hfit.take k)).1
    rw [hbeL] at hy1
    by_cases hlt : k < m
    · have hck := HCELL.out k hlt
      have hy2 := be_part LL hfit (k + 1)
      have HT := Lib.hid (And.intro (take_more LL k (by omega)) (be_app (LL.take k) (LL.getD k 0)))
      have hzk := hfit.getD k
      rw [HT.out.1, HT.out.2, hbeL] at hy2
      obtain ⟨z, hz⟩ : ∃ z, z = LL.getD k 0 := ⟨_, rfl⟩
      obtain ⟨y, hy⟩ : ∃ y, y = be (LL.take k) := ⟨_, rfl⟩
      rw [← hz] at hck hzk hy2
      rw [← hy] at hy0 hy1 hy2 ⊢
      have HZ := Lib.hid (And.intro hz hy)
      clear hz hy xB yB bwB hfit hLlen hbeL
      go_wp2
      go_round
      case rel => exact ⟨k + 1, by omega, by go_num, by rw [HT.out.1, HT.out.2, ← HZ.out.1, ← HZ.out.2]⟩
      case measure => simp [intOf]; omega
    · have ek : LL.take k = LL := List.take_of_length_le (by omega)
      rw [ek, hbeL]
      have u0 : WB.cell? ⟨w.heap.size, 0, none⟩ = some (.slice A n c) := xB.cell 0
      have u1 : WB.cell? ⟨w.heap.size, 1, none⟩ = some (.int .i64 at_) := xB.cell 1
      have u2 : WB.cell? ⟨w.heap.size, 2, none⟩ = some (.bool true) := xB.cell 2
      have u3 : WB.cell? ⟨w.heap.size, 3, none⟩ = some (.int .i64 0) := xB.cell 3
      have t1 := xB.free 1
      have q0 : WB.cell? ⟨w.heap.size + 1, 0, none⟩ = some (.slice none 0 0) := yB.cell 0
      have q1 : WB.cell? ⟨w.heap.size + 1, 1, none⟩ = some (.int .i64 0) := yB.cell 1
      have q2 : WB.cell? ⟨w.heap.size + 1, 2, none⟩ = some (.bool false) := yB.cell 2
      have q3 : WB.cell? ⟨w.heap.size + 1, 3, none⟩ = some (.int .i64 0) := yB.cell 3
      have p0 := yB.free 0
      have p1 := yB.free 1
      have p2 := yB.free 2
      have p3 := yB.free 3
      clear xB yB hfit hLlen hbeL ek hy1 hy0 HCELL hz0
      go_wp2
      go_region
      all_goals
        go_wp2
        exact bodyPost_ret (v := .tuple #[.int .i64 V, .agg #[.slice A n c, .int .i64 ((at_ + m : Nat) : Int), .bool true, .int .i64 0]]) (by simp [results, Try.results39, go_sem, q0, q1, q2, q3]) rfl ⟨rfl, fourSet ((HX.out.2.2.1.setCell (p := ⟨w.heap.size, 1, none⟩) (Nat.le_refl _) _).drew) (by omega) _ _ _ _⟩

set_option maxHeartbeats 1000000 in
theorem ref_num_big_less (w : World) (A : Option Addr) (n c : Nat) (at_ : Nat) (K : Nat → Prop) (l : List Int) (m : Nat) (V : Int) (hl : Sl w K A n c l) (hm : decide ((m : Int) = 1 ∨ (m : Int) = 2 ∨ (m : Int) = 4 ∨ (m : Int) = 8) = true) (hat : at_ + m ≤ n) (hn : n ≤ 4000)
    (hV : val true ((l.drop at_).take m) = V) (h8 : m < 8) (hV1 : V ≤ 9223372036854775807) :
    Calls Try.prog 39 #[refCur A n c true at_ 0, .int .i64 m] w fun r w' => r = .returned (.tuple #[.int .i64 V, refCur A n c true (at_ + m) 0]) ∧ Below w.heap.size w w' := by
  have HF := Lib.hid (fun W => ref_fail W A n c true at_ 0 2)
  have HI := Lib.hid (fun W => width_any m W)
  have HM := Lib.hid hm
  have hm8 : m ≤ 8 := by have := of_decide_eq_true hm; omega
  have hm0 : 0 < m := by have := of_decide_eq_true hm; omega
  have hs2 : ¬ (n : Int) - (at_ : Int) < (m : Int) := by omega
  have hcap := hl.cap
  have hmax := hl.max
  unfold maxLen at hmax
  have HL := Lib.hid hl
  have HV := Lib.hid hV
  have hcut : (if c = at_ then A else Option.map (fun x => x.add at_) A) = cutAt A c at_ := rfl
  have hcc : ¬ c = at_ := by omega
  have hcut2 : Option.map (fun x => x.add at_) A = cutAt A c at_ := by unfold cutAt; rw [if_neg hcc]
  have hb8 : ((m : Int) == 8) = false := by simp; omega
  unfold refCur at *
  clear hm hl hV
  go_enter Try.func39, Try.ntmps39
  go_wp2_with (go_at_call 36; refine (HI.out _).mono ?_; rw [HM.out]; rintro r w' ⟨rfl, rfl⟩)
  clear hcut hcut2
  obtain ⟨W0, hW0⟩ : ∃ W0, W0 = (w.alloc (.cells #[.slice A n c, .int .i64 at_, .bool true, .int .i64 0] 30)).alloc (.cells #[.slice none 0 0, .int .i64 0, .bool false, .int .i64 0] 30) := ⟨_, rfl⟩
  obtain ⟨x0, y0, bw0⟩ := twoFour w _ _ _ _ _ _ _ _ W0 hW0
  rw [← hW0]
  have hsl0 : Sl W0 (fun _ => True) (cutAt A c at_) m (c - at_) ((l.drop at_).take m) := by
    have h1 := (HL.out.mono (K' := fun b => b < w.heap.size) (fun _ h _ => h)).below bw0 (fun _ _ h => h)
    have h2 := h1.bts.cut (k := at_) (m := m) (c := c) (by rw [h1.len]; exact hat) (by rw [h1.len]; exact hcap)
    exact ⟨h2.mono (fun _ _ _ => trivial), by rw [List.length_take, List.length_drop, h1.len]; omega, by omega, by simp only [maxLen]; omega, fun e => by
      rw [cutAt, if_neg hcc] at e
      cases A with
      | none => have := h1.nil rfl; omega
      | some a => cases e⟩
  have hsB := hsl0
  obtain ⟨WB, eWB⟩ : ∃ WB, WB = W0 := ⟨_, rfl⟩
  rw [← eWB] at hsB x0 y0 bw0 ⊢
  have xB := x0
  have yB := y0
  have bwB := bw0
  obtain ⟨LL, eLL⟩ : ∃ LL, LL = (l.drop at_).take m := ⟨_, rfl⟩
  rw [← eLL] at hsB
  have hfitL := hsB.bts.fit
  have hLlen : LL.length = m := hsB.len
  have hbeL : be LL = V := by rw [eLL]; exact HV.out
  obtain ⟨bb, off, hAe, _, _, hcell0⟩ := hsB.bts.at_ (by omega)
  have hcell : ∀ i, i < m → WB.cell? ⟨bb, off + i, none⟩ = some (.int .u8 (LL.getD i 0)) := fun i hi => hcell0 i (by omega)
  rw [hAe]
  try simp only [Nat.add_sub_cancel_left]
  clear hcell0 eLL hW0 eWB x0 y0 bw0 hsl0 hAe
  have hz0 : WB.cell? ⟨bb, off + 0, none⟩ = some (.int .u8 (LL.getD 0 0)) := hcell 0 (by omega)
  rw [Nat.add_zero] at hz0
  have hfit := hfitL
  have hfz := hfit.getD 0
  have _hl := hfz
  have HCELL := Lib.hid hcell
  have HX := Lib.hid (And.intro xB (And.intro yB (And.intro bwB (And.intro hLlen (And.intro hfit hbeL)))))
  obtain ⟨z0, ez0⟩ : ∃ z0, z0 = LL.getD 0 0 := ⟨_, rfl⟩
  rw [← ez0] at hz0 hfz 
  clear ez0 hcell hsB xB yB bwB hfit hLlen hbeL hfitL
  go_wp2_with fail
  go_loop [7, 8] (fun v i => ∃ k : Nat, k ≤ m ∧ i = .int .i64 k ∧ v = .int .i64 (be (LL.take k))) (fun _ i => m - (intOf i).toNat)
  case atStart => exact ⟨0, Nat.zero_le _, rfl, rfl⟩
  case round =>
    obtain ⟨k, hk, rfl, rfl⟩ := hrel
    obtain ⟨xB, yB, bwB, hLlen, hfit, hbeL⟩ := HX.out
    have hy1 := be_part LL hfit k
    have hy0 := (be_bounds (LL.take k) (hfit.take k)).1
    rw [hbeL] at hy1
    by_cases hlt : k < m
    · have hck := HCELL.out k hlt
      have hy2 := be_part LL hfit (k + 1)
      have HT := Lib.hid (And.intro (take_more LL k (by omega)) (be_app (LL.take k) (LL.getD k 0)))
      have hzk := hfit.getD k
      rw [HT.out.1, HT.out.2, hbeL] at hy2
      obtain ⟨z, hz⟩ : ∃ z, z = LL.getD k 0 := ⟨_, rfl⟩
      obtain ⟨y, hy⟩ : ∃ y, y = be (LL.take k) := ⟨_, rfl⟩
      rw [← hz] at hck hzk hy2
      rw [← hy] at hy0 hy1 hy2 ⊢
      have HZ := Lib.hid (And.intro hz hy)
      clear hz hy xB yB bwB hfit hLlen hbeL
      go_wp2
      go_round
      case rel => exact ⟨k + 1, by omega, by go_num, by rw [HT.out.1, HT.out.2, ← HZ.out.1, ← HZ.out.2]⟩
      case measure => simp [intOf]; omega
    · have ek : LL.take k = LL := List.take_of_length_le (by omega)
      rw [ek, hbeL]
      have u0 : WB.cell? ⟨w.heap.size, 0, none⟩ = some (.slice A n c) := xB.cell 0
      have u1 : WB.cell? ⟨w.heap.size, 1, none⟩ = some (.int .i64 at_) := xB.cell 1
      have u2 : WB.cell? ⟨w.heap.size, 2, none⟩ = some (.bool true) := xB.cell 2
      have u3 : WB.cell? ⟨w.heap.size, 3, none⟩ = some (.int .i64 0) := xB.cell 3
      have t1 := xB.free 1
      have q0 : WB.cell? ⟨w.heap.size + 1, 0, none⟩ = some (.slice none 0 0) := yB.cell 0
      have q1 : WB.cell? ⟨w.heap.size + 1, 1, none⟩ = some (.int .i64 0) := yB.cell 1
      have q2 : WB.cell? ⟨w.heap.size + 1, 2, none⟩ = some (.bool false) := yB.cell 2
      have q3 : WB.cell? ⟨w.heap.size + 1, 3, none⟩ = some (.int .i64 0) := yB.cell 3
      have p0 := yB.free 0
      have p1 := yB.free 1
      have p2 := yB.free 2
      have p3 := yB.free 3
      clear xB yB hfit hLlen hbeL ek hy1 hy0 HCELL hz0
      go_wp2
      go_region
      all_goals
        go_wp2
        exact bodyPost_ret (v := .tuple #[.int .i64 V, .agg #[.slice A n c, .int .i64 ((at_ + m : Nat) : Int), .bool true, .int .i64 0]]) (by simp [results, Try.results39, go_sem, q0, q1, q2, q3]) rfl ⟨rfl, fourSet ((HX.out.2.2.1.setCell (p := ⟨w.heap.size, 1, none⟩) (Nat.le_refl _) _).drew) (by omega) _ _ _ _⟩

set_option maxHeartbeats 1000000 in
theorem ref_num_big_range (w : World) (A : Option Addr) (n c : Nat) (at_ : Nat) (K : Nat → Prop) (l : List Int) (m : Nat) (V : Int) (hl : Sl w K A n c l) (hm : decide ((m : Int) = 1 ∨ (m : Int) = 2 ∨ (m : Int) = 4 ∨ (m : Int) = 8) = true) (hat : at_ + m ≤ n) (hn : n ≤ 4000)
    (hV : val true ((l.drop at_).take m) = V) (h8 : Hid (m = 8)) (hV1 : 9223372036854775807 < V) :
    Calls Try.prog 39 #[refCur A n c true at_ 0, .int .i64 m] w fun r w' => r = .returned (.tuple #[.int .i64 0, refCur A n c true at_ 2]) ∧ Below w.heap.size w w' := by
  have HF := Lib.hid (fun W => ref_fail W A n c true at_ 0 2)
  have HI := Lib.hid (fun W => width_any m W)
  have HM := Lib.hid hm
  have hm8 : m ≤ 8 := by have := of_decide_eq_true hm; omega
  have hm0 : 0 < m := by have := of_decide_eq_true hm; omega
  have hs2 : ¬ (n : Int) - (at_ : Int) < (m : Int) := by omega
  have hcap := hl.cap
  have hmax := hl.max
  unfold maxLen at hmax
  have HL := Lib.hid hl
  have HV := Lib.hid hV
  have hcut : (if c = at_ then A else Option.map (fun x => x.add at_) A) = cutAt A c at_ := rfl
  have hcc : ¬ c = at_ := by omega
  have hcut2 : Option.map (fun x => x.add at_) A = cutAt A c at_ := by unfold cutAt; rw [if_neg hcc]
  have hb8 : ((m : Int) == 8) = true := by have := h8.out; simp; omega
  unfold refCur at *
  clear hm hl hV
  go_enter Try.func39, Try.ntmps39
  go_wp2_with (go_at_call 36; refine (HI.out _).mono ?_; rw [HM.out]; rintro r w' ⟨rfl, rfl⟩)
  clear hcut hcut2
  obtain ⟨W0, hW0⟩ : ∃ W0, W0 = (w.alloc (.cells #[.slice A n c, .int .i64 at_, .bool true, .int .i64 0] 30)).alloc (.cells #[.slice none 0 0, .int .i64 0, .bool false, .int .i64 0] 30) := ⟨_, rfl⟩
  obtain ⟨x0, y0, bw0⟩ := twoFour w _ _ _ _ _ _ _ _ W0 hW0
  rw [← hW0]
  have hsl0 : Sl W0 (fun _ => True) (cutAt A c at_) m (c - at_) ((l.drop at_).take m) := by
    have h1 := (HL.out.mono (K' := fun b => b < w.heap.size) (fun _ h _ => h)).below bw0 (fun _ _ h => h)
    have h2 := h1.bts.cut (k := at_) (m := m) (c := c) (by rw [h1.len]; exact hat) (by rw [h1.len]; exact hcap)
    exact ⟨h2.mono (fun _ _ _ => trivial), by rw [List.length_take, List.length_drop, h1.len]; omega, by omega, by simp only [maxLen]; omega, fun e => by
      rw [cutAt, if_neg hcc] at e
      cases A with
      | none => have := h1.nil rfl; omega
      | some a => cases e⟩
  have hsB := hsl0
  obtain ⟨WB, eWB⟩ : ∃ WB, WB = W0 := ⟨_, rfl⟩
  rw [← eWB] at hsB x0 y0 bw0 ⊢
  have xB := x0
  have yB := y0
  have bwB := bw0
  obtain ⟨LL, eLL⟩ : ∃ LL, LL = (l.drop at_).take m := ⟨_, rfl⟩
  rw [← eLL] at hsB
  have hfitL := hsB.bts.fit
  have hLlen : LL.length = m := hsB.len
  have hbeL : be LL = V := by rw [eLL]; exact HV.out
  obtain ⟨bb, off, hAe, _, _, hcell0⟩ := hsB.bts.at_ (by omega)
  have hcell : ∀ i, i < m → WB.cell? ⟨bb, off + i, none⟩ = some (.int .u8 (LL.getD i 0)) := fun i hi => hcell0 i (by omega)
  rw [hAe]
  try simp only [Nat.add_sub_cancel_left]
  clear hcell0 eLL hW0 eWB x0 y0 bw0 hsl0 hAe
  have hz0 : WB.cell? ⟨bb, off + 0, none⟩ = some (.int .u8 (LL.getD 0 0)) := hcell 0 (by omega)
  rw [Nat.add_zero] at hz0
  have hfit := hfitL
  have hfz := hfit.getD 0
  have hhd : (128 : Int) ≤ LL.getD 0 0 := (be_head LL hfit (by have := h8.out; omega)).2 (by omega)
  have q0 : WB.cell? ⟨w.heap.size + 1, 0, none⟩ = some (.slice none 0 0) := yB.cell 0
  have u0 : WB.cell? ⟨w.heap.size, 0, none⟩ = some (.slice A n c) := xB.cell 0
  have u1 : WB.cell? ⟨w.heap.size, 1, none⟩ = some (.int .i64 at_) := xB.cell 1
  have u2 : WB.cell? ⟨w.heap.size, 2, none⟩ = some (.bool true) := xB.cell 2
  have u3 : WB.cell? ⟨w.heap.size, 3, none⟩ = some (.int .i64 0) := xB.cell 3
  obtain ⟨z0, ez0⟩ : ∃ z0, z0 = LL.getD 0 0 := ⟨_, rfl⟩
  rw [← ez0] at hz0 hfz hhd
  have HX := Lib.hid (And.intro yB bwB)
  have hm0I : (0 : Int) < (m : Int) := by omega
  clear ez0 hcell hsB xB yB bwB hfit hLlen hbeL hfitL q0
  go_simp
  go_wp2_with fail
  refine (HF.out _).mono ?_
  rintro r w5 ⟨rfl, b5⟩
  have hq : Box w5 (w.heap.size + 1) 30 #[.slice none 0 0, .int .i64 0, .bool false, .int .i64 0] := (b5.block _ HX.out.1.lt).trans HX.out.1
  have q0 : w5.cell? ⟨w.heap.size + 1, 0, none⟩ = some (.slice none 0 0) := hq.cell 0
  have q1 : w5.cell? ⟨w.heap.size + 1, 1, none⟩ = some (.int .i64 0) := hq.cell 1
  have q2 : w5.cell? ⟨w.heap.size + 1, 2, none⟩ = some (.bool false) := hq.cell 2
  have q3 : w5.cell? ⟨w.heap.size + 1, 3, none⟩ = some (.int .i64 0) := hq.cell 3
  have p0 := hq.free 0
  have p1 := hq.free 1
  have p2 := hq.free 2
  have p3 := hq.free 3
  have HB := Lib.hid (HX.out.2.trans (b5.mono HX.out.2.size))
  clear b5 hq u0 u1 u2 u3
  go_wp2
  exact bodyPost_ret (v := .tuple #[.int .i64 0, .agg #[.slice A n c, .int .i64 at_, .bool true, .int .i64 2]]) (by simp [results, Try.results39, go_sem, q0, q1, q2, q3]) rfl ⟨rfl, fourSet HB.out (by omega) _ _ _ _⟩

end Go.Proofs.Ythjnknhdnogaeaa
