/-
  What the laws of layer 17 know of a map; the reference's Same.
-/
import Derived.Test.YtcgajomngcgchaaLApart
namespace Go.Proofs.Ytcgajomngcgchaa
open Go.RowKit

theorem frees_can {m : Int} {l fs : List X} (h : Frees m l fs) (hm : 1 ≤ m) : ∃ u : List Bool, (u.length : Int) = m ∧ Can u fs ∧ Uses m l u := by
  classical
  refine ⟨(List.range m.toNat).map fun k : Nat => decide (InE l (k : Int)), by simp; omega, ⟨?_, fun k hk => ?_⟩, ⟨by simp; omega, fun k hk => ?_⟩⟩
  · have := h.rise
    simpa [show (m.toNat : Int) = m by omega] using this
  · simp only [List.length_map, List.length_range] at hk
    rw [h.mem k (by omega) (by omega)]
    simp [List.getD_eq_getElem?_getD, hk]
  · simp only [List.length_map, List.length_range] at hk
    simp [List.getD_eq_getElem?_getD, hk]

theorem can_len {u : List Bool} {fs : List X} (h : Can u fs) : fs.length ≤ u.length := by
  have : ∀ {hi lo : Int} {l : List X}, Rise hi lo l → lo ≤ hi + 1 → (l.length : Int) ≤ hi - lo + 1 := by
    intro hi lo l
    induction l generalizing lo with
    | nil => intro _ h; simp; omega
    | cons e t ih =>
      intro hr _
      have h1 := hr.1; have h2 := hr.2.1; have h3 := hr.2.2.1
      have := ih hr.2.2.2 (by omega)
      simp only [List.length_cons]
      omega
  have h2 := this h.rise (by omega)
  by_cases h0 : fs.length = 0
  · omega
  · have h3 : 0 < fs.length := by omega
    -- the first one has a sector
    cases fs with
    | nil => simp at h3
    | cons e t =>
      have hr := h.rise
      have h1 := hr.1; have h2 := hr.2.1; have h4 := hr.2.2.1
      have := this hr.2.2.2 (by omega)
      simp only [List.length_cons]
      omega
/-- the free extents of a map behind a take -/
theorem can_take {u : List Bool} {fs : List X} (h : Can u fs) {size : Int} (h1 : 1 ≤ size) (hi : takeI fs size < fs.length) :
    size ≤ (fs.getD (takeI fs size) (0, 0)).2 ∧ Can (mark u ((fs.getD (takeI fs size) (0, 0)).1, size) true) (takeL fs size) := by
  have hs := split_at hi
  have hle : size ≤ (fs.getD (takeI fs size) (0, 0)).2 := by
    rcases (findIdx_split (fun f => decide (size ≤ f.2)) fs).2 with hs | ⟨y, t, hs, hy⟩
    · have := List.drop_eq_nil_iff.1 hs; unfold takeI at hi; omega
    · have e : fs.getD (takeI fs size) (0, 0) = y := by
        have : (fs.drop (takeI fs size))[0]? = some y := by unfold takeI; rw [hs]; rfl
        rw [List.getElem?_drop] at this
        rw [List.getD_eq_getElem?_getD]
        simp at this ⊢
        rw [this]
        rfl
      rw [e]
      exact of_decide_eq_true hy
  refine ⟨hle, ?_⟩
  have h' := h
  rw [hs] at h'
  exact h'.take h1 hle
theorem can_endF {u : List Bool} {fs : List X} (h : Can u fs) (h0 : 0 < u.length) : EndOf u (endF u.length fs).toNat ∧ 0 ≤ endF u.length fs ∧ endF u.length fs ≤ u.length ∧ u.length - sumS fs ≤ endF u.length fs := by
  unfold endF
  split
  · next hlt =>
    have hm := getD_mem hlt
    have he : (fs.getD (fs.findIdx fun f => decide (f.1 + f.2 = (u.length : Int))) (0, 0)).1 + (fs.getD (fs.findIdx fun f => decide (f.1 + f.2 = (u.length : Int))) (0, 0)).2 = u.length := by
      have := List.findIdx_getElem (w := hlt)
      rw [List.getD_eq_getElem?_getD, List.getElem?_eq_getElem hlt]
      exact of_decide_eq_true this
    obtain ⟨e1, e2, e3⟩ := h.end_some hm he
    have := h.rise.at_ _ hm
    exact ⟨e1, e2, by omega, by omega⟩
  · next hnl =>
    have hn : ∀ f ∈ fs, f.1 + f.2 ≠ u.length := fun f hf he => hnl (List.findIdx_lt_length_of_exists ⟨f, hf, by simpa using he⟩)
    refine ⟨?_, by omega, Int.le_refl _, by have := sumS_pos h.rise; omega⟩
    rw [Int.toNat_natCast]
    exact h.end_none h0 hn

/-- what Take answers, whatever size is asked -/
def TakeY (g : Nat) (m : Int) (fs : List X) (size : Int) (w : World) (e : Ending) (w' : World) : Prop :=
  (size < 1 ∧ TakeNone 1 w e w') ∨ (1 ≤ size ∧ takeI fs size = fs.length ∧ TakeNone 9 w e w') ∨ (1 ≤ size ∧ takeI fs size < fs.length ∧ TakeSome g m fs size w e w')
theorem take_all (w : World) (g : Nat) (m : Int) (fs : List X) (A : Option Addr) (n c : Nat) (hM : Mm w g m fs A n c) (hr : Rise m 0 fs) (hm : 0 ≤ m ∧ m ≤ 4096) (hn : n ≤ 9000) (size : Int) : Calls Try.prog 21 #[.pointer (some ⟨g, 0, none⟩), .int .i64 size] w (TakeY g m fs size w) := by
  by_cases h : size < 1
  · exact (take_small w g size h).mono fun _ _ h2 => .inl ⟨h, h2⟩
  · have hle := List.findIdx_le_length (p := fun f : X => decide (size ≤ f.2)) (xs := fs)
    by_cases hi : takeI fs size < fs.length
    · exact (take_some w g m fs A n c hM hr hm hn size h hi).mono fun _ _ h2 => .inr (.inr ⟨by omega, hi, h2⟩)
    · have he : takeI fs size = fs.length := by unfold takeI at hi ⊢; omega
      exact (take_none w g m fs A n c hM size h he).mono fun _ _ h2 => .inr (.inl ⟨by omega, he, h2⟩)

set_option maxHeartbeats 1600000 in
theorem same_any (w : World) (K1 K2 : Nat → Prop) (A1 A2 : Option Addr) (n c1 c2 : Nat) (l : List X) (h1 : Xl K1 w A1 n c1 l) (h2 : Xl K2 w A2 n c2 l) : Calls Try.prog 16 #[.slice A1 n c1, .slice A2 n c2] w fun r w' => r = .returned (.bool true) ∧ Below w.heap.size w w' := by
  have e1 := h1.cap
  have e2 := h1.max
  have e3 := h2.cap
  have e4 := h2.max
  unfold maxLen at e2 e4
  have HX := Lib.hid (And.intro h1 (And.intro h2 h1.lenX))
  clear h1 h2
  go_enter Try.func16, Try.ntmps16
  go_wp2_with fail
  go_loopw [5] (fun i wr => ∃ (k : Nat), k ≤ n ∧ i = .int .i64 (k : Int) ∧ Below w.heap.size w wr) (fun i _ => n - (intOf i).toNat)
  case atStart => exact ⟨0, by omega, rfl, Below.refl _ _⟩
  case round =>
    obtain ⟨k, hk, rfl, hb⟩ := hrel
    have HQ := Lib.hid hb
    clear hb
    by_cases hkn : k < n
    · obtain ⟨b, off, rfl, hbs, hK, d0, d1⟩ := (HX.out.1.on HQ.out).getX hkn
      obtain ⟨b2, off2, rfl, hbs2, hK2, f0, f1⟩ := (HX.out.2.1.on HQ.out).getX hkn
      obtain ⟨x, y, hxy⟩ : ∃ x y : Int, l.getD k (0, 0) = (x, y) := ⟨_, _, rfl⟩
      rw [hxy] at d0 d1 f0 f1
      clear hxy
      go_wp2_with fail
      go_quiet (fail)
      go_wp2_with fail
      go_roundw
      case rel => exact ⟨k + 1, by omega, by go_num, on_trans HQ.out (below_drewN_refl wr nq)⟩
      case measure => simp [intOf]; omega
    · go_wp2_with fail
      go_ret
      exact ⟨rfl, HQ.out⟩
end Go.Proofs.Ytcgajomngcgchaa
