/-
  The contracts of the reference's Check.
-/
import Derived.Test.YthfeblkbkndbkaaDoorBack
import Derived.Lib.Bytes
namespace Go.Proofs.YthfeblkbkndbkaaDoor
open Go.RowKit

theorem str_inj {a b : List Int} (ha : Fit a) (hb : Fit b) (h : (strOfNums a).toList = (strOfNums b).toList) : a = b := by
  have h1 : a.map (fun n => UInt8.ofNat n.toNat) = b.map (fun n => UInt8.ofNat n.toNat) := by
    rw [Lib.strOfNums_toList, Lib.strOfNums_toList] at h
    exact h
  clear h
  induction a generalizing b with
  | nil => cases b with
    | nil => rfl
    | cons y b => simp at h1
  | cons x a ih => cases b with
    | nil => simp at h1
    | cons y b =>
      simp only [List.map_cons, List.cons.injEq] at h1
      have hx := ha x (by simp)
      have hy := hb y (by simp)
      have h2 := congrArg UInt8.toNat h1.1
      simp only [UInt8.toNat_ofNat'] at h2
      rw [ih (fun z hz => ha z (by simp [hz])) (fun z hz => hb z (by simp [hz])) h1.2, show x = y by omega]

/-- bytes are a text with its sum behind if, and only if, the sum is right -/
theorem sealed_iff {l : List Int} {m : Nat} (h : Fit l) (hl : l.length = m + 4) : ((sum (l.take m) : Nat) : Int) = le (l.drop m) ↔ sealed (l.take m) = l := by
  have h2 := told_iff (l.drop m) (sum (l.take m)) (h.drop m) (by rw [List.length_drop, hl]; omega) (sum32 (h.take m))
  rw [eq_comm, h2]
  unfold sealed
  constructor
  · intro e
    rw [← e, List.take_append_drop]
  · intro e
    have e3 := congrArg (List.drop m) e
    rw [List.drop_append_of_le_length (by rw [List.length_take]; omega), List.drop_of_length_le (by rw [List.length_take]; omega)] at e3
    rw [← e3]
    simp

set_option maxHeartbeats 400000 in
theorem refCheck_short (w : World) (A : Option Addr) (n c : Nat) (hn : n < 4) :
    Calls Tryd.prog 15 #[.slice A n c] w fun e w' => e = .returned (.tuple #[.slice none 0 0, .int .i64 3]) ∧ w = w' := by
  have hn2 : (n : Int) < 4 := by omega
  go_enter Tryd.func15, Tryd.ntmps15
  go_wp2
  go_ret2
  exact ⟨rfl, rfl⟩

set_option maxHeartbeats 800000 in
theorem refCheck_bad (w : World) (K : Nat → Prop) (A : Option Addr) (m c : Nat) (l : List Int) (h : Sl w K A (m + 4) c l) (hm : m ≤ 140737488351200) (hbad : sealed (l.take m) ≠ l) :
    Calls Tryd.prog 15 #[.slice A ((m + 4 : Nat)) c] w fun e w' => e = .returned (.tuple #[.slice none 0 0, .int .i64 8]) ∧ Below w.heap.size w w' := by
  obtain ⟨b, off, rfl⟩ : ∃ b off, A = some ⟨b, off, none⟩ := by
    obtain ⟨b, off, e, _⟩ := h.bts.at_ (by rw [h.len]; omega)
    exact ⟨b, off, e⟩
  have hcap := h.cap
  have hmax := h.max
  unfold maxLen at hmax
  have H := Lib.hid h
  obtain ⟨S, hS⟩ : ∃ S, S = strOfNums (sealed (l.take m)) := ⟨_, rfl⟩
  obtain ⟨T, hT⟩ : ∃ T, T = strOfNums l := ⟨_, rfl⟩
  have hST : (S.toList == T.toList) = false := by
    rw [beq_eq_false_iff_ne]
    rw [hS, hT]
    intro e
    exact hbad (str_inj (sealed_fit (h.bts.fit.take m)) h.bts.fit e)
  have HS := Lib.hid (And.intro hS hT)
  have cv0 := sl_str h.drew
  rw [← hT] at cv0
  clear h hS hT hbad
  have h4 : ¬ ((m + 4 : Nat) : Int) < 4 := by omega
  go_enter Tryd.func15, Tryd.ntmps15
  go_wp2_with fail
  have T1 := Lib.hid (H.out.head (m := m) (by omega))
  go_region_with (first
    | (go_at_call 17
       refine (refSeal_any w.drew _ _ m c _ T1.out.drew (by omega)).mono ?_
       rintro e w1 ⟨A1, c1, rfl, s1, b1⟩
       have cv1 := sl_str s1
       have cv2 := sl_str ((H.out.drew).on b1)
       rw [← HS.out.1] at cv1
       rw [← HS.out.2] at cv2
       have F := Lib.hid (on_trans (on_drew w) b1)
       clear s1 b1))
  all_goals
    go_wp2
    go_ret2
    exact ⟨rfl, F.out⟩

set_option maxHeartbeats 800000 in
theorem refCheck_good (w : World) (K : Nat → Prop) (A : Option Addr) (m c : Nat) (l : List Int) (h : Sl w K A (m + 4) c l) (hm : m ≤ 140737488351200) (hok : sealed (l.take m) = l) :
    Calls Tryd.prog 15 #[.slice A ((m + 4 : Nat)) c] w fun e w' => e = .returned (.tuple #[.slice A m c, .int .i64 0]) ∧ Below w.heap.size w w' := by
  obtain ⟨b, off, rfl⟩ : ∃ b off, A = some ⟨b, off, none⟩ := by
    obtain ⟨b, off, e, _⟩ := h.bts.at_ (by rw [h.len]; omega)
    exact ⟨b, off, e⟩
  have hcap := h.cap
  have hmax := h.max
  unfold maxLen at hmax
  have H := Lib.hid h
  obtain ⟨S, hS⟩ : ∃ S, S = strOfNums (sealed (l.take m)) := ⟨_, rfl⟩
  have hT : S = strOfNums l := by rw [hS, hok]
  have HS := Lib.hid (And.intro hS hT)
  have cv0 := sl_str h.drew
  rw [← hT] at cv0
  clear h hS hT hok
  have h4 : ¬ ((m + 4 : Nat) : Int) < 4 := by omega
  go_enter Tryd.func15, Tryd.ntmps15
  go_wp2_with fail
  have T1 := Lib.hid (H.out.head (m := m) (by omega))
  go_region_with (first
    | (go_at_call 17
       refine (refSeal_any w.drew _ _ m c _ T1.out.drew (by omega)).mono ?_
       rintro e w1 ⟨A1, c1, rfl, s1, b1⟩
       have cv1 := sl_str s1
       have cv2 := sl_str ((H.out.drew).on b1)
       rw [← HS.out.1] at cv1
       rw [← HS.out.2] at cv2
       have F := Lib.hid (on_trans (on_drew w) b1)
       clear s1 b1))
  all_goals
    go_wp2
    go_ret2
    exact ⟨rfl, F.out⟩

end Go.Proofs.YthfeblkbkndbkaaDoor
