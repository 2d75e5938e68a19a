/-
  slices.IndexFunc and the map's find, over the contract of the function that is handed in.
-/
import Derived.Test.YtcgajomngcgchaaSmall
namespace Go.Proofs.Ytcgajomngcgchaa
open Go.RowKit

theorem findIdx_of {p : X → Bool} : ∀ {l : List X} {k : Nat}, k < l.length → (∀ j, j < k → p (l.getD j (0, 0)) = false) → p (l.getD k (0, 0)) = true → l.findIdx p = k
  | [], _, h, _, _ => by simp at h
  | x :: r, 0, _, _, h2 => by rw [List.findIdx_cons]; simp at h2; simp [h2]
  | x :: r, k + 1, h, h1, h2 => by
    have h0 := h1 0 (by omega)
    simp at h0
    rw [List.findIdx_cons, h0]
    have := findIdx_of (p := p) (l := r) (k := k) (by simpa using h) (fun j hj => by have := h1 (j + 1) (by omega); simpa using this) (by simpa using h2)
    simp [this]
theorem findIdx_none {p : X → Bool} : ∀ {l : List X}, (∀ j, j < l.length → p (l.getD j (0, 0)) = false) → l.findIdx p = l.length
  | [], _ => rfl
  | x :: r, h1 => by
    have h0 := h1 0 (by simp)
    simp at h0
    rw [List.findIdx_cons, h0]
    have := findIdx_none (p := p) (l := r) (fun j hj => by have := h1 (j + 1) (by simpa using hj); simpa using this)
    simp [this]
/-- what a predicate answers: a mark, and only new memory -/
def Told (p : X → Bool) (x : X) (w : World) (r : Ending) (w' : World) : Prop := r = .returned (.bool (p x)) ∧ Below w.heap.size w w'

/-- which is the first, or -1 -/
def idxF (p : X → Bool) (l : List X) : Int := if l.findIdx p < l.length then (l.findIdx p : Int) else -1

set_option maxHeartbeats 1600000 in
theorem indexFunc_any (G : FuncId) (caps : Array Value) (hcf : ∀ (args : Array Value) (w : World), (callFunc G args).run Try.prog w = .ok (.enter G args) w) (w0 : World) (K : Nat → Prop) (A : Option Addr) (n c : Nat) (l : List X) (hx : Xl K w0 A n c l) (p : X → Bool)
    (hstep : ∀ (x : X) (w1 : World), x ∈ l → Below w0.heap.size w0 w1 → Calls Try.prog G (#[.agg #[.int .i64 x.1, .int .i64 x.2]] ++ caps) w1 (Told p x w1)) :
    Calls Try.prog 45 #[.slice A n c, .func (.func G) #[] caps] w0 fun r w' => r = .returned (.int .i64 (idxF p l)) ∧ Below w0.heap.size w0 w' := by
  have hl := hx.lenX
  have hmax := hx.max
  have hcap := hx.cap
  unfold maxLen at hmax
  have HX := Lib.hid (And.intro hl (And.intro hx hstep))
  clear hl hx hstep
  go_enter Try.func45, Try.ntmps45
  go_wp2_with fail
  go_loopw [5, 8] (fun _ i wr => ∃ k : Nat, k ≤ n ∧ i = .int .i64 (k : Int) ∧ (∀ j, j < k → p (l.getD j (0, 0)) = false) ∧ Below w0.heap.size w0 wr) (fun _ i _ => n - (intOf i).toNat)
  case atStart => exact ⟨0, by omega, rfl, fun j hj => by omega, Below.refl _ _⟩
  case round =>
    obtain ⟨k, hk, rfl, hno, hb⟩ := hrel
    have HB := Lib.hid (And.intro hno hb)
    clear hno hb
    by_cases hkn : k < n
    · obtain ⟨b, off, rfl, hbs, hK, c1, c2⟩ := (HX.out.2.1.on HB.out.2).getX hkn
      have hmem : l.getD k (0, 0) ∈ l := by
        have hl := HX.out.1
        rw [List.getD_eq_getElem?_getD, List.getElem?_eq_getElem (show k < l.length by omega)]
        exact List.getElem_mem _
      have hT := HX.out.2.2 (l.getD k (0, 0)) wr hmem HB.out.2
      obtain ⟨x, y, hxy⟩ : ∃ x y : Int, l.getD k (0, 0) = (x, y) := ⟨_, _, rfl⟩
      cases hp : p (x, y)
      · rw [hxy] at hT c1 c2
        unfold Told at hT
        rw [hp] at hT
        have hpk : p (l.getD k (0, 0)) = false := by rw [hxy]; exact hp
        have HT := Lib.hid (And.intro hT hpk)
        clear hT hpk hp hxy hmem
        go_wp2_with fail
        refine Calls.mono HT.out.1 ?_
        rintro e w6 ⟨rfl, b6⟩
        have H6 := Lib.hid b6
        clear b6
        go_wp2_with fail
        go_roundw
        case rel => exact ⟨k + 1, by omega, by go_num, fun j hj => by
          rcases Nat.lt_or_ge j k with h | h
          · exact HB.out.1 j h
          · obtain rfl : j = k := by omega
            exact HT.out.2, on_trans HB.out.2 H6.out⟩
        case measure => simp [intOf]; omega
      · rw [hxy] at hT c1 c2
        unfold Told at hT
        rw [hp] at hT
        have hpk : p (l.getD k (0, 0)) = true := by rw [hxy]; exact hp
        have HT := Lib.hid (And.intro hT hpk)
        clear hT hpk hp hxy hmem
        go_wp2_with fail
        refine Calls.mono HT.out.1 ?_
        rintro e w6 ⟨rfl, b6⟩
        have H6 := Lib.hid b6
        clear b6
        go_wp2_with fail
        go_ret
        have hf := findIdx_of (by rw [HX.out.1]; exact hkn) HB.out.1 HT.out.2
        exact ⟨ret_int (by unfold idxF; rw [hf, HX.out.1, if_pos hkn]), on_trans HB.out.2 H6.out⟩
    · go_wp2_with fail
      go_ret
      obtain rfl : k = n := by omega
      have hf := findIdx_none (p := p) (l := l) (by rw [HX.out.1]; exact HB.out.1)
      exact ⟨ret_int (by unfold idxF; rw [hf, if_neg (by omega)]), HB.out.2⟩
/-- the map in memory: how many sectors, its list -/
structure Mm (w : World) (g : Nat) (n : Int) (fs : List X) (A : Option Addr) (k c : Nat) : Prop where
  box : Box w g 60 #[.int .i64 n, .slice A k c]
  row : Xl (fun b => b ≠ g) w A k c fs
section
variable {w w' : World} {g : Nat} {n : Int} {fs : List X} {A : Option Addr} {k c : Nat}
theorem Mm.on (h : Mm w g n fs A k c) (b : Below w.heap.size w w') : Mm w' g n fs A k c := ⟨h.box.on b, h.row.on b⟩
end
/-- find: how many are ahead of the first -/
theorem find_any (G : FuncId) (caps : Array Value) (hcf : ∀ (args : Array Value) (w : World), (callFunc G args).run Try.prog w = .ok (.enter G args) w) (w0 : World) (g : Nat) (n : Int) (A : Option Addr) (k c : Nat) (l : List X) (hm : Mm w0 g n l A k c) (p : X → Bool)
    (hstep : ∀ (x : X) (w1 : World), x ∈ l → Below w0.heap.size w0 w1 → Calls Try.prog G (#[.agg #[.int .i64 x.1, .int .i64 x.2]] ++ caps) w1 (Told p x w1)) :
    Calls Try.prog 34 #[.pointer (some ⟨g, 0, none⟩), .func (.func G) #[] caps] w0 fun r w' => r = .returned (.int .i64 (l.findIdx p : Int)) ∧ Below w0.heap.size w0 w' := by
  have HI := Lib.hid (indexFunc_any G caps hcf w0 _ A k c l hm.row p hstep)
  have c1 : w0.cell? ⟨g, 1, none⟩ = some (.slice A k c) := hm.box.cell 1
  have hl := hm.row.lenX
  have hb := hm.box
  have HM := Lib.hid (And.intro hl hb)
  clear hm hstep hl hb
  by_cases h : l.findIdx p < l.length
  · have e : idxF p l = (l.findIdx p : Int) := by unfold idxF; rw [if_pos h]
    have HI2 := HI.out
    rw [e] at HI2
    have HI3 := Lib.hid HI2
    clear HI2 e HI
    obtain ⟨z, hz⟩ : ∃ z, l.findIdx p = z := ⟨_, rfl⟩
    rw [hz] at HI3 ⊢
    clear hz h
    go_enter Try.func34, Try.ntmps34
    go_wp2_with (go_at_call 45; refine HI3.out.mono ?_; rintro e w6 ⟨rfl, b6⟩; have H6 := Lib.hid b6; clear b6)
    go_ret
    exact ⟨rfl, H6.out⟩
  · have e : idxF p l = -1 := by unfold idxF; rw [if_neg h]
    have e2 : l.findIdx p = k := by have := HM.out.1; have := List.findIdx_le_length (p := p) (xs := l); omega
    have HI2 := HI.out
    rw [e] at HI2
    have HI3 := Lib.hid HI2
    clear HI2 e HI h
    rw [e2]
    clear e2
    go_enter Try.func34, Try.ntmps34
    go_wp2_with (go_at_call 45; refine HI3.out.mono ?_; rintro e w6 ⟨rfl, b6⟩; have c6 : w6.cell? ⟨g, 1, none⟩ = some (.slice A k c) := ((HM.out.2.on b6).cell 1); have H6 := Lib.hid b6; clear b6)
    go_ret
    exact ⟨rfl, H6.out⟩
end Go.Proofs.Ytcgajomngcgchaa
