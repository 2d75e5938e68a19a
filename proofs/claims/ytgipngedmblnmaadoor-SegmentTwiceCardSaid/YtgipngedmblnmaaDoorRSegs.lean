/-
  The contracts of reader and readSegments. The contract of readSegments.
-/
import Derived.Test.YtgipngedmblnmaaDoorRBody
import Derived.WalkMore
namespace Go.Proofs.YtgipngedmblnmaaDoor
open Go.RowKit

/-- the function value that reads bodies behind a marker code -/
def readerF (m : Int) (gv : Nat) : Value :=
  if m = 219 then .func (.func 74) #[] #[.pointer (some ⟨gv, 0, none⟩)] else if m = 196 then .func (.func 76) #[] #[.pointer (some ⟨gv, 0, none⟩)] else if m = 192 then .func (.func 78) #[] #[.pointer (some ⟨gv, 0, none⟩)] else
  if m = 221 then .func (.func 80) #[] #[.pointer (some ⟨gv, 0, none⟩)] else if (224 ≤ m ∧ m ≤ 239) ∨ m = 254 then .func (.func 81) #[] #[] else .nilFunc
set_option maxHeartbeats 1600000 in
theorem reader_any (w : World) (gk : Nat) (m : Int) : Calls Tryd.prog 64 #[.int .i64 m, .pointer (some ⟨gk, 0, none⟩)] w fun e w' => Below w.heap.size w w' ∧ ∃ gv, w.heap.size ≤ gv ∧ Box w' gv 75 #[.pointer (some ⟨gk, 0, none⟩)] ∧ e = .returned (readerF m gv) := by
  have hmf : ∀ (fn : Fn) (first cap : Array Value) (w : World), (Instr.makeFunc fn first cap).run Tryd.prog w = .ok (.func fn first cap) w := fun _ _ _ _ => rfl
  have hd : ∀ v, readerF m w.heap.size = v → Hid (readerF m w.heap.size = v) := fun v h => Lib.hid h
  have hc : (m = 219) ∨ (m = 196) ∨ (m = 192) ∨ (m = 221) ∨ (m = 254) ∨ (224 ≤ m ∧ m ≤ 239) ∨ (m ≠ 219 ∧ m ≠ 196 ∧ m ≠ 192 ∧ m ≠ 221 ∧ m ≠ 254 ∧ m < 224) ∨ (m ≠ 219 ∧ m ≠ 196 ∧ m ≠ 192 ∧ m ≠ 221 ∧ m ≠ 254 ∧ 239 < m) := by omega
  rcases hc with rfl | rfl | rfl | rfl | rfl | ⟨a, b⟩ | ⟨n1, n2, n3, n4, n6, a⟩ | ⟨n1, n2, n3, n4, n6, a⟩
  · have E := hd (.func (.func 74) #[] #[.pointer (some ⟨w.heap.size, 0, none⟩)]) rfl
    clear hd
    go_enter Tryd.func64, Tryd.ntmps64
    go_wp2_with fail
    go_ret
    exact ⟨on_alloc _ _, w.heap.size, Nat.le_refl _, Box.made _ _ _, by rw [E.out]; rfl⟩
  · have E := hd (.func (.func 76) #[] #[.pointer (some ⟨w.heap.size, 0, none⟩)]) rfl
    clear hd
    go_enter Tryd.func64, Tryd.ntmps64
    go_wp2_with fail
    go_ret
    exact ⟨on_alloc _ _, w.heap.size, Nat.le_refl _, Box.made _ _ _, by rw [E.out]; rfl⟩
  · have E := hd (.func (.func 78) #[] #[.pointer (some ⟨w.heap.size, 0, none⟩)]) rfl
    clear hd
    go_enter Tryd.func64, Tryd.ntmps64
    go_wp2_with fail
    go_ret
    exact ⟨on_alloc _ _, w.heap.size, Nat.le_refl _, Box.made _ _ _, by rw [E.out]; rfl⟩
  · have E := hd (.func (.func 80) #[] #[.pointer (some ⟨w.heap.size, 0, none⟩)]) rfl
    clear hd
    go_enter Tryd.func64, Tryd.ntmps64
    go_wp2_with fail
    go_ret
    exact ⟨on_alloc _ _, w.heap.size, Nat.le_refl _, Box.made _ _ _, by rw [E.out]; rfl⟩
  · have E := hd (.func (.func 81) #[] #[]) (by unfold readerF; rw [if_neg (by decide), if_neg (by decide), if_neg (by decide), if_neg (by decide), if_pos (by decide)])
    clear hd
    go_enter Tryd.func64, Tryd.ntmps64
    go_wp2_with fail
    go_ret
    exact ⟨on_alloc _ _, w.heap.size, Nat.le_refl _, Box.made _ _ _, by rw [E.out]; rfl⟩
  · have E := hd (.func (.func 81) #[] #[]) (by unfold readerF; rw [if_neg (by omega), if_neg (by omega), if_neg (by omega), if_neg (by omega), if_pos (by omega)])
    have n1 : (m == 219) = false := by simp; omega
    have n2 : (m == 196) = false := by simp; omega
    have n3 : (m == 192) = false := by simp; omega
    have n4 : (m == 221) = false := by simp; omega
    clear hd
    go_enter Tryd.func64, Tryd.ntmps64
    go_wp2_with fail
    go_ret
    exact ⟨on_alloc _ _, w.heap.size, Nat.le_refl _, Box.made _ _ _, by rw [E.out]; rfl⟩
  · have E := hd .nilFunc (by unfold readerF; rw [if_neg n1, if_neg n2, if_neg n3, if_neg n4, if_neg (by omega)])
    have n1 : (m == 219) = false := by simpa using n1
    have n2 : (m == 196) = false := by simpa using n2
    have n3 : (m == 192) = false := by simpa using n3
    have n4 : (m == 221) = false := by simpa using n4
    have n6 : (m == 254) = false := by simpa using n6
    clear hd
    go_enter Tryd.func64, Tryd.ntmps64
    go_wp2_with fail
    go_ret
    exact ⟨on_alloc _ _, w.heap.size, Nat.le_refl _, Box.made _ _ _, by rw [E.out]; rfl⟩
  · have E := hd .nilFunc (by unfold readerF; rw [if_neg n1, if_neg n2, if_neg n3, if_neg n4, if_neg (by omega)])
    have n1 : (m == 219) = false := by simpa using n1
    have n2 : (m == 196) = false := by simpa using n2
    have n3 : (m == 192) = false := by simpa using n3
    have n4 : (m == 221) = false := by simpa using n4
    have n6 : (m == 254) = false := by simpa using n6
    have D := decide_eq_false (show ¬ m ≤ 239 by omega)
    clear hd
    go_enter Tryd.func64, Tryd.ntmps64
    go_wp2_with fail
    go_ret
    exact ⟨on_alloc _ _, w.heap.size, Nat.le_refl _, Box.made _ _ _, by rw [E.out]; rfl⟩
/-- known marks, and no scan's, are read -/
theorem calls74 (args : Array Value) (w : World) : (callFunc 74 args).run Tryd.prog w = .ok (.enter 74 args) w := by kernel_rfl
theorem calls76 (args : Array Value) (w : World) : (callFunc 76 args).run Tryd.prog w = .ok (.enter 76 args) w := by kernel_rfl
theorem calls78 (args : Array Value) (w : World) : (callFunc 78 args).run Tryd.prog w = .ok (.enter 78 args) w := by kernel_rfl
theorem calls80 (args : Array Value) (w : World) : (callFunc 80 args).run Tryd.prog w = .ok (.enter 80 args) w := by kernel_rfl
theorem calls81 (args : Array Value) (w : World) : (callFunc 81 args).run Tryd.prog w = .ok (.enter 81 args) w := by kernel_rfl
theorem calls61 (args : Array Value) (w : World) : (callFunc 61 args).run Tryd.prog w = .ok (.enter 61 args) w := by kernel_rfl
theorem reads_of {lo gk gv : Nat} {K : Kv} {X : Nat → Value} {m : Int} (hm : MarkOk m) (h218 : m ≠ 218) (hN3 : 0 ≤ K.N 3 ∧ K.N 3 ≤ 65535) : ∃ G caps, readerF m gv = .func (.func G) #[] caps ∧ ReadsBy lo gk gv G caps K X (fun b => rdBody m b K) := by
  rcases hm with rfl | rfl | rfl | rfl | rfl | rfl | hm
  · exact ⟨74, _, rfl, calls74, fun w g s A n c l h hv => by
      have e : rdBody 219 l K = rdSteps (l.length + 1) l K := by unfold rdBody; exact if_pos rfl
      rw [e]
      exact reader1_any lo w g s gk gv A n c l K X h hv⟩
  · exact ⟨76, _, rfl, calls76, fun w g s A n c l h hv => by
      have e : rdBody 196 l K = rdSpecs (l.length + 1) l K := by unfold rdBody; rw [if_neg (by decide)]; exact if_pos rfl
      rw [e]
      exact reader2_any lo w g s gk gv A n c l K X h hv⟩
  · exact ⟨78, _, rfl, calls78, fun w g s A n c l h hv => by
      have e : rdBody 192 l K = rdFrame l K := by unfold rdBody; rw [if_neg (by decide), if_neg (by decide)]; exact if_pos rfl
      rw [e]
      exact reader3_any lo w g s gk gv A n c l K X h hv hN3⟩
  · exact ⟨80, _, rfl, calls80, fun w g s A n c l h hv => by
      have e : rdBody 221 l K = rdRest l K := by unfold rdBody; rw [if_neg (by decide), if_neg (by decide), if_neg (by decide), if_neg (by decide)]; exact if_pos rfl
      rw [e]
      exact reader4_any lo w g s gk gv A n c l K X h hv⟩
  · exact absurd rfl h218
  · exact ⟨81, _, rfl, calls81, fun w g s A n c l h hv => by
      have e : rdBody 254 l K = some K := by unfold rdBody; rw [if_neg (by decide), if_neg (by decide), if_neg (by decide), if_neg (by decide), if_neg (by decide)]
      rw [e]
      exact reader5_any lo w g s gk A n c l K X h⟩
  · refine ⟨81, #[], ?_, calls81, fun w g s A n c l h hv => ?_⟩
    · unfold readerF
      rw [if_neg (by omega), if_neg (by omega), if_neg (by omega), if_neg (by omega), if_pos (by omega)]
    · have e : rdBody m l K = some K := by unfold rdBody; rw [if_neg (by omega), if_neg (by omega), if_neg (by omega), if_neg (by omega), if_neg (by omega)]
      rw [e]
      exact reader5_any lo w g s gk A n c l K X h
theorem reader_none {m : Int} (hm : ¬ MarkOk m) (gv : Nat) : readerF m gv = .nilFunc := by
  unfold MarkOk at hm
  unfold readerF
  rw [if_neg (by omega), if_neg (by omega), if_neg (by omega), if_neg (by omega), if_neg (by omega)]

/-- what bodies leave as it is -/
def Still (K K' : Kv) : Prop := K'.F 7 = K.F 7 ∧ K'.F 8 = K.F 8 ∧ K'.N 4 = K.N 4
theorem rdSteps_still : ∀ {f : Nat} {b : List Int} {K K' : Kv}, Fit b → rdSteps f b K = some K' → Still K K' ∧ K'.N 3 = K.N 3
  | 0, _, _, _, _, h => by cases h
  | f + 1, b, K, K', hf, h => by
    rw [rdSteps] at h
    split at h
    · cases h; exact ⟨⟨rfl, rfl, rfl⟩, rfl⟩
    · split at h
      · cases h
      · rename_i _ hc
        split at h
        · have ih := rdSteps_still (hf.drop 65) h
          have h0 := hf.getD 0
          have e7 : (7 : Nat) ≠ (b.getD 0 0).toNat := by omega
          have e8 : (8 : Nat) ≠ (b.getD 0 0).toNat := by omega
          obtain ⟨⟨i1, i2, i3⟩, i4⟩ := ih
          refine ⟨⟨?_, ?_, ?_⟩, ?_⟩
          · rw [i1]; simp only [Kv.setF]; rw [if_neg e7]; rfl
          · rw [i2]; simp only [Kv.setF]; rw [if_neg e8]; rfl
          · rw [i3]; rfl
          · rw [i4]; rfl
        · cases h
theorem rdSpecs_still : ∀ {f : Nat} {b : List Int} {K K' : Kv}, Fit b → rdSpecs f b K = some K' → Still K K' ∧ K'.N 3 = K.N 3
  | 0, _, _, _, _, h => by cases h
  | f + 1, b, K, K', hf, h => by
    rw [rdSpecs] at h
    split at h
    · cases h; exact ⟨⟨rfl, rfl, rfl⟩, rfl⟩
    · split at h
      · cases h
      · split at h
        · cases h
        · split at h
          · cases h
          · split at h
            · cases h
            · rename_i _ _ _ _ hc
              have ih := rdSpecs_still (hf.drop _) h
              have h0 := hf.getD 0
              have e7 : (7 : Nat) ≠ (2 + 2 * (b.getD 0 0 / 16) + b.getD 0 0 % 16).toNat := by omega
              have e8 : (8 : Nat) ≠ (2 + 2 * (b.getD 0 0 / 16) + b.getD 0 0 % 16).toNat := by omega
              obtain ⟨⟨i1, i2, i3⟩, i4⟩ := ih
              refine ⟨⟨?_, ?_, ?_⟩, ?_⟩
              · rw [i1]; simp only [Kv.setF]; rw [if_neg e7]; rfl
              · rw [i2]; simp only [Kv.setF]; rw [if_neg e8]; rfl
              · rw [i3]; rfl
              · rw [i4]; rfl
theorem frame_still (K : Kv) (b : List Int) (k : Int) : Still K (K.frame b k) ∧ (K.frame b k).N 3 = K.N 3 := ⟨⟨rfl, rfl, rfl⟩, rfl⟩
theorem rdBody_still {m : Int} {b : List Int} {K K' : Kv} (hf : Fit b) (hm : m ≠ 218) (hN : 0 ≤ K.N 3 ∧ K.N 3 ≤ 65535) (h : rdBody m b K = some K') : Still K K' ∧ 0 ≤ K'.N 3 ∧ K'.N 3 ≤ 65535 := by
  unfold rdBody at h
  split at h
  · obtain ⟨h1, h2⟩ := rdSteps_still hf h
    exact ⟨h1, by rw [h2]; exact hN⟩
  · split at h
    · obtain ⟨h1, h2⟩ := rdSpecs_still hf h
      exact ⟨h1, by rw [h2]; exact hN⟩
    · split at h
      · unfold rdFrame at h
        have fin : ∀ k, some (K.frame b k) = some K' → Still K K' ∧ 0 ≤ K'.N 3 ∧ K'.N 3 ≤ 65535 := fun k e => by
          cases e
          obtain ⟨h1, h2⟩ := frame_still K b k
          exact ⟨h1, by rw [h2]; exact hN⟩
        split at h
        · cases h
        · split at h
          · exact fin _ h
          · split at h
            · exact fin _ h
            · split at h
              · exact fin _ h
              · split at h
                · exact fin _ h
                · cases h
      · split at h
        · split at h
          · cases h
            have h0 := hf.getD 0
            have h1 := hf.getD 1
            refine ⟨⟨rfl, rfl, rfl⟩, ?_⟩
            show 0 ≤ 256 * b.getD 0 0 + b.getD 1 0 ∧ _
            constructor
            · omega
            · show 256 * b.getD 0 0 + b.getD 1 0 ≤ 65535
              omega
          · cases h
        · cases h
          exact ⟨⟨rfl, rfl, rfl⟩, hN⟩
theorem segF_some {l : List Int} {p : Nat} {rb : List Int → Option Kv} {K' : Kv} (h : (segF l p rb).1 = some K') : segF l p rb = (some K', 0) ∧ 2 ≤ 256 * l.getD p 0 + l.getD (p + 1) 0 ∧ rb ((l.drop (p + 2)).take (256 * l.getD p 0 + l.getD (p + 1) 0 - 2).toNat) = some K' := by
  unfold segF at h ⊢
  split at h
  · cases h
  · split at h
    · cases h
    · split at h
      · cases h
      · split at h
        · cases h
        · rename_i h1 h2 h3 _ K1 e
          cases h
          rw [if_neg h1, if_neg h2, if_neg h3, e]
          exact ⟨rfl, by omega, rfl⟩
theorem rd218 (b : List Int) (K : Kv) : rdBody 218 b K = (rdScan' b K).map (·.setF 7 true) := by
  unfold rdBody rdScan rdScan'
  rw [if_neg (by decide), if_neg (by decide), if_neg (by decide), if_pos rfl]
  split <;> rfl
theorem segF_218 (l : List Int) (p : Nat) (K : Kv) : segF l p (fun b => rdBody 218 b K) = ((segF l p (fun b => rdScan' b K)).1.map (·.setF 7 true), (segF l p (fun b => rdScan' b K)).2) := by
  unfold segF
  simp only [rd218]
  split
  · rfl
  · split
    · rfl
    · split
      · rfl
      · cases rdScan' ((l.drop (p + 2)).take (256 * l.getD p 0 + l.getD (p + 1) 0 - 2).toNat) K <;> rfl
/-- one round of the segments -/
theorem rdLoop_step (f : Nat) (l : List Int) (p : Nat) (K : Kv) (hf : Fit l) (hp : p ≤ l.length) : rdLoop (f + 1) (l.drop p) p K =
    if l.length < p + 1 then (kz, 3) else if l.getD p 0 ≠ 255 then (kz, 7) else if l.length < p + 2 then (kz, 3) else
    if l.getD (p + 1) 0 = 217 then (if p + 2 < l.length then (kz, 5) else (K.setF 8 true, 0)) else if ¬ MarkOk (l.getD (p + 1) 0) then (kz, 7) else
    match segF l (p + 2) (fun b => rdBody (l.getD (p + 1) 0) b K) with
    | (none, e) => (kz, e)
    | (some K', _) => if K'.F 7 then (K'.setN 4 (p + 2 + (256 * l.getD (p + 2) 0 + l.getD (p + 3) 0)), 0) else rdLoop f (l.drop (p + (2 + (256 * l.getD (p + 2) 0 + l.getD (p + 3) 0)).toNat)) (p + 2 + (256 * l.getD (p + 2) 0 + l.getD (p + 3) 0)) K' := by
  have g : ∀ i, (l.drop p).getD i 0 = l.getD (p + i) 0 := fun i => by rw [List.getD_eq_getElem?_getD, List.getElem?_drop, List.getD_eq_getElem?_getD]
  have g0 : (l.drop p).getD 0 0 = l.getD p 0 := g 0
  have f2 := hf.getD (p + 2)
  have f3 := hf.getD (p + 3)
  rw [rdLoop, g0, g 1, g 2, g 3, List.length_drop]
  unfold segF
  rw [show p + 2 + 1 = p + 3 by omega, show p + 2 + 2 = p + 4 by omega]
  by_cases h1 : l.length < p + 1
  · rw [if_pos h1, if_pos (by omega)]
  rw [if_neg h1, if_neg (show ¬ l.length - p < 1 by omega)]
  by_cases h2 : l.getD p 0 ≠ 255
  · rw [if_pos h2, if_pos h2]
  rw [if_neg h2, if_neg h2]
  by_cases h3 : l.length < p + 2
  · rw [if_pos h3, if_pos (by omega)]
  rw [if_neg h3, if_neg (show ¬ l.length - p < 2 by omega)]
  by_cases h4 : l.getD (p + 1) 0 = 217
  · rw [if_pos h4, if_pos h4]
    by_cases h5 : p + 2 < l.length
    · rw [if_pos h5, if_pos (by omega)]
    · rw [if_neg h5, if_neg (by omega)]
  rw [if_neg h4, if_neg h4]
  by_cases h6 : ¬ MarkOk (l.getD (p + 1) 0)
  · rw [if_pos h6, if_pos h6]
  rw [if_neg h6, if_neg h6]
  by_cases h7 : l.length < p + 4
  · rw [if_pos h7, if_pos (by omega)]
  rw [if_neg h7, if_neg (show ¬ l.length - p < 4 by omega)]
  by_cases h8 : 256 * l.getD (p + 2) 0 + l.getD (p + 3) 0 < 2
  · rw [if_pos h8, if_pos h8]
  rw [if_neg h8, if_neg h8]
  by_cases h9 : (l.length : Int) < (p + 2 : Nat) + (256 * l.getD (p + 2) 0 + l.getD (p + 3) 0)
  · rw [if_pos h9, if_pos (by omega)]
  rw [if_neg h9, if_neg (by omega), List.drop_drop]
  dsimp only
  cases rdBody (l.getD (p + 1) 0) ((l.drop (p + 4)).take (256 * l.getD (p + 2) 0 + l.getD (p + 3) 0 - 2).toNat) K with
  | none => rfl
  | some K' =>
    dsimp only
    first | rfl | rw [List.drop_drop]
end Go.Proofs.YtgipngedmblnmaaDoor

namespace Go.Proofs.YtgipngedmblnmaaDoor
open Go.RowKit

/-- how things stand between segments -/
structure Sg (lo : Nat) (w wr : World) (g s gk gv : Nat) (A : Option Addr) (n c : Nat) (l : List Int) (p : Nat) (K : Kv) (X : Nat → Value) : Prop where
  rd : Rd lo w wr g s gk A n c l p K X
  box : Box wr gv 75 #[.pointer (some ⟨gk, 0, none⟩)]
  f7 : K.F 7 = false
  n3 : 0 ≤ K.N 3 ∧ K.N 3 ≤ 65535
/-- the segments were read -/
def LoopE (lo : Nat) (w : World) (g s gk : Nat) (A : Option Addr) (n c : Nat) (l : List Int) (r : Kv × Int) (e : Ending) (w' : World) : Prop :=
  Ended (fun i => i = gk ∨ i = g) s (fun k => k ≠ 0 ∧ r = (kz, k)) (fun w' => r.2 = 0 ∧ ∃ X' p', Rd lo w w' g s gk A n c l p' r.1 X') w e w'
theorem kep_swap {w w' : World} {g gk : Nat} (h : Kept (fun i => i = g ∨ i = gk) w w') : Kept (fun i => i = gk ∨ i = g) w w' := h.mono (fun _ _ e => e.symm)
theorem gone {S : Nat → Prop} {a w w' : World} (h : Kept S a w) (k : Kept (fun _ => False) w w') : Kept S a w' := h.trans k (fun _ _ e => absurd e (fun e => e))

set_option maxRecDepth 10000 in
set_option maxHeartbeats 6400000 in
theorem readSegments_any (lo : Nat) (w : World) (g s gk : Nat) (A : Option Addr) (n c : Nat) (l : List Int) (p0 : Nat) (K : Kv) (X : Nat → Value) (f0 : Nat) (hf0 : n - p0 < f0) (h7 : K.F 7 = false) (hN3 : 0 ≤ K.N 3 ∧ K.N 3 ≤ 65535) (h : Rd lo w w g s gk A n c l p0 K X) :
    Calls Tryd.prog 41 #[.pointer (some ⟨g, 0, none⟩), .pointer (some ⟨gk, 0, none⟩)] w (LoopE lo w g s gk A n c l (rdLoop f0 (l.drop p0) p0 K)) := by
  have hmf : ∀ (fn : Fn) (first cap : Array Value) (w : World), (Instr.makeFunc fn first cap).run Tryd.prog w = .ok (.func fn first cap) w := fun _ _ _ _ => rfl
  obtain ⟨R, hR⟩ : ∃ R, R = rdLoop f0 (l.drop p0) p0 K := ⟨_, rfl⟩
  rw [← hR]
  obtain ⟨gv, hgv⟩ : ∃ gv, gv = w.heap.size := ⟨_, rfl⟩
  obtain ⟨w1, hw1⟩ : ∃ x, w.alloc (.cells #[.pointer (some ⟨gk, 0, none⟩)] 75) = x := ⟨_, rfl⟩
  have b1 : Box w1 gv 75 #[.pointer (some ⟨gk, 0, none⟩)] := by rw [hgv, ← hw1]; exact Box.made _ _ _
  have H1 := Lib.hid (And.intro hw1 (And.intro hgv (show Sg lo w w1 g s gk gv A n c l p0 K X from ⟨h.on (by rw [← hw1]; exact on_alloc _ _), b1, h7, hN3⟩)))
  have HR := Lib.hid (And.intro hR (And.intro hf0 h.len))
  clear h h7 hN3 hR hgv hw1 b1 hf0
  go_enter Tryd.func41, Tryd.ntmps41
  go_wp2_with fail
  go_step3
  go_wp2_with fail
  go_step3
  go_wp2_with fail
  rw [H1.out.1, ← H1.out.2.1]
  go_loopw [4] (fun _ wr => ∃ (f p : Nat) (K' : Kv) (X' : Nat → Value), n - p < f ∧ rdLoop f (l.drop p) p K' = R ∧ Sg lo w wr g s gk gv A n c l p K' X') (fun _ wr => leftOf n g wr)
  case atStart => exact ⟨f0, p0, K, X, HR.out.2.1, HR.out.1.symm, H1.out.2.2⟩
  case round =>
    obtain ⟨f, p, K', X', hf, hRl, hS⟩ := hrel
    obtain ⟨f, rfl⟩ : ∃ f', f = f' + 1 := ⟨f - 1, by omega⟩
    have hlen := HR.out.2.2
    have hle := hS.rd.le
    rw [rdLoop_step f l p K' hS.rd.sl.bts.fit (by omega), hlen] at hRl
    have hleft : leftOf n g wr = n - p := hS.rd.left
    have HS := Lib.hid hS
    have HRl := Lib.hid hRl
    have HLf := Lib.hid (And.intro hleft (And.intro hf hle))
    clear hS hRl hleft hf
    by_cases h1 : n < p + 1
    · have hr : R = (kz, 3) := by rw [← HRl.out, if_pos h1]
      have HRn := Lib.hid hr
      have HN := Lib.hid (num1_up lo wr g s gk A n c l p K' X' HS.out.rd.fresh (by omega))
      clear hr
      go_wp2_with fail
      refine Calls.mono HN.out ?_
      rintro e w2 ⟨rfl, k2⟩
      exact ⟨rfl, gone (kep_swap HS.out.rd.kep) k2, .inr ⟨3, ⟨by decide, HRn.out⟩, rfl⟩⟩
    have HN := Lib.hid (num1 lo wr g s gk A n c l p K' X' HS.out.rd.fresh (by omega))
    obtain ⟨z, hz⟩ : ∃ z, z = l.getD p 0 := ⟨_, rfl⟩
    rw [← hz] at HN
    have hRl := HRl.out
    rw [if_neg h1, ← hz] at hRl
    have HRl := Lib.hid hRl
    clear hRl hz
    go_wp2_with fail
    refine Calls.mono HN.out ?_
    rintro e w2 ⟨rfl, r2, k2⟩
    have H2 := Lib.hid (show Sg lo w w2 g s gk gv A n c l (p + 1) K' X' from ⟨HS.out.rd.trans r2, k2.box HS.out.box (by have := HS.out.box.apart HS.out.rd.own (by decide); omega), HS.out.f7, HS.out.n3⟩)
    have HQ := Lib.hid (And.intro (require_yes w2 g 7) (require_no w2 g s A n c (p + 1) 7 (by decide) H2.out.rd.cur))
    clear HN r2 k2
    by_cases hz : ¬ z = 255
    · have hr : R = (kz, 7) := by rw [← HRl.out, if_pos hz]
      have HRn := Lib.hid hr
      have hz' : (z == 255) = false := by simpa using hz
      clear hr hz
      go_wp2_with fail
      refine Calls.mono HQ.out.2 ?_
      rintro e w3 ⟨rfl, k3⟩
      exact ⟨rfl, gone (kep_swap H2.out.rd.kep) k3, .inr ⟨7, ⟨by decide, HRn.out⟩, rfl⟩⟩
    have hz' : z = 255 := by omega
    subst hz'
    have hRl := HRl.out
    rw [if_neg hz] at hRl
    have HRl := Lib.hid hRl
    clear hRl hz
    go_wp2_with fail
    refine Calls.mono HQ.out.1 ?_
    rintro e w3 ⟨rfl, rfl⟩
    clear HQ
    by_cases h2 : n < p + 2
    · have hr : R = (kz, 3) := by rw [← HRl.out, if_pos h2]
      have HRn := Lib.hid hr
      have HN := Lib.hid (num1_up lo w2 g s gk A n c l (p + 1) K' X' H2.out.rd.fresh (by omega))
      clear hr
      go_wp2_with fail
      refine Calls.mono HN.out ?_
      rintro e w3 ⟨rfl, k3⟩
      exact ⟨rfl, gone (kep_swap H2.out.rd.kep) k3, .inr ⟨3, ⟨by decide, HRn.out⟩, rfl⟩⟩
    have HN := Lib.hid (num1 lo w2 g s gk A n c l (p + 1) K' X' H2.out.rd.fresh (by omega))
    obtain ⟨m, hm⟩ : ∃ m, m = l.getD (p + 1) 0 := ⟨_, rfl⟩
    rw [← hm] at HN
    have hRl := HRl.out
    rw [if_neg h2, ← hm] at hRl
    have HRl := Lib.hid hRl
    clear hRl hm
    go_wp2_with fail
    refine Calls.mono HN.out ?_
    rintro e w4 ⟨rfl, r4, k4⟩
    have H4 := Lib.hid (show Sg lo w w4 g s gk gv A n c l (p + 1 + 1) K' X' from ⟨H2.out.rd.trans r4, k4.box H2.out.box (by have := H2.out.box.apart H2.out.rd.own (by decide); omega), H2.out.f7, H2.out.n3⟩)
    clear HN r4 k4
    have cv : w4.cell? ⟨gv, 0, none⟩ = some (.pointer (some ⟨gk, 0, none⟩)) := H4.out.box.cell 0
    by_cases h217 : m = 217
    · subst h217
      have hRl := HRl.out
      rw [if_pos rfl] at hRl
      have HRl := Lib.hid hRl
      clear hRl
      by_cases h3 : p + 2 < n
      · have hr : R = (kz, 5) := by rw [← HRl.out, if_pos h3]
        have HRn := Lib.hid hr
        have HN := Lib.hid (end_up lo w4 g s gk A n c l (p + 1 + 1) K' X' H4.out.rd.fresh (by omega))
        clear hr
        go_wp2_with fail
        refine Calls.mono HN.out ?_
        rintro e w5 ⟨rfl, k5⟩
        exact ⟨rfl, gone (kep_swap H4.out.rd.kep) k5, .inr ⟨5, ⟨by decide, HRn.out⟩, rfl⟩⟩
      have hr : R = (K'.setF 8 true, 0) := by rw [← HRl.out, if_neg h3]
      have HRn := Lib.hid hr
      have HN := Lib.hid (end_is lo w4 g s gk A n c l (p + 1 + 1) K' X' H4.out.rd.fresh (by omega))
      clear hr
      go_wp2_with fail
      refine Calls.mono HN.out ?_
      rintro e w5 ⟨rfl, b5⟩
      have H5 := Lib.hid (And.intro (H4.out.rd.on b5) (H4.out.box.on b5))
      have cv5 : w5.cell? ⟨gv, 0, none⟩ = some (.pointer (some ⟨gk, 0, none⟩)) := H5.out.2.cell 0
      have c8 := H5.out.1.kv.kvF (k := 8) (by omega)
      have f8 := H5.out.1.kv.free (196 + 8)
      obtain ⟨old, hold⟩ : ∃ o, o = K'.F 8 := ⟨_, rfl⟩
      rw [← hold] at c8
      clear b5 HN hold cv
      go_wp2_with fail
      go_end0
      have R6 := H5.out.1.known ((Kept.refl (fun j => j = gk) w5).setCell (p := ⟨gk, 196 + 8, none⟩) (fun _ => rfl) (.bool true)) (H5.out.1.kv.putF (i := 8) (by omega) true) (H5.out.1.kn.setF 8 true)
      refine ⟨kep_swap R6.kep, .inl ⟨rfl, by rw [HRn.out], X', p + 1 + 1, ?_⟩⟩
      rw [HRn.out]
      exact R6
    have hRl := HRl.out
    rw [if_neg h217] at hRl
    have HRl := Lib.hid hRl
    clear hRl
    have h217' : (m == 217) = false := by simpa using h217
    clear h217
    by_cases h218 : m = 218
    · subst h218
      have hRl := HRl.out
      rw [if_neg (show ¬ ¬ MarkOk 218 by unfold MarkOk; omega), segF_218] at hRl
      have HRl := Lib.hid hRl
      have HB := Lib.hid (readBody_any lo w4 g s gk gv A n c l (p + 1 + 1) K' X' 61 #[.pointer (some ⟨gv, 0, none⟩)] (fun b => rdScan' b K') ⟨calls61, fun w g s A n c l h hv => reader0_any lo w g s gk gv A n c l K' X' h hv⟩ H4.out.rd.fresh H4.out.box)
      clear hRl h217'
      go_wp2_with fail
      refine Calls.mono HB.out ?_
      rintro e w5 ⟨k5, ⟨hr, rfl⟩ | ⟨rfl, K2, X2, p2, hr, hp2, r5⟩⟩
      · have hk := H4.out.rd.kep.trans k5 (fun _ _ e => e)
        obtain ⟨q, hq⟩ : ∃ q, q = segF l (p + 1 + 1) (fun b => rdScan' b K') := ⟨_, rfl⟩
        have hRl := HRl.out
        rw [show p + 2 = p + 1 + 1 by omega] at hRl
        rw [← hq] at hr ⊢
        rw [← hq] at hRl
        obtain ⟨q1, q2⟩ := q
        cases hr
        have hq2 : q2 ≠ 0 := fun e => by
          subst e
          unfold segF at hq
          split at hq
          · cases hq
          · split at hq
            · cases hq
            · split at hq
              · cases hq
              · split at hq <;> cases hq
        exact ⟨rfl, kep_swap hk, .inr ⟨q2, ⟨hq2, hRl.symm⟩, rfl⟩⟩
      · obtain ⟨hs1, hs2, hs3⟩ := segF_some hr
        have hRl := HRl.out
        rw [show p + 2 = p + 1 + 1 by omega, show p + 3 = p + 1 + 1 + 1 by omega, hs1] at hRl
        have hr' : R = ((K2.setF 7 true).setN 4 (p2 : Int), 0) := by
          rw [← hRl]
          show (if (K2.setF 7 true).F 7 = true then _ else _) = _
          rw [if_pos (show (K2.setF 7 true).F 7 = true from rfl), hp2]
          congr 2
        have H6 := Lib.hid (And.intro (H4.out.rd.trans r5) (And.intro (show Box w5 gv 75 #[.pointer (some ⟨gk, 0, none⟩)] from k5.box H4.out.box (by have h1 := H4.out.box.apart H4.out.rd.own (by decide); have h2 := H4.out.box.apart H4.out.rd.kv (by decide); omega)) hr'))
        have hgvk : ¬ gv = gk := H6.out.2.1.apart H6.out.1.kv (by decide)
        clear hs1 hs2 hs3 hRl hr' hr hp2 r5 k5 HB cv
        go_upto_region 12 with fail
        refine wp_region_held_drew (S := fun w' => Hid (Kept (fun i => i = gk) w5 w')) (by kernel_rfl) (Lib.hid ((Kept.refl _ w5).drew)) fun s0 => ?_
        obtain ⟨wd, hwd⟩ : ∃ x, w5.drew = x := ⟨_, rfl⟩
        rw [hwd] at s0 ⊢
        have HD := Lib.hid (show Rd lo w wd g s gk A n c l p2 K2 X2 by rw [← hwd]; exact H6.out.1.on (on_drew _))
        clear hwd
        refine take_to (i := 0) (v := .pointer (some ⟨gk, 0, none⟩)) rfl (by kernel_rfl) (by kernel_rfl) (by kernel_rfl) (fun _ _ _ h => h) (Or.inl ⟨by rfl, fun w' hS => by have cl : w'.cell? ⟨gv, 0, none⟩ = some (.pointer (some ⟨gk, 0, none⟩)) := (hS.out.box H6.out.2.1 hgvk).cell 0; go_simp⟩) s0 (some 36) rfl ?_
        simp only [Act.put, List.setIfInBounds_toArray, List.set_cons_zero, List.set_cons_succ]
        refine take_to (i := 1) (v := .pointer (some ⟨gk, 0, none⟩)) rfl (by kernel_rfl) (by kernel_rfl) (by kernel_rfl) (fun _ _ _ h => h) (Or.inl ⟨by rfl, fun w' hS => by have cl : w'.cell? ⟨gv, 0, none⟩ = some (.pointer (some ⟨gk, 0, none⟩)) := (hS.out.box H6.out.2.1 hgvk).cell 0; go_simp⟩) s0 (some 37) rfl ?_
        simp only [Act.put, List.setIfInBounds_toArray, List.set_cons_zero, List.set_cons_succ]
        refine take_to (i := 2) (v := .pointer (some ⟨g, 0, none⟩)) rfl (by kernel_rfl) (by kernel_rfl) (by kernel_rfl) (fun _ _ _ h => h) (Or.inl ⟨by rfl, fun w' hS => by go_simp⟩) s0 (some 38) rfl ?_
        simp only [Act.put, List.setIfInBounds_toArray, List.set_cons_zero, List.set_cons_succ]
        refine wpAnyH_ready (rs := [3]) (by kernel_rfl) (by simp) ?_
        refine AllReadyH.cons rfl (fun Kq hKq => ?_) AllReadyH.nil
        go_simp
        refine Calls.mono (at_any lo wd g s gk A n c l p2 K2 X2 HD.out.fresh) ?_
        rintro e w6 ⟨rfl, rfl⟩
        refine hKq.out _ _ s0 fun _ => ?_
        clear hKq Kq
        refine take_to (i := 4) (v := .pointer (some ⟨gk, 0, none⟩)) rfl (by kernel_rfl) (by kernel_rfl) (by kernel_rfl) (fun _ _ _ h => h) (Or.inl ⟨by rfl, fun w' hS => by go_simp⟩) s0 (some 40) rfl ?_
        simp only [Act.put, List.setIfInBounds_toArray, List.set_cons_zero, List.set_cons_succ]
        refine take_to (i := 5) (v := .pointer (some ⟨gk, 203, none⟩)) rfl (by kernel_rfl) (by kernel_rfl) (by kernel_rfl) (fun _ _ _ h => h) (Or.inl ⟨by rfl, fun w' hS => by go_simp⟩) s0 (some 41) rfl ?_
        simp only [Act.put, List.setIfInBounds_toArray, List.set_cons_zero, List.set_cons_succ]
        refine wpAnyH_ready (rs := [6]) (by kernel_rfl) (by simp) ?_
        refine AllReadyH.cons rfl (fun Kq hKq => ?_) AllReadyH.nil
        have c7 : wd.cell? ⟨gk, 203, none⟩ = some (.bool (K2.F 7)) := HD.out.kv.kvF (k := 7) (by omega)
        have f7 : wd.frozen? ⟨gk, 203, none⟩ = false := HD.out.kv.free (196 + 7)
        obtain ⟨fo, hfo⟩ : ∃ fo, fo = K2.F 7 := ⟨_, rfl⟩
        rw [← hfo] at c7
        go_simp
        have s2 := Lib.hid (s0.out.setCell (p := ⟨gk, 196 + 7, none⟩) (fun _ => rfl) (.bool true))
        have R7 := Lib.hid (HD.out.known ((Kept.refl (fun j => j = gk) wd).setCell (p := ⟨gk, 196 + 7, none⟩) (fun _ => rfl) _) (HD.out.kv.putF (i := 7) (by omega) true) (HD.out.kn.setF 7 true))
        refine hKq.out _ _ s2 fun _ => ?_
        clear hKq Kq c7 f7 hfo
        refine take_to (i := 7) (v := .pointer (some ⟨gk, 0, none⟩)) rfl (by kernel_rfl) (by kernel_rfl) (by kernel_rfl) (fun _ _ _ h => h) (Or.inl ⟨by rfl, fun w' hS => by go_simp⟩) s2 (some 42) rfl ?_
        simp only [Act.put, List.setIfInBounds_toArray, List.set_cons_zero, List.set_cons_succ]
        refine take_to (i := 8) (v := .pointer (some ⟨gk, 209, none⟩)) rfl (by kernel_rfl) (by kernel_rfl) (by kernel_rfl) (fun _ _ _ h => h) (Or.inl ⟨by rfl, fun w' hS => by go_simp⟩) s2 (some 43) rfl ?_
        simp only [Act.put, List.setIfInBounds_toArray, List.set_cons_zero, List.set_cons_succ]
        refine wpAnyH_ready (rs := [9]) (by kernel_rfl) (by simp) ?_
        refine AllReadyH.cons rfl (fun Kq hKq => ?_) AllReadyH.nil
        obtain ⟨w8, hw8⟩ : ∃ x, wd.setCell ⟨gk, 203, none⟩ (.bool true) = x := ⟨_, rfl⟩
        have R8 : Rd lo w w8 g s gk A n c l p2 (K2.setF 7 true) X2 := by rw [← hw8]; exact R7.out
        have s8 : Hid (Kept (fun i => i = gk) w5 w8) := by rw [← hw8]; exact s2
        rw [hw8]
        have c9 : w8.cell? ⟨gk, 209, none⟩ = some (.int .i64 ((K2.setF 7 true).N 4)) := R8.kv.kvN (k := 4) (by omega)
        have f9 : w8.frozen? ⟨gk, 209, none⟩ = false := R8.kv.free (205 + 4)
        obtain ⟨fo4, hfo4⟩ : ∃ fo, fo = (K2.setF 7 true).N 4 := ⟨_, rfl⟩
        rw [← hfo4] at c9
        have H8 := Lib.hid R8
        clear R8 hfo4 hw8 R7
        go_simp
        have s3 := Lib.hid (s8.out.setCell (p := ⟨gk, 205 + 4, none⟩) (fun _ => rfl) (.int .i64 (p2 : Int)))
        have R9 := Lib.hid (H8.out.known ((Kept.refl (fun j => j = gk) w8).setCell (p := ⟨gk, 205 + 4, none⟩) (fun _ => rfl) _) (H8.out.kv.putN (i := 4) (p2 : Int)) (H8.out.kn.setN 4 (p2 : Int)))
        refine hKq.out _ _ s3 fun _ => ?_
        clear hKq Kq c9 f9
        refine wpAnyH_done (by kernel_rfl) ?_ _
        go_wp2_with fail
        go_end0
        refine ⟨kep_swap R9.out.kep, .inl ⟨rfl, by rw [H6.out.2.2], X2, p2, ?_⟩⟩
        rw [H6.out.2.2]
        exact R9.out
    have h218' : (m == 218) = false := by simpa using h218
    have HRd := Lib.hid (reader_any w4 gk m)
    have hk3 := Lib.hid h218
    clear h218
    by_cases hmk : ¬ MarkOk m
    · have hr : R = (kz, 7) := by rw [← HRl.out, if_pos hmk]
      have HRn := Lib.hid hr
      have hrn := reader_none hmk
      have hnf : ∀ (w : World), (binOp .neq 76 .nilFunc .nilFunc).run Tryd.prog w = .ok (.bool false) w := fun _ => by kernel_rfl
      clear hr
      go_wp2_with fail
      refine Calls.mono HRd.out ?_
      rintro e w5 ⟨b5, gv2, _, _, rfl⟩
      rw [hrn]
      have H5 := Lib.hid (H4.out.rd.on b5)
      have HQ := Lib.hid (require_no w5 g s A n c (p + 1 + 1) 7 (by decide) H5.out.cur)
      clear b5 hrn hmk
      go_wp2_with fail
      refine Calls.mono HQ.out ?_
      rintro e w6 ⟨rfl, k6⟩
      exact ⟨rfl, gone (kep_swap H5.out.kep) k6, .inr ⟨7, ⟨by decide, HRn.out⟩, rfl⟩⟩
    have hmk' : MarkOk m := by simpa using hmk
    have hRl := HRl.out
    rw [if_neg hmk] at hRl
    have HRl := Lib.hid hRl
    have Hmk := Lib.hid hmk'
    clear hRl hmk hmk'
    go_wp2_with fail
    refine Calls.mono HRd.out ?_
    rintro e w5 ⟨b5, gv2, hgv2, bx2, rfl⟩
    obtain ⟨G, caps, hrf, hrb⟩ := reads_of (lo := lo) (gk := gk) (gv := gv2) (X := X') Hmk.out hk3.out H4.out.n3
    rw [hrf]
    have hnf : ∀ (w : World), (binOp .neq 76 (.func (.func G) #[] caps) .nilFunc).run Tryd.prog w = .ok (.bool true) w := fun _ => by kernel_rfl
    have H5 := Lib.hid (And.intro (H4.out.rd.on b5) (H4.out.box.on b5))
    have HB := Lib.hid (readBody_any lo w5 g s gk gv2 A n c l (p + 1 + 1) K' X' G caps (fun b => rdBody m b K') hrb H5.out.1.fresh bx2)
    have HQ := Lib.hid (require_yes w5 g 7)
    clear b5 hgv2 bx2 hrb hrf HRd
    go_wp2_with fail
    refine Calls.mono HQ.out ?_
    rintro e w6 ⟨rfl, rfl⟩
    clear HQ
    go_wp2_with fail
    refine Calls.mono HB.out ?_
    rintro e w6 ⟨k6, ⟨hr, rfl⟩ | ⟨rfl, K2, X2, p2, hr, hp2, r6⟩⟩
    · have hk := H5.out.1.kep.trans k6 (fun _ _ e => e)
      obtain ⟨q, hq⟩ : ∃ q, q = segF l (p + 1 + 1) (fun b => rdBody m b K') := ⟨_, rfl⟩
      have hRl := HRl.out
      rw [show p + 2 = p + 1 + 1 by omega] at hRl
      rw [← hq] at hr ⊢
      rw [← hq] at hRl
      obtain ⟨q1, q2⟩ := q
      cases hr
      have hq2 : q2 ≠ 0 := fun e => by
        subst e
        unfold segF at hq
        split at hq
        · cases hq
        · split at hq
          · cases hq
          · split at hq
            · cases hq
            · split at hq <;> cases hq
      exact ⟨rfl, kep_swap hk, .inr ⟨q2, ⟨hq2, hRl.symm⟩, rfl⟩⟩
    · obtain ⟨hs1, hs2, hs3⟩ := segF_some hr
      obtain ⟨hst, hn3⟩ := rdBody_still ((H4.out.rd.sl.bts.fit.drop _).take _) hk3.out H4.out.n3 hs3
      have hf7 : K2.F 7 = false := by rw [hst.1]; exact H4.out.f7
      have hRl := HRl.out
      rw [show p + 2 = p + 1 + 1 by omega, show p + 3 = p + 1 + 1 + 1 by omega, hs1] at hRl
      have hp3 : p + (2 + (256 * l.getD (p + 1 + 1) 0 + l.getD (p + 1 + 1 + 1) 0)).toNat = p2 := by omega
      have hp4 : (p : Int) + 2 + (256 * l.getD (p + 1 + 1) 0 + l.getD (p + 1 + 1 + 1) 0) = (p2 : Int) := by omega
      have hr' : rdLoop f (l.drop p2) (p2 : Int) K2 = R := by
        rw [← hRl]
        show _ = (if K2.F 7 = true then _ else _)
        rw [hf7, if_neg (by decide), hp3, hp4]
      have H6 := Lib.hid (And.intro (show Sg lo w w6 g s gk gv A n c l p2 K2 X2 from ⟨H5.out.1.trans r6, k6.box H5.out.2 (by have h1 := H5.out.2.apart H5.out.1.own (by decide); have h2 := H5.out.2.apart H5.out.1.kv (by decide); omega), hf7, hn3⟩) (And.intro hr' (show p < p2 by omega)))
      clear hs1 hs2 hs3 hst hn3 hf7 hRl hp3 hp4 hr' hr hp2 r6 k6 HB cv
      go_wp2_with fail
      go_roundw
      case rel => exact ⟨f, p2, K2, X2, by have := HLf.out.2.1; have := H6.out.2.2; have := H6.out.1.rd.le; omega, H6.out.2.1, H6.out.1⟩
      case measure => rw [H6.out.1.rd.left, HLf.out.1]; have := H6.out.2.2; have := H6.out.1.rd.le; omega
end Go.Proofs.YtgipngedmblnmaaDoor
