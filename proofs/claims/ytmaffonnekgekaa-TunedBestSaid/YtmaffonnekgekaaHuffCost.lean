/-
  No specification that may be costs less: mathematics, no code.
-/
import Derived.Test.YtmaffonnekgekaaHuffValid
namespace Go.Proofs.Ytmaffonnekgekaa

theorem pre_share (c : Nat → Nat) : ∀ i, ((pre c i).map fun x => 2 ^ (i - x.2)).sum = nx c i
  | 0 => rfl
  | i + 1 => by
    rw [pre, sum_map_app, nx]
    have e1 : ((pre c i).map fun x => 2 ^ (i + 1 - x.2)).sum = 2 * nx c i := by
      rw [← pre_share c i, ← sum_map_mul]
      refine sum_map_congr fun x hx => ?_
      have := (mem_pre hx).2.1
      rw [← Nat.pow_succ', show (i - x.2).succ = i + 1 - x.2 by omega]
    have e2 : ((row c i (c i)).map fun x => 2 ^ (i + 1 - x.2)).sum = c i := by
      rw [sum_map_congr (g := fun _ => 1) (fun x hx => by
        obtain ⟨k, _, rfl⟩ := mem_row hx
        simp)]
      have : ∀ l : List (Nat × Nat), (l.map fun _ => 1).sum = l.length := by
        intro l
        induction l with
        | nil => rfl
        | cons x l ih => rw [List.map_cons, List.sum_cons, ih, List.length_cons, Nat.add_comm]
      rw [this, row_len]
    rw [e1, e2]
theorem zip_snd_sum {α β : Type} (f : β → Nat) : ∀ (a : List α) (b : List β), a.length = b.length → ((a.zip b).map fun p => f p.2).sum = (b.map f).sum
  | [], [], _ => rfl
  | [], _ :: _, h => by simp at h
  | _ :: _, [], h => by simp at h
  | x :: a, y :: b, h => by
    rw [List.zip_cons_cons, List.map_cons, List.map_cons, List.sum_cons, List.sum_cons, zip_snd_sum f a b (by simpa using h)]
/-- the codes of a specification leave room for one of 16 bits -/
theorem Valid.room {B V : List Int} (h : Valid B V) : ((codes B V).map fun e => 2 ^ (16 - e.2.2)).sum < 65536 := by
  unfold codes ents
  rw [zip_snd_sum (fun x : Nat × Nat => 2 ^ (16 - x.2)) V _ (by rw [h.lens]), pre_share]
  exact h.fits 15 (by omega)

theorem sum_at (x : Int) (k : Nat) : ∀ us : List Nat, us.Nodup → (us.map fun (v : Nat) => if x = (v : Int) then k else 0).sum ≤ k
  | [], _ => Nat.zero_le _
  | v :: us, h => by
    rw [List.nodup_cons] at h
    rw [List.map_cons, List.sum_cons]
    by_cases e : x = (v : Int)
    · have : (us.map fun (v : Nat) => if x = (v : Int) then k else 0).sum = (us.map fun _ => 0).sum := sum_map_congr fun u hu => by
        rw [if_neg (fun e' => h.1 (by
          have : u = v := by omega
          exact this ▸ hu))]
      rw [this, if_pos e]
      have hz : ∀ l : List Nat, (l.map fun _ => 0).sum = 0 := by
        intro l
        induction l with
        | nil => rfl
        | cons y l ih => rw [List.map_cons, List.sum_cons, ih]
      rw [hz]
      omega
    · rw [if_neg e]
      have := sum_at x k us h.2
      omega
/-- values that differ have codes that differ -/
theorem found_sum (f : En → Nat) (us : List Nat) (hn : us.Nodup) : ∀ L : List En, (us.map fun (v : Nat) => ((fnd L (v : Int)).map f).getD 0).sum ≤ (L.map f).sum
  | [] => by
    have hz : ∀ l : List Nat, (l.map fun (v : Nat) => ((fnd [] (v : Int)).map f).getD 0).sum = 0 := by
      intro l
      induction l with
      | nil => rfl
      | cons y l ih => rw [List.map_cons, List.sum_cons, ih]; rfl
    rw [hz]
    exact Nat.zero_le _
  | e :: L => by
    have ih := found_sum f us hn L
    have h1 := sum_at e.1 (f e) us hn
    rw [List.map_cons, List.sum_cons]
    have h2 : ∀ l : List Nat, (l.map fun (v : Nat) => ((fnd (e :: L) (v : Int)).map f).getD 0).sum ≤ (l.map fun (v : Nat) => if e.1 = (v : Int) then f e else 0).sum + (l.map fun (v : Nat) => ((fnd L (v : Int)).map f).getD 0).sum := by
      intro l
      induction l with
      | nil => exact Nat.le_refl _
      | cons v l ih2 =>
        simp only [List.map_cons, List.sum_cons]
        have h3 : ((fnd (e :: L) (v : Int)).map f).getD 0 ≤ (if e.1 = (v : Int) then f e else 0) + ((fnd L (v : Int)).map f).getD 0 := by
          unfold fnd
          rw [List.find?_cons]
          by_cases g : e.1 = (v : Int)
          · simp [g]
          · have g2 : (e.1 == (v : Int)) = false := by simpa using g
            rw [g2, if_neg g, Nat.zero_add]
            exact Nat.le_refl _
        omega
    have := h2 us
    omega

section
variable {cn : Nat → Nat} {us : List Nat} {fin m : Nat → Nat} {B : List Int}
/-- no other specification that may be, and has codes for what is counted, costs less -/
theorem LengthsOf.least (h : LengthsOf cn us fin) (hc : Counted cn us) {B2 V2 : List Int} (hv : Valid B2 V2) (hall : ∀ v ∈ us, fnd (codes B2 V2) (v : Int) ≠ none) :
    (us.map fun v => cn v * fin v).sum ≤ (us.map fun (v : Nat) => cn v * (codeOf (codes B2 V2) (v : Int)).2).sum := by
  have hu := few_us hc.nodup hc.few
  have key : ∀ v ∈ us, ∃ e, fnd (codes B2 V2) (v : Int) = some e ∧ (codeOf (codes B2 V2) (v : Int)).2 = e.2.2 ∧ e.2.2 ≤ 16 := by
    intro v hv2
    cases ho : fnd (codes B2 V2) (v : Int) with
    | none => exact absurd ho (hall v hv2)
    | some e =>
      refine ⟨e, rfl, ?_, (hv.code (fnd_some ho).1).2.1⟩
      unfold codeOf
      rw [ho]
      rfl
  refine h.best hc (M := 256) hu (by omega) (fun v => (codeOf (codes B2 V2) (v : Int)).2) (fun v hv2 => ?_) ?_
  · obtain ⟨e, _, h2, h3⟩ := key v hv2
    omega
  · have h1 := found_sum (fun e => 2 ^ (16 - e.2.2)) us hc.nodup (codes B2 V2)
    have h2 := hv.room
    obtain ⟨S, hS⟩ : ∃ S, S = (us.map fun (v : Nat) => ((fnd (codes B2 V2) (v : Int)).map fun e => 2 ^ (16 - e.2.2)).getD 0).sum := ⟨_, rfl⟩
    rw [← hS] at h1
    obtain ⟨k, hk⟩ : ∃ k : Nat, k = 240 := ⟨_, rfl⟩
    have e1 : shareOf 256 us (fun v => (codeOf (codes B2 V2) (v : Int)).2) = 2 ^ k * S := by
      rw [hS, ← sum_map_mul]
      unfold shareOf
      refine sum_map_congr fun v hv2 => ?_
      obtain ⟨e, g1, g2, g3⟩ := key v hv2
      show 2 ^ (256 - (codeOf (codes B2 V2) (v : Int)).2) = _
      rw [g1, g2]
      show 2 ^ (256 - e.2.2) = 2 ^ k * 2 ^ (16 - e.2.2)
      rw [← Nat.pow_add, show k + (16 - e.2.2) = 256 - e.2.2 by omega]
    rw [e1, show (256 : Nat) = k + 16 by omega, Nat.add_sub_cancel, Nat.pow_add, ← Nat.mul_succ]
    exact Nat.mul_le_mul_left _ (by omega)
end
end Go.Proofs.Ytmaffonnekgekaa
