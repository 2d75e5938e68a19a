/-
  Slices of blocks that are handed in; the contract of same, of two slices of the same blocks; an append of blocks.
-/
import Derived.Test.YtadlaljohlpabaaPLen
namespace Go.Proofs.Ytadlaljohlpabaa
open Go.RowKit

/-- a slice of blocks that is handed in -/
structure Ba (w : World) (A : Option Addr) (n c : Nat) (bl : List (List Int)) : Prop where
  bs : Bs w A n bl
  cap : n ≤ c
  max : c ≤ maxLen
  nil : A = none → c = 0
theorem Ba.on {w w' : World} {A : Option Addr} {n c : Nat} {bl : List (List Int)} (h : Ba w A n c bl) (k : Below w.heap.size w w') : Ba w' A n c bl := ⟨h.bs.on k, h.cap, h.max, h.nil⟩
theorem Bs.read {w : World} {ad : Addr} {n : Nat} {bl : List (List Int)} (h : Bs w (some ad) n bl) : ∀ j u, (blocksC bl)[j]? = some u → w.cell? (ad.add j) = some u := by
  intro j u hu
  have hj : j < (blocksC bl).length := (List.getElem?_eq_some_iff.1 hu).1
  rw [blocksC_len h.wide, h.len] at hj
  obtain ⟨b, off, e, _, hc⟩ := h.at_ (by omega)
  cases e
  have hi : j / 64 < bl.length := by rw [h.len]; omega
  have hx : bl[j / 64]? = some (bl[j / 64]'hi) := List.getElem?_eq_getElem hi
  have h1 := blocksC_at h.wide hx (j := j % 64) (Nat.mod_lt _ (by omega))
  have h2 := hc (j / 64) _ hx (j % 64) (Nat.mod_lt _ (by omega))
  rw [show j / 64 * 64 + j % 64 = j by omega] at h1
  rw [plain_add, show off + j = off + j / 64 * 64 + j % 64 by omega, h2, ← hu, h1]
theorem blocksC_one : ∀ (bl : List (List Int)), ∀ u ∈ blocksC bl, u.oneCell' = true := by
  intro bl u hu
  unfold blocksC at hu
  obtain ⟨l, _, hl⟩ := List.mem_flatMap.1 hu
  exact cellsI_one l u hl
/-- an append of blocks to a row of one's own -/
theorem wpList_append_ba {w : World} {ops : Array Oper} {rest : List Oper} {o : Oper} {a : Act} {Q : Exit → Act → World → Prop} (hgd : o.guard = none) (s x : Operand)
    (ho : o.op = .call { callee := .builtin .append, args := #[s, x], argTypes := #[37, 37] })
    (base : Nat) (v : Value) (n : Nat) (bl : List (List Int)) (hs : a.eval s = v) (hown : w.ownsRow base 51 64 v n (blocksC bl))
    (A : Option Addr) (m c : Nat) (r : List (List Int)) (hx : a.eval x = .slice A m c) (hr : Ba w A m c r) (hn : n + m ≤ 1000) (hbase : base ≤ w.heap.size)
    (h : ∀ v' w', w'.ownsRow base 51 64 v' (n + m) (blocksC (bl ++ r)) → Below base w w' → wpList Try.prog ops Q rest (a.put o.dst v') w') : wpList Try.prog ops Q (o :: rest) a w := by
  obtain ⟨i0, hi0, h2⟩ := Option.map_eq_some_iff.1 blk_info
  simp only [Prod.mk.injEq] at h2
  obtain ⟨hz0, hz1, hz2⟩ := h2
  cases A with
  | none =>
    obtain rfl : c = 0 := hr.nil rfl
    obtain rfl : m = 0 := by have := hr.cap; omega
    have hl : r = [] := List.eq_nil_of_length_eq_zero hr.bs.len
    subst hl
    exact wpList_append_own_none hgd s x 37 ho base 51 i0 64 Try.underlying37 hi0 v n (blocksC bl) hs hown hx (h v w (by simpa using hown) (Below.refl _ _))
  | some ad =>
    refine wpList_append_own _ hgd s x 37 ho base 51 i0 _ 64 512 Try.underlying37 hi0 hz0 hz1 hz2 rfl (by omega) v n (blocksC bl) hs hown ad m c (blocksC r) hx (by rw [blocksC_len hr.bs.wide, hr.bs.len, Nat.mul_comm]) hr.bs.read (blocksC_one r) (by simp only [maxLen]; omega) (by omega) hbase ?_
    intro v' w' h1 h2 _
    rw [← blocksC_app] at h1
    exact h v' w' h1 ((Below.refl base w).grown h2 hbase (fun j hj => (hown.lt j hj).1))

theorem own_blocks_made (v : World) : (v.alloc (.cells #[] 51)).ownsRow v.heap.size 51 64 (.slice (some ⟨v.heap.size, 0, none⟩) 0 0) 0 (blocksC []) :=
  ⟨rfl, .inr ⟨v.heap.size, 0, #[], rfl, Nat.le_refl _, heap_alloc_new v _, Nat.le_refl _, Nat.zero_le _, rfl, rfl⟩⟩
theorem cutF_len (W H : Int) (xs : List Int) : (cutF W H xs).1.length ≤ 1000000 := by
  unfold cutF
  split
  · next hr =>
    obtain ⟨w, h, rfl, rfl, hp⟩ := hr.plane
    show (cutL xs w h).length ≤ 1000000
    unfold cutL
    rw [cutK_len]
    have h1 : nb w ≤ 16 := by have := hp.w1; unfold nb; omega
    have h2 : nb h ≤ 16 := by have := hp.h1; unfold nb; omega
    have : nb w * nb h ≤ 16 * 16 := Nat.mul_le_mul h1 h2
    omega
  · exact Nat.zero_le _

set_option maxRecDepth 10000 in
set_option maxHeartbeats 1600000 in
theorem bsame_any (w : World) (A A' : Option Addr) (n n' c c' : Nat) (bl : List (List Int)) (hB : Bs w A n bl) (hB' : Bs w A' n' bl) (hn : n ≤ 1000000) : Calls Try.prog 27 #[.slice A n c, .slice A' n' c'] w (Yes w) := by
  obtain rfl : n' = n := by rw [← hB.len, ← hB'.len]
  have HB := Lib.hid (And.intro hB hB')
  clear hB hB'
  go_enter Try.func27, Try.ntmps27
  go_wp2_with fail
  go_loopw [13] (fun i wr => ∃ k : Nat, k ≤ n' ∧ i = .int .i64 k ∧ (∃ d, wr = w.drewN d)) (fun i _ => n' - (intOf i).toNat)
  case atStart => exact ⟨0, by omega, rfl, 0, rfl⟩
  case round =>
    obtain ⟨k, hk, rfl, d, rfl⟩ := hrel
    by_cases hkn : k < n'
    · obtain ⟨b, off, hA, -, -⟩ := HB.out.1.at_ (by omega)
      obtain ⟨b', off', hA', -, -⟩ := HB.out.2.at_ (by omega)
      subst hA
      subst hA'
      have hi : k < bl.length := by rw [HB.out.1.len]; exact hkn
      obtain ⟨x, hx⟩ : ∃ x, bl[k]? = some x := ⟨_, List.getElem?_eq_getElem hi⟩
      have hxl : x.length = 64 := HB.out.1.wide x (List.mem_of_getElem? hx)
      have HX := Lib.hid (And.intro hx hxl)
      clear hx hxl hi
      go_upto_region 6 with fail
      refine wp_region_held_drew (S := fun w' => Hid (Below w.heap.size w w')) (by kernel_rfl) (Lib.hid (on_trans (below_drewN w d) (on_drew _))) fun s0 => ?_
      refine take_to (i := 0) (v := .slice (some ⟨b, off, none⟩) n' c) rfl (by kernel_rfl) (by kernel_rfl) (by kernel_rfl) (fun _ _ _ h => h) (Or.inl ⟨by rfl, fun w' hS => by go_simp⟩) s0 (some 16) rfl ?_
      try simp only [Act.put, List.setIfInBounds_toArray, List.set_cons_zero, List.set_cons_succ]
      refine take_to (i := 1) (v := .int .i64 (k : Int)) rfl (by kernel_rfl) (by kernel_rfl) (by kernel_rfl) (fun _ _ _ h => h) (Or.inl ⟨by rfl, fun w' hS => by go_simp⟩) s0 (some 17) rfl ?_
      try simp only [Act.put, List.setIfInBounds_toArray, List.set_cons_zero, List.set_cons_succ]
      refine take_to (i := 2) (v := .pointer (some ⟨b, off + k * 64, none⟩)) rfl (by kernel_rfl) (by kernel_rfl) (by kernel_rfl) (fun _ _ _ h => h) (Or.inl ⟨by rfl, fun w' hS => by go_simp⟩) s0 (some 18) rfl ?_
      try simp only [Act.put, List.setIfInBounds_toArray, List.set_cons_zero, List.set_cons_succ]
      refine take_to (i := 3) rfl (by kernel_rfl) (by kernel_rfl) (by kernel_rfl) (fun _ _ _ h => h) (yieldsIf_load (by rfl) 51 _ rfl (.pointer (some ⟨b, off + k * 64, none⟩)) rfl (blkV x) (fun w' h => (HB.out.1.on h.out).load HX.out.1)) s0 (some 19) rfl ?_
      try simp only [Act.put, List.setIfInBounds_toArray, List.set_cons_zero, List.set_cons_succ]
      refine take_to (i := 4) (v := .slice (some ⟨b', off', none⟩) n' c') rfl (by kernel_rfl) (by kernel_rfl) (by kernel_rfl) (fun _ _ _ h => h) (Or.inl ⟨by rfl, fun w' hS => by go_simp⟩) s0 (some 20) rfl ?_
      try simp only [Act.put, List.setIfInBounds_toArray, List.set_cons_zero, List.set_cons_succ]
      refine take_to (i := 5) (v := .int .i64 (k : Int)) rfl (by kernel_rfl) (by kernel_rfl) (by kernel_rfl) (fun _ _ _ h => h) (Or.inl ⟨by rfl, fun w' hS => by go_simp⟩) s0 (some 21) rfl ?_
      try simp only [Act.put, List.setIfInBounds_toArray, List.set_cons_zero, List.set_cons_succ]
      refine take_to (i := 6) (v := .pointer (some ⟨b', off' + k * 64, none⟩)) rfl (by kernel_rfl) (by kernel_rfl) (by kernel_rfl) (fun _ _ _ h => h) (Or.inl ⟨by rfl, fun w' hS => by go_simp⟩) s0 (some 22) rfl ?_
      try simp only [Act.put, List.setIfInBounds_toArray, List.set_cons_zero, List.set_cons_succ]
      refine take_to (i := 7) rfl (by kernel_rfl) (by kernel_rfl) (by kernel_rfl) (fun _ _ _ h => h) (yieldsIf_load (by rfl) 51 _ rfl (.pointer (some ⟨b', off' + k * 64, none⟩)) rfl (blkV x) (fun w' h => (HB.out.2.on h.out).load HX.out.1)) s0 (some 23) rfl ?_
      try simp only [Act.put, List.setIfInBounds_toArray, List.set_cons_zero, List.set_cons_succ]
      refine take_to (i := 8) rfl (by kernel_rfl) (by kernel_rfl) (by kernel_rfl) (fun _ _ _ h => h) (yieldsIf_neq51 (by rfl) _ _ rfl x HX.out.2 rfl rfl) s0 (some 24) rfl ?_
      try simp only [Act.put, List.setIfInBounds_toArray, List.set_cons_zero, List.set_cons_succ]
      refine wpAnyH_done (by kernel_rfl) ?_ _
      go_wp2_with fail
      go_roundw
      case rel => exact ⟨k + 1, by omega, by go_num, d + 1, rfl⟩
      case measure => simp [intOf]; omega
    · obtain rfl : k = n' := by omega
      go_wp2_with fail
      go_ret
      exact ⟨rfl, below_drewN _ _⟩
end Go.Proofs.Ytadlaljohlpabaa
