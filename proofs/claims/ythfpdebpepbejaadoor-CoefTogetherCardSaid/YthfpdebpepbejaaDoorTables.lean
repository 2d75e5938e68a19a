/-
  The laws' own tables: two tables and the reference's two lists of codes.
-/
import Derived.Test.YthfpdebpepbejaaDoorRefCodes
import Derived.Test.YthfpdebpepbejaaDoorSymMath
namespace Go.Proofs.YthfpdebpepbejaaDoor
open Go.RowKit

/-- both tables, and both lists -/
structure Tbs (w : World) (lo : Nat) (B V B' V' : List Int) (t t' : Nat) (A A' : Option Addr) (n n' : Nat) : Prop where
  t1 : ∃ l h, lo ≤ l ∧ h ≤ w.heap.size ∧ Tb w l h t B V (codes B V)
  t2 : ∃ l h, lo ≤ l ∧ h ≤ w.heap.size ∧ Tb w l h t' B' V' (codes B' V')
  c1 : Te w A n (codes B V)
  c2 : Te w A' n' (codes B' V')
  few : n ≤ 256 ∧ n' ≤ 256
  new : (∀ b off, A = some ⟨b, off, none⟩ → lo ≤ b) ∧ (∀ b off, A' = some ⟨b, off, none⟩ → lo ≤ b)
  val : Valid B V ∧ Valid B' V'
theorem Tbs.on {w w' : World} {lo : Nat} {B V B' V' : List Int} {t t' : Nat} {A A' : Option Addr} {n n' : Nat} (h : Tbs w lo B V B' V' t t' A A' n n') (k : Below w.heap.size w w') : Tbs w' lo B V B' V' t t' A A' n n' := by
  obtain ⟨l, hh, a1, a2, a3⟩ := h.t1
  obtain ⟨l', hh', b1, b2, b3⟩ := h.t2
  have := k.size
  exact ⟨⟨l, hh, a1, by omega, a3.on k⟩, ⟨l', hh', b1, by omega, b3.on k⟩, h.c1.on k, h.c2.on k, h.few, h.new, h.val⟩
/-- what tables tells -/
def Tabled (w : World) (n n' : Nat) (B V B' V' : List Int) (e : Ending) (w' : World) : Prop := Below w.heap.size w w' ∧
  ((∃ a b c d, e = .returned (.tuple #[a, b, c, d, .bool false])) ∨ (n ≤ 300 ∧ n' ≤ 300 ∧ ∃ t t' A k c A' k' c', e = .returned (.tuple #[.pointer (some ⟨t, 0, none⟩), .pointer (some ⟨t', 0, none⟩), .slice A k c, .slice A' k' c', .bool true]) ∧ Tbs w' w.heap.size B V B' V' t t' A A' k k'))

set_option linter.unusedSimpArgs false in
set_option maxRecDepth 20000 in
set_option maxHeartbeats 3200000 in
theorem tables_any (w : World) (B V : List Int) (A : Option Addr) (n c : Nat) (B' V' : List Int) (A' : Option Addr) (n' c' : Nat) (hB : B.length = 16) (h : Ia w A n c V) (hB' : B'.length = 16) (h' : Ia w A' n' c' V') :
    Calls Tryd.prog 20 #[specV B (.slice A n c), specV B' (.slice A' n' c')] w (Tabled w n n' B V B' V') := by
  obtain ⟨C, hC⟩ : ∃ C, C = specC B (.slice A n c) := ⟨_, rfl⟩
  have eV : specV B (.slice A n c) = .agg C := by rw [hC]; rfl
  obtain ⟨C', hC'⟩ : ∃ C', C' = specC B' (.slice A' n' c') := ⟨_, rfl⟩
  have eV' : specV B' (.slice A' n' c') = .agg C' := by rw [hC']; rfl
  rw [eV, eV']
  obtain ⟨g, hg⟩ : ∃ g, g = w.heap.size := ⟨_, rfl⟩
  obtain ⟨w1, hw1⟩ : ∃ w1, w1 = w.alloc (.cells C 42) := ⟨_, rfl⟩
  have hb1 := boxed_made (w1 := w1) (g := g) hB h (by rw [hw1, hC]) hg
  obtain ⟨g', hg'⟩ : ∃ g', g' = w1.heap.size := ⟨_, rfl⟩
  have hgg : g' = g + 1 := by rw [hg', hw1, hg]; simp
  obtain ⟨w2, hw2⟩ : ∃ w2, w2 = w1.alloc (.cells C' 42) := ⟨_, rfl⟩
  have hb2' := boxed_made (w := w1) (w1 := w2) (g := g') hB' (h'.on hb1.bel) (by rw [hw2, hC']) hg'
  have hb2 : Boxed w w2 g' B' V' A' n' c' := ⟨hb2'.box, hb2'.vals, on_trans hb1.bel hb2'.bel, hB'⟩
  have HB := Lib.hid (And.intro (hb1.on hb2'.bel) (And.intro hb2 (And.intro hw1 (And.intro hw2 (And.intro hg hg')))))
  have e2 : (w.alloc (.cells C 42)).alloc (.cells C' 42) = w2 := by rw [← hw1, ← hw2]
  have e3 : (g : Nat) = w.heap.size := hg
  have E2 := Lib.hid (And.intro e2 (And.intro e3 hgg))
  clear hb1 hb2 hb2' hw1 hw2 hC hC' eV eV' hB hB' h h' hg hg' hgg e2
  subst e3
  have c16 : ((w.alloc (.cells C 42)).alloc (.cells C' 42)).cell? ⟨w.heap.size, 16, none⟩ = some (.slice A n c) := by
    rw [E2.out.1]
    exact HB.out.1.slice
  have c17 : ((w.alloc (.cells C 42)).alloc (.cells C' 42)).cell? ⟨w.heap.size + 1, 16, none⟩ = some (.slice A' n' c') := by
    rw [E2.out.1, ← E2.out.2.2]
    exact HB.out.2.1.slice
  go_enter Tryd.func20, Tryd.ntmps20
  by_cases hn : 300 < n
  · have hni : (300 : Int) < (n : Int) := by omega
    go_wp2_with fail
    refine bodyPost_ret (v := .tuple #[.pointer none, .pointer none, .slice none 0 0, .slice none 0 0, .bool false]) (by simp [results, Tryd.results20, go_sem]) rfl ?_
    rw [E2.out.1]
    exact ⟨HB.out.1.bel, .inl ⟨_, _, _, _, rfl⟩⟩
  have hni : ¬ (300 : Int) < (n : Int) := by omega
  by_cases hn' : 300 < n'
  · have hni' : (300 : Int) < (n' : Int) := by omega
    go_wp2_with fail
    refine bodyPost_ret (v := .tuple #[.pointer none, .pointer none, .slice none 0 0, .slice none 0 0, .bool false]) (by simp [results, Tryd.results20, go_sem]) rfl ?_
    rw [E2.out.1]
    exact ⟨HB.out.1.bel, .inl ⟨_, _, _, _, rfl⟩⟩
  have hni' : ¬ (300 : Int) < (n' : Int) := by omega
  go_wp2_with fail
  rw [E2.out.1, ← E2.out.2.2]
  clear c16 c17
  have a0 : Hid (Below w2.heap.size w2 w2.drew) := Lib.hid (on_drew w2)
  refine wp_region_held_drew (S := fun w' => Hid (Below w2.heap.size w2 w')) (by kernel_rfl) a0 fun as0 => ?_
  refine take_to (i := 0) (v := .pointer (some ⟨w.heap.size, 0, none⟩)) rfl (by kernel_rfl) (by kernel_rfl) (by kernel_rfl) (fun _ _ _ h => h) (Or.inl ⟨by rfl, fun w' hS => by go_simp⟩) as0 (some 28) rfl ?_
  try simp only [Act.put, List.setIfInBounds_toArray, List.set_cons_zero, List.set_cons_succ]
  refine take_to (i := 1) rfl (by kernel_rfl) (by kernel_rfl) (by kernel_rfl) (fun _ _ _ h => h) (yieldsIf_load_mid (by rfl) 40 _ rfl w.heap.size 0 rfl (cellsI B) _ (fun w' h => (HB.out.1.box.on h.out).spec_range HB.out.1.len) Tryd.underlying40 rfl (by rw [arr_size, cellsI_len, HB.out.1.len])) as0 (some 29) rfl ?_
  try simp only [Act.put, List.setIfInBounds_toArray, List.set_cons_zero, List.set_cons_succ]
  refine take_to (i := 3) (v := .pointer (some ⟨w.heap.size, 16, none⟩)) rfl (by kernel_rfl) (by kernel_rfl) (by kernel_rfl) (fun _ _ _ h => h) (Or.inl ⟨by rfl, fun w' hS => by go_simp⟩) as0 (some 31) rfl ?_
  try simp only [Act.put, List.setIfInBounds_toArray, List.set_cons_zero, List.set_cons_succ]
  refine take_to (i := 4) (v := .slice A n c) rfl (by kernel_rfl) (by kernel_rfl) (by kernel_rfl) (fun _ _ _ h => h) (Or.inl ⟨by rfl, fun w' hS => by have := (HB.out.1.on hS.out).slice; go_simp⟩) as0 (some 32) rfl ?_
  try simp only [Act.put, List.setIfInBounds_toArray, List.set_cons_zero, List.set_cons_succ]
  refine wpAnyH_ready (rs := [2]) (by kernel_rfl) (by simp) ?_
  refine AllReadyH.cons rfl (fun K hK => ?_) AllReadyH.nil
  go_simp
  have a1 : Hid (Below w2.heap.size w2 (w2.alloc (.cells #[] 3)).drew) := Lib.hid (on_trans (on_alloc w2 (.cells #[] 3)) (on_drew _))
  refine hK.out _ _ a1 fun as1 => ?_
  clear hK K
  refine wpAnyH_ready (rs := [5]) (by kernel_rfl) (by simp) ?_
  refine AllReadyH.cons rfl (fun K hK => ?_) AllReadyH.nil
  refine step_append_il rfl (.tmp 30) (.tmp 32) rfl w2.heap.size (.slice (some ⟨w2.heap.size, 0, none⟩) 0 0) 0 [] rfl (World.ownsRow_made w2 #[] 0 (Nat.le_refl _) (Nat.zero_le _) rfl) A n c V rfl (HB.out.1.vals.on a1.out) (by omega) (by simp) (some 33) rfl ?_
  intro av aw ahown abq
  obtain ⟨aA, ac, ahv, ahi, _⟩ := il_of_own2 ahown
  rw [ahv]
  rw [Nat.zero_add, List.nil_append] at ahi
  rw [Nat.zero_add]
  clear ahown ahv
  try simp only [Act.put, List.setIfInBounds_toArray, List.set_cons_zero, List.set_cons_succ]
  have a2 : Hid (Below w2.heap.size w2 aw) := Lib.hid (a1.out.trans abq)
  refine hK.out _ _ a2 fun _ => ?_
  clear hK K
  refine take_to (i := 6) (v := specV B (.slice aA n ac)) rfl (by kernel_rfl) (by kernel_rfl) (by kernel_rfl) (fun _ _ _ h => h) (yieldsIf_build (by rfl) 42 _ rfl _ _ (by simp [Act.eval]) (fun w' => build_spec w' aA n ac HB.out.1.len)) a2 (some 34) rfl ?_
  try simp only [Act.put, List.setIfInBounds_toArray, List.set_cons_zero, List.set_cons_succ]
  refine wpAnyH_ready (rs := [7]) (by kernel_rfl) (by simp) ?_
  refine AllReadyH.cons rfl (fun K hK => ?_) AllReadyH.nil
  go_simp
  refine (new_any aw B V aA n ac HB.out.1.len ahi (by omega)).mono ?_
  rintro e w3 ⟨abn, ares⟩
  have a3 : Hid (Below w2.heap.size w2 w3) := Lib.hid (on_trans a2.out abn)
  obtain ⟨ap, ae, rfl, aT⟩ : ∃ p x, e = .returned (.tuple #[p, x]) ∧ (Valid B V → ∃ t, p = .pointer (some ⟨t, 0, none⟩) ∧ Tb w3 aw.heap.size w3.heap.size t B V (codes B V)) := by
    rcases ares with ⟨h1, h2⟩ | ⟨_, t, h2, h3⟩
    · exact ⟨_, _, h2, fun h => absurd h h1⟩
    · exact ⟨_, _, h2, fun _ => ⟨t, rfl, h3⟩⟩
  have aF := Lib.hid (And.intro aT (And.intro a2.out.size (And.intro a3.out (abn.size))))
  clear aT ares abn ahi abq
  refine hK.out _ _ a3 fun _ => ?_
  clear hK K
  refine take_to (i := 8) (v := .tuple #[ap, ae]) rfl (by kernel_rfl) (by kernel_rfl) (by kernel_rfl) (fun _ _ _ h => h) (Or.inl ⟨by rfl, fun w' hS => by go_simp⟩) a3 (some 27) rfl ?_
  try simp only [Act.put, List.setIfInBounds_toArray, List.set_cons_zero, List.set_cons_succ]
  refine take_to (i := 9) (v := ap) rfl (by kernel_rfl) (by kernel_rfl) (by kernel_rfl) (fun _ _ _ h => h) (Or.inl ⟨by rfl, fun w' hS => by go_simp⟩) a3 (some 36) rfl ?_
  try simp only [Act.put, List.setIfInBounds_toArray, List.set_cons_zero, List.set_cons_succ]
  refine take_to (i := 10) (v := ae) rfl (by kernel_rfl) (by kernel_rfl) (by kernel_rfl) (fun _ _ _ h => h) (Or.inl ⟨by rfl, fun w' hS => by go_simp⟩) a3 (some 37) rfl ?_
  try simp only [Act.put, List.setIfInBounds_toArray, List.set_cons_zero, List.set_cons_succ]
  refine take_to (i := 11) (v := ap) rfl (by kernel_rfl) (by kernel_rfl) (by kernel_rfl) (fun _ _ _ h => h) (Or.inl ⟨by rfl, fun w' hS => by go_simp⟩) a3 (some 9) rfl ?_
  try simp only [Act.put, List.setIfInBounds_toArray, List.set_cons_zero, List.set_cons_succ]
  refine take_to (i := 12) (v := ae) rfl (by kernel_rfl) (by kernel_rfl) (by kernel_rfl) (fun _ _ _ h => h) (Or.inl ⟨by rfl, fun w' hS => by go_simp⟩) a3 (some 10) rfl ?_
  try simp only [Act.put, List.setIfInBounds_toArray, List.set_cons_zero, List.set_cons_succ]
  refine wpAnyH_done (by kernel_rfl) ?_ _
  have H3 := Lib.hid (And.intro (HB.out.1.on a3.out) (HB.out.2.1.on a3.out))
  go_wp2_with fail
  have b0 : Hid (Below w3.heap.size w3 w3.drew) := Lib.hid (on_drew w3)
  refine wp_region_held_drew (S := fun w' => Hid (Below w3.heap.size w3 w')) (by kernel_rfl) b0 fun bs0 => ?_
  refine take_to (i := 0) (v := .pointer (some ⟨g', 0, none⟩)) rfl (by kernel_rfl) (by kernel_rfl) (by kernel_rfl) (fun _ _ _ h => h) (Or.inl ⟨by rfl, fun w' hS => by go_simp⟩) bs0 (some 39) rfl ?_
  try simp only [Act.put, List.setIfInBounds_toArray, List.set_cons_zero, List.set_cons_succ]
  refine take_to (i := 1) rfl (by kernel_rfl) (by kernel_rfl) (by kernel_rfl) (fun _ _ _ h => h) (yieldsIf_load_mid (by rfl) 40 _ rfl g' 0 rfl (cellsI B') _ (fun w' h => (H3.out.2.box.on h.out).spec_range H3.out.2.len) Tryd.underlying40 rfl (by rw [arr_size, cellsI_len, H3.out.2.len])) bs0 (some 40) rfl ?_
  try simp only [Act.put, List.setIfInBounds_toArray, List.set_cons_zero, List.set_cons_succ]
  refine take_to (i := 3) (v := .pointer (some ⟨g', 16, none⟩)) rfl (by kernel_rfl) (by kernel_rfl) (by kernel_rfl) (fun _ _ _ h => h) (Or.inl ⟨by rfl, fun w' hS => by go_simp⟩) bs0 (some 42) rfl ?_
  try simp only [Act.put, List.setIfInBounds_toArray, List.set_cons_zero, List.set_cons_succ]
  refine take_to (i := 4) (v := .slice A' n' c') rfl (by kernel_rfl) (by kernel_rfl) (by kernel_rfl) (fun _ _ _ h => h) (Or.inl ⟨by rfl, fun w' hS => by have := (H3.out.2.on hS.out).slice; go_simp⟩) bs0 (some 43) rfl ?_
  try simp only [Act.put, List.setIfInBounds_toArray, List.set_cons_zero, List.set_cons_succ]
  refine wpAnyH_ready (rs := [2]) (by kernel_rfl) (by simp) ?_
  refine AllReadyH.cons rfl (fun K hK => ?_) AllReadyH.nil
  go_simp
  have b1 : Hid (Below w3.heap.size w3 (w3.alloc (.cells #[] 3)).drew) := Lib.hid (on_trans (on_alloc w3 (.cells #[] 3)) (on_drew _))
  refine hK.out _ _ b1 fun bs1 => ?_
  clear hK K
  refine wpAnyH_ready (rs := [5]) (by kernel_rfl) (by simp) ?_
  refine AllReadyH.cons rfl (fun K hK => ?_) AllReadyH.nil
  refine step_append_il rfl (.tmp 41) (.tmp 43) rfl w3.heap.size (.slice (some ⟨w3.heap.size, 0, none⟩) 0 0) 0 [] rfl (World.ownsRow_made w3 #[] 0 (Nat.le_refl _) (Nat.zero_le _) rfl) A' n' c' V' rfl (H3.out.2.vals.on b1.out) (by omega) (by simp) (some 44) rfl ?_
  intro bv bw bhown bbq
  obtain ⟨bA, bc, bhv, bhi, _⟩ := il_of_own2 bhown
  rw [bhv]
  rw [Nat.zero_add, List.nil_append] at bhi
  rw [Nat.zero_add]
  clear bhown bhv
  try simp only [Act.put, List.setIfInBounds_toArray, List.set_cons_zero, List.set_cons_succ]
  have b2 : Hid (Below w3.heap.size w3 bw) := Lib.hid (b1.out.trans bbq)
  refine hK.out _ _ b2 fun _ => ?_
  clear hK K
  refine take_to (i := 6) (v := specV B' (.slice bA n' bc)) rfl (by kernel_rfl) (by kernel_rfl) (by kernel_rfl) (fun _ _ _ h => h) (yieldsIf_build (by rfl) 42 _ rfl _ _ (by simp [Act.eval]) (fun w' => build_spec w' bA n' bc H3.out.2.len)) b2 (some 45) rfl ?_
  try simp only [Act.put, List.setIfInBounds_toArray, List.set_cons_zero, List.set_cons_succ]
  refine wpAnyH_ready (rs := [7]) (by kernel_rfl) (by simp) ?_
  refine AllReadyH.cons rfl (fun K hK => ?_) AllReadyH.nil
  go_simp
  refine (new_any bw B' V' bA n' bc H3.out.2.len bhi (by omega)).mono ?_
  rintro e w4 ⟨bbn, bres⟩
  have b3 : Hid (Below w3.heap.size w3 w4) := Lib.hid (on_trans b2.out bbn)
  obtain ⟨bp, be, rfl, bT⟩ : ∃ p x, e = .returned (.tuple #[p, x]) ∧ (Valid B' V' → ∃ t, p = .pointer (some ⟨t, 0, none⟩) ∧ Tb w4 bw.heap.size w4.heap.size t B' V' (codes B' V')) := by
    rcases bres with ⟨h1, h2⟩ | ⟨_, t, h2, h3⟩
    · exact ⟨_, _, h2, fun h => absurd h h1⟩
    · exact ⟨_, _, h2, fun _ => ⟨t, rfl, h3⟩⟩
  have bF := Lib.hid (And.intro bT (And.intro b2.out.size (And.intro b3.out (bbn.size))))
  clear bT bres bbn bhi bbq
  refine hK.out _ _ b3 fun _ => ?_
  clear hK K
  refine take_to (i := 8) (v := .tuple #[bp, be]) rfl (by kernel_rfl) (by kernel_rfl) (by kernel_rfl) (fun _ _ _ h => h) (Or.inl ⟨by rfl, fun w' hS => by go_simp⟩) b3 (some 38) rfl ?_
  try simp only [Act.put, List.setIfInBounds_toArray, List.set_cons_zero, List.set_cons_succ]
  refine take_to (i := 9) (v := bp) rfl (by kernel_rfl) (by kernel_rfl) (by kernel_rfl) (fun _ _ _ h => h) (Or.inl ⟨by rfl, fun w' hS => by go_simp⟩) b3 (some 47) rfl ?_
  try simp only [Act.put, List.setIfInBounds_toArray, List.set_cons_zero, List.set_cons_succ]
  refine take_to (i := 10) (v := be) rfl (by kernel_rfl) (by kernel_rfl) (by kernel_rfl) (fun _ _ _ h => h) (Or.inl ⟨by rfl, fun w' hS => by go_simp⟩) b3 (some 48) rfl ?_
  try simp only [Act.put, List.setIfInBounds_toArray, List.set_cons_zero, List.set_cons_succ]
  refine take_to (i := 11) (v := bp) rfl (by kernel_rfl) (by kernel_rfl) (by kernel_rfl) (fun _ _ _ h => h) (Or.inl ⟨by rfl, fun w' hS => by go_simp⟩) b3 (some 11) rfl ?_
  try simp only [Act.put, List.setIfInBounds_toArray, List.set_cons_zero, List.set_cons_succ]
  refine take_to (i := 12) (v := be) rfl (by kernel_rfl) (by kernel_rfl) (by kernel_rfl) (fun _ _ _ h => h) (Or.inl ⟨by rfl, fun w' hS => by go_simp⟩) b3 (some 12) rfl ?_
  try simp only [Act.put, List.setIfInBounds_toArray, List.set_cons_zero, List.set_cons_succ]
  refine wpAnyH_done (by kernel_rfl) ?_ _
  have H4 := Lib.hid (And.intro (H3.out.1.on b3.out) (H3.out.2.on b3.out))
  have HL1 := Lib.hid (load_spec H4.out.1.box H4.out.1.len)
  go_wp2_with (first
    | (with_reducible refine wpList_load_to (op := ⟨some 50, _, _, _, _, _⟩) rfl 42 (.tmp 2) rfl (.pointer (some ⟨w.heap.size, 0, none⟩)) rfl (specV B (.slice A n c)) HL1.out ?_)
    | fail)
  refine (refCodes_any w4 B V A n c H4.out.1.len H4.out.1.vals).mono ?_
  rintro e w5 ⟨b5, r5⟩
  have HL2 := Lib.hid (load_spec (H4.out.2.on b5).box H4.out.2.len)
  obtain ⟨A5, n5, c5, f5, rfl, h5⟩ : ∃ A5 n5 c5 f5, e = .returned (.tuple #[.slice A5 n5 c5, .bool f5]) ∧ (f5 = true → Valid B V ∧ Te w5 A5 n5 (codes B V) ∧ n5 ≤ 256 ∧ ∀ b off, A5 = some ⟨b, off, none⟩ → w4.heap.size ≤ b) := by
    rcases r5 with ⟨_, h2⟩ | ⟨h1, A5, n5, c5, h2, h3, h4, h6⟩
    · exact ⟨_, _, _, _, h2, fun h => by cases h⟩
    · exact ⟨_, _, _, _, h2, fun _ => ⟨h1, h3, h4, h6⟩⟩
  have H5 := Lib.hid (And.intro (H4.out.2.on b5) (And.intro h5 b5))
  clear r5 h5 b5
  go_wp2_with (first
    | (with_reducible refine wpList_load_to (op := ⟨some 55, _, _, _, _, _⟩) rfl 42 (.tmp 3) rfl (.pointer (some ⟨g', 0, none⟩)) rfl (specV B' (.slice A' n' c')) HL2.out ?_)
    | fail)
  refine (refCodes_any w5 B' V' A' n' c' H5.out.1.len H5.out.1.vals).mono ?_
  rintro e w6 ⟨b6, r6⟩
  obtain ⟨A6, n6, c6, f6, rfl, h6⟩ : ∃ A6 n6 c6 f6, e = .returned (.tuple #[.slice A6 n6 c6, .bool f6]) ∧ (f6 = true → Valid B' V' ∧ Te w6 A6 n6 (codes B' V') ∧ n6 ≤ 256 ∧ ∀ b off, A6 = some ⟨b, off, none⟩ → w5.heap.size ≤ b) := by
    rcases r6 with ⟨_, h2⟩ | ⟨h1, A5, n5, c5, h2, h3, h4, h6⟩
    · exact ⟨_, _, _, _, h2, fun h => by cases h⟩
    · exact ⟨_, _, _, _, h2, fun _ => ⟨h1, h3, h4, h6⟩⟩
  have H6 := Lib.hid (And.intro (H5.out.1.on b6) (And.intro h6 b6))
  clear r6 h6 b6
  cases f5 with
  | false =>
    go_wp2_with fail
    refine bodyPost_ret (v := .tuple #[ap, bp, .slice A5 n5 c5, .slice A6 n6 c6, .bool false]) (by simp [results, Tryd.results20, go_sem]) rfl ?_
    exact ⟨H6.out.1.bel, .inl ⟨_, _, _, _, rfl⟩⟩
  | true =>
    cases f6 with
    | false =>
      go_wp2_with fail
      refine bodyPost_ret (v := .tuple #[ap, bp, .slice A5 n5 c5, .slice A6 n6 c6, .bool false]) (by simp [results, Tryd.results20, go_sem]) rfl ?_
      exact ⟨H6.out.1.bel, .inl ⟨_, _, _, _, rfl⟩⟩
    | true =>
      go_wp2_with fail
      refine bodyPost_ret (v := .tuple #[ap, bp, .slice A5 n5 c5, .slice A6 n6 c6, .bool true]) (by simp [results, Tryd.results20, go_sem]) rfl ?_
      obtain ⟨v1, x1, x2, x3⟩ := H5.out.2.1 (by trivial)
      obtain ⟨v2, y1, y2, y3⟩ := H6.out.2.1 (by trivial)
      obtain ⟨t, rfl, ht⟩ := aF.out.1 v1
      obtain ⟨t', rfl, ht'⟩ := bF.out.1 v2
      have z2 := HB.out.1.bel.size
      have z3 := aF.out.2.2.1.size
      have z4 := bF.out.2.2.1.size
      have z5 := H5.out.2.2.size
      have z6 := H6.out.2.2.size
      have z7 := aF.out.2.1
      have z8 := bF.out.2.1
      refine ⟨H6.out.1.bel, .inr ⟨by omega, by omega, t, t', A5, n5, c5, A6, n6, c6, rfl, ?_⟩⟩
      refine ⟨⟨_, _, ?_, ?_, ((ht.on b3.out).on H5.out.2.2).on H6.out.2.2⟩, ⟨_, _, ?_, ?_, (ht'.on H5.out.2.2).on H6.out.2.2⟩, x1.on H6.out.2.2, y1, ⟨x2, y2⟩, ⟨fun b off e => ?_, fun b off e => ?_⟩, ⟨v1, v2⟩⟩
      · omega
      · omega
      · omega
      · omega
      · have := x3 b off e
        omega
      · have := y3 b off e
        omega
end Go.Proofs.YthfpdebpepbejaaDoor
