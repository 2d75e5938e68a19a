/-
  Slices of one's own; the contract of own.
-/
import Derived.Test.YtadlaljohlpabaaPSame
namespace Go.Proofs.Ytadlaljohlpabaa
open Go.RowKit

/-- a slice of one's own that reads as xs: in new memory, to be written -/
structure Os (w : World) (base : Nat) (A : Option Addr) (n c : Nat) (xs : List Int) : Prop where
  il : Il w A n c xs
  new : ∀ b off, A = some ⟨b, off, none⟩ → base ≤ b ∧ b < w.heap.size ∧ ∀ i, w.frozen? ⟨b, off + i, none⟩ = false
section
variable {w w' : World} {base : Nat} {A : Option Addr} {n c : Nat} {xs : List Int}
theorem Os.ia (h : Os w base A n c xs) : Ia w A n c xs := h.il.ia
theorem Os.kept {S : Nat → Prop} (h : Os w base A n c xs) (k : Kept S w w') (hS : ∀ b off, A = some ⟨b, off, none⟩ → ¬ S b) : Os w' base A n c xs :=
  ⟨h.il.kept k hS, fun b off e => ⟨(h.new b off e).1, Nat.lt_of_lt_of_le (h.new b off e).2.1 k.size, fun i => (k.frozen (h.new b off e).2.1 (hS b off e)).trans ((h.new b off e).2.2 i)⟩⟩
theorem Os.on (h : Os w base A n c xs) (k : Below w.heap.size w w') : Os w' base A n c xs := h.kept (Kept.of_below k (fun _ => False)) (fun _ _ _ h => h)
theorem Os.down {b' : Nat} (h : Os w base A n c xs) (hb : b' ≤ base) : Os w b' A n c xs := ⟨h.il, fun b off e => ⟨Nat.le_trans hb (h.new b off e).1, (h.new b off e).2⟩⟩
theorem Os.none (w : World) (base : Nat) : Os w base none 0 0 [] := ⟨Il.none w, fun b off e => by cases e⟩
end
theorem os_of_own {w : World} {base : Nat} {v : Value} {n : Nat} {l : List Int} (h : w.ownsRow base 3 1 v n (cellsI l)) : ∃ A c, v = .slice A n c ∧ Os w base A n c l := by
  obtain ⟨A, c, e, hi, hn⟩ := il_of_own2 h
  exact ⟨A, c, e, hi, hn⟩
theorem plane_size : (Try.prog.info? 24).map (·.size) = some 3 := by kernel_rfl
/-- a plane is stored whole, as an operation of a region -/
theorem wp_store_plane {o : Oper} {a : Act} {w : World} {K : Act → World → Prop} {Q : Exit → Act → World → Prop} (x y : Operand) (ho : o.op = .store 24 x y) (hd : o.dst = none)
    (g : Nat) (cs : Array Value) (hcs : cs.size = 3) (hone : cs.all (·.oneCell') = true) (hx : a.eval x = .pointer (some ⟨g, 0, none⟩)) (hy : a.eval y = .agg cs) (old : Array Value) (hg : Box w g 24 old) (hold : old.size = 3)
    (h : ∀ w', Box w' g 24 cs → Kept (fun i => i = g) w w' → K a w') : Oper.wp Try.prog o a w K Q := by
  refine wp_store_row 24 x y ho g cs hx hy 24 old hg (by rw [plane_size, hcs]) (by rw [hold, hcs]) hone ?_
  rw [hd]
  exact h _ (setRow_heap w g old _ 24 _ hg) ⟨rfl, rfl, rfl, by simp, fun k _ hk => setRow_other w g k _ hk⟩
theorem loadVar_plane {w : World} {g : Nat} {cs : Array Value} (h : Box w g 24 cs) (hcs : cs.size = 3) : (loadVar 24 ⟨g, 0, none⟩).run Try.prog w = .ok (.agg cs) w :=
  run_loadVar_row w g 24 24 _ (0, 0) _ h Try.underlying24 rfl (by rw [plane_size, hcs])
theorem results_c {fn : Func} {p : Tmp} {ty : TypeId} (h : fn.results = #[.cell p ty]) (tmps : Array Value) (w : World) (g : Nat) (x : Value)
    (hp : tmps.getD p undef = .pointer (some ⟨g, 0, none⟩)) (hl : (loadVar ty ⟨g, 0, none⟩).run Try.prog w = .ok x w) : (results fn tmps).run Try.prog w = .ok x w := by
  have hp' : tmps[p]?.getD undef = .pointer (some ⟨g, 0, none⟩) := by simpa using hp
  simp [results, h, hp', asAddr, hl]
/-- what own answers -/
def OwnP (w : World) (W H : Int) (n : Nat) (xs : List Int) (e : Ending) (w' : World) : Prop :=
  ∃ A c, e = .returned (.agg #[.int .i64 W, .int .i64 H, .slice A n c]) ∧ Os w' w.heap.size A n c xs ∧ Below w.heap.size w w'

set_option maxHeartbeats 800000 in
theorem own_any (w : World) (W H : Int) (A : Option Addr) (n c : Nat) (xs : List Int) (h : Ia w A n c xs) (hn : n ≤ 1000000) :
    Calls Try.prog 11 #[.agg #[.int .i64 W, .int .i64 H, .slice A n c]] w (OwnP w W H n xs) := by
  obtain ⟨C, hC⟩ : ∃ C : Array Value, C = #[.int .i64 W, .int .i64 H, .slice A n c] := ⟨_, rfl⟩
  obtain ⟨g, hg⟩ : ∃ g, g = w.heap.size := ⟨_, rfl⟩
  obtain ⟨w1, hw1⟩ : ∃ w1, (w.alloc (.cells #[.int .i64 W, .int .i64 H, .slice A n c] 24)).alloc (.cells #[.int .i64 0, .int .i64 0, .slice none 0 0] 24) = w1 := ⟨_, rfl⟩
  have b1 : Box w1 g 24 C := by rw [← hw1, hg, hC]; exact (Box.made w 24 _).alloc _
  have b2 : Box w1 (g + 1) 24 #[.int .i64 0, .int .i64 0, .slice none 0 0] := by rw [← hw1, hg]; have := Box.made (w.alloc (.cells #[.int .i64 W, .int .i64 H, .slice A n c] 24)) 24 #[.int .i64 0, .int .i64 0, .slice none 0 0]; simpa using this
  have bel : Below w.heap.size w w1 := by rw [← hw1]; exact on_trans (on_alloc _ _) (on_alloc _ _)
  have hs1 : w1.heap.size = g + 1 + 1 := by rw [← hw1, hg]; simp
  have hi := h.on bel
  have HH := Lib.hid (And.intro b1 (And.intro b2 (And.intro bel (And.intro hi (And.intro hw1 (And.intro hg (And.intro hC hs1)))))))
  clear b1 b2 bel hi hw1 h hs1
  go_enter Try.func11, Try.ntmps11
  go_wp2_with fail
  rw [HH.out.2.2.2.2.1, ← hg]
  clear hg
  refine wp_region_held_drew (S := fun w' => Box w' g 24 C) (by kernel_rfl) (HH.out.1.drewN 1) fun s0 => ?_
  refine take_to (i := 0) (v := .pointer (some ⟨g, 0, none⟩)) rfl (by kernel_rfl) (by kernel_rfl) (by kernel_rfl) (fun _ _ _ h => h) (Or.inl ⟨by rfl, fun w' hS => by go_simp⟩) s0 (some 3) rfl ?_
  refine take_to (i := 1) (v := .int .i64 W) rfl (by kernel_rfl) (by kernel_rfl) (by kernel_rfl) (fun _ _ _ h => h) (Or.inl ⟨by rfl, fun w' hS => by have := hS.cell 0; rw [hC] at this; simp at this; go_simp⟩) s0 (some 4) rfl ?_
  refine take_to (i := 2) (v := .pointer (some ⟨g, 1, none⟩)) rfl (by kernel_rfl) (by kernel_rfl) (by kernel_rfl) (fun _ _ _ h => h) (Or.inl ⟨by rfl, fun w' hS => by go_simp⟩) s0 (some 5) rfl ?_
  refine take_to (i := 3) (v := .int .i64 H) rfl (by kernel_rfl) (by kernel_rfl) (by kernel_rfl) (fun _ _ _ h => h) (Or.inl ⟨by rfl, fun w' hS => by have := hS.cell 1; rw [hC] at this; simp at this; go_simp⟩) s0 (some 6) rfl ?_
  refine take_to (i := 5) (v := .pointer (some ⟨g, 2, none⟩)) rfl (by kernel_rfl) (by kernel_rfl) (by kernel_rfl) (fun _ _ _ h => h) (Or.inl ⟨by rfl, fun w' hS => by go_simp⟩) s0 (some 8) rfl ?_
  refine take_to (i := 6) (v := .slice A n c) rfl (by kernel_rfl) (by kernel_rfl) (by kernel_rfl) (fun _ _ _ h => h) (Or.inl ⟨by rfl, fun w' hS => by have := hS.cell 2; rw [hC] at this; simp at this; go_simp⟩) s0 (some 9) rfl ?_
  refine wpAnyH_ready (rs := [4]) (by kernel_rfl) (by simp) ?_
  refine AllReadyH.cons rfl (fun K hK => ?_) AllReadyH.nil
  go_simp
  refine hK.out _ _ (HH.out.1.alloc _) fun s1 => ?_
  clear hK K s0
  refine wpAnyH_ready (rs := [7]) (by kernel_rfl) (by simp) ?_
  refine AllReadyH.cons rfl (fun K hK => ?_) AllReadyH.nil
  refine step_append_il rfl (.tmp 7) (.tmp 9) rfl w1.heap.size (.slice (some ⟨w1.heap.size, 0, none⟩) 0 0) 0 [] rfl (World.ownsRow_made w1 #[] 0 (Nat.le_refl _) (Nat.zero_le _) rfl) A n c xs rfl ((HH.out.2.2.2.1.alloc _).drew) (by omega) (by simp) (some 10) rfl ?_
  intro v3 w3 hown3 bq
  obtain ⟨A3, c3, hv3, ho3⟩ := os_of_own hown3
  rw [hv3]
  clear hown3 hv3
  have K3 := ((HH.out.1.alloc (.cells #[] 3)).drewN 1).bel bq HH.out.1.lt
  have B3 := ((HH.out.2.1.alloc (.cells #[] 3)).drewN 1).bel bq (by have := HH.out.2.1.lt; omega)
  refine hK.out _ _ K3 fun s2 => ?_
  clear hK K s1
  refine take_to (i := 8) (v := .agg #[.int .i64 W, .int .i64 H, .slice A3 (0 + n) c3]) rfl (by kernel_rfl) (by kernel_rfl) (by kernel_rfl) (fun _ _ _ h => h) (Or.inl ⟨by rfl, fun w' hS => by go_simp⟩) s2 (some 11) rfl ?_
  refine wpAnyH_ready (rs := [9]) (by kernel_rfl) (by simp) ?_
  refine AllReadyH.cons rfl (fun K hK => ?_) AllReadyH.nil
  rw [if_pos (by rfl)]
  refine wp_store_plane _ _ rfl rfl (g + 1) #[.int .i64 W, .int .i64 H, .slice A3 (0 + n) c3] rfl (by simp [Value.oneCell']) rfl rfl _ B3 rfl fun w4 b4 k4 => ?_
  refine hK.out _ _ (k4.box K3 (by omega)) fun s3 => ?_
  clear hK K s2 s3
  refine wpAnyH_done (by kernel_rfl) ?_ _
  have H4 := Lib.hid (And.intro ho3 (And.intro bq (And.intro b4 k4)))
  clear ho3 bq b4 k4 K3 B3
  go_wp2
  refine bodyPost_ret (v := .agg #[.int .i64 W, .int .i64 H, .slice A3 (0 + n) c3]) (results_c (fn := Try.f11) Try.results11 _ _ (g + 1) _ rfl (loadVar_plane H4.out.2.2.1 rfl)) rfl ?_
  obtain ⟨ho3, bq, b4, k4⟩ := H4.out
  have hs := HH.out.2.2.2.2.2.2.2
  have hg := HH.out.2.2.2.2.2.1
  rw [Nat.zero_add, List.nil_append] at ho3
  rw [Nat.zero_add]
  refine ⟨A3, c3, rfl, (ho3.down (by omega)).kept k4 (fun b off e hb => ?_), ?_⟩
  · have := (ho3.new b off e).1
    omega
  · have h1 : Below w.heap.size w (w1.alloc (.cells #[] 3)).drew := (on_trans HH.out.2.2.1 (on_alloc _ _)).drew
    have h2 : Below w.heap.size w w3 := h1.trans (bq.mono (by omega))
    exact h2.trans (k4.below (by have := h2.size; omega) (fun i hi e => by omega))
end Go.Proofs.Ytadlaljohlpabaa
