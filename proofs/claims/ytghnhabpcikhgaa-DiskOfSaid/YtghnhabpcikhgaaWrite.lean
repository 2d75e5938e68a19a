/-
  The contract of Write.
-/
import Derived.Test.YtghnhabpcikhgaaAddNil
namespace Go.Proofs.Ytghnhabpcikhgaa
open Go.RowKit
variable {X : Nat → Prop} {N : Nat}

theorem Fr.mp {lo d m n : Nat} {w w' : World} {v : Nat → Value} {cd : Array Value} (h : Fr lo d w w') (hd : Box w d 59 cd) (hm : Mp w m n v) : Mp w' m n v := by
  obtain ⟨es, c, he⟩ := hm.is
  refine hm.block (h.block m hm.lt ?_)
  rintro (rfl | ⟨_, c2, fr, h2⟩)
  · unfold Box at hd
    rw [he] at hd
    cases hd
  · rw [he] at h2
    rcases h2 with h2 | h2 <;> cases h2
theorem cellsQ_snoc (q : List Ent) (e : Ent) : cellsQ (q ++ [e]) = cellsQ q ++ [.int .i64 (e.i : Int), .slice (some ⟨e.g, 0, none⟩) 128 128] := by simp [cellsQ]

section
variable {lo : Nat} {w : World} {d cnt : Nat} {f : Nat → List Int} {p : List Wr}

/-- what a write leaves -/
def Wrote (X : Nat → Prop) (N lo : Nat) (w : World) (d cnt : Nat) (f : Nat → List Int) (p : List Wr) (w' : World) : Prop := Own X N lo w' d cnt f p false ∧ Fr lo d w w'

theorem wrote_of_added {w' : World} {m j n : Nat} {v : Nat → Value} {q : List Ent} {own : Nat → Prop} {J : Value} {i g : Nat} {l : List Int} {e : Ending} (hd : Box w d 59 (cellsD cnt m J p.length false)) (hm : Mp w m n v) (hn : n ≤ N) (hs : ∀ i, i < cnt → Sec X w (v i) (f i)) (hg : Good cnt f) (hL : Lie X w q) (hq : q.map Ent.w = p)
    (hp : GoodW cnt p) (hpl : p.length < 1000) (hc : cnt ≤ 4096) (hj : lo ≤ j) (hown : ∀ k, k < w.heap.size → k = j ∨ own k → lo ≤ k ∧ Jk w k)
    (hb : Box w g 5 (cellsOf l).toArray) (hx : ¬ X g) (hl : l.length = 128) (hf : Fit l) (hi : i < cnt) (h : Added lo w d cnt m j q.length own (cellsQ q) i g e w') :
    e = .returned (.tuple #[]) ∧ Wrote X N lo w d cnt f (p ++ [(i, l)]) w' := by
  obtain ⟨he, v1, hd1, hj1, ho1, hk⟩ := h
  have hfr : Fr lo d w w' := Kept.mono hk fun k hk h => by
    rcases h with h | h
    · exact .inl h
    · exact .inr (hown k hk h)
  have hlen : (p ++ [(i, l)]).length = q.length + 1 := by rw [← hq]; simp
  refine ⟨he, ⟨m, .pointer (some ⟨j, 0, none⟩), n, v, q ++ [⟨i, g, l⟩], ?_, hfr.mp hd hm, hn, fun k hk => (hs k hk).keep fun g2 cs h2 _ => hfr.box5 hd h2, hg, ⟨?_, .inr ⟨j, v1, by simp, rfl, hj, hj1, ?_⟩⟩, ?_, ?_, ?_, hc⟩, hfr⟩
  · rw [hlen]
    exact hd1
  · intro e he
    rcases List.mem_append.1 he with he | he
    · exact ⟨hfr.box5 hd (hL e he).1, (hL e he).2⟩
    · rw [List.mem_singleton.1 he]
      exact ⟨hfr.box5 hd hb, hx⟩
  · rw [List.length_append, cellsQ_snoc]
    exact ho1
  · rw [List.map_append, hq]
    rfl
  · exact hp.app fun x hx => by rw [List.mem_singleton.1 hx]; exact ⟨hi, hl, hf⟩
  · rw [List.length_append]
    simp
    omega

theorem add_own {i g : Nat} {l : List Int} (h : Own X N lo w d cnt f p false) (hlo : lo ≤ w.heap.size) (hpl : p.length < 1000) (hb : Box w g 5 (cellsOf l).toArray) (hx : ¬ X g) (hl : l.length = 128) (hf : Fit l) (hi : i < cnt) :
    Calls Try.prog 29 #[.pointer (some ⟨d, 0, none⟩), .agg #[.int .i64 (i : Int), .slice (some ⟨g, 0, none⟩) 128 128]] w fun e w' => e = .returned (.tuple #[]) ∧ Wrote X N lo w d cnt f (p ++ [(i, l)]) w' := by
  obtain ⟨m, J, n, v, q, hd, hm, hn, hs, hg, hJ, hq, hp, _, hc⟩ := h
  have hlen : p.length = q.length := by rw [← hq]; simp
  rcases hJ.2 with ⟨rfl, rfl⟩ | ⟨j, v1, _, rfl, hj, hbj, ho⟩
  · rw [hlen] at hd
    refine (add_first lo w d cnt m i g hd hlo).mono ?_
    rintro e w' ⟨j, hj, hA⟩
    refine wrote_of_added (J := .pointer none) (by rw [hlen]; exact hd) hm hn hs hg hJ.1 hq hp hpl hc (Nat.le_trans hlo hj) (fun k hk h => ?_) hb hx hl hf hi hA
    rcases h with rfl | rfl <;> omega
  · obtain ⟨A, c, rfl⟩ : ∃ A c, v1 = .slice A q.length c := by
      rcases ho.2 with ⟨rfl, h0⟩ | ⟨g2, cap, cur, rfl, _⟩
      · exact ⟨none, 0, by rw [h0]⟩
      · exact ⟨_, _, rfl⟩
    rw [hlen] at hd
    refine (add_more lo w d cnt m j q.length c A (cellsQ q) i g hd hbj ho hlo (by omega)).mono ?_
    rintro e w' hA
    refine wrote_of_added (J := .pointer (some ⟨j, 0, none⟩)) (by rw [hlen]; exact hd) hm hn hs hg hJ.1 hq hp hpl hc hj (fun k hk h => ?_) hb hx hl hf hi hA
    rcases h with rfl | h
    · exact ⟨hj, _, _, .inl hbj⟩
    · rcases ho.2 with ⟨e1, _⟩ | ⟨g2, cap, cur, e1, h1, hh, _⟩
      · simp at e1
        obtain ⟨rfl, _⟩ := e1
        cases h
      · simp at e1
        obtain ⟨rfl, _⟩ := e1
        simp [Owns] at h
        subst h
        exact ⟨h1, _, _, .inr hh⟩

set_option maxRecDepth 10000 in
set_option maxHeartbeats 800000 in
theorem write_ok {K : Nat → Prop} {A : Option Addr} {c i : Nat} {l : List Int} (h : Own X N lo w d cnt f p false) (hlo : lo ≤ w.heap.size) (hpl : p.length < 1000) (hS : Sl w K A 128 c l) (hi : i < cnt) (hX : ∀ k, w.heap.size ≤ k → ¬ X k) :
    Calls Try.prog 13 #[.pointer (some ⟨d, 0, none⟩), .int .i64 (i : Int), .slice A 128 c] w fun e w' => e = .returned (.int .i64 0) ∧ Wrote X N lo w d cnt f (p ++ [(i, l)]) w' := by
  have HR := Lib.hid (show Calls Try.prog 27 #[.pointer (some ⟨d, 0, none⟩), .int .i64 (i : Int)] w fun e w' => e = .returned (.int .i64 0) ∧ w = w' by
    obtain ⟨m, J, n, v, q, hd, _⟩ := h
    refine (reach_any w d cnt false i (cellD0 hd) (cellD7 hd)).mono ?_
    rintro e w' ⟨rfl, rfl⟩
    exact ⟨by simp [reachE]; omega, rfl⟩)
  have HB := Lib.hid (show Calls Try.prog 28 #[.pointer (some ⟨d, 0, none⟩)] w fun e w' => e = .returned (.int .i64 0) ∧ w = w' by
    obtain ⟨m, J, n, v, q, hd, _⟩ := h
    exact burn_any w d (cellD4 hd))
  have hll : l.length = 128 := hS.len
  have HH := Lib.hid (And.intro h (And.intro hlo (And.intro hpl (And.intro hS (And.intro hi hll)))))
  clear h hlo hpl hS hi hll
  go_enter Try.func13, Try.ntmps13
  go_wp2_with fail
  refine HR.out.mono ?_
  rintro e w' ⟨rfl, rfl⟩
  go_wp2_with fail
  refine HB.out.mono ?_
  rintro e w' ⟨rfl, rfl⟩
  go_wp2_with fail
  refine (sector_any w K A 128 c l HH.out.2.2.2.1).mono ?_
  rintro e w1 ⟨rfl, hb1, hw1⟩
  have H1 := Lib.hid (And.intro hb1 hw1)
  clear hb1 hw1
  go_wp2_with fail
  refine (add_own (i := i) (HH.out.1.on H1.out.2) (Nat.le_trans HH.out.2.1 H1.out.2.size) HH.out.2.2.1 (l := l) (by have := H1.out.1; rwa [sec_same HH.out.2.2.2.2.2] at this) (hX _ (Nat.le_refl _)) HH.out.2.2.2.2.2 HH.out.2.2.2.1.bts.fit HH.out.2.2.2.2.1).mono ?_
  rintro e w2 ⟨rfl, hw2⟩
  have H2 := Lib.hid hw2
  clear hw2
  go_wp2
  go_ret
  exact ⟨rfl, H2.out.1, Fr.trans (Fr.of_on H1.out.2) H2.out.2⟩

set_option maxRecDepth 10000 in
set_option maxHeartbeats 400000 in
theorem write_off {Jp : World → Value → List Ent → Prop} {v : Value} {i : Int} (h : DiskG X N Jp w d cnt f p false) (hi : i < 0 ∨ (cnt : Int) ≤ i) :
    Calls Try.prog 13 #[.pointer (some ⟨d, 0, none⟩), .int .i64 i, v] w fun e w' => e = .returned (.int .i64 11) ∧ w = w' := by
  have HR := Lib.hid (show Calls Try.prog 27 #[.pointer (some ⟨d, 0, none⟩), .int .i64 i] w fun e w' => e = .returned (.int .i64 11) ∧ w = w' by
    obtain ⟨m, J, n, v, q, hd, _⟩ := h
    refine (reach_any w d cnt false i (cellD0 hd) (cellD7 hd)).mono ?_
    rintro e w' ⟨rfl, rfl⟩
    exact ⟨by simp [reachE, hi], rfl⟩)
  clear h
  go_enter Try.func13, Try.ntmps13
  go_wp2_with fail
  refine HR.out.mono ?_
  rintro e w' ⟨rfl, rfl⟩
  go_wp2
  go_ret
  exact ⟨rfl, rfl⟩
end

end Go.Proofs.Ytghnhabpcikhgaa
