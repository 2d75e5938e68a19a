/-
  The reference's New: which sectors are used, or why there is no map.
-/
import Derived.Test.YtcgajomngcgchaaFree
import Derived.Laws.OwnMore
namespace Go.Proofs.Ytcgajomngcgchaa
open Go.RowKit

def RBad (m : Int) (l : List X) (w : World) (r : Ending) (w' : World) : Prop := newE m l ≠ 0 ∧ r = .returned (.tuple #[.agg #[.slice none 0 0], .int .i64 (newE m l)]) ∧ Below w.heap.size w w'
def RGood (m : Int) (l : List X) (w : World) (r : Ending) (w' : World) : Prop := newE m l = 0 ∧ ∃ A n c u, r = .returned (.tuple #[.agg #[.slice A n c], .int .i64 0]) ∧ Bl (fun b => w.heap.size ≤ b) w' A n c u ∧ Uses m l u ∧ Below w.heap.size w w'
def RNew (m : Int) (l : List X) (w : World) (r : Ending) (w' : World) : Prop := RBad m l w r w' ∨ RGood m l w r w'
theorem results_30 {g : Nat} {w : World} {tmps : Array Value} {A : Option Addr} {n c : Nat} {z : Int} (h4 : tmps.getD 4 undef = .pointer (some ⟨g, 0, none⟩)) (h5 : tmps.getD 5 undef = .int .i64 z) (hc : w.cell? ⟨g, 0, none⟩ = some (.slice A n c)) : (results Try.f13 tmps).run Try.prog w = .ok (.tuple #[.agg #[.slice A n c], .int .i64 z]) w := by
  simp at h4 h5
  simp [results, Try.results13, go_sem, h4, h5, hc]

theorem refNew_bad1 (w : World) (m : Int) (A : Option Addr) (n c : Nat) (l : List X) (h : ¬ (1 ≤ m ∧ m ≤ 4096)) : Calls Try.prog 13 #[.int .i64 m, .slice A n c] w (RNew m l w) := by
  have HN := Lib.hid (newE_1 (l := l) h)
  by_cases h1 : m < 1
  · clear h
    go_enter Try.func13, Try.ntmps13
    go_wp2
    exact bodyPost_ret (v := .tuple #[.agg #[.slice none 0 0], .int .i64 1]) (by simp [results, Try.results13, go_sem]) rfl (.inl ⟨by rw [HN.out]; omega, by rw [HN.out], on_trans (on_alloc _ _) (on_alloc _ _)⟩)
  · have h2 : 4096 < m := by omega
    clear h
    go_enter Try.func13, Try.ntmps13
    go_wp2
    exact bodyPost_ret (v := .tuple #[.agg #[.slice none 0 0], .int .i64 1]) (by simp [results, Try.results13, go_sem]) rfl (.inl ⟨by rw [HN.out]; omega, by rw [HN.out], on_trans (on_alloc _ _) (on_alloc _ _)⟩)

/-- how things stand when i extents, and k sectors of the next, have been marked -/
structure Nw (w wr : World) (gl M : Nat) (l : List X) (i : Nat) (x k : Int) (u : List Bool) : Prop where
  bel : Below w.heap.size w wr
  b4 : Box wr w.heap.size 30 #[.slice none 0 0]
  b6 : Box wr (w.heap.size + 1) 30 #[.slice none 0 0]
  bu : Box wr gl 4 (cellsB u).toArray
  len : u.length = M
  mem : ∀ j : Nat, j < M → (u.getD j true = true ↔ InE (l.take i) j ∨ (x ≤ (j : Int) ∧ (j : Int) < x + k))
  no : ∀ j : Nat, x ≤ (j : Int) → (j : Int) < x + k → ¬ InE (l.take i) j
  dis : Dis (l.take i)
  lo : w.heap.size + 1 < gl
theorem cellB {w : World} {g : Nat} {u : List Bool} (h : Box w g 4 (cellsB u).toArray) {i : Nat} (hi : i < u.length) : w.cell? ⟨g, i, none⟩ = some (.bool (u.getD i true)) := by
  rw [h.cell i]
  simp [cellsB, List.getD_eq_getElem?_getD, List.getElem?_eq_getElem hi]
theorem boxB_put {w : World} {g : Nat} {u : List Bool} (h : Box w g 4 (cellsB u).toArray) (i : Nat) (b : Bool) : Box (w.setCell ⟨g, i, none⟩ (.bool b)) g 4 (cellsB (u.set i b)).toArray := by
  have := h.put i (.bool b)
  have e : (cellsB u).toArray.setIfInBounds i (.bool b) = (cellsB (u.set i b)).toArray := by
    simp [cellsB, List.map_set]
  rwa [e] at this
theorem getD_set (u : List Bool) (i j : Nat) (b : Bool) (hj : j < u.length) : (u.set i b).getD j true = if i = j then b else u.getD j true := by
  rw [List.getD_eq_getElem?_getD, List.getElem?_set, List.getD_eq_getElem?_getD]
  by_cases h : i = j
  · subst h; simp [hj]
  · simp [h]
theorem Nw.set {w wr : World} {gl M : Nat} {l : List X} {i : Nat} {x k : Nat} {u : List Bool} (h : Nw w wr gl M l i x k u) (hp : x + k < M) (hf : u.getD (x + k) true = false) : Nw w (wr.setCell ⟨gl, x + k, none⟩ (.bool true)) gl M l i x ((k + 1 : Nat) : Int) (u.set (x + k) true) := by
  have hl := h.lo
  refine ⟨Below.setCell (p := ⟨gl, x + k, none⟩) h.bel (by simp only; omega) _, h.b4.beside (by simp only; omega) _, h.b6.beside (by simp only; omega) _, boxB_put h.bu _ _, by rw [List.length_set]; exact h.len, fun j hj => ?_, fun j h0 h1 => ?_, h.dis, hl⟩
  · rw [getD_set _ _ _ _ (by rw [h.len]; exact hj)]
    by_cases he : x + k = j
    · rw [if_pos he]; simp; right; omega
    · rw [if_neg he, h.mem j hj]
      constructor
      · rintro (h | h)
        · exact .inl h
        · exact .inr (by omega)
      · rintro (h | h)
        · exact .inl h
        · exact .inr (by omega)
  · by_cases he : x + k = j
    · intro hi
      have := (h.mem j (by omega)).2 (.inl hi)
      rw [← he, hf] at this
      cases this
    · exact h.no j h0 (by omega)
theorem Nw.next {w wr : World} {gl M : Nat} {l : List X} {i : Nat} {x y : Nat} {u : List Bool} (h : Nw w wr gl M l i x y u) (hi : i < l.length) (he : l.getD i (0, 0) = ((x : Int), (y : Int))) (hok : ∀ e ∈ l, Ok M e) : Nw w wr gl M l (i + 1) 0 0 u := by
  have htk := take_moreX l i hi
  rw [he] at htk
  refine ⟨h.bel, h.b4, h.b6, h.bu, h.len, fun j hj => ?_, fun j h0 h1 => by omega, ?_, h.lo⟩
  · rw [htk, inE_app, inE_one, h.mem j hj]
    simp only
    constructor
    · rintro (h | h)
      · exact .inl (.inl h)
      · exact .inl (.inr h)
    · rintro ((h | h) | h)
      · exact .inl h
      · exact .inr h
      · omega
  · rw [htk]
    unfold Dis
    rw [List.pairwise_append]
    refine ⟨h.dis, List.pairwise_singleton _ _, fun a ha b hb => ?_⟩
    obtain rfl : b = ((x : Int), (y : Int)) := by simpa using hb
    have oa := hok a (List.mem_of_mem_take ha)
    have ob := hok _ (by have := getD_mem (l := l) hi; rwa [he] at this)
    have o1 := oa.1; have o2 := oa.2.1; have o3 := ob.2.1
    unfold Apart
    simp only at o3 ⊢
    by_cases h1 : a.1 + a.2 ≤ (x : Int)
    · exact .inl h1
    · by_cases h2 : (x : Int) + y ≤ a.1
      · exact .inr h2
      · exact absurd ⟨a, ha, by omega, by omega⟩ (h.no (max a.1 (x : Int)).toNat (by omega) (by omega))
theorem Nw.bad {w wr : World} {gl M : Nat} {l : List X} {i : Nat} {x y k : Nat} {u : List Bool} (h : Nw w wr gl M l i x k u) (hi : i < l.length) (he : l.getD i (0, 0) = ((x : Int), (y : Int))) (hk : k < y) (hp : x + k < M) (ht : u.getD (x + k) true = true) : ¬ Dis l := by
  intro hd
  rcases (h.mem _ hp).1 ht with ⟨a, ha, a1, a2⟩ | h1
  · have hs := split_at hi
    rw [he] at hs
    rw [hs] at hd
    unfold Dis at hd
    rw [List.pairwise_append] at hd
    have := hd.2.2 a ha ((x : Int), (y : Int)) (by simp)
    unfold Apart at this
    simp only at this
    omega
  · omega
set_option maxHeartbeats 3200000 in
set_option maxRecDepth 20000 in
theorem refNew_good (w : World) (M : Nat) (K : Nat → Prop) (A : Option Addr) (n c : Nat) (l : List X) (hm : 1 ≤ M ∧ M ≤ 4096) (hx : Xl K w A n c l) (hn : n ≤ 5000) : Calls Try.prog 13 #[.int .i64 M, .slice A n c] w (RNew M l w) := by
  have hmax := hx.max
  have hcap := hx.cap
  unfold maxLen at hmax
  have HX := Lib.hid (And.intro hx hx.lenX)
  obtain ⟨m0, m1⟩ := hm
  have mm : (1 : Int) ≤ (M : Int) ∧ (M : Int) ≤ 4096 := by omega
  obtain ⟨mm0, mm1⟩ := mm
  clear hx
  go_enter Try.func13, Try.ntmps13
  go_wp2_with fail
  obtain ⟨w2, hw2⟩ : ∃ w2, (w.alloc (.cells #[.slice none 0 0] 30)).alloc (.cells #[.slice none 0 0] 30) = w2 := ⟨_, rfl⟩
  have b4 : Box w2 w.heap.size 30 #[.slice none 0 0] := by rw [← hw2]; exact (Box.made _ _ _).alloc _
  have b6 : Box w2 (w.heap.size + 1) 30 #[.slice none 0 0] := by
    have := Box.made (w.alloc (.cells #[.slice none 0 0] 30)) 30 #[.slice none 0 0]
    rw [hw2] at this
    simpa using this
  have k2 : Below w.heap.size w w2 := by rw [← hw2]; exact on_trans (on_alloc _ _) (on_alloc _ _)
  rw [hw2]
  have H2 := Lib.hid (And.intro b4 (And.intro b6 k2))
  clear hw2 b4 b6 k2
  go_loopw [7] (fun i wr => ∃ k : Nat, k ≤ n ∧ i = .int .i64 (k : Int) ∧ (∀ j, j < k → Ok M (l.getD j (0, 0))) ∧ Below w2.heap.size w2 wr) (fun i _ => n - (intOf i).toNat)
  case atStart => exact ⟨0, by omega, rfl, fun j hj => by omega, Below.refl _ _⟩
  case round =>
    obtain ⟨k, hk, rfl, hno, hb⟩ := hrel
    have HB := Lib.hid (And.intro hno hb)
    clear hno hb
    by_cases hkn : k < n
    · obtain ⟨b, off, rfl, hbs, hK, c1, c2⟩ := (HX.out.1.on (on_trans H2.out.2.2 HB.out.2)).getX hkn
      have hmem : l.getD k (0, 0) ∈ l := getD_mem (by rw [HX.out.2]; exact hkn)
      obtain ⟨x, y, hxy⟩ : ∃ x y : Int, l.getD k (0, 0) = (x, y) := ⟨_, _, rfl⟩
      rw [hxy] at c1 c2
      by_cases hok : Ok M (x, y)
      · have hd : decide (Ok M (x, y)) = true := decide_eq_true hok
        have hno : ∀ j, j < k + 1 → Ok M (l.getD j (0, 0)) := fun j hj => by
          rcases Nat.lt_or_ge j k with h | h
          · exact HB.out.1 j h
          · obtain rfl : j = k := by omega
            rw [hxy]; exact hok
        have HT := Lib.hid hno
        clear hno hok hxy hmem
        go_wp2_with (go_at_call 33; refine (may_any x y M _ ⟨by omega, by omega⟩).mono ?_; rintro e w6 ⟨rfl, b6⟩; have H6 := Lib.hid b6; clear b6)
        go_roundw
        case rel => exact ⟨k + 1, by omega, by go_num, HT.out, on_trans HB.out.2 H6.out⟩
        case measure => simp [intOf]; omega
      · have hd : decide (Ok M (x, y)) = false := decide_eq_false hok
        have hne : newE M l = 11 := newE_11 ⟨mm0, mm1⟩ (fun h => hok (by have := h _ hmem; rwa [hxy] at this))
        have HT := Lib.hid hne
        clear hne hok hxy hmem
        go_wp2_with (go_at_call 33; refine (may_any x y M _ ⟨by omega, by omega⟩).mono ?_; rintro e w6 ⟨rfl, b6⟩; have b := on_trans HB.out.2 b6; have v4 : w6.cell? ⟨w.heap.size, 0, none⟩ = some (.slice none 0 0) := (H2.out.1.on b).cell 0; have v5 : w6.frozen? ⟨w.heap.size, 0, none⟩ = false := (H2.out.1.on b).free 0; have v6 : w6.cell? ⟨w.heap.size + 1, 0, none⟩ = some (.slice none 0 0) := (H2.out.2.1.on b).cell 0; have H6 := Lib.hid (And.intro (H2.out.1.on b) (on_trans H2.out.2.2 b)); clear b6 b)
        have vz : (w6.setCell ⟨w.heap.size, 0, none⟩ (.slice none 0 0)).cell? ⟨w.heap.size, 0, none⟩ = some (.slice none 0 0) := by
          have := (H6.out.1.put 0 (.slice none 0 0)).cell 0
          simpa using this
        exact bodyPost_ret (v := .tuple #[.agg #[.slice none 0 0], .int .i64 11]) (by simp [results, Try.results13, go_sem, vz]) rfl (.inl ⟨by rw [HT.out]; omega, by rw [HT.out], Below.setCell (p := ⟨w.heap.size, 0, none⟩) H6.out.2 (Nat.le_refl _) _⟩)
    · obtain rfl : k = n := by omega
      have hok : ∀ e ∈ l, Ok M e := fun e he => by
        obtain ⟨j, hj, rfl⟩ := List.getElem_of_mem he
        have := HB.out.1 j (by rw [← HX.out.2]; exact hj)
        rwa [List.getD_eq_getElem?_getD, List.getElem?_eq_getElem hj] at this
      obtain ⟨wo, rfl⟩ : ∃ wo, wo = wr := ⟨_, rfl⟩
      obtain ⟨i0, hi0, hz0, hz1, hz2⟩ := info_parts el_bool.info
      have HI := Lib.hid (And.intro hi0 (And.intro hz0 (And.intro hz1 hz2)))
      have hi1 : i0.bytes * M ≤ 281474976710656 := by rw [hz2]; omega
      clear hi0 hz0 hz1 hz2
      go_wp2_with (first
        | ((with_reducible refine wpList_make_full _ (o := ⟨some 34, _, _, _, _, _⟩) rfl (.tmp 33) (.tmp 33) 28 rfl wo.heap.size 4 i0 (.bool false) 1 Try.underlying28 HI.out.1 HI.out.2.1 HI.out.2.2.1 .i64 .i64 (M : Int) (M : Int) M rfl rfl rfl rfl hi1 ?hM (Nat.le_refl _) ?_)
           case hM => unfold maxLen; omega
           intro w3 hown hgr
           have H3 := Lib.hid (And.intro hown hgr)
           clear hown hgr)
        | fail)
      have hbu : Box w3 wo.heap.size 4 (cellsB (List.replicate M false)).toArray := by
        have h1 := H3.out.1
        rw [show (Value.bool false).cells = #[.bool false] from rfl, Nat.mul_one, toList_madeCells_one] at h1
        rcases h1.2 with ⟨h', _⟩ | ⟨g', cap', cur, h', _, hh, _, _, hs, ht⟩
        · cases h'
        · cases h'
          unfold Box
          rw [hh]
          have e : cur.toList = cellsB (List.replicate M false) := by
            rw [List.take_of_length_le (by simp [hs])] at ht
            rw [ht]; simp [cellsB]
          rw [← e]
      have hk3 : Below wo.heap.size wo w3 := ⟨H3.out.2.os, H3.out.2.tape, H3.out.2.output, H3.out.2.size, fun k hk => H3.out.2.block k hk (by simp)⟩
      have HN := Lib.hid (show Nw w w3 wo.heap.size M l 0 0 0 (List.replicate M false) from
        ⟨on_trans (on_trans H2.out.2.2 HB.out.2) hk3, (H2.out.1.on HB.out.2).on hk3, (H2.out.2.1.on HB.out.2).on hk3, hbu, by simp, fun j hj => by simp [List.getD_eq_getElem?_getD, hj, InE.nil], fun j h0 h1 => by omega, by simp [Dis], by have := H2.out.2.1.lt; have := HB.out.2.size; omega⟩)
      have HO := Lib.hid hok
      obtain ⟨gl, hgl⟩ : ∃ gl, wo.heap.size = gl := ⟨_, rfl⟩
      rw [hgl] at HN ⊢
      clear hbu hk3 hgl hi1 hok
      go_wp2_with fail
      go_loopw [9, 10] (fun i _ wr => ∃ (j : Nat) (u : List Bool), j ≤ k ∧ i = .int .i64 (j : Int) ∧ Nw w wr gl M l j 0 0 u) (fun i _ _ => k - (intOf i).toNat)
      case atStart => exact ⟨0, _, by omega, rfl, HN.out⟩
      case round =>
        obtain ⟨j, u, hj, rfl, hR⟩ := hrel
        have HR := Lib.hid hR
        clear hR
        by_cases hjk : j < k
        · have hjl : j < l.length := by rw [HX.out.2]; exact hjk
          have ok := HO.out _ (getD_mem (l := l) (k := j) hjl)
          obtain ⟨x, y, hxy⟩ : ∃ x y : Nat, l.getD j (0, 0) = ((x : Int), (y : Int)) := ⟨(l.getD j (0, 0)).1.toNat, (l.getD j (0, 0)).2.toNat, by
            have h1 := ok.1; have h2 := ok.2.1
            apply Prod.ext <;> simp only <;> omega⟩
          rw [hxy] at ok
          have o1 : 1 ≤ y := by have := ok.2.1; simp only at this; omega
          have o2 : x + y ≤ M := by have := ok.2.2; simp only at this; omega
          have HXY := Lib.hid (And.intro hjl hxy)
          clear ok hjl hxy
          have HR0 := Lib.hid (show Nw w wr gl M l j (x : Int) ((0 : Nat) : Int) u from ⟨HR.out.bel, HR.out.b4, HR.out.b6, HR.out.bu, HR.out.len, fun q hq => (HR.out.mem q hq).trans ⟨fun h => .inl (h.resolve_right (by omega)), fun h => .inl (h.resolve_right (by omega))⟩, fun q h0 h1 => by omega, HR.out.dis, HR.out.lo⟩)
          obtain ⟨b, off, hA, hbs, hK, _, _⟩ := (HX.out.1.on HR.out.bel).getX hjk
          subst hA
          clear hbs
          go_wp2_with fail
          go_loopw [10] (fun s wr => ∃ (q : Nat) (u : List Bool), q ≤ y ∧ s = .int .i64 (q : Int) ∧ Nw w wr gl M l j (x : Int) (q : Int) u) (fun s _ => y - (intOf s).toNat)
          case atStart => exact ⟨0, u, by omega, rfl, HR0.out⟩
          case round =>
            obtain ⟨q, v, hq, rfl, hR⟩ := hrel
            have HQ := Lib.hid hR
            clear hR
            obtain ⟨b', off', hA, hbs, _, c1, c2⟩ := (HX.out.1.on HQ.out.bel).getX hjk
            cases hA
            rw [HXY.out.2] at c1 c2
            simp only at c1 c2
            by_cases hqy : q < y
            · obtain ⟨p, hp⟩ : ∃ p : Nat, p = x + q := ⟨_, rfl⟩
              have hp1 : (x : Int) + (q : Int) = (p : Int) := by omega
              have hp2 : p < M := by omega
              have hp3 : (p : Int) < (M : Int) := by omega
              have hp4 : (0 : Int) ≤ (p : Int) := by omega
              have d0 := cellB HQ.out.bu (i := p) (by rw [HQ.out.len]; exact hp2)
              have d1 := HQ.out.bu.free p
              cases hv : v.getD p true with
              | true =>
                rw [hv] at d0
                have hne : newE M l = 13 := newE_13 ⟨mm0, mm1⟩ HO.out (HQ.out.bad HXY.out.1 HXY.out.2 hqy (by omega) (by rw [← hp]; exact hv))
                have v4 : wr.cell? ⟨w.heap.size, 0, none⟩ = some (.slice none 0 0) := HQ.out.b4.cell 0
                have v5 : wr.frozen? ⟨w.heap.size, 0, none⟩ = false := HQ.out.b4.free 0
                have v6 : wr.cell? ⟨w.heap.size + 1, 0, none⟩ = some (.slice none 0 0) := HQ.out.b6.cell 0
                have HT := Lib.hid hne
                clear hne hv hp
                go_wp2_with fail
                have vz : (wr.setCell ⟨w.heap.size, 0, none⟩ (.slice none 0 0)).cell? ⟨w.heap.size, 0, none⟩ = some (.slice none 0 0) := by
                  have := (HQ.out.b4.put 0 (.slice none 0 0)).cell 0
                  simpa using this
                exact bodyPost_ret (v := .tuple #[.agg #[.slice none 0 0], .int .i64 13]) (by simp [results, Try.results13, go_sem, vz]) rfl (.inl ⟨by rw [HT.out]; omega, by rw [HT.out], Below.setCell (p := ⟨w.heap.size, 0, none⟩) HQ.out.bel (Nat.le_refl _) _⟩)
              | false =>
                rw [hv] at d0
                have hset := HQ.out.set (by omega) (by rw [← hp]; exact hv)
                rw [← hp] at hset
                have HS := Lib.hid hset
                clear hset hv hp
                go_wp2_with fail
                go_roundw
                case rel => exact ⟨q + 1, _, by omega, by go_num, HS.out⟩
                case measure => simp [intOf]; omega
            · obtain rfl : q = y := by omega
              have HS := Lib.hid (HQ.out.next HXY.out.1 HXY.out.2 HO.out)
              go_wp2_with fail
              go_roundw
              case rel => exact ⟨j + 1, v, by omega, by go_num, HS.out⟩
              case measure => simp [intOf]; omega
        · obtain rfl : j = k := by omega
          have v4 : wr.cell? ⟨w.heap.size, 0, none⟩ = some (.slice none 0 0) := HR.out.b4.cell 0
          have v5 : wr.frozen? ⟨w.heap.size, 0, none⟩ = false := HR.out.b4.free 0
          go_wp2_with fail
          have vz : (wr.setCell ⟨w.heap.size, 0, none⟩ (.slice (some ⟨gl, 0, none⟩) M M)).cell? ⟨w.heap.size, 0, none⟩ = some (.slice (some ⟨gl, 0, none⟩) M M) := by
            have := (HR.out.b4.put 0 (.slice (some ⟨gl, 0, none⟩) M M)).cell 0
            simpa using this
          have hmem := HR.out.mem
          have hdis := HR.out.dis
          rw [List.take_of_length_le (by rw [HX.out.2]; exact Nat.le_refl _)] at hmem hdis
          have hbx := HR.out.bu.beside (p := ⟨w.heap.size, 0, none⟩) (by have := HR.out.lo; simp only; omega) (.slice (some ⟨gl, 0, none⟩) M M)
          refine bodyPost_ret (v := .tuple #[.agg #[.slice (some ⟨gl, 0, none⟩) M M], .int .i64 0]) (by simp [results, Try.results13, go_sem, vz]) rfl (.inr ⟨newE_0 ⟨mm0, mm1⟩ HO.out hdis, some ⟨gl, 0, none⟩, M, M, u, rfl, rd_of_box hbx (by rw [cellsB_len, HR.out.len]; omega) (by unfold maxLen; omega) (by have := HR.out.lo; omega), ⟨by rw [HR.out.len], fun q hq => (hmem q (by rw [← HR.out.len]; exact hq)).trans ⟨fun h => h.resolve_right (by omega), fun h => .inl h⟩⟩, Below.setCell (p := ⟨w.heap.size, 0, none⟩) HR.out.bel (Nat.le_refl _) _⟩)
theorem refNew_any (w : World) (m : Int) (K : Nat → Prop) (A : Option Addr) (n c : Nat) (l : List X) (hx : Xl K w A n c l) (hn : n ≤ 5000) : Calls Try.prog 13 #[.int .i64 m, .slice A n c] w (RNew m l w) := by
  by_cases hm : 1 ≤ m ∧ m ≤ 4096
  · obtain ⟨M, rfl⟩ : ∃ M : Nat, m = M := ⟨m.toNat, by omega⟩
    exact refNew_good w M K A n c l (by omega) hx hn
  · exact refNew_bad1 w m A n c l hm
end Go.Proofs.Ytcgajomngcgchaa
