/-
  The reference's mark: a map with an extent used, or free.
-/
import Derived.Test.YtcgajomngcgchaaRefFree
namespace Go.Proofs.Ytcgajomngcgchaa
open Go.RowKit

/-- how things stand when k sectors have been marked -/
structure Rm (w wr : World) (A : Option Addr) (n c g cg a s k : Nat) (u : List Bool) (b : Bool) : Prop where
  bel : Below w.heap.size w wr
  b0 : Box wr w.heap.size 30 #[.slice A n c]
  b1 : Box wr (w.heap.size + 1) 42 #[.int .i64 (a : Int), .int .i64 (s : Int)]
  b2 : Box wr (w.heap.size + 1 + 1) 30 #[.slice none 0 0]
  own : wr.ownsRow (w.heap.size + 3) 4 1 (.slice (some ⟨g, 0, none⟩) n cg) n (cellsB (mark u ((a : Int), (k : Int)) b))
theorem Rm.step {w wr : World} {A : Option Addr} {n c g cg a s k : Nat} {u : List Bool} {b : Bool} (h : Rm w wr A n c g cg a s k u b) : Rm w (wr.setCell ⟨g, a + k, none⟩ (.bool b)) A n c g cg a s (k + 1) u b := by
  have hg : w.heap.size + 3 ≤ g := own_lo h.own rfl
  obtain ⟨s1, s2⟩ := h.own.stored (a + k) (.bool b)
  have e : (cellsB (mark u ((a : Int), (k : Int)) b)).set (a + k) (.bool b) = cellsB (mark u ((a : Int), ((k + 1 : Nat) : Int)) b) := by
    rw [← mark_more]; simp [cellsB, List.map_set]
  rw [e] at s1
  exact ⟨Below.setCell (p := ⟨g, a + k, none⟩) h.bel (by simp only; omega) _, h.b0.beside (by simp only; omega) _, h.b1.beside (by simp only; omega) _, h.b2.beside (by simp only; omega) _, s1⟩
theorem own_box {w : World} {lo e size n g c : Nat} {xs : List Value} (h : w.ownsRow lo e size (.slice (some ⟨g, 0, none⟩) n c) n xs) (j : Nat) : w.frozen? ⟨g, j, none⟩ = false := by
  rcases h.2 with ⟨h', _⟩ | ⟨g', cap', cur, h', _, hh, _⟩
  · cases h'
  · cases h'; simp [World.frozen?, hh]
def Marked (u : List Bool) (w : World) (r : Ending) (w' : World) : Prop := ∃ A n c, r = .returned (.agg #[.slice A n c]) ∧ Bl (fun b => w.heap.size ≤ b) w' A n c u ∧ Below w.heap.size w w'
set_option maxHeartbeats 3200000 in
theorem mark_any (w : World) (K : Nat → Prop) (A : Option Addr) (n c : Nat) (u : List Bool) (hx : Bl K w A n c u) (hn : n ≤ 4096) (x y : Int) (hok : Ok u.length (x, y)) (b : Bool) :
    Calls Try.prog 38 #[.agg #[.slice A n c], .agg #[.int .i64 x, .int .i64 y], .bool b] w (Marked (mark u (x, y) b) w) := by
  obtain ⟨a, rfl⟩ : ∃ a : Nat, x = a := ⟨x.toNat, by have := hok.1; simp only at this; omega⟩
  obtain ⟨s, rfl⟩ : ∃ s : Nat, y = s := ⟨y.toNat, by have := hok.2.1; simp only at this; omega⟩
  have hln := hx.lenB
  have has : a + s ≤ n := by have := hok.2.2; simp only at this; omega
  have hmax := hx.max
  have hcap := hx.cap
  unfold maxLen at hmax
  obtain ⟨w3, hw3⟩ : ∃ w3, ((w.alloc (.cells #[.slice A n c] 30)).alloc (.cells #[.int .i64 (a : Int), .int .i64 (s : Int)] 42)).alloc (.cells #[.slice none 0 0] 30) = w3 := ⟨_, rfl⟩
  have hz3 : w3.heap.size = w.heap.size + 3 := by rw [← hw3]; simp
  have k3 : Below w.heap.size w w3 := by rw [← hw3]; exact on_trans (on_trans (on_alloc _ _) (on_alloc _ _)) (on_alloc _ _)
  have b0 : Box w3 w.heap.size 30 #[.slice A n c] := by rw [← hw3]; exact ((Box.made _ _ _).alloc _).alloc _
  have b1 : Box w3 (w.heap.size + 1) 42 #[.int .i64 (a : Int), .int .i64 (s : Int)] := by
    have := (Box.made (w.alloc (.cells #[.slice A n c] 30)) 42 #[.int .i64 (a : Int), .int .i64 (s : Int)]).alloc (.cells #[.slice none 0 0] 30)
    rw [hw3] at this
    simpa using this
  have b2 : Box w3 (w.heap.size + 1 + 1) 30 #[.slice none 0 0] := by
    have := Box.made ((w.alloc (.cells #[.slice A n c] 30)).alloc (.cells #[.int .i64 (a : Int), .int .i64 (s : Int)] 42)) 30 #[.slice none 0 0]
    rw [hw3] at this
    simpa using this
  have c0 : w3.cell? ⟨w.heap.size, 0, none⟩ = some (.slice A n c) := b0.cell 0
  have H3 := Lib.hid (And.intro k3 (And.intro b0 (And.intro b1 (And.intro b2 (And.intro hz3 (And.intro hx hln))))))
  obtain ⟨w4, hw4⟩ : ∃ w4, w3.alloc (.cells #[] 4) = w4 := ⟨_, rfl⟩
  have b4 : Below w3.heap.size w3 w4 := by rw [← hw4]; exact on_alloc _ _
  have hx4 := (hx.on k3).on b4
  have c4 : w4.cell? ⟨w.heap.size, 0, none⟩ = some (.slice A n c) := (b0.on b4).cell 0
  have o4 : w4.ownsRow w3.heap.size 4 1 (.slice (some ⟨w3.heap.size, 0, none⟩) 0 0) 0 [] := by rw [← hw4]; exact empty_own w3
  have H4 := Lib.hid (And.intro b4 (And.intro hx4 o4))
  clear k3 b0 b1 b2 hz3 hx hln hok b4 hx4 o4
  go_enter Try.func38, Try.ntmps38
  go_wp2_with (first
    | ((with_reducible refine wpList_append_own2 (o := ⟨some 12, _, _, _, _, _⟩) el_bool rfl (.tmp 9) (.tmp 11) rfl w3.heap.size (.slice (some ⟨w3.heap.size, 0, none⟩) 0 0) 0 [] rfl H4.out.2.2 K A n c (cellsB u) rfl H4.out.2.1 (cellsB_one _) (by omega) H4.out.1.size ?_)
       intro v' w5 hown hk hnil
       have hown' := hown
       rw [Nat.zero_add, List.nil_append] at hown'
       obtain ⟨g, cg, hv, hg, hlt⟩ := ownsRow_some hown' (fun e => by have := hnil.1 e; simp at this)
       subst hv
       have k5 : Below w3.heap.size w3 w5 := below_kept H4.out.1 hk (fun i hi e => by have h9 : w3.heap.size = i := (by simpa [Value.ownBlock] using e); omega)
       have hR := (show Rm w w5 A n c g cg a s 0 u b from ⟨on_trans H3.out.1 k5, H3.out.2.1.on k5, H3.out.2.2.1.on k5, H3.out.2.2.2.1.on k5, by
         have e : mark u ((a : Int), ((0 : Nat) : Int)) b = u := mark_none u a b
         rw [e]
         refine ⟨hown'.1, hown'.2.imp id ?_⟩
         rintro ⟨g, cap, cur, e1, e2, e3⟩
         exact ⟨g, cap, cur, e1, by have := H3.out.2.2.2.2.1; omega, e3⟩⟩)
       have HR := Lib.hid hR
       clear hown hown' hk hnil hg hlt k5 hR)
    | fail)
  go_loopw [8] (fun i wr => ∃ (k : Nat), k ≤ s ∧ i = .int .i64 (k : Int) ∧ Rm w wr A n c g cg a s k u b) (fun i _ => s - (intOf i).toNat)
  case atStart => exact ⟨0, by omega, rfl, HR.out⟩
  case round =>
    obtain ⟨k, hk, rfl, hR⟩ := hrel
    have d0 : wr.cell? ⟨w.heap.size + 1, 0, none⟩ = some (.int .i64 (a : Int)) := hR.b1.cell 0
    have d1 : wr.cell? ⟨w.heap.size + 1, 1, none⟩ = some (.int .i64 (s : Int)) := hR.b1.cell 1
    have HQ := Lib.hid hR
    clear hR
    by_cases hks : k < s
    · obtain ⟨p, hp⟩ : ∃ p : Nat, p = a + k := ⟨_, rfl⟩
      have hp1 : (a : Int) + (k : Int) = (p : Int) := by omega
      have hp2 : (0 : Int) ≤ (p : Int) := by omega
      have hp3 : (p : Int) < (n : Int) := by omega
      have hst := HQ.out.step
      rw [← hp] at hst
      obtain ⟨z, hz⟩ : ∃ z, wr.cell? ⟨g, p, none⟩ = some (.bool z) := by
        rw [HQ.out.own.cellAt p (by omega)]
        have hl : (mark u ((a : Int), (k : Int)) b).length = n := by rw [mark_len]; exact H3.out.2.2.2.2.2.2
        refine ⟨(mark u ((a : Int), (k : Int)) b).getD p true, ?_⟩
        simp [cellsB, List.getD_eq_getElem?_getD, List.getElem?_eq_getElem (show p < (mark u ((a : Int), (k : Int)) b).length by omega)]
      have hz2 := own_box HQ.out.own p
      have HS := Lib.hid hst
      clear hst hp
      go_wp2_with fail
      go_roundw
      case rel => exact ⟨k + 1, by omega, by go_num, HS.out⟩
      case measure => simp [intOf]; omega
    · obtain rfl : k = s := by omega
      have e0 : wr.cell? ⟨w.heap.size + 1 + 1, 0, none⟩ = some (.slice none 0 0) := HQ.out.b2.cell 0
      have e1 := HQ.out.b2.free 0
      go_wp2_with fail
      have vz : (wr.setCell ⟨w.heap.size + 1 + 1, 0, none⟩ (.slice (some ⟨g, 0, none⟩) n cg)).cell? ⟨w.heap.size + 1 + 1, 0, none⟩ = some (.slice (some ⟨g, 0, none⟩) n cg) := by
        have := (HQ.out.b2.put 0 (.slice (some ⟨g, 0, none⟩) n cg)).cell 0
        simpa using this
      have hg : w.heap.size + 3 ≤ g := own_lo HQ.out.own rfl
      have hown := ownsRow_block HQ.out.own (w' := wr.setCell ⟨w.heap.size + 1 + 1, 0, none⟩ (.slice (some ⟨g, 0, none⟩) n cg)) (fun g' cs e hh => Below.heap_setCell wr ⟨w.heap.size + 1 + 1, 0, none⟩ _ g' (by have : g = g' := (by simpa [Value.ownBlock] using e); simp only; omega))
      obtain ⟨A9, c9, e9, hx9⟩ := rd_of_own hown
      cases e9
      exact bodyPost_ret (v := .agg #[.slice (some ⟨g, 0, none⟩) n cg]) (by simp [results, Try.results38, go_sem, vz]) rfl ⟨_, _, _, rfl, hx9.mono (fun b _ hb => by omega), Below.setCell (p := ⟨w.heap.size + 1 + 1, 0, none⟩) HQ.out.bel (by simp only; omega) _⟩
end Go.Proofs.Ytcgajomngcgchaa
