/-
  RoomApart: free extents rise, none touches another one, and all lie on the disk.
-/
import Derived.Test.YtcgajomngcgchaaAwake
namespace Go.Proofs.Ytcgajomngcgchaa
open Go.RowKit

/-- a copy of the law's argument -/
theorem copy_own {w w1 : World} {n : Nat} {l : List X} {v : Value} (hown : w1.ownsRow w.heap.size 42 2 v (0 + n) ([] ++ cellsX l)) (hk : Kept (fun i => (Value.slice (some ⟨w.heap.size, 0, none⟩) 0 0).ownBlock = some i) (w.alloc (.cells #[] 42)) w1)
    (hnil : v = .slice none 0 0 ↔ (Value.slice (some ⟨w.heap.size, 0, none⟩) 0 0) = .slice none 0 0 ∧ n = 0) : ∃ g c, v = .slice (some ⟨g, 0, none⟩) n c ∧ Xl (fun b => w.heap.size ≤ b) w1 (some ⟨g, 0, none⟩) n c l ∧ w.heap.size ≤ g ∧ Below w.heap.size w w1 := by
  rw [Nat.zero_add, List.nil_append] at hown
  obtain ⟨g, c, hv, hg, hlt⟩ := ownsRow_some hown (fun e => by have := hnil.1 e; simp at this)
  subst hv
  obtain ⟨A, c2, e, hx⟩ := rd_of_own hown
  cases e
  exact ⟨g, c, rfl, hx, hg, below_kept (on_alloc _ _) hk (fun i hi e => by have h9 : w.heap.size = i := (by simpa [Value.ownBlock] using e); omega)⟩

set_option maxHeartbeats 3200000 in
set_option maxRecDepth 20000 in
theorem apart_calls (w : World) (m : Int) (A : Option Addr) (n c : Nat) (l : List X) (hw : I64 m) (hx : Xl (fun _ => True) w A n c l) (h64 : W64 l) : Calls Try.prog 9 #[.int .i64 m, .slice A n c] w (Law w) := by
  obtain ⟨hw0, hw1⟩ := hw
  have hmax := hx.max
  have hcap := hx.cap
  unfold maxLen at hmax
  have HX := Lib.hid (And.intro hx (And.intro h64 hx.lenX))
  clear hx h64
  by_cases hf : Few m n
  · have hd : decide (Few m n) = true := decide_eq_true hf
    have hn : n ≤ 200 := hf.2
    clear hf
    go_enter Try.func9, Try.ntmps9
    go_wp2_with (first
      | (go_at_call 10
         refine Calls.mono (few_any m A n c w) ?_
         rintro e w1 ⟨rfl, rfl⟩)
      | ((with_reducible refine wpList_append_own2 (o := ⟨some 19, _, _, _, _, _⟩) el_ext rfl (.tmp 17) (.tmp 18) rfl w1.heap.size (.slice (some ⟨w1.heap.size, 0, none⟩) 0 0) 0 [] rfl (empty_own w1) (fun _ => True) A n c (cellsX l) rfl (HX.out.1.on (on_alloc _ _)) (cellsX_one _) (by omega) (by simp) ?_)
         intro v' w2 hown hk hnil
         obtain ⟨g, c2, hv, hx2, hg, b2⟩ := copy_own hown hk hnil
         subst hv
         have H2 := Lib.hid (And.intro hx2 (And.intro hg b2))
         clear hown hk hnil hx2 hg b2))
    by_cases h0 : newE m l = 0
    · have hF := (free_all w2 m _ _ n c2 l H2.out.1 HX.out.2.1 (by omega)).mono (R' := FreeGood m l w2) fun r w' h => h.resolve_left fun h => h.1 h0
      refine Calls.mono hF ?_
      rintro e w3 ⟨_, fs, v, rfl, hown, hfr, b3⟩
      obtain ⟨A3, c3, hv, hx3⟩ := rd_of_own hown
      subst hv
      have hc3 := hx3.max
      have hc4 := hx3.cap
      unfold maxLen at hc3
      obtain ⟨q, hq⟩ : ∃ q, fs.length = q := ⟨_, rfl⟩
      rw [hq] at hx3 hc4
      have H3 := Lib.hid (And.intro hx3 (And.intro hfr (And.intro (on_trans H2.out.2.2 b3) hq)))
      have hm := newE_iff.1 h0
      have m0 : 1 ≤ m := hm.1.1
      have m1 : m ≤ 4096 := hm.1.2
      rw [hq]
      clear hF hown hfr b3 hx3 hq hm h0
      go_wp2_with fail
      go_loopw [7, 9, 33] (fun s _ i wr => ∃ (k : Nat) (z : Int), k ≤ q ∧ i = .int .i64 (k : Int) ∧ s = .int .i64 z ∧ z = aft 0 (fs.take k) - 1 ∧ Below w3.heap.size w3 wr) (fun _ _ i _ => q - (intOf i).toNat)
      case atStart => exact ⟨0, -1, by omega, rfl, rfl, by simp [aft], Below.refl _ _⟩
      case round =>
        obtain ⟨k, z, hk, rfl, rfl, hz, hb⟩ := hrel
        have HB := Lib.hid (And.intro hb hz)
        clear hb hz
        by_cases hkn : k < q
        · obtain ⟨b, off, rfl, hbs, hK, d0, d1⟩ := (H3.out.1.on HB.out.1).getX hkn
          have hl : fs.length = q := H3.out.2.2.2
          have hsp := split_at (l := fs) (k := k) (by omega)
          have htk := take_moreX fs k (by omega)
          have hri := H3.out.2.1.rise
          rw [hsp] at hri
          obtain ⟨r1, r2⟩ := rise_app.1 hri
          obtain ⟨x, y, hxy⟩ : ∃ x y : Int, fs.getD k (0, 0) = (x, y) := ⟨_, _, rfl⟩
          rw [hxy] at d0 d1 htk r2
          have s0 : aft 0 (fs.take k) ≤ x := r2.1
          have s1 : 1 ≤ y := r2.2.1
          have s2 : x + y ≤ m := r2.2.2.1
          have s3 : 0 ≤ aft 0 (fs.take k) := aft_ge r1
          have hN : aft 0 (fs.take (k + 1)) = x + y + 1 := by rw [htk, aft_app]; rfl
          have s4 : z < x := by have := HB.out.2; omega
          have s5 : 0 ≤ x := by omega
          have s6 : -1 ≤ z := by have := HB.out.2; omega
          have HN := Lib.hid hN
          obtain ⟨w4, hw4⟩ : ∃ w4, wr.alloc (.cells #[.int .i64 x, .int .i64 y] 42) = w4 := ⟨_, rfl⟩
          have b4 : Below wr.heap.size wr w4 := by rw [← hw4]; exact on_alloc _ _
          have e0 : w4.cell? ⟨wr.heap.size, 0, none⟩ = some (.int .i64 x) := by rw [← hw4]; exact (Box.made _ _ _).cell 0
          have e1 : w4.cell? ⟨wr.heap.size, 1, none⟩ = some (.int .i64 y) := by rw [← hw4]; exact (Box.made _ _ _).cell 1
          have H4 := Lib.hid (on_trans HB.out.1 b4)
          have e2 : ¬ x ≤ z := by omega
          have e3 : ¬ y < 1 := by omega
          have e4 : ¬ m < x + y := by omega
          have e5 : decide (x ≤ z) = false := decide_eq_false e2
          have e6 : decide (y < 1) = false := decide_eq_false e3
          have e7 : decide (m < x + y) = false := decide_eq_false e4
          clear hl hsp htk hri r1 r2 hxy s0 s3 hN b4 e2 e3 e4
          go_wp2_with fail
          go_roundw
          case rel => exact ⟨k + 1, x + y, by omega, by go_num, rfl, by rw [HN.out]; omega, H4.out⟩
          case measure => simp [intOf]; omega
        · obtain rfl : k = q := by omega
          go_wp2_with (go_at_call 11
                       refine Calls.mono (awake_any _) ?_
                       rintro e w5 ⟨rfl, b5⟩
                       have H5 := Lib.hid b5
                       clear b5)
          go_ret
          exact ⟨rfl, on_trans (on_trans H3.out.2.2.1 HB.out.1) H5.out⟩
    · have hF := (free_all w2 m _ _ n c2 l H2.out.1 HX.out.2.1 (by omega)).mono (R' := FreeBad m l w2) fun r w' h => h.resolve_right fun h => h0 h.1
      obtain ⟨z, hz⟩ : ∃ z, newE m l = z := ⟨_, rfl⟩
      have hp := newE_pos h0
      rw [hz] at hp
      have hzb : (z != 0) = true := by simp; omega
      refine Calls.mono hF ?_
      rintro e w3 ⟨_, rfl, b3⟩
      have H3 := Lib.hid (on_trans H2.out.2.2 b3)
      clear hF b3 h0
      rw [hz]
      clear hz
      go_wp2_with (go_at_call 11
                   refine Calls.mono (awake_any _) ?_
                   rintro e w5 ⟨rfl, b5⟩
                   have H5 := Lib.hid b5
                   clear b5)
      go_ret
      exact ⟨rfl, on_trans H3.out H5.out⟩
  · have hd : decide (Few m n) = false := decide_eq_false hf
    clear hf
    go_enter Try.func9, Try.ntmps9
    go_wp2_with (first
      | (go_at_call 10
         refine Calls.mono (few_any m A n c w) ?_
         rintro e w1 ⟨rfl, rfl⟩)
      | (go_at_call 11
         refine Calls.mono (awake_any _) ?_
         rintro e w2 ⟨rfl, b2⟩
         have H2 := Lib.hid b2
         clear b2))
    go_ret
    exact ⟨rfl, H2.out⟩
end Go.Proofs.Ytcgajomngcgchaa
