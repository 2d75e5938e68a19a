/-
  The contract of the reference's Cut.
-/
import Derived.Test.YtadlaljohlpabaaPJoinE
namespace Go.Proofs.Ytadlaljohlpabaa
open Go.RowKit

/-- what Cut tells: blocks and an error -/
def BTells (w : World) (bl : List (List Int)) (f : Int) (e : Ending) (w' : World) : Prop :=
  ∃ A n c, e = .returned (.tuple #[.slice A n c, .int .i64 f]) ∧ Bs w' A n bl ∧ (∀ b off, A = some ⟨b, off, none⟩ → w.heap.size ≤ b) ∧ Below w.heap.size w w'
/-- what lies in memory: the argument's box, a row of blocks -/
structure Ct (w wr : World) (gA : Nat) (P : Array Value) (v : Value) (n : Nat) (bl : List (List Int)) : Prop where
  arg : Box wr gA 24 P
  own : wr.ownsRow (gA + 1) 51 64 v n (blocksC bl)
  bel : Below w.heap.size w wr
  lo : gA + 1 ≤ wr.heap.size
  new : w.heap.size ≤ gA
section
variable {w wr w' : World} {gA n : Nat} {P : Array Value} {v : Value} {bl : List (List Int)}
theorem Ct.on (h : Ct w wr gA P v n bl) (k : Below wr.heap.size wr w') : Ct w w' gA P v n bl :=
  ⟨h.arg.on k, ownsRow_block h.own (fun g _ _ hh => k.block g (Array.getElem?_eq_some_iff.1 hh).1), on_trans h.bel k, Nat.le_trans h.lo k.size, h.new⟩
theorem Ct.kept {S : Nat → Prop} (h : Ct w wr gA P v n bl) (k : Kept S wr w') (h1 : ∀ i, S i → w.heap.size ≤ i ∧ i ≠ gA) (h2 : ∀ i, v.ownBlock = some i → ¬ S i) : Ct w w' gA P v n bl :=
  ⟨k.box h.arg (fun e => (h1 _ e).2 rfl), ownsRow_block h.own (fun g _ e hh => k.block g (Array.getElem?_eq_some_iff.1 hh).1 (h2 g e)), h.bel.trans (k.below h.bel.size (fun i hi e => by have := (h1 i e).1; omega)), Nat.le_trans h.lo k.size, h.new⟩
end
/-- and a block that is written -/
structure Cb (w wr : World) (gA gB : Nat) (P : Array Value) (v : Value) (n : Nat) (bl : List (List Int)) (b : List Int) : Prop where
  ct : Ct w wr gA P v n bl
  blk : Blk wr gB b
  apart : v.ownBlock ≠ some gB
  nA : gB ≠ gA
  new : w.heap.size ≤ gB
section
variable {w wr w' : World} {gA gB n : Nat} {P : Array Value} {v : Value} {bl : List (List Int)} {b : List Int}
theorem Cb.on (h : Cb w wr gA gB P v n bl b) (k : Below wr.heap.size wr w') : Cb w w' gA gB P v n bl b := ⟨h.ct.on k, h.blk.on k, h.apart, h.nA, h.new⟩
theorem Cb.put (h : Cb w wr gA gB P v n bl b) (k : Nat) (z : Int) : Cb w (wr.setCell ⟨gB, k, none⟩ (.int .i64 z)) gA gB P v n (bl) (b.set k z) :=
  ⟨h.ct.kept ((Kept.refl (fun i => i = gB) wr).setCell (p := ⟨gB, k, none⟩) (fun _ => rfl) _) (fun i e => by rw [e]; exact ⟨h.new, h.nA⟩) (fun i e e' => h.apart (by rw [e, e'])), h.blk.put k z, h.apart, h.nA, h.new⟩
/-- a block laid anew -/
theorem Ct.laid {Z : Array Value} (h : Ct w wr gA P v n bl) (hb : Blk w' wr.heap.size b) (k : Kept (fun i => i = wr.heap.size) (wr.alloc (.cells Z 51)) w') : Cb w w' gA wr.heap.size P v n bl b := by
  have ka := on_alloc wr (.cells Z 51)
  have lo := h.lo
  have hs := h.bel.size
  have hv : ∀ i, v.ownBlock = some i → i < wr.heap.size := fun i e => by
    obtain ⟨_, cs, hh⟩ := own_block3 h.own e
    exact (Array.getElem?_eq_some_iff.1 hh).1
  exact ⟨(h.on ka).kept k (fun i e => by subst e; exact ⟨hs, by omega⟩) (fun i e e' => by have := hv i e; omega), hb, fun e => by have := hv _ e; omega, by omega, hs⟩
end
/-- what Cut tells -/
def cutF (W H : Int) (xs : List Int) : List (List Int) × Int := if RightI W H xs then (cutL xs W.toNat H.toNat, 0) else ([], 1)

set_option maxRecDepth 10000 in
set_option maxHeartbeats 6400000 in
theorem refCut_good (w0 : World) (W H : Nat) (A : Option Addr) (n c : Nat) (xs : List Int) (hI : Ia w0 A n c xs) (hr : RightP xs W H) :
    Calls Try.prog 24 #[.agg #[.int .i64 (W : Int), .int .i64 (H : Int), .slice A n c]] w0 (BTells w0 (cutL xs W H) 0) := by
  have hn : n = W * H := by rw [← hI.len, hr.len]
  have hwh := hr.small
  have HR := Lib.hid (fun w1 (k : Below w0.heap.size w0 w1) => refRight_any w1 (W : Int) (H : Int) A n c xs (hI.on k) (by omega))
  unfold Righted at HR
  rw [decide_eq_true hr.int] at HR
  have HA := Lib.hid (fun w1 (k : Below w0.heap.size w0 w1) (x y : Int) => refAt_any w1 W H A n c xs x y (hI.on k) hr)
  have hat := fun (x y : Int) => hr.at x y
  have hu16 : nb W ≤ 16 ∧ nb H ≤ 16 := by have := hr.w1; have := hr.h1; unfold nb; omega
  have HN := Lib.hid (fun w1 => blocks_any w1 W (by have := hr.w1; omega))
  have HN' := Lib.hid (fun w1 => blocks_any w1 H (by have := hr.h1; omega))
  unfold Nbd at HN HN'
  have hmore := fun (x y : Nat) (hx : x < nb W) => cutK_more xs W H hx y
  have hcr : cutL xs W H = cutK xs W H (nb H * nb W + 0) := by unfold cutL; rw [Nat.add_zero, Nat.mul_comm]
  obtain ⟨K, hK⟩ : ∃ K : Nat → List (List Int), K = cutK xs W H := ⟨_, rfl⟩
  have hKl : ∀ m, (K m).length = m := fun m => by rw [hK]; exact cutK_len _ _ _ _
  have hKw : ∀ m, ∀ x ∈ K m, x.length = 64 := fun m x hx => by
    rw [hK] at hx
    unfold cutK at hx
    obtain ⟨i, _, rfl⟩ := List.mem_map.1 hx
    exact cutB_len _ _ _ _ _
  obtain ⟨f, hf⟩ : ∃ f : Nat → Nat → List Int, f = fun x y => cutB xs W H x y := ⟨_, rfl⟩
  have hfl : ∀ x y, (f x y).length = 64 := fun x y => by rw [hf]; exact cutB_len _ _ _ _ _
  have hfa : ∀ x y i k : Nat, i < 8 → k < 8 → (f x y).getD (8 * k + i) 0 = atL xs W H (8 * (x : Int) + (i : Int)) (8 * (y : Int) + (k : Int)) - 128 := fun x y i k hi hk => by
    rw [hf]
    show (cutB xs W H x y).getD (8 * k + i) 0 = _
    unfold cutB
    rw [tab_at _ (by omega), show (8 * k + i) % 8 = i by omega, show (8 * k + i) / 8 = k by omega]
    simp only [Int.natCast_add, Int.natCast_mul]
    rfl
  have hKm : ∀ x y : Nat, x < nb W → K (y * nb W + x) ++ [f x y] = K (y * nb W + (x + 1)) := fun x y hx => by rw [hK, hf]; exact hmore x y hx
  have hK0 : K 0 = [] := by rw [hK]; rfl
  rw [← hK] at hcr
  obtain ⟨u, hu⟩ : ∃ u, u = nb W := ⟨_, rfl⟩
  obtain ⟨v, hv⟩ : ∃ v, v = nb H := ⟨_, rfl⟩
  rw [← hu] at hu16 hcr HN
  rw [← hv] at hu16 hcr HN'
  rw [← hu] at hKm
  have HF := Lib.hid (And.intro hcr (And.intro hKl (And.intro hKw (And.intro hfl (And.intro hfa (And.intro hKm (And.intro hK0 hat)))))))
  obtain ⟨w1, hw1⟩ : ∃ w1, w0.alloc (.cells #[.int .i64 (W : Int), .int .i64 (H : Int), .slice A n c] 24) = w1 := ⟨_, rfl⟩
  have k1 : Below w0.heap.size w0 w1 := by rw [← hw1]; exact on_alloc _ _
  have b1 : Box w1 w0.heap.size 24 #[.int .i64 (W : Int), .int .i64 (H : Int), .slice A n c] := by rw [← hw1]; exact Box.made _ _ _
  have l1 : w0.heap.size + 1 ≤ w1.heap.size := by rw [← hw1]; simp
  have HW := Lib.hid (And.intro hw1 (And.intro k1 (And.intro b1 l1)))
  obtain ⟨u1, v1⟩ := hu16
  obtain ⟨Z, hZ⟩ : ∃ Z, Z = (cellsI zeros64).toArray := ⟨_, rfl⟩
  have hz' : ∀ w, (zeroValue 51).run Try.prog w = .ok (.agg Z) w := fun w => by rw [hZ]; exact zero51 w
  have hZs : Z.size = 64 := by rw [hZ]; rfl
  have HZ := Lib.hid (And.intro hZs (show Value.agg Z = blkV zeros64 by rw [hZ]; rfl))
  clear hmore hcr hK hKl hKw hf hfl hfa hKm hK0 hu hv hI hr hw1 k1 b1 l1 hn hwh hat hZ hZs
  go_enter Try.func24, Try.ntmps24
  go_wp2_with fail
  rw [HW.out.1]
  have p1 : Box w1 w0.heap.size 24 #[.int .i64 (W : Int), .int .i64 (H : Int), .slice A n c] := HW.out.2.2.1
  refine Calls.mono (HR.out w1 HW.out.2.1) ?_
  rintro e w2 ⟨rfl, b2⟩
  have H2 := Lib.hid (show Ct w0 w2 w0.heap.size #[.int .i64 (W : Int), .int .i64 (H : Int), .slice A n c] (.slice none 0 0) 0 [] from ⟨p1.on b2, World.ownsRow_nil _ _ _ _, on_trans HW.out.2.1 b2, Nat.le_trans HW.out.2.2.2 b2.size, Nat.le_refl _⟩)
  clear p1 b2
  go_wp2_with fail
  go_loopw [4, 5] (fun s i wr => ∃ j A' n' c', j ≤ v ∧ s = .slice A' n' c' ∧ i = .int .i64 ((j : Nat) : Int) ∧ Ct w0 wr w0.heap.size #[.int .i64 (W : Int), .int .i64 (H : Int), .slice A n c] (.slice A' n' c') n' (K (j * u + 0))) (fun _ i _ => v - (intOf i).toNat)
  case atStart => exact ⟨0, none, 0, 0, by omega, rfl, rfl, by rw [Nat.zero_mul, HF.out.2.2.2.2.2.2.1]; exact H2.out⟩
  case round =>
    obtain ⟨j, A1, n1, c1, hj, rfl, rfl, hR⟩ := hrel
    have HR := Lib.hid hR
    have p1 : wr.cell? ⟨w0.heap.size, 1, none⟩ = some (.int .i64 (H : Int)) := hR.arg.cell 1
    clear hR
    go_wp2_with fail
    refine Calls.mono (HN'.out _) ?_
    rintro e wx ⟨rfl, rfl⟩
    clear p1
    by_cases hjv : j < v
    · go_wp2_with fail
      go_loopw [4, 6] (fun s i wr => ∃ k A' n' c', k ≤ u ∧ s = .slice A' n' c' ∧ i = .int .i64 ((k : Nat) : Int) ∧ Ct w0 wr w0.heap.size #[.int .i64 (W : Int), .int .i64 (H : Int), .slice A n c] (.slice A' n' c') n' (K (j * u + k))) (fun _ i _ => u - (intOf i).toNat)
      case atStart => exact ⟨0, A1, n1, c1, by omega, rfl, rfl, HR.out⟩
      case round =>
        obtain ⟨k, A2, n2, c2, hk, rfl, rfl, hR⟩ := hrel
        have HR := Lib.hid hR
        have p0 : wr.cell? ⟨w0.heap.size, 0, none⟩ = some (.int .i64 (W : Int)) := hR.arg.cell 0
        clear hR
        go_wp2_with fail
        refine Calls.mono (HN.out _) ?_
        rintro e wx ⟨rfl, rfl⟩
        clear p0
        by_cases hku : k < u
        · go_wp2_with (first
            | ((with_reducible refine wpList_store_blk (o := ⟨none, _, _, _, _, _⟩) rfl (.tmp 7) (.tmp 27) rfl rfl wr.heap.size zeros64 rfl ?hy Z (Box.made _ _ _) HZ.out.1 zeros_len ?_)
               case hy => exact HZ.out.2
               intro w3 b3 k3
               have H3 := Lib.hid (HR.out.laid b3 k3)
               clear b3 k3)
            | fail)
          obtain ⟨gB, hgB⟩ : ∃ g, g = wr.heap.size := ⟨_, rfl⟩
          rw [← hgB] at H3 ⊢
          clear hgB
          go_loopw [8] (fun i wr => ∃ y : Nat, y ≤ 8 ∧ i = .int .i64 y ∧ Cb w0 wr w0.heap.size gB #[.int .i64 (W : Int), .int .i64 (H : Int), .slice A n c] (.slice A2 n2 c2) n2 (K (j * u + k)) (mix (8 * y + 0) (f k j) zeros64)) (fun i _ => 8 - (intOf i).toNat)
          case atStart => exact ⟨0, by omega, rfl, by rw [show 8 * 0 + 0 = 0 from rfl, mix_zero]; exact H3.out⟩
          case round =>
            obtain ⟨y, hy, rfl, hR⟩ := hrel
            have HR := Lib.hid hR
            clear hR
            by_cases hy8 : y < 8
            · go_wp2_with fail
              rw [show decide ((y : Int) < 8) = true from decide_eq_true (by omega)]
              go_loopw [9] (fun i wr => ∃ x : Nat, x ≤ 8 ∧ i = .int .i64 x ∧ Cb w0 wr w0.heap.size gB #[.int .i64 (W : Int), .int .i64 (H : Int), .slice A n c] (.slice A2 n2 c2) n2 (K (j * u + k)) (mix (8 * y + x) (f k j) zeros64)) (fun i _ => 8 - (intOf i).toNat)
              case atStart => exact ⟨0, by omega, rfl, HR.out⟩
              case round =>
                obtain ⟨x, hx, rfl, hR⟩ := hrel
                have HR := Lib.hid hR
                clear hR
                by_cases hx8 : x < 8
                · have hfa := HF.out.2.2.2.2.1 k j x y hx8 hy8
                  have hz8 := HF.out.2.2.2.2.2.2.2 (8 * (k : Int) + (x : Int)) (8 * (j : Int) + (y : Int))
                  unfold In8 at hz8
                  have HT := Lib.hid (HA.out wr HR.out.ct.bel (8 * (k : Int) + (x : Int)) (8 * (j : Int) + (y : Int)))
                  obtain ⟨z, hz⟩ : ∃ z, z = atL xs W H (8 * (k : Int) + (x : Int)) (8 * (j : Int) + (y : Int)) := ⟨_, rfl⟩
                  rw [← hz] at HT hfa hz8
                  have hm := mix_more (HF.out.2.2.2.1 k j) zeros_len (show 8 * y + x < 64 by omega)
                  rw [hfa] at hm
                  have HX := Lib.hid hm
                  clear hm hfa hz
                  go_wp2_with (first
                    | (with_reducible refine wpList_load_to (op := ⟨some 40, _, _, _, _, _⟩) rfl 24 (.tmp 1) rfl (.pointer (some ⟨w0.heap.size, 0, none⟩)) rfl (.agg #[.int .i64 (W : Int), .int .i64 (H : Int), .slice A n c]) (load_plane HR.out.ct.arg rfl) ?_)
                    | fail)
                  refine Calls.mono HT.out ?_
                  rintro e w6 ⟨rfl, b6⟩
                  have H6 := Lib.hid (HR.out.on b6)
                  have cb := H6.out.blk.cell (k := 8 * y + x) (by omega)
                  have fb := H6.out.blk.free (8 * y + x)
                  obtain ⟨old, hold⟩ : ∃ q, q = (mix (8 * y + x) (f k j) zeros64).getD (8 * y + x) 0 := ⟨_, rfl⟩
                  rw [← hold] at cb
                  clear b6 hold
                  go_wp2_with fail
                  go_roundw
                  case rel =>
                    refine ⟨x + 1, by omega, by go_num, ?_⟩
                    rw [show 8 * y + (x + 1) = 8 * y + x + 1 by omega, ← HX.out]
                    exact H6.out.put _ _
                  case measure => simp [intOf]; omega
                · obtain rfl : x = 8 := by omega
                  go_wp2_with fail
                  go_roundw
                  case rel => exact ⟨y + 1, by omega, by go_num, HR.out⟩
                  case measure => simp [intOf]; omega
            · obtain rfl : y = 8 := by omega
              have hR := HR.out
              rw [show 8 * 8 + 0 = 64 from rfl, mix_all (HF.out.2.2.2.1 k j) zeros_len] at hR
              have hlen : n2 = j * u + k := by
                have h1 := hR.ct.own.1
                rw [blocksC_len (HF.out.2.2.1 _), HF.out.2.1] at h1
                omega
              have hlt : j * u + k < u * v := row_lt hku hjv
              have huv : u * v ≤ 16 * 16 := Nat.mul_le_mul u1 v1
              have HR := Lib.hid (And.intro hR (And.intro hlen (And.intro (Nat.lt_of_lt_of_le hlt huv) (hR.ct.on (on_alloc wr (.cells (cellsI (f k j)).toArray 51))))))
              have HL := Lib.hid (And.intro (HF.out.2.2.2.1 k j) (HF.out.2.2.2.2.2.1 k j hku))
              clear hR hlen hlt huv
              obtain ⟨q, hq⟩ : ∃ q, q = f k j := ⟨_, rfl⟩
              rw [← hq] at HR HL
              have HQ := Lib.hid hq
              clear hq
              go_wp2_with (first
                | (with_reducible refine wpList_load_to (op := ⟨some 53, _, _, _, _, _⟩) rfl 51 (.tmp 7) rfl (.pointer (some ⟨gB, 0, none⟩)) rfl (blkV q) HR.out.1.blk.load ?_)
                | (with_reducible refine wpList_one_blk (o := ⟨some 54, _, _, _, _, _⟩) rfl (.tmp 53) rfl q HL.out.1 rfl ?_)
                | (at_builtin; refine wpList_append_bk (o := ⟨some 55, _, _, _, _, _⟩) rfl (.tmp 52) (.tmp 54) rfl (w0.heap.size + 1) (.slice A2 n2 c2) n2 (K (j * u + k)) q rfl HR.out.2.2.2.own wr.heap.size rfl ⟨Box.made _ _ _, HL.out.1⟩ ?hs HR.out.2.2.2.lo ?_
                   case hs => have := HR.out.2.1; have := HR.out.2.2.1; omega
                   intro v9 w9 hr9 k9
                   obtain ⟨A9, c9, hv9⟩ := own_slice hr9
                   subst hv9
                   have H9 := Lib.hid (And.intro hr9 k9)
                   clear hr9 k9)
                | fail)
              have hE : Ct w0 w9 w0.heap.size #[.int .i64 (W : Int), .int .i64 (H : Int), .slice A n c] (.slice A9 (n2 + 1) c9) (n2 + 1) (K (j * u + (k + 1))) := by
                have hown := H9.out.1
                rw [HQ.out, HF.out.2.2.2.2.2.1 k j hku] at hown
                have h0 := HR.out.2.2.2
                exact ⟨H9.out.2.box h0.arg (fun e => by have := (own_block3 h0.own e).1; omega), hown, h0.bel.trans (H9.out.2.below h0.bel.size (fun i hi e => by have := (own_block3 h0.own e).1; have := h0.new; omega)), Nat.le_trans h0.lo H9.out.2.size, h0.new⟩
              have HE := Lib.hid hE
              clear hE
              go_roundw
              case rel => exact ⟨k + 1, _, _, _, by omega, rfl, by go_num, HE.out⟩
              case measure => simp [intOf]; omega
        · obtain rfl : k = u := by omega
          go_wp2_with fail
          go_roundw
          case rel => exact ⟨j + 1, _, _, _, by omega, rfl, by go_num, by rw [show (j + 1) * k + 0 = j * k + k by rw [Nat.add_mul, Nat.one_mul]; rfl]; exact HR.out⟩
          case measure => simp [intOf]; omega
    · obtain rfl : j = v := by omega
      have hR := HR.out
      rw [← HF.out.1] at hR
      have HR := Lib.hid hR
      clear hR
      go_wp2_with fail
      go_ret2
      obtain ⟨A9, c9, e9, hb9, hn9⟩ := bs_of_own HR.out.own (by rw [HF.out.1]; exact HF.out.2.2.1 _)
      cases e9
      exact ⟨A1, n1, c1, rfl, hb9, fun b off e => Nat.le_of_lt (hn9 b off e), HR.out.bel⟩
set_option maxHeartbeats 1600000 in
theorem refCut_any (w0 : World) (W H : Int) (A : Option Addr) (n c : Nat) (xs : List Int) (hI : Ia w0 A n c xs) (hn : n ≤ 1000000) :
    Calls Try.prog 24 #[.agg #[.int .i64 W, .int .i64 H, .slice A n c]] w0 (BTells w0 (cutF W H xs).1 (cutF W H xs).2) := by
  by_cases hr : RightI W H xs
  · have e : cutF W H xs = (cutL xs W.toNat H.toNat, 0) := by unfold cutF; rw [if_pos hr]
    rw [e]
    obtain ⟨W', H', rfl, rfl, hp⟩ := hr.plane
    exact refCut_good w0 W' H' A n c xs hI hp
  · have e : cutF W H xs = ([], 1) := by unfold cutF; rw [if_neg hr]
    rw [e]
    have HR := Lib.hid (fun w1 (k : Below w0.heap.size w0 w1) => refRight_any w1 W H A n c xs (hI.on k) hn)
    unfold Righted at HR
    rw [decide_eq_false hr] at HR
    obtain ⟨w1, hw1⟩ : ∃ w1, w0.alloc (.cells #[.int .i64 W, .int .i64 H, .slice A n c] 24) = w1 := ⟨_, rfl⟩
    have k1 : Below w0.heap.size w0 w1 := by rw [← hw1]; exact on_alloc _ _
    have HW := Lib.hid (And.intro hw1 k1)
    clear hr e hI hw1 k1
    go_enter Try.func24, Try.ntmps24
    go_wp2_with fail
    rw [HW.out.1]
    refine Calls.mono (HR.out w1 HW.out.2) ?_
    rintro e w4 ⟨rfl, b4⟩
    have H4 := Lib.hid (on_trans HW.out.2 b4)
    clear b4
    go_wp2_with fail
    go_ret2
    exact ⟨none, 0, 0, rfl, ⟨rfl, (fun x hx => by cases hx), fun h => absurd h (by omega)⟩, (fun b off e => by cases e), H4.out⟩
end Go.Proofs.Ytadlaljohlpabaa
