/-
  The contracts of Right, the program's and the reference's. The contracts of Order, the program's and the reference's.
-/
import Derived.Test.YthfpdebpepbejaaDoorBlock
import Derived.Test.YthfpdebpepbejaaDoorStuff
namespace Go.Proofs.YthfpdebpepbejaaDoor
open Go.RowKit

/-- what Right answers -/
def RightedB (w : World) (b : List Int) (e : Ending) (w' : World) : Prop := e = .returned (.bool (decide (RightB b))) ∧ Below w.heap.size w w'
/-- the first k numbers may be -/
def Ri (b : List Int) (k : Nat) : Prop := ∀ j, j < k → In (b.getD j 0)
theorem Ri.more {b : List Int} {k : Nat} (h : Ri b k) (hk : In (b.getD k 0)) : Ri b (k + 1) := fun j hj => by
  by_cases e : j = k
  · rw [e]; exact hk
  · exact h j (by omega)
theorem not_right {b : List Int} {k : Nat} (hk : k < 64) (h : ¬ In (b.getD k 0)) : decide (RightB b) = false := decide_eq_false_iff_not.2 fun hr => h (hr k hk)

set_option maxRecDepth 10000 in
set_option maxHeartbeats 800000 in
theorem right64_any (w : World) (b : List Int) (hb : b.length = 64) : Calls Tryd.prog 12 #[blkV b] w (RightedB w b) := by
  obtain ⟨w1, hw1⟩ : ∃ w1, w1 = w.alloc (.cells (cellsI b).toArray 23) := ⟨_, rfl⟩
  have hB : Blk w1 w.heap.size b := ⟨by rw [hw1]; exact Box.made _ _ _, hb⟩
  have bel : Below w.heap.size w w1 := by rw [hw1]; exact on_alloc _ _
  have H := Lib.hid (And.intro hB (And.intro bel hw1))
  have HL := Lib.hid hB.load
  have HB := Lib.hid hb
  clear hB bel hw1 hb
  obtain ⟨v, hv⟩ : ∃ v, v = blkV b := ⟨_, rfl⟩
  rw [← hv] at HL ⊢
  obtain ⟨cs, hcs⟩ : ∃ cs, cs = (cellsI b).toArray := ⟨_, rfl⟩
  have hvc : v = .agg cs := by rw [hv, hcs]; rfl
  rw [hvc]
  have HV := Lib.hid (And.intro hv (And.intro hcs hvc))
  clear hv hcs hvc
  have HL2 := Lib.hid (show (Instr.loadAt 23 (.pointer (some ⟨w.heap.size, 0, none⟩))).run Tryd.prog (w.alloc (.cells cs 23)) = .ok v (w.alloc (.cells cs 23)) by rw [HV.out.2.1, ← H.out.2.2]; exact HL.out)
  go_enter Tryd.func12, Tryd.ntmps12
  go_wp2_with (first
    | (with_reducible refine wpList_load_to (op := ⟨some 5, _, _, _, _, _⟩) rfl 23 (.tmp 1) rfl (.pointer (some ⟨w.heap.size, 0, none⟩)) rfl v HL2.out ?_)
    | fail)
  rw [HV.out.2.1, ← H.out.2.2]
  go_loopw [6] (fun i wr => ∃ k : Nat, k ≤ 64 ∧ i = .int .i64 k ∧ Ri b k ∧ Below w.heap.size w wr) (fun i _ => 64 - (intOf i).toNat)
  case atStart => exact ⟨0, by omega, rfl, fun j hj => absurd hj (by omega), H.out.2.1⟩
  case round =>
    obtain ⟨k, hk, rfl, hR, hbel⟩ := hrel
    have HR := Lib.hid (And.intro hR hbel)
    clear hR hbel
    by_cases hlt : k < 64
    · have hidx := fun w => index23 w HB.out hlt
      rw [← HV.out.1] at hidx
      obtain ⟨z, hz⟩ : ∃ z, z = b.getD k 0 := ⟨_, rfl⟩
      rw [← hz] at hidx
      have HZ := Lib.hid hz
      clear hz
      by_cases hin : In z
      · have hd : decide (In z) = true := by simpa using hin
        have HD := Lib.hid (And.intro hd hin)
        clear hd hin
        go_wp2_with fail
        refine (inRange_any wr z).mono ?_
        rintro e w2 ⟨rfl, rfl⟩
        rw [HD.out.1]
        go_wp2
        go_roundw
        case rel => exact ⟨k + 1, by omega, by go_num, HR.out.1.more (by rw [← HZ.out]; exact HD.out.2), HR.out.2⟩
        case measure => simp [intOf]; omega
      · have hd : decide (In z) = false := by simpa using hin
        have HD := Lib.hid (And.intro hd hin)
        clear hd hin
        go_wp2_with fail
        refine (inRange_any wr z).mono ?_
        rintro e w2 ⟨rfl, rfl⟩
        rw [HD.out.1]
        go_wp2
        go_ret
        exact ⟨by rw [not_right hlt (by rw [← HZ.out]; exact HD.out.2)]; rfl, HR.out.2⟩
    · obtain rfl : k = 64 := by omega
      go_wp2
      go_ret
      exact ⟨by rw [decide_eq_true (show RightB b from HR.out.1)]; rfl, HR.out.2⟩

set_option maxRecDepth 10000 in
set_option maxHeartbeats 800000 in
theorem refRight_any (w : World) (b : List Int) (hb : b.length = 64) : Calls Tryd.prog 13 #[blkV b] w (RightedB w b) := by
  obtain ⟨w1, hw1⟩ : ∃ w1, w1 = w.alloc (.cells (cellsI b).toArray 23) := ⟨_, rfl⟩
  have hB : Blk w1 w.heap.size b := ⟨by rw [hw1]; exact Box.made _ _ _, hb⟩
  have bel : Below w.heap.size w w1 := by rw [hw1]; exact on_alloc _ _
  have H := Lib.hid (And.intro hB (And.intro bel hw1))
  clear hB bel hw1 hb
  obtain ⟨cs, hcs⟩ : ∃ cs, cs = (cellsI b).toArray := ⟨_, rfl⟩
  have hvc : blkV b = .agg cs := by rw [hcs]; rfl
  rw [hvc]
  have HV := Lib.hid hcs
  clear hcs hvc
  go_enter Tryd.func13, Tryd.ntmps13
  go_wp2_with fail
  rw [HV.out, ← H.out.2.2]
  go_loopw [3] (fun i wr => ∃ k : Nat, k ≤ 64 ∧ i = .int .i64 k ∧ Ri b k ∧ w1 = wr) (fun i _ => 64 - (intOf i).toNat)
  case atStart => exact ⟨0, by omega, rfl, fun j hj => absurd hj (by omega), rfl⟩
  case round =>
    obtain ⟨k, hk, rfl, hR, rfl⟩ := hrel
    have HR := Lib.hid hR
    clear hR
    by_cases hlt : k < 64
    · have hc := H.out.1.cell hlt
      obtain ⟨z, hz⟩ : ∃ z, z = b.getD k 0 := ⟨_, rfl⟩
      rw [← hz] at hc
      have HZ := Lib.hid hz
      clear hz
      by_cases hin : In z
      · have hd : decide (In z) = true := by simpa using hin
        have HD := Lib.hid (And.intro hd hin)
        clear hd hin
        go_wp2_with fail
        refine (refIn_any w1 z).mono ?_
        rintro e w2 ⟨rfl, rfl⟩
        rw [HD.out.1]
        go_wp2
        go_roundw
        case rel => exact ⟨k + 1, by omega, by go_num, HR.out.more (by rw [← HZ.out]; exact HD.out.2), trivial⟩
        case measure => simp [intOf]; omega
      · have hd : decide (In z) = false := by simpa using hin
        have HD := Lib.hid (And.intro hd hin)
        clear hd hin
        go_wp2_with fail
        refine (refIn_any w1 z).mono ?_
        rintro e w2 ⟨rfl, rfl⟩
        rw [HD.out.1]
        go_wp2
        go_ret
        exact ⟨by rw [not_right hlt (by rw [← HZ.out]; exact HD.out.2)]; rfl, H.out.2.1⟩
    · obtain rfl : k = 64 := by omega
      go_wp2
      go_ret
      exact ⟨by rw [decide_eq_true (show RightB b from HR.out)]; rfl, H.out.2.1⟩
end Go.Proofs.YthfpdebpepbejaaDoor

namespace Go.Proofs.YthfpdebpepbejaaDoor
open Go.RowKit

/-- what the program's Order answers -/
def Ordered (w : World) (e : Ending) (w' : World) : Prop := e = .returned (blkV zz) ∧ Below w.heap.size w w'

set_option maxRecDepth 10000 in
set_option maxHeartbeats 800000 in
theorem order_any (w : World) (hT : Tab w) : Calls Tryd.prog 11 #[] w (Ordered w) := by
  obtain ⟨Z, hZ⟩ : ∃ Z, Z = (cellsI (List.replicate 64 0)).toArray := ⟨_, rfl⟩
  have hZs : Z.size = 64 := by rw [hZ]; rfl
  have hz : ∀ w, (zeroValue 22).run Tryd.prog w = .ok (.agg Z) w := fun w => by rw [hZ]; exact zero22 w
  have HT := Lib.hid (hT.on (on_alloc w (.cells Z 22))).load
  have HB := Lib.hid (And.intro (Box.made w 22 Z) hZs)
  clear hT hZ hZs
  go_enter Tryd.func11, Tryd.ntmps11
  go_wp2_with (first
    | (with_reducible refine wpList_load_to (op := ⟨some 1, _, _, _, _, _⟩) rfl 22 (.global 0) rfl (.pointer (some ⟨0, 0, none⟩)) rfl (blkV zz) HT.out ?_)
    | ((with_reducible refine wpList_store_blk (o := ⟨none, _, _, _, _, _⟩) arr22_size rfl (.tmp 0) (.tmp 1) rfl rfl w.heap.size zz rfl rfl Z HB.out.1 HB.out.2 zz_len ?_)
       intro w4 b4 k4
       have H6 := Lib.hid (And.intro b4 k4)
       clear b4 k4)
    | fail)
  refine bodyPost_ret (v := blkV zz) (results_cell_row (fn := Tryd.f11) Tryd.results11 _ _ w.heap.size 22 _ (0, 0) _ rfl H6.out.1 Tryd.underlying22 rfl (by rw [arr22_size]; rfl)) rfl ?_
  exact ⟨rfl, (on_alloc _ _).trans (H6.out.2.below (by simp) (fun i hi e => by omega))⟩

/-- what place i of diagonal d is, if it is one -/
def rowOf (d i : Nat) : Nat := if d % 2 = 1 then i else d - i
def entOf (d i : Nat) : List Int := if rowOf d i < 8 ∧ d - rowOf d i < 8 then [((8 * rowOf d i + d - rowOf d i : Nat) : Int)] else []
/-- the order's beginning: d diagonals, and i places of the next one -/
def ordTo (d i : Nat) : List Int := ((List.range d).flatMap fun d => (List.range (d + 1)).flatMap (entOf d)) ++ (List.range i).flatMap (entOf d)
theorem ordTo_more (d i : Nat) : ordTo d (i + 1) = ordTo d i ++ entOf d i := by simp [ordTo, List.range_succ]
theorem ordTo_next (d : Nat) : ordTo (d + 1) 0 = ordTo d (d + 1) := by simp [ordTo, List.range_succ]
theorem ordTo_all : ordTo 15 0 = zz := by decide
theorem ordTo_len : ∀ d, d < 15 → ∀ i, i < d + 2 → (ordTo d i).length ≤ 64 := by decide

/-- a row of numbers of one's own, at w0 and behind it -/
structure RowI (w0 w : World) (v : Value) (l : List Int) : Prop where
  own : w.ownsRow w0.heap.size 3 1 v l.length (cellsI l)
  bel : Below w0.heap.size w0 w
theorem RowI.nil (w : World) : RowI w w (.slice none 0 0) [] := ⟨⟨rfl, .inl ⟨rfl, rfl⟩⟩, Below.refl _ _⟩
theorem RowI.il {w0 w : World} {v : Value} {l : List Int} (h : RowI w0 w v l) : ∃ A c, v = .slice A l.length c ∧ Il w A l.length c l ∧ ∀ b off, A = some ⟨b, off, none⟩ → w0.heap.size ≤ b := il_of_own h.own

/-- what the reference's Order answers -/
def RefOrdered (w : World) (e : Ending) (w' : World) : Prop := ∃ A c, e = .returned (.slice A 64 c) ∧ Il w' A 64 c zz ∧ (∀ b off, A = some ⟨b, off, none⟩ → w.heap.size ≤ b) ∧ Below w.heap.size w w'

set_option maxRecDepth 10000 in
set_option maxHeartbeats 1600000 in
theorem refOrder_any (w : World) : Calls Tryd.prog 10 #[] w (RefOrdered w) := by
  go_enter Tryd.func10, Tryd.ntmps10
  go_wp2_with fail
  go_loopw [1, 2] (fun o s wr => ∃ d : Nat, d ≤ 15 ∧ s = .int .i64 (d : Int) ∧ RowI w wr o (ordTo d 0)) (fun _ s _ => 15 - (intOf s).toNat)
  case atStart => exact ⟨0, by omega, rfl, RowI.nil w⟩
  case round =>
    obtain ⟨d, hd, rfl, hG⟩ := hrel
    by_cases hlt : d < 15
    · have hdi : (d : Int) < 15 := by omega
      go_wp2
      go_loopw [1, 3] (fun o s w6 => ∃ i : Nat, i ≤ d + 1 ∧ s = .int .i64 (i : Int) ∧ RowI w w6 o (ordTo d i)) (fun _ s _ => d + 1 - (intOf s).toNat)
      case atStart => exact ⟨0, by omega, rfl, hG⟩
      case round =>
        obtain ⟨i, hi, rfl, hR⟩ := hrel
        have HR := Lib.hid hR
        clear hR hG
        by_cases hid : i ≤ d
        · obtain ⟨r, hr⟩ : ∃ r, r = rowOf d i := ⟨_, rfl⟩
          have hrd : r ≤ d := by rw [hr]; unfold rowOf; split <;> omega
          have hent := ordTo_more d i
          unfold entOf at hent
          rw [← hr] at hent
          have hln := ordTo_len d hlt i (by omega)
          have HE := Lib.hid (And.intro hent (And.intro hr hln))
          clear hent hr hln
          by_cases hpar : d % 2 = 1
          · have hri : r = i := by rw [HE.out.2.1]; unfold rowOf; rw [if_pos hpar]
            subst hri
            have hp2 : (d : Int) % 2 = 1 := by omega
            by_cases h8 : r < 8
            · have h8i : (r : Int) < 8 := by omega
              by_cases h9 : d - r < 8
              · have h9i : (d : Int) - r < 8 := by omega
                obtain ⟨N, hN⟩ : ∃ N, N = (ordTo d r).length := ⟨_, rfl⟩
                have hown := HR.out.own
                have hln := HE.out.2.2
                rw [← hN] at hown hln
                obtain ⟨Ao, co, ho⟩ := own_slice hown
                have HO := Lib.hid (And.intro hown hN)
                clear hown hN
                subst ho
                go_wp2_with (first
                  | (at_builtin; refine wpList_append_il rfl (.tmp 29) (.tmp 36) rfl w.heap.size _ N (ordTo d r) rfl (HO.out.1.alloc _) (some ⟨wr.heap.size, 0, none⟩) 1 1 [8 * (r : Int) + d - r] rfl (il_one wr _) (by omega) (by have := HR.out.bel.size; simp; omega) ?_; intro v6 w6 hown6 b6; have H6 := Lib.hid (And.intro hown6 ((HR.out.bel.trans ((on_alloc _ _).mono HR.out.bel.size)).trans b6)); clear hown6 b6)
                  | fail)
                go_roundw
                case rel =>
                  refine ⟨r + 1, by omega, by go_num, ?_⟩
                  rw [HE.out.1, if_pos ⟨h8, h9⟩]
                  refine ⟨?_, H6.out.2⟩
                  have e : ((8 * r + d - r : Nat) : Int) = 8 * (r : Int) + d - r := by omega
                  rw [List.length_append, ← HO.out.2, e]
                  exact H6.out.1
                case measure => simp [intOf]; omega
              · have h9i : ¬ (d : Int) - r < 8 := by omega
                go_wp2
                go_roundw
                case rel =>
                  refine ⟨r + 1, by omega, by go_num, ?_⟩
                  rw [HE.out.1, if_neg (fun h => h9 h.2), List.append_nil]
                  exact HR.out
                case measure => simp [intOf]; omega
            · have h8i : ¬ (r : Int) < 8 := by omega
              go_wp2
              go_roundw
              case rel =>
                refine ⟨r + 1, by omega, by go_num, ?_⟩
                rw [HE.out.1, if_neg (fun h => h8 h.1), List.append_nil]
                exact HR.out
              case measure => simp [intOf]; omega
          · have hri : r = d - i := by rw [HE.out.2.1]; unfold rowOf; rw [if_neg hpar]
            have hp2 : ¬ (d : Int) % 2 = 1 := by omega
            have he : (d : Int) - i = r := by omega
            have hri0 := Lib.hid hri
            clear hri
            by_cases h8 : r < 8
            · have h8i : (r : Int) < 8 := by omega
              by_cases h9 : d - r < 8
              · have h9i : (d : Int) - r < 8 := by omega
                obtain ⟨N, hN⟩ : ∃ N, N = (ordTo d i).length := ⟨_, rfl⟩
                have hown := HR.out.own
                have hln := HE.out.2.2
                rw [← hN] at hown hln
                obtain ⟨Ao, co, ho⟩ := own_slice hown
                have HO := Lib.hid (And.intro hown hN)
                clear hown hN
                subst ho
                go_wp2_with (first
                  | (at_builtin; refine wpList_append_il rfl (.tmp 29) (.tmp 36) rfl w.heap.size _ N (ordTo d i) rfl (HO.out.1.alloc _) (some ⟨wr.heap.size, 0, none⟩) 1 1 [8 * (r : Int) + d - r] rfl (il_one wr _) (by omega) (by have := HR.out.bel.size; simp; omega) ?_; intro v6 w6 hown6 b6; have H6 := Lib.hid (And.intro hown6 ((HR.out.bel.trans ((on_alloc _ _).mono HR.out.bel.size)).trans b6)); clear hown6 b6)
                  | fail)
                go_roundw
                case rel =>
                  refine ⟨i + 1, by omega, by go_num, ?_⟩
                  rw [HE.out.1, if_pos ⟨h8, h9⟩]
                  refine ⟨?_, H6.out.2⟩
                  have e : ((8 * r + d - r : Nat) : Int) = 8 * (r : Int) + d - r := by omega
                  rw [List.length_append, ← HO.out.2, e]
                  exact H6.out.1
                case measure => simp [intOf]; omega
              · have h9i : ¬ (d : Int) - r < 8 := by omega
                go_wp2
                go_roundw
                case rel =>
                  refine ⟨i + 1, by omega, by go_num, ?_⟩
                  rw [HE.out.1, if_neg (fun h => h9 h.2), List.append_nil]
                  exact HR.out
                case measure => simp [intOf]; omega
            · have h8i : ¬ (r : Int) < 8 := by omega
              go_wp2
              go_roundw
              case rel =>
                refine ⟨i + 1, by omega, by go_num, ?_⟩
                rw [HE.out.1, if_neg (fun h => h8 h.1), List.append_nil]
                exact HR.out
              case measure => simp [intOf]; omega
        · have ei : i = d + 1 := by omega
          rw [ei, ← ordTo_next] at HR
          clear ei
          go_wp2
          go_roundw
          case rel => exact ⟨d + 1, by omega, by go_num, HR.out⟩
          case measure => simp [intOf]; omega
    · obtain rfl : d = 15 := by omega
      rw [ordTo_all] at hG
      obtain ⟨A, c, rfl, hI, hlo⟩ := hG.il
      have H := Lib.hid (And.intro hI (And.intro hlo hG.bel))
      clear hI hlo hG
      rw [zz_len] at H ⊢
      go_wp2
      go_ret
      exact ⟨A, c, rfl, H.out.1, H.out.2.1, H.out.2.2⟩
end Go.Proofs.YthfpdebpepbejaaDoor
