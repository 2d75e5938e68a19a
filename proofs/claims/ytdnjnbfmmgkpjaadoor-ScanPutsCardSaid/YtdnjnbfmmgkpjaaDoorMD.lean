/-
  The contracts of Right, the program's and the reference's. The contracts of Order, the program's and the reference's. The contract of each, over the contract of the function that sees the symbols. Tally: the contracts of copied, of the closure that counts, and of Tally itself. Tally: the contract of the closure that counts. Tally: its contract. The contract of the laws' own awake. The contracts of the reference's symbol and Symbols. The contract of the reference's Symbols. The contract of a symbol's put. The contracts of Put's two functions that see each symbol. The contract of the program's Put of a block. The contract of the reference's Put of a block. The contract of the reference's Bytes.
-/
import Derived.Test.YtdnjnbfmmgkpjaaDoorMA
import Derived.Test.YtdnjnbfmmgkpjaaDoorMB
import Derived.Test.YtdnjnbfmmgkpjaaDoorMC
namespace Go.Proofs.YtdnjnbfmmgkpjaaDoor
open Go.RowKit

/-- what Right answers -/
def RightedB (w : World) (b : List Int) (e : Ending) (w' : World) : Prop := e = .returned (.bool (decide (RightB b))) ∧ Below w.heap.size w w'
/-- the first k numbers may be -/
def Ri (b : List Int) (k : Nat) : Prop := ∀ j, j < k → In (b.getD j 0)
theorem Ri.more {b : List Int} {k : Nat} (h : Ri b k) (hk : In (b.getD k 0)) : Ri b (k + 1) := fun j hj => by
  by_cases e : j = k
  · rw [e]; exact hk
  · exact h j (by omega)
theorem not_right {b : List Int} {k : Nat} (hk : k < 64) (h : ¬ In (b.getD k 0)) : decide (RightB b) = false := decide_eq_false_iff_not.2 fun hr => h (hr k hk)

set_option maxRecDepth 10000 in
set_option maxHeartbeats 800000 in
theorem right64_any (w : World) (b : List Int) (hb : b.length = 64) : Calls Tryd.prog 49 #[blkV b] w (RightedB w b) := by
  obtain ⟨w1, hw1⟩ : ∃ w1, w1 = w.alloc (.cells (cellsI b).toArray 25) := ⟨_, rfl⟩
  have hB : Blk w1 w.heap.size b := ⟨by rw [hw1]; exact Box.made _ _ _, hb⟩
  have bel : Below w.heap.size w w1 := by rw [hw1]; exact on_alloc _ _
  have H := Lib.hid (And.intro hB (And.intro bel hw1))
  have HL := Lib.hid hB.load
  have HB := Lib.hid hb
  clear hB bel hw1 hb
  obtain ⟨v, hv⟩ : ∃ v, v = blkV b := ⟨_, rfl⟩
  rw [← hv] at HL ⊢
  obtain ⟨cs, hcs⟩ : ∃ cs, cs = (cellsI b).toArray := ⟨_, rfl⟩
  have hvc : v = .agg cs := by rw [hv, hcs]; rfl
  rw [hvc]
  have HV := Lib.hid (And.intro hv (And.intro hcs hvc))
  clear hv hcs hvc
  have HL2 := Lib.hid (show (Instr.loadAt 25 (.pointer (some ⟨w.heap.size, 0, none⟩))).run Tryd.prog (w.alloc (.cells cs 25)) = .ok v (w.alloc (.cells cs 25)) by rw [HV.out.2.1, ← H.out.2.2]; exact HL.out)
  go_enter Tryd.func49, Tryd.ntmps49
  go_wp2_with (first
    | (with_reducible refine wpList_load_to (op := ⟨some 5, _, _, _, _, _⟩) rfl 25 (.tmp 1) rfl (.pointer (some ⟨w.heap.size, 0, none⟩)) rfl v HL2.out ?_)
    | fail)
  rw [HV.out.2.1, ← H.out.2.2]
  go_loopw [6] (fun i wr => ∃ k : Nat, k ≤ 64 ∧ i = .int .i64 k ∧ Ri b k ∧ Below w.heap.size w wr) (fun i _ => 64 - (intOf i).toNat)
  case atStart => exact ⟨0, by omega, rfl, fun j hj => absurd hj (by omega), H.out.2.1⟩
  case round =>
    obtain ⟨k, hk, rfl, hR, hbel⟩ := hrel
    have HR := Lib.hid (And.intro hR hbel)
    clear hR hbel
    by_cases hlt : k < 64
    · have hidx := fun w => index23 w HB.out hlt
      rw [← HV.out.1] at hidx
      obtain ⟨z, hz⟩ : ∃ z, z = b.getD k 0 := ⟨_, rfl⟩
      rw [← hz] at hidx
      have HZ := Lib.hid hz
      clear hz
      by_cases hin : In z
      · have hd : decide (In z) = true := by simpa using hin
        have HD := Lib.hid (And.intro hd hin)
        clear hd hin
        go_wp2_with fail
        refine (inRange_any wr z).mono ?_
        rintro e w2 ⟨rfl, rfl⟩
        rw [HD.out.1]
        go_wp2
        go_roundw
        case rel => exact ⟨k + 1, by omega, by go_num, HR.out.1.more (by rw [← HZ.out]; exact HD.out.2), HR.out.2⟩
        case measure => simp [intOf]; omega
      · have hd : decide (In z) = false := by simpa using hin
        have HD := Lib.hid (And.intro hd hin)
        clear hd hin
        go_wp2_with fail
        refine (inRange_any wr z).mono ?_
        rintro e w2 ⟨rfl, rfl⟩
        rw [HD.out.1]
        go_wp2
        go_ret
        exact ⟨by rw [not_right hlt (by rw [← HZ.out]; exact HD.out.2)]; rfl, HR.out.2⟩
    · obtain rfl : k = 64 := by omega
      go_wp2
      go_ret
      exact ⟨by rw [decide_eq_true (show RightB b from HR.out.1)]; rfl, HR.out.2⟩

set_option maxRecDepth 10000 in
set_option maxHeartbeats 800000 in
theorem refRight_any (w : World) (b : List Int) (hb : b.length = 64) : Calls Tryd.prog 35 #[blkV b] w (RightedB w b) := by
  obtain ⟨w1, hw1⟩ : ∃ w1, w1 = w.alloc (.cells (cellsI b).toArray 25) := ⟨_, rfl⟩
  have hB : Blk w1 w.heap.size b := ⟨by rw [hw1]; exact Box.made _ _ _, hb⟩
  have bel : Below w.heap.size w w1 := by rw [hw1]; exact on_alloc _ _
  have H := Lib.hid (And.intro hB (And.intro bel hw1))
  clear hB bel hw1 hb
  obtain ⟨cs, hcs⟩ : ∃ cs, cs = (cellsI b).toArray := ⟨_, rfl⟩
  have hvc : blkV b = .agg cs := by rw [hcs]; rfl
  rw [hvc]
  have HV := Lib.hid hcs
  clear hcs hvc
  go_enter Tryd.func35, Tryd.ntmps35
  go_wp2_with fail
  rw [HV.out, ← H.out.2.2]
  go_loopw [3] (fun i wr => ∃ k : Nat, k ≤ 64 ∧ i = .int .i64 k ∧ Ri b k ∧ w1 = wr) (fun i _ => 64 - (intOf i).toNat)
  case atStart => exact ⟨0, by omega, rfl, fun j hj => absurd hj (by omega), rfl⟩
  case round =>
    obtain ⟨k, hk, rfl, hR, rfl⟩ := hrel
    have HR := Lib.hid hR
    clear hR
    by_cases hlt : k < 64
    · have hc := H.out.1.cell hlt
      obtain ⟨z, hz⟩ : ∃ z, z = b.getD k 0 := ⟨_, rfl⟩
      rw [← hz] at hc
      have HZ := Lib.hid hz
      clear hz
      by_cases hin : In z
      · have hd : decide (In z) = true := by simpa using hin
        have HD := Lib.hid (And.intro hd hin)
        clear hd hin
        go_wp2_with fail
        refine (refIn_any w1 z).mono ?_
        rintro e w2 ⟨rfl, rfl⟩
        rw [HD.out.1]
        go_wp2
        go_roundw
        case rel => exact ⟨k + 1, by omega, by go_num, HR.out.more (by rw [← HZ.out]; exact HD.out.2), trivial⟩
        case measure => simp [intOf]; omega
      · have hd : decide (In z) = false := by simpa using hin
        have HD := Lib.hid (And.intro hd hin)
        clear hd hin
        go_wp2_with fail
        refine (refIn_any w1 z).mono ?_
        rintro e w2 ⟨rfl, rfl⟩
        rw [HD.out.1]
        go_wp2
        go_ret
        exact ⟨by rw [not_right hlt (by rw [← HZ.out]; exact HD.out.2)]; rfl, H.out.2.1⟩
    · obtain rfl : k = 64 := by omega
      go_wp2
      go_ret
      exact ⟨by rw [decide_eq_true (show RightB b from HR.out)]; rfl, H.out.2.1⟩
end Go.Proofs.YtdnjnbfmmgkpjaaDoor

namespace Go.Proofs.YtdnjnbfmmgkpjaaDoor
open Go.RowKit

/-- what the program's Order answers -/
def Ordered (w : World) (e : Ending) (w' : World) : Prop := e = .returned (blkV zz) ∧ Below w.heap.size w w'

/-- what place i of diagonal d is, if it is one -/
def rowOf (d i : Nat) : Nat := if d % 2 = 1 then i else d - i
def entOf (d i : Nat) : List Int := if rowOf d i < 8 ∧ d - rowOf d i < 8 then [((8 * rowOf d i + d - rowOf d i : Nat) : Int)] else []
/-- the order's beginning: d diagonals, and i places of the next one -/
def ordTo (d i : Nat) : List Int := ((List.range d).flatMap fun d => (List.range (d + 1)).flatMap (entOf d)) ++ (List.range i).flatMap (entOf d)
theorem ordTo_more (d i : Nat) : ordTo d (i + 1) = ordTo d i ++ entOf d i := by simp [ordTo, List.range_succ]
theorem ordTo_next (d : Nat) : ordTo (d + 1) 0 = ordTo d (d + 1) := by simp [ordTo, List.range_succ]
theorem ordTo_all : ordTo 15 0 = zz := by decide
theorem ordTo_len : ∀ d, d < 15 → ∀ i, i < d + 2 → (ordTo d i).length ≤ 64 := by decide

/-- a row of numbers of one's own, at w0 and behind it -/
structure RowI (w0 w : World) (v : Value) (l : List Int) : Prop where
  own : w.ownsRow w0.heap.size 3 1 v l.length (cellsI l)
  bel : Below w0.heap.size w0 w
theorem RowI.nil (w : World) : RowI w w (.slice none 0 0) [] := ⟨⟨rfl, .inl ⟨rfl, rfl⟩⟩, Below.refl _ _⟩
theorem RowI.il {w0 w : World} {v : Value} {l : List Int} (h : RowI w0 w v l) : ∃ A c, v = .slice A l.length c ∧ Il w A l.length c l ∧ ∀ b off, A = some ⟨b, off, none⟩ → w0.heap.size ≤ b := il_of_own h.own

/-- what the reference's Order answers -/
def RefOrdered (w : World) (e : Ending) (w' : World) : Prop := ∃ A c, e = .returned (.slice A 64 c) ∧ Il w' A 64 c zz ∧ (∀ b off, A = some ⟨b, off, none⟩ → w.heap.size ≤ b) ∧ Below w.heap.size w w'

set_option maxRecDepth 10000 in
set_option maxHeartbeats 1600000 in
theorem refOrder_any (w : World) : Calls Tryd.prog 81 #[] w (RefOrdered w) := by
  go_enter Tryd.func81, Tryd.ntmps81
  go_wp2_with fail
  go_loopw [1, 2] (fun o s wr => ∃ d : Nat, d ≤ 15 ∧ s = .int .i64 (d : Int) ∧ RowI w wr o (ordTo d 0)) (fun _ s _ => 15 - (intOf s).toNat)
  case atStart => exact ⟨0, by omega, rfl, RowI.nil w⟩
  case round =>
    obtain ⟨d, hd, rfl, hG⟩ := hrel
    by_cases hlt : d < 15
    · have hdi : (d : Int) < 15 := by omega
      go_wp2
      go_loopw [1, 3] (fun o s w6 => ∃ i : Nat, i ≤ d + 1 ∧ s = .int .i64 (i : Int) ∧ RowI w w6 o (ordTo d i)) (fun _ s _ => d + 1 - (intOf s).toNat)
      case atStart => exact ⟨0, by omega, rfl, hG⟩
      case round =>
        obtain ⟨i, hi, rfl, hR⟩ := hrel
        have HR := Lib.hid hR
        clear hR hG
        by_cases hid : i ≤ d
        · obtain ⟨r, hr⟩ : ∃ r, r = rowOf d i := ⟨_, rfl⟩
          have hrd : r ≤ d := by rw [hr]; unfold rowOf; split <;> omega
          have hent := ordTo_more d i
          unfold entOf at hent
          rw [← hr] at hent
          have hln := ordTo_len d hlt i (by omega)
          have HE := Lib.hid (And.intro hent (And.intro hr hln))
          clear hent hr hln
          by_cases hpar : d % 2 = 1
          · have hri : r = i := by rw [HE.out.2.1]; unfold rowOf; rw [if_pos hpar]
            subst hri
            have hp2 : (d : Int) % 2 = 1 := by omega
            by_cases h8 : r < 8
            · have h8i : (r : Int) < 8 := by omega
              by_cases h9 : d - r < 8
              · have h9i : (d : Int) - r < 8 := by omega
                obtain ⟨N, hN⟩ : ∃ N, N = (ordTo d r).length := ⟨_, rfl⟩
                have hown := HR.out.own
                have hln := HE.out.2.2
                rw [← hN] at hown hln
                obtain ⟨Ao, co, ho⟩ := own_slice hown
                have HO := Lib.hid (And.intro hown hN)
                clear hown hN
                subst ho
                go_wp2_with (first
                  | (at_builtin; refine wpList_append_il rfl (.tmp 29) (.tmp 36) rfl w.heap.size _ N (ordTo d r) rfl (HO.out.1.alloc _) (some ⟨wr.heap.size, 0, none⟩) 1 1 [8 * (r : Int) + d - r] rfl (il_one wr _) (by omega) (by have := HR.out.bel.size; simp; omega) ?_; intro v6 w6 hown6 b6; have H6 := Lib.hid (And.intro hown6 ((HR.out.bel.trans ((on_alloc _ _).mono HR.out.bel.size)).trans b6)); clear hown6 b6)
                  | fail)
                go_roundw
                case rel =>
                  refine ⟨r + 1, by omega, by go_num, ?_⟩
                  rw [HE.out.1, if_pos ⟨h8, h9⟩]
                  refine ⟨?_, H6.out.2⟩
                  have e : ((8 * r + d - r : Nat) : Int) = 8 * (r : Int) + d - r := by omega
                  rw [List.length_append, ← HO.out.2, e]
                  exact H6.out.1
                case measure => simp [intOf]; omega
              · have h9i : ¬ (d : Int) - r < 8 := by omega
                go_wp2
                go_roundw
                case rel =>
                  refine ⟨r + 1, by omega, by go_num, ?_⟩
                  rw [HE.out.1, if_neg (fun h => h9 h.2), List.append_nil]
                  exact HR.out
                case measure => simp [intOf]; omega
            · have h8i : ¬ (r : Int) < 8 := by omega
              go_wp2
              go_roundw
              case rel =>
                refine ⟨r + 1, by omega, by go_num, ?_⟩
                rw [HE.out.1, if_neg (fun h => h8 h.1), List.append_nil]
                exact HR.out
              case measure => simp [intOf]; omega
          · have hri : r = d - i := by rw [HE.out.2.1]; unfold rowOf; rw [if_neg hpar]
            have hp2 : ¬ (d : Int) % 2 = 1 := by omega
            have he : (d : Int) - i = r := by omega
            have hri0 := Lib.hid hri
            clear hri
            by_cases h8 : r < 8
            · have h8i : (r : Int) < 8 := by omega
              by_cases h9 : d - r < 8
              · have h9i : (d : Int) - r < 8 := by omega
                obtain ⟨N, hN⟩ : ∃ N, N = (ordTo d i).length := ⟨_, rfl⟩
                have hown := HR.out.own
                have hln := HE.out.2.2
                rw [← hN] at hown hln
                obtain ⟨Ao, co, ho⟩ := own_slice hown
                have HO := Lib.hid (And.intro hown hN)
                clear hown hN
                subst ho
                go_wp2_with (first
                  | (at_builtin; refine wpList_append_il rfl (.tmp 29) (.tmp 36) rfl w.heap.size _ N (ordTo d i) rfl (HO.out.1.alloc _) (some ⟨wr.heap.size, 0, none⟩) 1 1 [8 * (r : Int) + d - r] rfl (il_one wr _) (by omega) (by have := HR.out.bel.size; simp; omega) ?_; intro v6 w6 hown6 b6; have H6 := Lib.hid (And.intro hown6 ((HR.out.bel.trans ((on_alloc _ _).mono HR.out.bel.size)).trans b6)); clear hown6 b6)
                  | fail)
                go_roundw
                case rel =>
                  refine ⟨i + 1, by omega, by go_num, ?_⟩
                  rw [HE.out.1, if_pos ⟨h8, h9⟩]
                  refine ⟨?_, H6.out.2⟩
                  have e : ((8 * r + d - r : Nat) : Int) = 8 * (r : Int) + d - r := by omega
                  rw [List.length_append, ← HO.out.2, e]
                  exact H6.out.1
                case measure => simp [intOf]; omega
              · have h9i : ¬ (d : Int) - r < 8 := by omega
                go_wp2
                go_roundw
                case rel =>
                  refine ⟨i + 1, by omega, by go_num, ?_⟩
                  rw [HE.out.1, if_neg (fun h => h9 h.2), List.append_nil]
                  exact HR.out
                case measure => simp [intOf]; omega
            · have h8i : ¬ (r : Int) < 8 := by omega
              go_wp2
              go_roundw
              case rel =>
                refine ⟨i + 1, by omega, by go_num, ?_⟩
                rw [HE.out.1, if_neg (fun h => h8 h.1), List.append_nil]
                exact HR.out
              case measure => simp [intOf]; omega
        · have ei : i = d + 1 := by omega
          rw [ei, ← ordTo_next] at HR
          clear ei
          go_wp2
          go_roundw
          case rel => exact ⟨d + 1, by omega, by go_num, HR.out⟩
          case measure => simp [intOf]; omega
    · obtain rfl : d = 15 := by omega
      rw [ordTo_all] at hG
      obtain ⟨A, c, rfl, hI, hlo⟩ := hG.il
      have H := Lib.hid (And.intro hI (And.intro hlo hG.bel))
      clear hI hlo hG
      rw [zz_len] at H ⊢
      go_wp2
      go_ret
      exact ⟨A, c, rfl, H.out.1, H.out.2.1, H.out.2.2⟩
end Go.Proofs.YtdnjnbfmmgkpjaaDoor

namespace Go.Proofs.YtdnjnbfmmgkpjaaDoor
open Go.RowKit

/-- a symbol as a value -/
def symV (s : Sym) : Value := .agg #[.int .i64 (s.1 : Int), .int .i64 (s.2.1 : Int), .int .i64 s.2.2]

/-- how things stand when the symbols l have been seen -/
structure Seen (S : Nat → Prop) (Inv : List Sym → World → Prop) (w1 wr : World) (l : List Sym) : Prop where
  inv : Inv l wr
  kept : Kept S w1 wr

theorem symsF_nil (b : List Int) (i run : Nat) : symsF b 0 i run = if 0 < run then [(1, 0, 0)] else [] := rfl
theorem cons_pre {l r a : List Sym} {s : Sym} (h : l ++ s :: r = a) : ∃ q, l ++ [s] ++ q = a := ⟨r, by rw [← h]; simp⟩

section
variable (S : Nat → Prop) (Inv : List Sym → World → Prop) (G : FuncId) (caps : Array Value)

set_option maxRecDepth 10000 in
set_option maxHeartbeats 3200000 in
theorem each_any (hcf : ∀ (args : Array Value) (w : World), (callFunc G args).run Tryd.prog w = .ok (.enter G args) w)
    (hon : ∀ l w1 w2, Inv l w1 → Below w1.heap.size w1 w2 → Inv l w2)
    (w : World) (prev : Int) (b : List Int) (hT : Tab w) (hb : b.length = 64) (hr : RightB b) (hp : In prev) (hS : ∀ i, S i → i < w.heap.size ∧ i ≠ 0) (h0 : Inv [] w)
    (hstep : ∀ l s w1, (∃ q, l ++ [s] ++ q = allS prev b) → Inv l w1 → Kept S w w1 → Calls Tryd.prog G (#[symV s] ++ caps) w1 fun e w2 => e = .returned (.tuple #[]) ∧ Inv (l ++ [s]) w2 ∧ Kept S w1 w2) :
    Calls Tryd.prog 52 #[.int .i64 prev, blkV b, .func (.func G) #[] caps] w fun e w' => e = .returned (.tuple #[]) ∧ Inv (allS prev b) w' ∧ Kept S w w' := by
  obtain ⟨g, hg⟩ : ∃ g, g = w.heap.size := ⟨_, rfl⟩
  obtain ⟨w1, hw1⟩ : ∃ w1, w1 = w.alloc (.cells (cellsI b).toArray 25) := ⟨_, rfl⟩
  have bel : Below w.heap.size w w1 := by rw [hw1]; exact on_alloc _ _
  have hB : Blk w1 g b := ⟨by rw [hw1, hg]; exact Box.made _ _ _, hb⟩
  have hgS : ¬ S g := fun h => by have := (hS g h).1; omega
  have h0S : ¬ S 0 := fun h => (hS 0 h).2 rfl
  have hT1 := hT.on bel
  obtain ⟨d, hd⟩ : ∃ d, d = b.getD 0 0 - prev := ⟨_, rfl⟩
  have c0 := hB.cell (k := 0) (by omega)
  have hdn := diff_small hr hp
  obtain ⟨x, hx⟩ : ∃ x, x = b.getD 0 0 := ⟨_, rfl⟩
  have hxr := hr 0 (by omega)
  rw [← hx] at c0 hd hdn hxr
  rw [← hd] at hdn
  have hall : allS prev b = (0, sz d, d) :: symsF b 63 1 0 := by rw [hd, hx]; rfl
  have hszd := diff_size hdn
  have HH := Lib.hid (And.intro hB (And.intro bel (And.intro hT1 (And.intro hgS (And.intro h0S (And.intro hw1 hg))))))
  have HA := Lib.hid (And.intro hall (And.intro hr (And.intro hszd hdn)))
  have HS := Lib.hid hstep
  have HO := Lib.hid hon
  have h1 := hon _ _ _ h0 bel
  have HI := Lib.hid (Seen.mk (S := S) (Inv := Inv) h1 (Kept.refl S w1))
  have HK := Lib.hid (fun wr (h : Kept S w1 wr) => (Kept.of_below bel S).trans h (fun _ _ h => h))
  have hxp : x - prev = d := hd.symm
  obtain ⟨cs, hcs⟩ : ∃ cs, cs = (cellsI b).toArray := ⟨_, rfl⟩
  have hvc : blkV b = .agg cs := by rw [hcs]; rfl
  rw [hvc]
  have HV := Lib.hid hcs
  unfold In at hp hxr
  obtain ⟨p0, p1⟩ := hp
  obtain ⟨x0, x1⟩ := hxr
  have c0' : (w.alloc (.cells cs 25)).cell? ⟨w.heap.size, 0, none⟩ = some (.int .i64 x) := by rw [hcs, ← hw1, ← hg]; exact c0
  clear hB bel hT1 hgS h0S hw1 hall hr hszd hstep hon h0 h1 hcs hvc hT hS hg hb hd hx c0
  go_enter Tryd.func52, Tryd.ntmps52
  go_wp2_with fail
  refine (size_any _ d (by unfold isInt; omega)).mono ?_
  rintro e w2 ⟨rfl, rfl⟩
  rw [HV.out, ← HH.out.2.2.2.2.2.1, ← HH.out.2.2.2.2.2.2]
  clear c0'
  have C1 := Lib.hid (HS.out [] (0, sz d, d) w1 ⟨_, by rw [HA.out.1]; rfl⟩ HI.out.inv (HK.out _ HI.out.kept))
  go_wp2_with fail
  refine C1.out.mono ?_
  rintro e w2 ⟨rfl, hi2, hk2⟩
  have H2 := Lib.hid (Seen.mk (S := S) (Inv := Inv) (w1 := w1) hi2 (HI.out.kept.trans hk2 (fun _ _ h => h)))
  clear hi2 hk2 C1
  go_wp2_with fail
  go_loopw [7, 8] (fun r i wr => ∃ (k run : Nat) (l : List Sym), 1 ≤ k ∧ k ≤ 64 ∧ run < k ∧ i = .int .i64 (k : Int) ∧ r = .int .i64 (run : Int) ∧ l ++ symsF b (64 - k) k run = allS prev b ∧ Seen S Inv w1 wr l) (fun _ i _ => 64 - (intOf i).toNat)
  case atStart => exact ⟨1, 0, [(0, sz d, d)], by omega, by omega, by omega, rfl, rfl, by rw [HA.out.1]; rfl, H2.out⟩
  case round =>
    obtain ⟨k, run, l, hk1, hk, hrun, rfl, rfl, hl, hP⟩ := hrel
    have HP := Lib.hid (And.intro hl hP)
    clear hl hP
    by_cases hlt : k < 64
    · have hTr := (HH.out.2.2.1.kept HP.out.2.kept HH.out.2.2.2.2.1)
      have hBr := (HH.out.1.kept HP.out.2.kept HH.out.2.2.2.1)
      obtain ⟨hz1, hz2⟩ := zn_at k hlt
      have c1 := hTr k hlt
      rw [hz1] at c1
      obtain ⟨q, hq⟩ : ∃ q, q = zn k := ⟨_, rfl⟩
      rw [← hq] at c1 hz2
      have c2 := hBr.cell hz2
      obtain ⟨z, hz⟩ : ∃ z, z = zig b k := ⟨_, rfl⟩
      have hzz : b.getD q 0 = z := by rw [hz, hq]; rfl
      rw [hzz] at c2
      have hzin := HA.out.2.1.zig hlt
      rw [← hz] at hzin
      obtain ⟨n, hn⟩ : ∃ n, 64 - k = n + 1 := ⟨64 - k - 1, by omega⟩
      have hki : (k : Int) < 64 := by omega
      have hin := hzin
      unfold In at hin
      obtain ⟨z0, z1⟩ := hin
      have HZ := Lib.hid (And.intro hz (And.intro hzin hn))
      clear hTr hBr hz1 hq hz hzz hzin hn
      by_cases he : z = 0
      · subst he
        go_wp2_with fail
        go_roundw
        case rel =>
          refine ⟨k + 1, run + 1, l, by omega, by omega, by omega, by go_num, by go_num, ?_, HP.out.2⟩
          have hl := HP.out.1
          rw [HZ.out.2.2, symsF_zero HZ.out.1.symm] at hl
          rw [show 64 - (k + 1) = n by have := HZ.out.2.2; omega]
          exact hl
        case measure => simp [intOf]; omega
      · have hl := HP.out.1
        have hznz : zig b k ≠ 0 := by rw [← HZ.out.1]; exact he
        rw [HZ.out.2.2, symsF_some hznz, ← HZ.out.1] at hl
        have HL := Lib.hid hl
        have heb : (z == 0) = false := by simpa using he
        clear hl hznz
        go_wp2_with fail
        clear c1 c2
        go_loopw [7] (fun r w6 => ∃ (u : Nat) (l : List Sym), u ≤ run ∧ r = .int .i64 (u : Int) ∧ l ++ (runsOf u z ++ symsF b n (k + 1) 0) = allS prev b ∧ Seen S Inv w1 w6 l) (fun r _ => (intOf r).toNat)
        case atStart => exact ⟨run, l, by omega, rfl, HL.out, HP.out.2⟩
        case round =>
          obtain ⟨u, l2, hu, rfl, hl2, hP2⟩ := hrel
          by_cases h15 : 15 < u
          · have h15i : (15 : Int) < u := by omega
            rw [runsOf_big z h15, List.cons_append] at hl2
            have C2 := Lib.hid (HS.out l2 (1, 240, 0) _ (cons_pre hl2) hP2.inv (HK.out _ hP2.kept))
            have HP2 := Lib.hid (And.intro hl2 hP2)
            clear hl2 hP2
            go_wp2_with fail
            refine C2.out.mono ?_
            rintro e w7 ⟨rfl, hi7, hk7⟩
            have H7 := Lib.hid (Seen.mk (S := S) (Inv := Inv) (w1 := w1) hi7 (HP2.out.2.kept.trans hk7 (fun _ _ h => h)))
            clear hi7 hk7 C2
            go_wp2_with fail
            go_roundw
            case rel =>
              refine ⟨u - 16, l2 ++ [(1, 240, 0)], by omega, by go_num, ?_, H7.out⟩
              rw [← HP2.out.1]
              simp
            case measure => simp [intOf]; omega
          · have h15i : ¬ (15 : Int) < u := by omega
            rw [runsOf_small z (by omega)] at hl2
            have C2 := Lib.hid (HS.out l2 (1, 16 * u + sz z, z) _ (cons_pre hl2) hP2.inv (HK.out _ hP2.kept))
            have HP2 := Lib.hid (And.intro hl2 hP2)
            have hsz := in_size HZ.out.2.1
            clear hl2 hP2
            have HQ := Lib.hid (size_any wr z (by unfold isInt; omega))
            go_wp2_with fail
            refine HQ.out.mono ?_
            rintro e w7 ⟨rfl, rfl⟩
            obtain ⟨y, hy⟩ : ∃ y, y = sz z := ⟨_, rfl⟩
            rw [← hy] at C2 hsz ⊢
            have HY := Lib.hid hy
            clear hy HQ
            have hcast : ((16 * u + y : Nat) : Int) = 16 * (u : Int) + y := by omega
            have C3 := Lib.hid (show Calls Tryd.prog G (#[.agg #[.int .i64 1, .int .i64 (16 * (u : Int) + y), .int .i64 z]] ++ caps) wr _ by have := C2.out; unfold symV at this; dsimp only at this; rw [hcast] at this; exact this)
            clear C2 hcast
            go_wp2_with fail
            refine C3.out.mono ?_
            rintro e w7 ⟨rfl, hi7, hk7⟩
            have H7 := Lib.hid (Seen.mk (S := S) (Inv := Inv) (w1 := w1) hi7 (HP2.out.2.kept.trans hk7 (fun _ _ h => h)))
            clear hi7 hk7 C3
            go_wp2_with fail
            go_roundw
            case rel =>
              refine ⟨k + 1, 0, _, by omega, by omega, by omega, by go_num, rfl, ?_, H7.out⟩
              rw [← HP2.out.1, show 64 - (k + 1) = n by have := HZ.out.2.2; omega, HY.out]
              simp
            case measure => simp [intOf]; omega
    · obtain rfl : k = 64 := by omega
      obtain ⟨hl, hP⟩ := HP.out
      by_cases h0 : 0 < run
      · have h0i : (0 : Int) < run := by omega
        rw [Nat.sub_self, symsF_nil, if_pos h0] at hl
        have C2 := Lib.hid (HS.out l (1, 0, 0) _ ⟨[], by rw [List.append_nil]; exact hl⟩ hP.inv (HK.out _ hP.kept))
        have HL := Lib.hid (And.intro hl hP)
        clear hl hP
        go_wp2_with fail
        refine C2.out.mono ?_
        rintro e w7 ⟨rfl, hi7, hk7⟩
        have H7 := Lib.hid (Seen.mk (S := S) (Inv := Inv) (w1 := w1) hi7 (HL.out.2.kept.trans hk7 (fun _ _ h => h)))
        clear hi7 hk7 C2
        go_wp2_with fail
        go_end0
        refine ⟨rfl, ?_, (Kept.of_below HH.out.2.1 S).trans H7.out.kept (fun _ _ h => h)⟩
        rw [← HL.out.1]
        exact H7.out.inv
      · have h0i : ¬ (0 : Int) < run := by omega
        rw [Nat.sub_self, symsF_nil, if_neg h0, List.append_nil] at hl
        have HL := Lib.hid (And.intro hl hP)
        clear hl hP
        go_wp2_with fail
        go_end0
        refine ⟨rfl, ?_, (Kept.of_below HH.out.2.1 S).trans HL.out.2.kept (fun _ _ h => h)⟩
        rw [← HL.out.1]
        exact HL.out.2.inv
end
end Go.Proofs.YtdnjnbfmmgkpjaaDoor

namespace Go.Proofs.YtdnjnbfmmgkpjaaDoor
open Go.RowKit

/-- numbers of one's own, just so many -/
def CopiedC (w : World) (n : Nat) (xs : List Int) (e : Ending) (w' : World) : Prop :=
  e = .returned (.slice (some ⟨w.heap.size, 0, none⟩) n n) ∧ Box w' w.heap.size 3 (cellsI xs).toArray ∧ Below w.heap.size w w'

set_option maxRecDepth 20000 in
set_option maxHeartbeats 1600000 in
theorem copiedC_any (w : World) (A : Option Addr) (n c : Nat) (xs : List Int) (h : Ia w A n c xs) (hn : n ≤ 300) :
    Calls Tryd.prog 82 #[.slice A n c] w (CopiedC w n xs) := by
  have hmk := run_make_row' (P := Tryd.prog) 28 3 (.int .i64 0) 8 Tryd.underlying28 int_info rfl .i64 .i64 n (by omega) (by omega)
  obtain ⟨M, hM⟩ : ∃ M, M = madeCells #[.int .i64 0] n := ⟨_, rfl⟩
  rw [← hM] at hmk
  have hM2 : M = (cellsI (List.replicate n 0)).toArray := by
    apply Array.toList_inj.1
    rw [hM, toList_madeCells_one]
    simp [cellsI]
  rw [hM2] at hmk
  clear hM hM2
  obtain ⟨Z, hZ⟩ : ∃ Z, Z = List.replicate n (0 : Int) := ⟨_, rfl⟩
  rw [← hZ] at hmk
  have hZl : Z.length = n := by rw [hZ, List.length_replicate]
  have HF := Lib.hid (And.intro (h.alloc (.cells (cellsI Z).toArray 3)) (And.intro (Box.made w 3 (cellsI Z).toArray) hZl))
  clear hZ hZl h
  go_enter Tryd.func82, Tryd.ntmps82
  go_wp2_with (first
    | ((with_reducible refine wpList_copy_splice (o := ⟨some 9, _, _, _, _, _⟩) rfl (.tmp 7) (.tmp 8) 28 28 rfl 3 Tryd.underlying28 int_size (some ⟨w.heap.size, 0, none⟩) A n n n c rfl rfl w.heap.size 0 (cellsI Z) 3 ?hg (cellsI xs) ?hn ?hpos ?hfit (cellsI_one _) w.heap.size ?w0 ?hb ?hgg ?_)
       case hb => exact on_alloc _ _
       case hg => exact HF.out.2.1
       case hn => have := HF.out.1.len; rw [cellsI_len]; simp [this]
       case hpos => exact fun h0 => ⟨rfl, ia_copy HF.out.1 h0⟩
       case hfit => have := HF.out.1.len; have := HF.out.2.2; rw [cellsI_len, cellsI_len]; omega
       case hgg => exact Nat.le_refl _
       intro w3 hb3 hbel
       have H3 := Lib.hid (And.intro hb3 hbel)
       clear hb3 hbel)
    | fail)
  go_ret
  obtain ⟨hb3, hbel⟩ := H3.out
  have hb := hb3.out
  have hl := HF.out.1.len
  rw [splice_all _ _ (by rw [cellsI_len, cellsI_len, hl, HF.out.2.2]; exact Nat.le_refl _)] at hb
  exact ⟨rfl, hb, hbel⟩
end Go.Proofs.YtdnjnbfmmgkpjaaDoor

namespace Go.Proofs.YtdnjnbfmmgkpjaaDoor
open Go.RowKit

/-- both counts, and the array that the closure has -/
structure Cnts (w : World) (cb p q : Nat) (P Q : List Int) : Prop where
  box : Box w cb 168 #[.slice (some ⟨p, 0, none⟩) 256 256, .slice (some ⟨q, 0, none⟩) 256 256]
  bp : Box w p 3 (cellsI P).toArray
  bq : Box w q 3 (cellsI Q).toArray
  lp : P.length = 256
  lq : Q.length = 256
  ne : p ≠ q
/-- one more -/
def bump (P : List Int) (v : Nat) : List Int := P.set v (wrap64 (P.getD v 0 + 1))
section
variable {w w' : World} {cb p q : Nat} {P Q : List Int}
theorem Cnts.on (h : Cnts w cb p q P Q) (k : Below w.heap.size w w') : Cnts w' cb p q P Q := ⟨h.box.on k, h.bp.on k, h.bq.on k, h.lp, h.lq, h.ne⟩
theorem Cnts.drewN (h : Cnts w cb p q P Q) (n : Nat) : Cnts (w.drewN n) cb p q P Q := ⟨h.box.drewN n, h.bp.drewN n, h.bq.drewN n, h.lp, h.lq, h.ne⟩
theorem Cnts.putp (h : Cnts w cb p q P Q) (v : Nat) : Cnts (w.setCell ⟨p, v, none⟩ (.int .i64 (wrap64 (P.getD v 0 + 1)))) cb p q (bump P v) Q := by
  have hne : cb ≠ p := h.box.apart h.bp (by decide)
  have hb := h.bp.put v (.int .i64 (wrap64 (P.getD v 0 + 1)))
  rw [put_cellsI] at hb
  exact ⟨h.box.beside (p := ⟨p, v, none⟩) hne _, hb, h.bq.beside (p := ⟨p, v, none⟩) h.ne.symm _, by unfold bump; rw [List.length_set, h.lp], h.lq, h.ne⟩
theorem Cnts.putq (h : Cnts w cb p q P Q) (v : Nat) : Cnts (w.setCell ⟨q, v, none⟩ (.int .i64 (wrap64 (Q.getD v 0 + 1)))) cb p q P (bump Q v) := by
  have hne : cb ≠ q := h.box.apart h.bq (by decide)
  have hb := h.bq.put v (.int .i64 (wrap64 (Q.getD v 0 + 1)))
  rw [put_cellsI] at hb
  exact ⟨h.box.beside (p := ⟨q, v, none⟩) hne _, h.bp.beside (p := ⟨q, v, none⟩) h.ne _, hb, h.lp, by unfold bump; rw [List.length_set, h.lq], h.ne⟩
end

/-- what the closure leaves -/
def Counted1 (w : World) (cb p q : Nat) (P Q : List Int) (s : Sym) (e : Ending) (w' : World) : Prop :=
  e = .returned (.tuple #[]) ∧ Cnts w' cb p q (if s.1 = 0 then bump P s.2.1 else P) (if s.1 = 0 then Q else bump Q s.2.1) ∧ Kept (fun i => i = p ∨ i = q) w w'

set_option maxRecDepth 10000 in
set_option maxHeartbeats 1600000 in
theorem tally1_any (w : World) (cb p q : Nat) (P Q : List Int) (s : Sym) (hs : SymOk s) (h : Cnts w cb p q P Q) :
    Calls Tryd.prog 83 #[symV s, .pointer (some ⟨cb, 0, none⟩)] w (Counted1 w cb p q P Q s) := by
  obtain ⟨t, v, x⟩ := s
  obtain ⟨ht, hv, -⟩ := hs
  dsimp only at ht hv
  unfold symV Counted1
  dsimp only
  obtain ⟨T, hT⟩ : ∃ T : Int, T = (t : Int) := ⟨_, rfl⟩
  rw [← hT]
  obtain ⟨w1, hw1⟩ : ∃ w1, w1 = w.alloc (.cells #[.int .i64 T, .int .i64 (v : Int), .int .i64 x] 123) := ⟨_, rfl⟩
  have bel : Below w.heap.size w w1 := by rw [hw1]; exact on_alloc _ _
  have h1 := h.on bel
  have hb1 : Box w1 w.heap.size 123 #[.int .i64 T, .int .i64 (v : Int), .int .i64 x] := by rw [hw1]; exact Box.made _ _ _
  have c0 : w1.cell? ⟨w.heap.size, 0, none⟩ = some (.int .i64 T) := hb1.cell 0
  have c1 : w1.cell? ⟨w.heap.size, 1, none⟩ = some (.int .i64 (v : Int)) := hb1.cell 1
  have c3 : w1.cell? ⟨cb, 0, none⟩ = some (.slice (some ⟨p, 0, none⟩) 256 256) := h1.box.cell 0
  have c4 : w1.cell? ⟨cb, 1, none⟩ = some (.slice (some ⟨q, 0, none⟩) 256 256) := h1.box.cell 1
  have hvi : (v : Int) < 256 := by omega
  have ht2 : t = 0 ∨ t = 1 := by omega
  rcases ht2 with rfl | rfl
  · obtain rfl : T = 0 := hT
    obtain ⟨z, hz⟩ : ∃ z, z = P.getD v 0 := ⟨_, rfl⟩
    have c5 : w1.cell? ⟨p, v, none⟩ = some (.int .i64 z) := by
      rw [hz, h1.bp.cell v, List.getElem?_toArray, cellsI_get _ _ (by rw [h1.lp]; exact hv)]
    have f5 : w1.frozen? ⟨p, v, none⟩ = false := h1.bp.free v
    have HH := Lib.hid (And.intro h1 (And.intro bel (And.intro hw1 hz)))
    clear h1 bel hz hw1 h hb1
    go_enter Tryd.func83, Tryd.ntmps83
    go_wp2_with fail
    rw [← HH.out.2.2.1]
    go_region
    all_goals
      (go_wp2
       go_end0
       refine ⟨rfl, ?_, ?_⟩
       · have hput := HH.out.1.putp v
         rw [← HH.out.2.2.2] at hput
         exact hput.on (on_drew _)
       · exact ((Kept.of_below HH.out.2.1 _).setCell (p := ⟨p, v, none⟩) (fun _ => .inl rfl) _).drew)
  · obtain rfl : T = 1 := hT
    obtain ⟨z, hz⟩ : ∃ z, z = Q.getD v 0 := ⟨_, rfl⟩
    have c5 : w1.cell? ⟨q, v, none⟩ = some (.int .i64 z) := by
      rw [hz, h1.bq.cell v, List.getElem?_toArray, cellsI_get _ _ (by rw [h1.lq]; exact hv)]
    have f5 : w1.frozen? ⟨q, v, none⟩ = false := h1.bq.free v
    have HH := Lib.hid (And.intro h1 (And.intro bel (And.intro hw1 hz)))
    clear h1 bel hz hw1 h hb1
    go_enter Tryd.func83, Tryd.ntmps83
    go_wp2_with fail
    rw [← HH.out.2.2.1]
    go_region
    all_goals
      (go_wp2
       go_end0
       refine ⟨rfl, ?_, ?_⟩
       · have hput := HH.out.1.putq v
         rw [← HH.out.2.2.2] at hput
         exact hput.on (on_drew _)
       · exact ((Kept.of_below HH.out.2.1 _).setCell (p := ⟨q, v, none⟩) (fun _ => .inr rfl) _).drew)
end Go.Proofs.YtdnjnbfmmgkpjaaDoor

namespace Go.Proofs.YtdnjnbfmmgkpjaaDoor
open Go.RowKit

/-- how often a value occurs among symbols of a table -/
def occ (t v : Nat) (l : List Sym) : Nat := l.countP fun s => s.1 == t && s.2.1 == v
/-- counts behind the symbols l -/
def cntL (D : List Int) (t : Nat) (l : List Sym) : List Int := (List.range 256).map fun i => wrap64 (D.getD i 0 + occ t i l)
theorem cntL_len (D : List Int) (t : Nat) (l : List Sym) : (cntL D t l).length = 256 := by simp [cntL]
theorem cntL_at (D : List Int) (t : Nat) (l : List Sym) {i : Nat} (hi : i < 256) : (cntL D t l).getD i 0 = wrap64 (D.getD i 0 + occ t i l) := by
  simp [cntL, List.getD_eq_getElem?_getD, hi]
theorem wrap_wrap (a b : Int) : wrap64 (wrap64 a + b) = wrap64 (a + b) := by unfold wrap64; omega
theorem occ_more (t v : Nat) (l : List Sym) (s : Sym) : occ t v (l ++ [s]) = occ t v l + if s.1 = t ∧ s.2.1 = v then 1 else 0 := by
  unfold occ
  rw [List.countP_append, List.countP_singleton]
  by_cases h : s.1 = t ∧ s.2.1 = v
  · rw [if_pos h, if_pos (by simp [h.1, h.2])]
  · rw [if_neg h, if_neg (by simpa using h)]
theorem cntL_nil {D : List Int} (t : Nat) (hl : D.length = 256) (hD : ∀ i, isInt (D.getD i 0)) : cntL D t [] = D := by
  apply List.ext_getElem?
  intro i
  by_cases hi : i < 256
  · have h1 := cntL_at D t [] hi
    have h2 : wrap64 (D.getD i 0 + occ t i []) = D.getD i 0 := by
      have := hD i
      unfold isInt at this
      unfold wrap64 occ
      simp only [List.countP_nil]
      omega
    rw [h2] at h1
    rw [List.getD_eq_getElem?_getD, List.getD_eq_getElem?_getD, List.getElem?_eq_getElem (by rw [cntL_len]; exact hi), List.getElem?_eq_getElem (by omega)] at h1
    rw [List.getElem?_eq_getElem (by rw [cntL_len]; exact hi), List.getElem?_eq_getElem (by omega)]
    exact congrArg some h1
  · rw [List.getElem?_eq_none (by rw [cntL_len]; omega), List.getElem?_eq_none (by omega)]
theorem cntL_same (D : List Int) (t : Nat) (l : List Sym) (s : Sym) (h : s.1 ≠ t) : cntL D t (l ++ [s]) = cntL D t l := by
  unfold cntL
  apply List.map_congr_left
  intro i _
  rw [occ_more, if_neg (fun h' => h h'.1)]
  simp
theorem cntL_bump (D : List Int) (t : Nat) (l : List Sym) (s : Sym) (h : s.1 = t) (hv : s.2.1 < 256) : bump (cntL D t l) s.2.1 = cntL D t (l ++ [s]) := by
  apply List.ext_getElem?
  intro i
  have hl : (bump (cntL D t l) s.2.1).length = 256 := by unfold bump; rw [List.length_set, cntL_len]
  by_cases hi : i < 256
  · have h1 : (bump (cntL D t l) s.2.1).getD i 0 = (cntL D t (l ++ [s])).getD i 0 := by
      rw [cntL_at _ _ _ hi, occ_more]
      by_cases e : s.2.1 = i
      · rw [if_pos ⟨h, e⟩, ← e]
        unfold bump
        rw [List.getD_eq_getElem?_getD, List.getElem?_set_self (by rw [cntL_len]; exact hv), Option.getD_some, cntL_at _ _ _ hv, wrap_wrap]
        congr 1
        omega
      · rw [if_neg (fun h' => e h'.2)]
        unfold bump
        rw [List.getD_eq_getElem?_getD, List.getElem?_set_ne e, ← List.getD_eq_getElem?_getD, cntL_at _ _ _ hi]
        simp
    rw [List.getD_eq_getElem?_getD, List.getD_eq_getElem?_getD, List.getElem?_eq_getElem (by omega), List.getElem?_eq_getElem (by rw [cntL_len]; exact hi)] at h1
    rw [List.getElem?_eq_getElem (by omega), List.getElem?_eq_getElem (by rw [cntL_len]; exact hi)]
    exact congrArg some h1
  · rw [List.getElem?_eq_none (by omega), List.getElem?_eq_none (by rw [cntL_len]; omega)]


theorem calls35 (args : Array Value) (w : World) : (callFunc 83 args).run Tryd.prog w = .ok (.enter 83 args) w := by kernel_rfl

/-- no counts, and why -/
def NoTally (w : World) (k : Int) (e : Ending) (w' : World) : Prop := e = .returned (.tuple #[.slice none 0 0, .slice none 0 0, .int .i64 k]) ∧ Below w.heap.size w w'
/-- counts of one's own -/
def Tallied (w : World) (prev : Int) (b : List Int) (D D' : List Int) (e : Ending) (w' : World) : Prop :=
  ∃ p q, e = .returned (.tuple #[.slice (some ⟨p, 0, none⟩) 256 256, .slice (some ⟨q, 0, none⟩) 256 256, .int .i64 0]) ∧ Box w' p 3 (cellsI (cntL D 0 (allS prev b))).toArray ∧ Box w' q 3 (cellsI (cntL D' 1 (allS prev b))).toArray ∧ p ≠ q ∧ w.heap.size ≤ p ∧ w.heap.size ≤ q ∧ Below w.heap.size w w'

section
variable (w : World) (A A' : Option Addr) (n c n' c' : Nat) (prev : Int) (b : List Int)

set_option maxRecDepth 10000 in
set_option maxHeartbeats 800000 in
theorem tally_arg (hn : n ≠ 256 ∨ n' ≠ 256) : Calls Tryd.prog 67 #[.slice A n c, .slice A' n' c', .int .i64 prev, blkV b] w (NoTally w 1) := by
  have hvc : blkV b = .agg (cellsI b).toArray := rfl
  rw [hvc]
  by_cases h1 : n = 256
  · have h2 : ¬ (n' : Int) = 256 := by omega
    subst h1
    go_enter Tryd.func67, Tryd.ntmps67
    go_wp2
    go_ret3
    exact ⟨rfl, on_alloc _ _⟩
  · have h2 : ¬ (n : Int) = 256 := by omega
    go_enter Tryd.func67, Tryd.ntmps67
    go_wp2
    go_ret3
    exact ⟨rfl, on_alloc _ _⟩

set_option maxRecDepth 10000 in
set_option maxHeartbeats 1600000 in
theorem tally_range (hn : n = 256) (hn' : n' = 256) (hb : b.length = 64) (h : ¬ (In prev ∧ RightB b)) : Calls Tryd.prog 67 #[.slice A n c, .slice A' n' c', .int .i64 prev, blkV b] w (NoTally w 2) := by
  subst hn hn'
  have hvc : blkV b = .agg (cellsI b).toArray := rfl
  rw [hvc]
  obtain ⟨w1, hw1⟩ : ∃ w1, w1 = w.alloc (.cells (cellsI b).toArray 25) := ⟨_, rfl⟩
  have bel : Below w.heap.size w w1 := by rw [hw1]; exact on_alloc _ _
  have hB : Blk w1 w.heap.size b := ⟨by rw [hw1]; exact Box.made _ _ _, hb⟩
  have HL := Lib.hid hB.load
  have HB := Lib.hid (And.intro hB (And.intro bel hw1))
  have HI := Lib.hid hb
  clear hB bel hw1 hb hvc
  by_cases h1 : In prev
  · have h2 : ¬ RightB b := fun h' => h ⟨h1, h'⟩
    have hd1 : decide (In prev) = true := by simpa using h1
    have hd2 : decide (RightB b) = false := by simpa using h2
    have HD := Lib.hid (And.intro hd1 hd2)
    clear h h1 h2 hd1 hd2
    go_enter Tryd.func67, Tryd.ntmps67
    go_wp2_with fail
    rw [← HB.out.2.2]
    refine (inRange_any _ prev).mono ?_
    rintro e w2 ⟨rfl, rfl⟩
    rw [HD.out.1]
    go_wp2_with (first
      | ((with_reducible refine wpList_load_when (op := ⟨some 24, _, _, _, _, _⟩) ?hw 25 (.tmp 7) rfl (.pointer (some ⟨w.heap.size, 0, none⟩)) rfl (blkV b) HL.out ?_)
         case hw => rfl)
      | fail)
    refine (right64_any _ b HI.out).mono ?_
    rintro e w2 ⟨rfl, b2⟩
    rw [HD.out.2]
    have H2 := Lib.hid b2
    clear b2
    go_wp2
    go_ret3
    exact ⟨rfl, on_trans HB.out.2.1 H2.out⟩
  · have hd1 : decide (In prev) = false := by simpa using h1
    have HD := Lib.hid hd1
    clear h h1 hd1
    go_enter Tryd.func67, Tryd.ntmps67
    go_wp2_with fail
    rw [← HB.out.2.2]
    refine (inRange_any _ prev).mono ?_
    rintro e w2 ⟨rfl, rfl⟩
    rw [HD.out]
    go_wp2
    go_ret3
    exact ⟨rfl, HB.out.2.1⟩

/-- the state of the counting -/
structure TallyI (w0 w : World) (cb p q : Nat) (D D' : List Int) (l : List Sym) : Prop where
  cnt : Cnts w cb p q (cntL D 0 l) (cntL D' 1 l)

theorem build71 (w : World) (p q : Nat) : (Instr.build 168 #[(0, .slice (some ⟨p, 0, none⟩) 256 256), (1, .slice (some ⟨q, 0, none⟩) 256 256)]).run Tryd.prog w = .ok (.agg #[.slice (some ⟨p, 0, none⟩) 256 256, .slice (some ⟨q, 0, none⟩) 256 256]) w := run_build w 168 _ _ (by show Program.built _ _ _ = _; kernel_rfl)

set_option maxRecDepth 10000 in
set_option maxHeartbeats 1600000 in
theorem tally_done (D D' : List Int) (hT : Tab w) (hn : n = 256) (hn' : n' = 256) (hb : b.length = 64) (hp : In prev) (hr : RightB b) (hD : Ia w A n c D) (hD' : Ia w A' n' c' D') (hi : ∀ i, isInt (D.getD i 0)) (hi' : ∀ i, isInt (D'.getD i 0)) :
    Calls Tryd.prog 67 #[.slice A n c, .slice A' n' c', .int .i64 prev, blkV b] w (Tallied w prev b D D') := by
  subst hn hn'
  have hvc : blkV b = .agg (cellsI b).toArray := rfl
  rw [hvc]
  obtain ⟨w1, hw1⟩ : ∃ w1, w1 = w.alloc (.cells (cellsI b).toArray 25) := ⟨_, rfl⟩
  have bel : Below w.heap.size w w1 := by rw [hw1]; exact on_alloc _ _
  have hB : Blk w1 w.heap.size b := ⟨by rw [hw1]; exact Box.made _ _ _, hb⟩
  have hd1 : decide (In prev) = true := by simpa using hp
  have hd2 : decide (RightB b) = true := by simpa using hr
  have HD := Lib.hid (And.intro hd1 (And.intro hd2 (And.intro hp hr)))
  have HL := Lib.hid hB.load
  have HZ := Lib.hid hT.zero
  have HB := Lib.hid (And.intro hB (And.intro bel (And.intro hw1 (hT.on bel))))
  have HI := Lib.hid (And.intro hb (And.intro (hD.on bel) (And.intro (hD'.on bel) (And.intro hi hi'))))
  clear hB bel hw1 hb hvc hd1 hd2 hp hr hT hD hD' hi hi'
  go_enter Tryd.func67, Tryd.ntmps67
  go_wp2_with fail
  rw [← HB.out.2.2.1]
  refine (inRange_any _ prev).mono ?_
  rintro e w2 ⟨rfl, rfl⟩
  rw [HD.out.1]
  go_wp2_with (first
    | ((with_reducible refine wpList_load_when (op := ⟨some 24, _, _, _, _, _⟩) ?hw 25 (.tmp 7) rfl (.pointer (some ⟨w.heap.size, 0, none⟩)) rfl (blkV b) HL.out ?_)
       case hw => rfl)
    | fail)
  refine (right64_any _ b HI.out.1).mono ?_
  rintro e w2 ⟨rfl, b2⟩
  rw [HD.out.2.1]
  have H2 := Lib.hid (And.intro (HB.out.1.on b2) (And.intro (on_trans HB.out.2.1 b2) (And.intro (HI.out.2.1.on b2) (And.intro (HI.out.2.2.1.on b2) (HB.out.2.2.2.on b2)))))
  clear b2
  go_wp2_with fail
  refine (copiedC_any w2 A 256 c D H2.out.2.2.1 (by omega)).mono ?_
  rintro e w3 ⟨rfl, hb3, b3⟩
  have H3 := Lib.hid (And.intro hb3 (And.intro b3 (And.intro (H2.out.1.on b3) (And.intro (H2.out.2.2.2.1.on b3) (H2.out.2.2.2.2.on b3)))))
  clear hb3 b3
  go_wp2_with fail
  refine (copiedC_any w3 A' 256 c' D' H3.out.2.2.2.1 (by omega)).mono ?_
  rintro e w4 ⟨rfl, hb4, b4⟩
  have H4 := Lib.hid (And.intro (H3.out.1.on b4) (And.intro hb4 (And.intro (on_trans (on_trans H2.out.2.1 H3.out.2.1) b4) (And.intro (H3.out.2.2.1.on b4) (And.intro (H3.out.2.2.2.2.on b4) b4)))))
  clear hb4 b4
  obtain ⟨p, hp⟩ : ∃ p, p = w2.heap.size := ⟨_, rfl⟩
  obtain ⟨q, hq⟩ : ∃ q, q = w3.heap.size := ⟨_, rfl⟩
  rw [← hp, ← hq] at H4 ⊢
  have hz71 : ∀ w, (zeroValue 168).run Tryd.prog w = .ok (.agg #[.slice none 0 0, .slice none 0 0]) w := fun w => by kernel_rfl
  have HP := Lib.hid (And.intro hp hq)
  clear hp hq
  have hbl := build71
  obtain ⟨cb, hcb⟩ : ∃ cb, cb = w4.heap.size := ⟨_, rfl⟩
  obtain ⟨w5, hw5⟩ : ∃ w5, w5 = w4.alloc (.cells #[.slice (some ⟨p, 0, none⟩) 256 256, .slice (some ⟨q, 0, none⟩) 256 256] 168) := ⟨_, rfl⟩
  have b5 : Below w4.heap.size w4 w5 := by rw [hw5]; exact on_alloc _ _
  have hbox : Box w5 cb 168 #[.slice (some ⟨p, 0, none⟩) 256 256, .slice (some ⟨q, 0, none⟩) 256 256] := by rw [hw5, hcb]; exact Box.made _ _ _
  have H5 := Lib.hid (And.intro hbox (And.intro b5 (And.intro hw5 hcb)))
  have HL5 := Lib.hid (show (Instr.loadAt 25 (.pointer (some ⟨w.heap.size, 0, none⟩))).run Tryd.prog (w4.alloc (.cells #[.slice (some ⟨p, 0, none⟩) 256 256, .slice (some ⟨q, 0, none⟩) 256 256] 168)) = .ok (blkV b) (w4.alloc (.cells #[.slice (some ⟨p, 0, none⟩) 256 256, .slice (some ⟨q, 0, none⟩) 256 256] 168)) by rw [← hw5]; exact (H4.out.2.2.2.1.on b5).load)
  have hmf : ∀ (fn : Fn) (first cap : Array Value) (w : World), (Instr.makeFunc fn first cap).run Tryd.prog w = .ok (.func fn first cap) w := fun _ _ _ _ => rfl
  clear hbox b5 hw5 hcb
  go_wp2_with (first
    | (with_reducible refine wpList_load_to (op := ⟨some 34, _, _, _, _, _⟩) rfl 25 (.tmp 7) rfl (.pointer (some ⟨w.heap.size, 0, none⟩)) rfl (blkV b) HL5.out ?_)
    | fail)
  rw [← H5.out.2.2.1, ← H5.out.2.2.2]
  have hle2 := H2.out.2.1.size
  have hle3 := H3.out.2.1.size
  have hle4 := H4.out.2.2.2.2.2.size
  have hle5 := H5.out.2.1.size
  have hl3 := H3.out.1.lt
  have hl4 := H4.out.2.1.lt
  have hp := HP.out.1
  have hq := HP.out.2
  have hDl := H2.out.2.2.1.len
  have hDl' := H3.out.2.2.2.1.len
  have hcn : Cnts w5 cb p q (cntL D 0 []) (cntL D' 1 []) := by
    rw [cntL_nil 0 hDl HI.out.2.2.2.1, cntL_nil 1 hDl' HI.out.2.2.2.2]
    refine ⟨H5.out.1, ?_, ?_, hDl, hDl', by omega⟩
    · exact H4.out.1.on H5.out.2.1
    · exact H4.out.2.1.on H5.out.2.1
  have hzero := HZ.out
  refine (each_any (fun i => i = p ∨ i = q) (fun l w => Cnts w cb p q (cntL D 0 l) (cntL D' 1 l)) 83 #[.pointer (some ⟨cb, 0, none⟩)] calls35 (fun l w1 w2 h k => h.on k) w5 prev b (H4.out.2.2.2.2.1.on H5.out.2.1) HI.out.1 HD.out.2.2.2 HD.out.2.2.1 ?_ hcn ?_).mono ?_
  · intro i hi
    have hi : i = p ∨ i = q := hi
    omega
  · intro l s w6 ⟨r, hr⟩ hc hk
    have hs : SymOk s := allS_ok HD.out.2.2.2 HD.out.2.2.1 s (by rw [← hr]; simp)
    refine (tally1_any w6 cb p q _ _ s hs hc).mono ?_
    rintro e w7 ⟨rfl, h7, k7⟩
    refine ⟨rfl, ?_, k7⟩
    by_cases h0 : s.1 = 0
    · rw [if_pos h0, if_pos h0, cntL_bump D 0 l s h0 hs.val] at h7
      rw [cntL_same D' 1 l s (by omega)]
      exact h7
    · rw [if_neg h0, if_neg h0, cntL_bump D' 1 l s (by have := hs.tab; omega) hs.val] at h7
      rw [cntL_same D 0 l s h0]
      exact h7
  · rintro e w6 ⟨rfl, hc6, k6⟩
    have c0 : w6.cell? ⟨cb, 0, none⟩ = some (.slice (some ⟨p, 0, none⟩) 256 256) := hc6.box.cell 0
    have c1 : w6.cell? ⟨cb, 1, none⟩ = some (.slice (some ⟨q, 0, none⟩) 256 256) := hc6.box.cell 1
    have H6 := Lib.hid (And.intro hc6 k6)
    have HW := Lib.hid (And.intro hle2 (And.intro hle3 (And.intro hle4 (And.intro hle5 (And.intro hl3 (And.intro hp hq))))))
    clear hc6 k6 hcn hDl hDl' hle2 hle3 hle4 hle5 hl3 hp hq hzero
    go_wp2
    go_region
    all_goals
      (go_wp2
       go_ret3
       obtain ⟨hle2, hle3, hle4, hle5, hl3, hp, hq⟩ := HW.out
       have hb5 := on_trans H4.out.2.2.1 H5.out.2.1
       exact ⟨p, q, rfl, H6.out.1.bp.drewN _, H6.out.1.bq.drewN _, H6.out.1.ne, by omega, by omega, hb5.trans ((H6.out.2.drewN _).below hb5.size (fun i hi h => by rcases h with rfl | rfl <;> omega))⟩)

end
end Go.Proofs.YtdnjnbfmmgkpjaaDoor

namespace Go.Proofs.YtdnjnbfmmgkpjaaDoor
open Go.RowKit

theorem zeros_at (k : Nat) : (List.replicate 64 (0 : Int)).getD k 0 = 0 := by
  rw [List.getD_eq_getElem?_getD]
  by_cases h : k < 64
  · rw [List.getElem?_replicate_of_lt h]; rfl
  · rw [List.getElem?_eq_none (by simp; omega)]; rfl
theorem zeros_right : RightB (List.replicate 64 0) := fun j _ => by rw [zeros_at]; decide
theorem symsF_zeros : ∀ (n i run : Nat), 0 < n + run → symsF (List.replicate 64 0) n i run = [(1, 0, 0)]
  | 0, i, run, h => by rw [symsF_nil, if_pos (by omega)]
  | n + 1, i, run, h => by
    rw [symsF_zero (zeros_at _)]
    exact symsF_zeros n (i + 1) (run + 1) (by omega)
theorem allS_zeros : allS 0 (List.replicate 64 0) = [(0, 0, 0), (1, 0, 0)] := by
  unfold allS
  rw [symsF_zeros _ _ _ (by omega), zeros_at, Int.sub_self, sz_zero]
theorem zeros256_at (k : Nat) : (List.replicate 256 (0 : Int)).getD k 0 = 0 := by
  rw [List.getD_eq_getElem?_getD]
  by_cases h : k < 256
  · rw [List.getElem?_replicate_of_lt h]; rfl
  · rw [List.getElem?_eq_none (by rw [List.length_replicate]; omega)]; rfl
theorem cnt_zero (t : Nat) (ht : t = 0 ∨ t = 1) : (cntL (List.replicate 256 0) t (allS 0 (List.replicate 64 0))).getD 0 0 = 1 := by
  rw [cntL_at _ _ _ (by omega), allS_zeros, zeros256_at]
  rcases ht with rfl | rfl
  · show wrap64 (0 + ((1 : Nat) : Int)) = 1
    unfold wrap64
    omega
  · show wrap64 (0 + ((1 : Nat) : Int)) = 1
    unfold wrap64
    omega

theorem sz_m5 : sz (-5) = 3 := by
  show szN 5 = 3
  rw [szN_pos (by decide), szN_pos (by decide), szN_pos (by decide)]
  show szN 0 + 1 + 1 + 1 = 3
  rw [szN_zero]
theorem index_two (w : World) : (Instr.index 24 (blkV zz) (.int .i64 2)).run Tryd.prog w = .ok (.int .i64 8) w := index22 w zz_len (k := 2) (by omega)
/-- what awake answers -/
def Woke (w : World) (e : Ending) (w' : World) : Prop := e = .returned (.bool true) ∧ Below w.heap.size w w'

end Go.Proofs.YtdnjnbfmmgkpjaaDoor

namespace Go.Proofs.YtdnjnbfmmgkpjaaDoor
open Go.RowKit

/-- a symbol as the reference has it -/
def syE (s : Sym) : En := ((s.2.1 : Int), numB s.2.2, sz s.2.2)
def syV (e : En) : Value := .agg #[.int .i64 e.1, .int .i64 (e.2.1 : Int), .int .i64 (e.2.2 : Int)]
theorem sym_size : (Tryd.prog.info? 139).map (·.size) = some 3 := by kernel_rfl
/-- what symbol tells -/
def Symd (w : World) (run : Nat) (z : Int) (e : Ending) (w' : World) : Prop := e = .returned (syV (((16 * run + sz z : Nat) : Int), numB z, sz z)) ∧ Below w.heap.size w w'

set_option maxHeartbeats 800000 in
theorem symbol_any (w : World) (run : Nat) (z : Int) (hr : run ≤ 1000) (hz : z.natAbs ≤ 2046) : Calls Tryd.prog 80 #[.int .i64 (run : Int), .int .i64 z] w (Symd w run z) := by
  have hs := diff_size hz
  have hz38 : ∀ w, (zeroValue 139).run Tryd.prog w = .ok (.agg #[.int .i64 0, .int .i64 0, .int .i64 0]) w := fun w => by kernel_rfl
  obtain ⟨y, hy⟩ : ∃ y, y = sz z := ⟨_, rfl⟩
  obtain ⟨x, hx⟩ : ∃ x, x = numB z := ⟨_, rfl⟩
  unfold Symd
  rw [← hx, ← hy]
  rw [← hy] at hs
  have hzi : isInt z := by unfold isInt; omega
  have HZ := Lib.hid (And.intro hy (And.intro hx hzi))
  obtain ⟨w1, hw1⟩ : ∃ w1, w1 = w.alloc (.cells #[.int .i64 0, .int .i64 0, .int .i64 0] 139) := ⟨_, rfl⟩
  have bel : Below w.heap.size w w1 := by rw [hw1]; exact on_alloc _ _
  have hb : Box w1 w.heap.size 139 #[.int .i64 0, .int .i64 0, .int .i64 0] := by rw [hw1]; exact Box.made _ _ _
  have HB := Lib.hid (And.intro hb (And.intro bel hw1))
  have f0 := hb.free 0
  have f1 := hb.free 1
  have f2 := hb.free 2
  have c0 : w1.cell? ⟨w.heap.size, 0, none⟩ = some (.int .i64 0) := hb.cell 0
  have c1 : w1.cell? ⟨w.heap.size, 1, none⟩ = some (.int .i64 0) := hb.cell 1
  have c2 : w1.cell? ⟨w.heap.size, 2, none⟩ = some (.int .i64 0) := hb.cell 2
  clear hy hx hzi hb bel hw1
  by_cases hneg : z < 0
  · have hp24 : y ≤ 24 := by omega
    have hP := power_any w1 y hp24
    have hx2 : ((2 ^ y : Nat) : Int) - 1 + z = (x : Int) := by
      have h1 := (sz_le (z := z)).1 (Nat.le_refl _)
      rw [HZ.out.2.1, HZ.out.1]
      unfold numB
      rw [if_pos hneg]
      omega
    obtain ⟨q, hq⟩ : ∃ q : Nat, q = 2 ^ y := ⟨_, rfl⟩
    have hq1 : q ≤ 16777216 := by rw [hq]; exact Nat.le_trans (Nat.pow_le_pow_right (by omega) hp24) (by decide)
    rw [← hq] at hP hx2
    have HP := Lib.hid hP
    clear hP hq
    go_enter Tryd.func80, Tryd.ntmps80
    go_wp2_with fail
    rw [← HB.out.2.2]
    refine (refSize_any w1 z HZ.out.2.2).mono ?_
    rintro e w2 ⟨rfl, rfl⟩
    rw [← HZ.out.1]
    go_wp2_with fail
    refine HP.out.mono ?_
    rintro e w2 ⟨rfl, rfl⟩
    go_wp2_with fail
    have hbx := ((HB.out.1.put 0 (.int .i64 (16 * (run : Int) + y))).put 1 (.int .i64 (x : Int))).put 2 (.int .i64 (y : Int))
    have ecast : ((16 * run + y : Nat) : Int) = 16 * (run : Int) + y := by omega
    refine bodyPost_ret (v := .agg #[.int .i64 (16 * (run : Int) + y), .int .i64 (x : Int), .int .i64 (y : Int)]) (results_cell_row (fn := Tryd.f80) Tryd.results80 _ _ w.heap.size 139 _ (0, 0) _ rfl hbx Tryd.underlying139 rfl sym_size) rfl ?_
    refine ⟨by rw [syV, ecast], (((HB.out.2.1.setCell (p := ⟨w.heap.size, 0, none⟩) (Nat.le_refl _) _).setCell (p := ⟨w.heap.size, 1, none⟩) (Nat.le_refl _) _).setCell (p := ⟨w.heap.size, 2, none⟩) (Nat.le_refl _) _)⟩
  · have hx2 : z = (x : Int) := by
      rw [HZ.out.2.1]
      unfold numB
      rw [if_neg hneg]
      omega
    have HX := Lib.hid hx2
    clear hx2
    go_enter Tryd.func80, Tryd.ntmps80
    go_wp2_with fail
    rw [← HB.out.2.2]
    refine (refSize_any w1 z HZ.out.2.2).mono ?_
    rintro e w2 ⟨rfl, rfl⟩
    rw [← HZ.out.1]
    go_wp2_with fail
    have hbx := ((HB.out.1.put 0 (.int .i64 (16 * (run : Int) + y))).put 1 (.int .i64 z)).put 2 (.int .i64 (y : Int))
    have ecast : ((16 * run + y : Nat) : Int) = 16 * (run : Int) + y := by omega
    refine bodyPost_ret (v := .agg #[.int .i64 (16 * (run : Int) + y), .int .i64 z, .int .i64 (y : Int)]) (results_cell_row (fn := Tryd.f80) Tryd.results80 _ _ w.heap.size 139 _ (0, 0) _ rfl hbx Tryd.underlying139 rfl sym_size) rfl ?_
    refine ⟨by rw [syV, ecast, ← HX.out], (((HB.out.2.1.setCell (p := ⟨w.heap.size, 0, none⟩) (Nat.le_refl _) _).setCell (p := ⟨w.heap.size, 1, none⟩) (Nat.le_refl _) _).setCell (p := ⟨w.heap.size, 2, none⟩) (Nat.le_refl _) _)⟩

theorem sy_info : (Tryd.prog.info? 139).map (fun i => (i.zero, i.size, i.bytes)) = some (some (.agg #[.int .i64 0, .int .i64 0, .int .i64 0]), 3, 24) := by kernel_rfl
theorem te_of_own38 {w : World} {base : Nat} {v : Value} {n : Nat} {L : List En} (h : w.ownsRow base 139 3 v n (cellsE L)) : ∃ A c, v = .slice A n c ∧ Te w A n L ∧ ∀ b off, A = some ⟨b, off, none⟩ → base ≤ b ∧ ∃ cs fr, w.heap[b]? = some (.cells cs 139 fr) := by
  have hl : L.length = n := by have := h.1; rw [cellsE_len] at this; omega
  have hown := h
  rcases h.2 with ⟨rfl, rfl⟩ | ⟨g, cap, cur, rfl, hg, hh, hn, hm, _, _⟩
  · exact ⟨_, 0, rfl, ⟨hl, fun h0 => by omega⟩, fun b off e => by cases e⟩
  · refine ⟨some ⟨g, 0, none⟩, cap, rfl, ⟨hl, fun _ => ⟨g, 0, rfl, (Array.getElem?_eq_some_iff.1 hh).1, fun i e he => ?_⟩⟩, fun b off e => by cases e; exact ⟨hg, _, _, hh⟩⟩
    have hi : i < n := by have := (List.getElem?_eq_some_iff.1 he).1; omega
    obtain ⟨h1, h2, h3⟩ := cellsE_at L i e he
    refine ⟨?_, ?_, ?_⟩
    · rw [Nat.zero_add, hown.cellAt (i * 3) (by omega), h1]
    · rw [Nat.zero_add, hown.cellAt (i * 3 + 1) (by omega), h2]
    · rw [Nat.zero_add, hown.cellAt (i * 3 + 2) (by omega), h3]
/-- an append of one symbol to a row of one's own -/
theorem wpList_append_sy {w : World} {ops : Array Oper} {rest : List Oper} {o : Oper} {a : Act} {Q : Exit → Act → World → Prop} (hgd : o.guard = none) (s x : Operand)
    (ho : o.op = .call { callee := .builtin .append, args := #[s, x], argTypes := #[132, 132] })
    (base : Nat) (v : Value) (n : Nat) (L : List En) (e : En) (hs : a.eval s = v) (hown : w.ownsRow base 139 3 v n (cellsE L)) (g : Nat)
    (hx : a.eval x = .slice (some ⟨g, 0, none⟩) 1 1) (hb : Box w g 139 (cellsEn e).toArray) (hn : n ≤ 1000) (hbase : base ≤ w.heap.size)
    (h : ∀ v' w', w'.ownsRow base 139 3 v' (n + 1) (cellsE (L ++ [e])) → Below base w w' → wpList Tryd.prog ops Q rest (a.put o.dst v') w') : wpList Tryd.prog ops Q (o :: rest) a w := by
  obtain ⟨i0, hi0, h2⟩ := Option.map_eq_some_iff.1 sy_info
  simp only [Prod.mk.injEq] at h2
  obtain ⟨hz0, hz1, hz2⟩ := h2
  refine wpList_append_own _ hgd s x 132 ho base 139 i0 _ 3 24 Tryd.underlying132 hi0 hz0 hz1 hz2 rfl (by omega) v n (cellsE L) hs hown ⟨g, 0, none⟩ 1 1 (cellsEn e) hx rfl ?_ ?_ (by unfold maxLen; omega) (by omega) hbase ?_
  · intro j u hu
    rw [plain_add, Nat.zero_add, hb.cell j]
    simpa using hu
  · intro u hu
    simp [cellsEn] at hu
    rcases hu with rfl | rfl | rfl <;> rfl
  · intro v' w' h1 h2 _
    have e1 : cellsE (L ++ [e]) = cellsE L ++ cellsEn e := by rw [cellsE_app]; simp [cellsE]
    rw [← e1] at h1
    exact h v' w' h1 ((Below.refl base w).grown h2 hbase (fun j hj => (hown.lt j hj).1))

/-- a row of symbols of one's own, at w0 and behind it -/
structure RowS (w0 w : World) (v : Value) (l : List Sym) : Prop where
  own : w.ownsRow w0.heap.size 139 3 v l.length (cellsE (l.map syE))
  bel : Below w0.heap.size w0 w
theorem RowS.on {w0 w w' : World} {v : Value} {l : List Sym} (h : RowS w0 w v l) (k : Below w.heap.size w w') : RowS w0 w' v l :=
  ⟨ownsRow_block h.own fun g _ _ hb => k.block g (Array.getElem?_eq_some_iff.1 hb).1, on_trans h.bel k⟩
end Go.Proofs.YtdnjnbfmmgkpjaaDoor

namespace Go.Proofs.YtdnjnbfmmgkpjaaDoor
open Go.RowKit

/-- an append of one symbol, and what it keeps -/
theorem wpList_append_sk {w : World} {ops : Array Oper} {rest : List Oper} {o : Oper} {a : Act} {Q : Exit → Act → World → Prop} (hgd : o.guard = none) (s x : Operand)
    (ho : o.op = .call { callee := .builtin .append, args := #[s, x], argTypes := #[132, 132] })
    (base : Nat) (v : Value) (n : Nat) (L : List En) (e : En) (hs : a.eval s = v) (hown : w.ownsRow base 139 3 v n (cellsE L)) (g : Nat)
    (hx : a.eval x = .slice (some ⟨g, 0, none⟩) 1 1) (hb : Box w g 139 (cellsEn e).toArray) (hn : n ≤ 1000) (hbase : base ≤ w.heap.size)
    (h : ∀ v' w', w'.ownsRow base 139 3 v' (n + 1) (cellsE (L ++ [e])) → Kept (fun i => v.ownBlock = some i) w w' → wpList Tryd.prog ops Q rest (a.put o.dst v') w') : wpList Tryd.prog ops Q (o :: rest) a w := by
  obtain ⟨i0, hi0, h2⟩ := Option.map_eq_some_iff.1 sy_info
  simp only [Prod.mk.injEq] at h2
  obtain ⟨hz0, hz1, hz2⟩ := h2
  refine wpList_append_own _ hgd s x 132 ho base 139 i0 _ 3 24 Tryd.underlying132 hi0 hz0 hz1 hz2 rfl (by omega) v n (cellsE L) hs hown ⟨g, 0, none⟩ 1 1 (cellsEn e) hx rfl ?_ ?_ (by unfold maxLen; omega) (by omega) hbase ?_
  · intro j u hu
    rw [plain_add, Nat.zero_add, hb.cell j]
    simpa using hu
  · intro u hu
    simp [cellsEn] at hu
    rcases hu with rfl | rfl | rfl <;> rfl
  · intro v' w' h1 h2 _
    have e1 : cellsE (L ++ [e]) = cellsE L ++ cellsEn e := by rw [cellsE_app]; simp [cellsE]
    rw [← e1] at h1
    exact h v' w' h1 ⟨h2.os, h2.tape, h2.output, h2.size, fun k hk hn => h2.block k hk (fun e => hn e.symm)⟩
theorem own_block {w : World} {base e size n i : Nat} {v : Value} {xs : List Value} (h : w.ownsRow base e size v n xs) (hi : v.ownBlock = some i) : base ≤ i ∧ ∃ cs, w.heap[i]? = some (.cells cs e (0, 0)) := by
  rcases h.2 with ⟨rfl, _⟩ | ⟨g, cap, cur, rfl, hg, hh, _⟩
  · cases hi
  · cases hi
    exact ⟨hg, _, hh⟩

theorem numB_zero : numB 0 = 0 := by unfold numB; rw [if_neg (by omega)]; rfl
/-- how things stand when the symbols l are in the row -/
structure SymSt (w wr : World) (g : Nat) (b : List Int) (A : Option Addr) (c : Nat) (v : Value) (l : List Sym) : Prop where
  row : RowS w wr v l
  blk : Blk wr g b
  ord : Il wr A 64 c zz
section
variable {w wr w' : World} {g c : Nat} {b : List Int} {A : Option Addr} {v v' : Value} {l : List Sym}
theorem SymSt.on (h : SymSt w wr g b A c v l) (k : Below wr.heap.size wr w') : SymSt w w' g b A c v l := ⟨h.row.on k, h.blk.on k, h.ord.on k⟩
theorem SymSt.app (h : SymSt w wr g b A c v l) (s : Sym) (hown : w'.ownsRow w.heap.size 139 3 v' (l.length + 1) (cellsE (l.map syE ++ [syE s]))) (k : Kept (fun i => v.ownBlock = some i) wr w') : SymSt w w' g b A c v' (l ++ [s]) := by
  refine ⟨⟨?_, h.row.bel.trans (k.below h.row.bel.size (fun i hi e => ?_))⟩, h.blk.kept k (fun e => ?_), h.ord.kept k (fun bb off e1 e => ?_)⟩
  · rw [List.length_append, List.map_append]
    exact hown
  · have := (own_block h.row.own e).1
    omega
  · obtain ⟨_, cs, hh⟩ := own_block h.row.own e
    have hb : wr.heap[g]? = some (.cells (cellsI b).toArray 25 (0, 0)) := h.blk.box
    rw [hh] at hb
    simp at hb
  · obtain ⟨_, cs, hh⟩ := own_block h.row.own e
    obtain ⟨cs2, fr, h2⟩ := h.ord.typ bb off e1
    rw [hh] at h2
    simp at h2
end

/-- what Symbols tells -/
def RefSyms (w : World) (prev : Int) (b : List Int) (e : Ending) (w' : World) : Prop :=
  ∃ A n c, e = .returned (.slice A n c) ∧ Te w' A n ((allS prev b).map syE) ∧ n = (allS prev b).length ∧ (∀ bb off, A = some ⟨bb, off, none⟩ → w.heap.size ≤ bb ∧ ∃ cs fr, w'.heap[bb]? = some (.cells cs 139 fr)) ∧ Below w.heap.size w w'

set_option maxRecDepth 10000 in
set_option maxHeartbeats 3200000 in
theorem symbols_any (w : World) (prev : Int) (b : List Int) (hb : b.length = 64) (hr : RightB b) (hp : In prev) : Calls Tryd.prog 63 #[.int .i64 prev, blkV b] w (RefSyms w prev b) := by
  obtain ⟨g, hg⟩ : ∃ g, g = w.heap.size := ⟨_, rfl⟩
  obtain ⟨w1, hw1⟩ : ∃ w1, w1 = w.alloc (.cells (cellsI b).toArray 25) := ⟨_, rfl⟩
  have bel : Below w.heap.size w w1 := by rw [hw1]; exact on_alloc _ _
  have hB : Blk w1 g b := ⟨by rw [hw1, hg]; exact Box.made _ _ _, hb⟩
  obtain ⟨d, hd⟩ : ∃ d, d = b.getD 0 0 - prev := ⟨_, rfl⟩
  have c0 := hB.cell (k := 0) (by omega)
  have hdn := diff_small hr hp
  obtain ⟨x, hx⟩ : ∃ x, x = b.getD 0 0 := ⟨_, rfl⟩
  have hxr := hr 0 (by omega)
  rw [← hx] at c0 hd hdn hxr
  rw [← hd] at hdn
  have hall : allS prev b = (0, sz d, d) :: symsF b 63 1 0 := by rw [hd, hx]; rfl
  have HH := Lib.hid (And.intro hB (And.intro bel (And.intro hw1 hg)))
  have HA := Lib.hid (And.intro hall (And.intro hr hdn))
  have hxp : x - prev = d := hd.symm
  obtain ⟨cs, hcs⟩ : ∃ cs, cs = (cellsI b).toArray := ⟨_, rfl⟩
  have hvc : blkV b = .agg cs := by rw [hcs]; rfl
  rw [hvc]
  have HV := Lib.hid hcs
  unfold In at hp hxr
  obtain ⟨p0, p1⟩ := hp
  obtain ⟨x0, x1⟩ := hxr
  have c0' : (w.alloc (.cells cs 25)).cell? ⟨w.heap.size, 0, none⟩ = some (.int .i64 x) := by rw [hcs, ← hw1, ← hg]; exact c0
  clear hB bel hw1 hall hr hcs hvc hg hb hd hx c0
  go_enter Tryd.func63, Tryd.ntmps63
  go_wp2_with fail
  refine (symbol_any _ 0 d (by omega) HA.out.2.2).mono ?_
  rintro e w2 ⟨rfl, b2⟩
  rw [HV.out, ← HH.out.2.2.1] at b2
  rw [HV.out, ← HH.out.2.2.2]
  have H2 := Lib.hid b2
  clear c0' b2
  unfold syV
  dsimp only
  obtain ⟨w3, hw3⟩ : ∃ w3, w3 = w2.alloc (.cells #[.int .i64 (sz d : Int), .int .i64 (numB d : Int), .int .i64 (sz d : Int)] 139) := ⟨_, rfl⟩
  have b3 : Below w2.heap.size w2 w3 := by rw [hw3]; exact on_alloc _ _
  have hb12 := on_trans HH.out.2.1 H2.out
  have hrow : RowS w w3 (.slice (some ⟨w2.heap.size, 0, none⟩) 1 1) [(0, sz d, d)] := by
    refine ⟨⟨rfl, .inr ⟨w2.heap.size, 1, _, rfl, hb12.size, by rw [hw3]; exact heap_alloc_new w2 _, Nat.le_refl _, by unfold maxLen; omega, rfl, rfl⟩⟩, on_trans hb12 b3⟩
  have H3 := Lib.hid (And.intro hrow (And.intro ((HH.out.1.on H2.out).on b3) hw3))
  clear b3 hb12 hrow hw3
  go_wp2_with fail
  rw [← H3.out.2.2]
  refine (refOrder_any w3).mono ?_
  rintro e w4 ⟨A, c, rfl, hI, hlo, b4⟩
  obtain ⟨o4, ho4⟩ : ∃ o4, o4 = Value.slice (some ⟨w2.heap.size, 0, none⟩) 1 1 := ⟨_, rfl⟩
  have hS4 := SymSt.mk (c := c) (A := A) (H3.out.1.on b4) (H3.out.2.1.on b4) hI
  rw [← ho4] at hS4
  have H4 := Lib.hid (And.intro hS4 ho4)
  have hA0 := hI.at_ (by omega)
  clear hlo b4 hS4 ho4 hI
  obtain ⟨bb, off, hAe, hA1⟩ := hA0
  subst hAe
  clear hA1
  go_wp2_with fail
  rw [← H4.out.2]
  go_loopw [5, 7, 8] (fun o r i wr => ∃ (k run : Nat) (l : List Sym), 1 ≤ k ∧ k ≤ 64 ∧ run < k ∧ i = .int .i64 (k : Int) ∧ r = .int .i64 (run : Int) ∧ l ++ symsF b (64 - k) k run = allS prev b ∧ SymSt w wr g b (some ⟨bb, off, none⟩) c o l) (fun _ _ i _ => 64 - (intOf i).toNat)
  case atStart => exact ⟨1, 0, [(0, sz d, d)], by omega, by omega, by omega, rfl, rfl, by rw [HA.out.1]; rfl, H4.out.1⟩
  case round =>
    obtain ⟨k, run, l, hk1, hk, hrun, rfl, rfl, hl, hP⟩ := hrel
    have hll : l.length ≤ 64 := by have := allS_len prev b; rw [← hl, List.length_append] at this; omega
    obtain ⟨Av, cv, hv⟩ := own_slice hP.row.own
    have HP := Lib.hid (And.intro hl (And.intro hP hll))
    clear hl hP
    subst hv
    by_cases hlt : k < 64
    · obtain ⟨bb', off', hA', hA2, hA3⟩ := HP.out.2.1.ord.at_ (by omega)
      cases hA'
      have c1 := hA3 k hlt
      obtain ⟨hz1, hz2⟩ := zn_at k hlt
      rw [hz1] at c1
      obtain ⟨q, hq⟩ : ∃ q, q = zn k := ⟨_, rfl⟩
      rw [← hq] at c1 hz2
      have c2 := HP.out.2.1.blk.cell hz2
      obtain ⟨z, hz⟩ : ∃ z, z = zig b k := ⟨_, rfl⟩
      have hzz : b.getD q 0 = z := by rw [hz, hq]; rfl
      rw [hzz] at c2
      have hzin := HA.out.2.1.zig hlt
      rw [← hz] at hzin
      obtain ⟨n, hn⟩ : ∃ n, 64 - k = n + 1 := ⟨64 - k - 1, by omega⟩
      have hki : (k : Int) < 64 := by omega
      have hin := hzin
      unfold In at hin
      obtain ⟨z0, z1⟩ := hin
      have HZ := Lib.hid (And.intro hz (And.intro hzin hn))
      clear hz1 hq hz hzz hzin hn hA2 hA3
      by_cases he : z = 0
      · subst he
        go_wp2_with fail
        go_roundw
        case rel =>
          refine ⟨k + 1, run + 1, l, by omega, by omega, by omega, by go_num, by go_num, ?_, HP.out.2.1⟩
          have hl := HP.out.1
          rw [HZ.out.2.2, symsF_zero HZ.out.1.symm] at hl
          rw [show 64 - (k + 1) = n by have := HZ.out.2.2; omega]
          exact hl
        case measure => simp [intOf]; omega
      · have hl := HP.out.1
        have hznz : zig b k ≠ 0 := by rw [← HZ.out.1]; exact he
        rw [HZ.out.2.2, symsF_some hznz, ← HZ.out.1] at hl
        have HL := Lib.hid hl
        have heb : (z == 0) = false := by simpa using he
        clear hl hznz
        go_wp2_with fail
        clear c1 c2
        obtain ⟨o5, ho5⟩ : ∃ o5, o5 = Value.slice Av l.length cv := ⟨_, rfl⟩
        rw [← ho5] at HP ⊢
        clear ho5
        go_loopw [5, 7] (fun o r w6 => ∃ (u : Nat) (l : List Sym), u ≤ run ∧ r = .int .i64 (u : Int) ∧ l ++ (runsOf u z ++ symsF b n (k + 1) 0) = allS prev b ∧ SymSt w w6 g b (some ⟨bb, off, none⟩) c o l) (fun _ r _ => (intOf r).toNat)
        case atStart => exact ⟨run, l, by omega, rfl, HL.out, HP.out.2.1⟩
        case round =>
          obtain ⟨u, l2, hu, rfl, hl2, hP2⟩ := hrel
          have hll2 : l2.length ≤ 64 := by have := allS_len prev b; rw [← hl2, List.length_append] at this; omega
          obtain ⟨Av2, cv2, hv2⟩ := own_slice hP2.row.own
          subst hv2
          by_cases h15 : 15 < u
          · have h15i : (15 : Int) < u := by omega
            rw [runsOf_big z h15, List.cons_append] at hl2
            have HP2 := Lib.hid (And.intro hl2 hP2)
            clear hl2 hP2
            have e0 : syE (1, 240, 0) = (240, 0, 0) := by unfold syE; rw [numB_zero, sz_zero]; rfl
            have HE0 := Lib.hid e0
            clear e0
            go_wp2_with (first
              | (at_builtin; refine wpList_append_sk rfl (.tmp 33) (.tmp 35) rfl w.heap.size _ l2.length (l2.map syE) (240, 0, 0) rfl (HP2.out.2.on (on_alloc wr (.cells #[.int .i64 240, .int .i64 0, .int .i64 0] 139))).row.own wr.heap.size rfl (Box.made _ _ _) (by omega) (by have := HP2.out.2.row.bel.size; simp; omega) ?_; intro v6 w6 hown6 k6; have H6 := Lib.hid ((HP2.out.2.on (on_alloc wr (.cells #[.int .i64 240, .int .i64 0, .int .i64 0] 139))).app (1, 240, 0) (by rw [HE0.out]; exact hown6) k6); clear hown6 k6)
              | fail)
            go_roundw
            case rel =>
              refine ⟨u - 16, l2 ++ [(1, 240, 0)], by omega, by go_num, ?_, H6.out⟩
              rw [← HP2.out.1]
              simp
            case measure => simp [intOf]; omega
          · have h15i : ¬ (15 : Int) < u := by omega
            rw [runsOf_small z (by omega)] at hl2
            have HP2 := Lib.hid (And.intro hl2 hP2)
            clear hl2 hP2
            have HQ := Lib.hid (symbol_any wr u z (by omega) (by omega))
            unfold Symd syV at HQ
            dsimp only at HQ
            obtain ⟨y, hy⟩ : ∃ y : Nat, y = 16 * u + sz z := ⟨_, rfl⟩
            obtain ⟨y1, hy1⟩ : ∃ y1 : Nat, y1 = sz z := ⟨_, rfl⟩
            obtain ⟨y2, hy2⟩ : ∃ y2 : Nat, y2 = numB z := ⟨_, rfl⟩
            rw [← hy, ← hy1, ← hy2] at HQ
            have HY := Lib.hid (show syE (1, 16 * u + sz z, z) = ((y : Int), y2, y1) by unfold syE; rw [hy, hy1, hy2])
            clear hy hy1 hy2
            go_wp2_with fail
            refine HQ.out.mono ?_
            rintro e w7 ⟨rfl, b7⟩
            have H7 := Lib.hid (HP2.out.2.on b7)
            clear b7 HQ
            go_wp2_with (first
              | (at_builtin; refine wpList_append_sk rfl (.tmp 39) (.tmp 43) rfl w.heap.size _ l2.length (l2.map syE) ((y : Int), y2, y1) rfl (H7.out.on (on_alloc w7 (.cells #[.int .i64 (y : Int), .int .i64 (y2 : Int), .int .i64 (y1 : Int)] 139))).row.own w7.heap.size rfl (Box.made _ _ _) (by omega) (by have := H7.out.row.bel.size; simp; omega) ?_; intro v8 w8 hown8 k8; have H8 := Lib.hid ((H7.out.on (on_alloc w7 (.cells #[.int .i64 (y : Int), .int .i64 (y2 : Int), .int .i64 (y1 : Int)] 139))).app (1, 16 * u + sz z, z) (by rw [HY.out]; exact hown8) k8); clear hown8 k8)
              | fail)
            go_roundw
            case rel =>
              refine ⟨k + 1, 0, _, by omega, by omega, by omega, by go_num, rfl, ?_, H8.out⟩
              rw [← HP2.out.1, show 64 - (k + 1) = n by have := HZ.out.2.2; omega]
              simp
            case measure => simp [intOf]; omega
    · obtain rfl : k = 64 := by omega
      obtain ⟨hl, hP, _⟩ := HP.out
      by_cases h0 : 0 < run
      · have h0i : (0 : Int) < run := by omega
        rw [Nat.sub_self, symsF_nil, if_pos h0] at hl
        have HL := Lib.hid (And.intro hl hP)
        have e0 : syE (1, 0, 0) = (0, 0, 0) := by unfold syE; rw [numB_zero, sz_zero]; rfl
        have HE0 := Lib.hid e0
        clear e0 hl hP
        go_wp2_with (first
          | (at_builtin; refine wpList_append_sk rfl (.tmp 47) (.tmp 49) rfl w.heap.size _ l.length (l.map syE) (0, 0, 0) rfl (HL.out.2.on (on_alloc wr (.cells #[.int .i64 0, .int .i64 0, .int .i64 0] 139))).row.own wr.heap.size rfl (Box.made _ _ _) (by omega) (by have := HL.out.2.row.bel.size; simp; omega) ?_; intro v6 w6 hown6 k6; have H6 := Lib.hid ((HL.out.2.on (on_alloc wr (.cells #[.int .i64 0, .int .i64 0, .int .i64 0] 139))).app (1, 0, 0) (by rw [HE0.out]; exact hown6) k6); clear hown6 k6)
          | fail)
        have hown := H6.out.row.own
        obtain ⟨A6, c6, rfl, hT6, hlo6⟩ := te_of_own38 hown
        have HF := Lib.hid (And.intro hT6 hlo6)
        clear hown hT6 hlo6
        go_wp2_with fail
        go_ret
        have hT := HF.out.1
        rw [HL.out.1] at hT
        exact ⟨A6, _, c6, rfl, by rw [HL.out.1]; exact hT, by rw [HL.out.1], HF.out.2, H6.out.row.bel⟩
      · have h0i : ¬ (0 : Int) < run := by omega
        rw [Nat.sub_self, symsF_nil, if_neg h0, List.append_nil] at hl
        have hown := hP.row.own
        obtain ⟨A6, c6, e6, hT6, hlo6⟩ := te_of_own38 hown
        cases e6
        have HF := Lib.hid (And.intro hT6 (And.intro hlo6 (And.intro hl hP.row.bel)))
        clear hown hT6 hlo6 hl hP
        go_wp2_with fail
        go_ret
        have hT := HF.out.1
        rw [HF.out.2.2.1] at hT
        exact ⟨_, _, _, rfl, by rw [HF.out.2.2.1]; exact hT, by rw [HF.out.2.2.1], HF.out.2.1, HF.out.2.2.2⟩
end Go.Proofs.YtdnjnbfmmgkpjaaDoor

namespace Go.Proofs.YtdnjnbfmmgkpjaaDoor
open Go.RowKit

/-- a symbol's bits: the code of its value, and the bits of its number -/
def symBits (L : List En) (s : Sym) : List Int := dig (codeOf L s.2.1).1 (codeOf L s.2.1).2 ++ dig (numB s.2.2) (sz s.2.2)
/-- what a symbol's put tells -/
def SymPut (w : World) (d : Nat) (L : List En) (s : Sym) (bs : List Int) (e : Ending) (w' : World) : Prop :=
  e = .returned (.int .i64 0) ∧ Wr w' d (bs ++ symBits L s) ∧ Kept (fun i => i = d) w w'
theorem may_num (z : Int) (h : sz z ≤ 24) : mayPut (numB z : Int) (sz z : Int) := by
  unfold mayPut
  rw [Int.toNat_natCast, show ((2 : Int) ^ sz z) = ((2 ^ sz z : Nat) : Int) by simp]
  have := numB_lt z
  omega
theorem code_len {B V : List Int} (hv : Valid B V) (v : Int) : (codeOf (codes B V) v).2 ≤ 16 := by
  unfold codeOf
  cases ho : fnd (codes B V) v with
  | none => exact Nat.zero_le _
  | some en =>
    obtain ⟨_, h2, _⟩ := hv.code (fnd_some ho).1
    exact h2

set_option maxRecDepth 10000 in
set_option maxHeartbeats 1600000 in
theorem symPut_any (w : World) (lo hi t d : Nat) (B V bs : List Int) (s : Sym) (h : Tb w lo hi t B V (codes B V)) (hv : Valid B V) (hw : Wr w d bs) (hl : bs.length ≤ 1900) (hs : s.2.2.natAbs ≤ 2046) (hf : (fnd (codes B V) (s.2.1 : Int)).isSome = true) :
    Calls Tryd.prog 56 #[symV s, .pointer (some ⟨d, 0, none⟩), .pointer (some ⟨t, 0, none⟩)] w (SymPut w d (codes B V) s bs) := by
  unfold SymPut symBits
  obtain ⟨tt, v, z⟩ := s
  dsimp only at hs hf ⊢
  have hsz := diff_size hs
  have hcl := code_len hv (v : Int)
  have hmay := may_num z (by omega)
  obtain ⟨w1, hw1⟩ : ∃ w1, w1 = w.alloc (.cells #[.int .i64 (tt : Int), .int .i64 (v : Int), .int .i64 z] 123) := ⟨_, rfl⟩
  have bel : Below w.heap.size w w1 := by rw [hw1]; exact on_alloc _ _
  have hb : Box w1 w.heap.size 123 #[.int .i64 (tt : Int), .int .i64 (v : Int), .int .i64 z] := by rw [hw1]; exact Box.made _ _ _
  have HP := Lib.hid (putT_any w1 lo hi t d B V bs (v : Int) (h.on bel) hv (hw.on bel) (by omega))
  unfold PutT at HP
  rw [if_pos hf] at HP
  obtain ⟨cb, hcb⟩ : ∃ cb, cb = bs ++ dig (codeOf (codes B V) v).1 (codeOf (codes B V) v).2 := ⟨_, rfl⟩
  have hcbl : cb.length ≤ 1976 := by rw [hcb, List.length_append, dig_len]; omega
  rw [← hcb] at HP
  have hz1 : isInt z := by unfold isInt; omega
  have hzlo : -2046 ≤ z ∧ z ≤ 2046 := by omega
  obtain ⟨y, hy⟩ : ∃ y, y = sz z := ⟨_, rfl⟩
  obtain ⟨x, hx⟩ : ∃ x, x = numB z := ⟨_, rfl⟩
  have hpos : ¬ z < 0 → z = (x : Int) := by rw [hx]; unfold numB; intro h; rw [if_neg h]; omega
  obtain ⟨q, hq⟩ : ∃ q : Nat, q = 2 ^ y := ⟨_, rfl⟩
  have hneg : z < 0 → z + ((q : Int) - 1) = (x : Int) := by
    intro h
    have h1 := (sz_le (z := z)).1 (Nat.le_refl _)
    rw [hx, hq, hy]
    unfold numB
    rw [if_pos h]
    omega
  rw [← List.append_assoc, ← hcb]
  rw [← hy] at hsz hmay ⊢
  rw [← hx] at hmay ⊢
  have hq1 : q ≤ 2048 := by rw [hq]; exact Nat.le_trans (Nat.pow_le_pow_right (by omega) hsz) (by decide)
  have hq2 : (2 : Int) ^ y = (q : Int) := by rw [hq]; simp
  have HW := Lib.hid (And.intro hb (And.intro bel (And.intro hw1 (And.intro hcbl (And.intro hz1 (And.intro hmay (And.intro hy hw.lt)))))))
  have HX := Lib.hid (And.intro hpos hneg)
  have c1 : (w.alloc (.cells #[.int .i64 (tt : Int), .int .i64 (v : Int), .int .i64 z] 123)).cell? ⟨w.heap.size, 1, none⟩ = some (.int .i64 (v : Int)) := by rw [← hw1]; exact hb.cell 1
  have hsv : symV (tt, v, z) = .agg #[.int .i64 (tt : Int), .int .i64 (v : Int), .int .i64 z] := rfl
  rw [hsv]
  clear hb bel hw1 hcbl hz1 hmay hy hx hq hcb hpos hneg h hv hw hl hs hf hcl hsv
  go_enter Tryd.func56, Tryd.ntmps56
  go_wp2_with fail
  rw [← HW.out.2.2.1]
  refine HP.out.mono ?_
  rintro e w2 ⟨rfl, hw2, k2⟩
  have H2 := Lib.hid (And.intro hw2 (And.intro k2 (k2.box HW.out.1 (by have := HW.out.2.2.2.2.2.2.2; omega))))
  clear hw2 k2 c1
  go_wp2_with fail
  have HC := Lib.hid (show w2.cell? ⟨w.heap.size, 2, none⟩ = some (.int .i64 z) from H2.out.2.2.cell 2)
  refine wp_region_held_drew (S := fun w' => w' = w2.drew) (by kernel_rfl) rfl fun q0 => ?_
  refine take_to (i := 0) (v := .pointer (some ⟨w.heap.size, 2, none⟩)) rfl (by kernel_rfl) (by kernel_rfl) (by kernel_rfl) (fun _ _ _ h => h) (Or.inl ⟨by rfl, fun w' hS => by go_simp⟩) q0 (some 18) rfl ?_
  try simp only [Act.put, List.setIfInBounds_toArray, List.set_cons_zero, List.set_cons_succ]
  refine take_to (i := 1) (v := .int .i64 z) rfl (by kernel_rfl) (by kernel_rfl) (by kernel_rfl) (fun _ _ _ h => h) (Or.inl ⟨by rfl, fun w' hS => by have := HC.out; go_simp⟩) q0 (some 19) rfl ?_
  try simp only [Act.put, List.setIfInBounds_toArray, List.set_cons_zero, List.set_cons_succ]
  refine take_to (i := 2) (v := .pointer (some ⟨w.heap.size, 2, none⟩)) rfl (by kernel_rfl) (by kernel_rfl) (by kernel_rfl) (fun _ _ _ h => h) (Or.inl ⟨by rfl, fun w' hS => by go_simp⟩) q0 (some 20) rfl ?_
  try simp only [Act.put, List.setIfInBounds_toArray, List.set_cons_zero, List.set_cons_succ]
  refine take_to (i := 3) (v := .int .i64 z) rfl (by kernel_rfl) (by kernel_rfl) (by kernel_rfl) (fun _ _ _ h => h) (Or.inl ⟨by rfl, fun w' hS => by have := HC.out; go_simp⟩) q0 (some 21) rfl ?_
  try simp only [Act.put, List.setIfInBounds_toArray, List.set_cons_zero, List.set_cons_succ]
  refine wpAnyH_ready (rs := [4]) (by kernel_rfl) (by simp) ?_
  refine AllReadyH.cons rfl (fun K hK => ?_) AllReadyH.nil
  go_simp
  refine (size_any _ z HW.out.2.2.2.2.1).mono ?_
  rintro e w3 ⟨rfl, rfl⟩
  rw [← HW.out.2.2.2.2.2.2.1]
  refine hK.out _ _ rfl fun q1 => ?_
  clear hK K
  try simp only [Act.put, List.setIfInBounds_toArray, List.set_cons_zero, List.set_cons_succ]
  refine take_to (i := 5) (v := .int .i64 z) rfl (by kernel_rfl) (by kernel_rfl) (by kernel_rfl) (fun _ _ _ h => h) (Or.inl ⟨by rfl, fun w' hS => by go_simp⟩) q1 (some 8) rfl ?_
  try simp only [Act.put, List.setIfInBounds_toArray, List.set_cons_zero, List.set_cons_succ]
  refine take_to (i := 6) (v := .int .i64 (y : Int)) rfl (by kernel_rfl) (by kernel_rfl) (by kernel_rfl) (fun _ _ _ h => h) (Or.inl ⟨by rfl, fun w' hS => by go_simp⟩) q1 (some 9) rfl ?_
  try simp only [Act.put, List.setIfInBounds_toArray, List.set_cons_zero, List.set_cons_succ]
  refine wpAnyH_done (by kernel_rfl) ?_ _
  clear q0 q1
  have HW2 := Lib.hid (And.intro (H2.out.1.on (on_drew w2)) (H2.out.2.1.trans (Kept.of_below (on_drew w2) (fun _ => False)) (fun _ _ h => h.elim)))
  obtain ⟨w4, hw4⟩ : ∃ w4, w4 = w2.drew := ⟨_, rfl⟩
  rw [← hw4] at HW2 ⊢
  clear hw4 HC
  by_cases hn : z < 0
  · have hxz := HX.out.2 hn
    go_wp2_with fail
    refine (put_any w4 d cb (x : Int) (y : Int) HW2.out.1 HW.out.2.2.2.1).mono ?_
    rintro e w5 ⟨rfl, hw5, k5⟩
    have H5 := Lib.hid (And.intro hw5 k5)
    clear hw5 k5
    go_wp2
    go_ret
    have h5 := H5.out.1
    rw [putL, if_pos HW.out.2.2.2.2.2.1, Int.toNat_natCast, Int.toNat_natCast] at h5
    refine ⟨?_, h5, ((Kept.of_below HW.out.2.1 (fun i => i = d)).trans (HW2.out.2.trans H5.out.2 (fun _ _ e => e)) (fun _ _ e => e))⟩
    rw [putE, if_pos HW.out.2.2.2.2.2.1]
    rfl
  · have hxz := HX.out.1 (by omega)
    clear HX
    subst hxz
    go_wp2_with fail
    refine (put_any w4 d cb (x : Int) (y : Int) HW2.out.1 HW.out.2.2.2.1).mono ?_
    rintro e w5 ⟨rfl, hw5, k5⟩
    have H5 := Lib.hid (And.intro hw5 k5)
    clear hw5 k5
    go_wp2
    go_ret
    have h5 := H5.out.1
    rw [putL, if_pos HW.out.2.2.2.2.2.1, Int.toNat_natCast, Int.toNat_natCast] at h5
    refine ⟨?_, h5, ((Kept.of_below HW.out.2.1 (fun i => i = d)).trans (HW2.out.2.trans H5.out.2 (fun _ _ e => e)) (fun _ _ e => e))⟩
    rw [putE, if_pos HW.out.2.2.2.2.2.1]
    rfl
end Go.Proofs.YtdnjnbfmmgkpjaaDoor

namespace Go.Proofs.YtdnjnbfmmgkpjaaDoor
open Go.RowKit

theorem yieldsIf_load7 {ops : Array Oper} {S : World → Prop} {op : Oper} {a : Act} (hw : Region.wanted op (yielded ops a.tmps) = true) (t : TypeId) (x : Operand) (ho : op.op = .load t x) (u : Value) (hx : a.eval x = u) (v : Value)
    (h : ∀ w, S w → (Instr.loadAt t u).run Tryd.prog w = .ok v w) : YieldsIf Tryd.prog ops S op v a :=
  .inl ⟨hw, fun w hS => by
    unfold execOp
    simp only [ho, hx, Sem.run_bind, h w hS, Result.andThen_ok, Sem.run_pure]⟩
theorem code_pos {B V : List Int} (hv : Valid B V) (v : Int) : (fnd (codes B V) v).isSome = decide (0 < (codeOf (codes B V) v).2) := by
  unfold codeOf
  cases ho : fnd (codes B V) v with
  | none => rfl
  | some en =>
    obtain ⟨h1, _⟩ := hv.code (fnd_some ho).1
    have : 0 < en.2.2 := h1
    simpa using this

section
variable (w : World) (g11 g12 lo hi t : Nat) (B V : List Int) (s : Sym) (f : Bool) (C11 : Array Value)
set_option maxRecDepth 10000 in
set_option maxHeartbeats 1600000 in
theorem put1_any (h : Tb w lo hi t B V (codes B V)) (hv : Valid B V) (h11 : w.cell? ⟨g11, s.1, none⟩ = some (.pointer (some ⟨t, 0, none⟩))) (hs : s.1 < 2) (h12 : Box w g12 4 #[.bool f]) :
    Calls Tryd.prog 53 #[symV s, .pointer (some ⟨g11, 0, none⟩), .pointer (some ⟨g12, 0, none⟩)] w fun e w' => e = .returned (.tuple #[]) ∧ Box w' g12 4 #[.bool (f && (fnd (codes B V) (s.2.1 : Int)).isSome)] ∧ Kept (fun i => i = g12) w w' := by
  rw [code_pos hv]
  obtain ⟨tt, v, z⟩ := s
  dsimp only at hs h11 ⊢
  have hg11 : g11 < w.heap.size := World.block_lt_of_cell? w _ h11
  obtain ⟨w1, hw1⟩ : ∃ w1, w1 = w.alloc (.cells #[.int .i64 (tt : Int), .int .i64 (v : Int), .int .i64 z] 123) := ⟨_, rfl⟩
  have bel : Below w.heap.size w w1 := by rw [hw1]; exact on_alloc _ _
  have hb : Box w1 w.heap.size 123 #[.int .i64 (tt : Int), .int .i64 (v : Int), .int .i64 z] := by rw [hw1]; exact Box.made _ _ _
  have HH := Lib.hid (And.intro hb (And.intro bel (And.intro hw1 (And.intro (h.on bel) (And.intro hv (And.intro (h12.on bel) (fun w' (b : Below w1.heap.size w1 w') => (show w'.cell? ⟨g11, tt, none⟩ = some (.pointer (some ⟨t, 0, none⟩)) from ((on_trans bel b).cell (p := ⟨g11, tt, none⟩) hg11).trans h11))))))))
  have hti : (tt : Int) < 2 := by omega
  have hsv : symV (tt, v, z) = .agg #[.int .i64 (tt : Int), .int .i64 (v : Int), .int .i64 z] := rfl
  rw [hsv]
  clear hsv hb bel hw1 h hv h11 hs h12 hg11
  go_enter Tryd.func53, Tryd.ntmps53
  go_wp2_with fail
  rw [← HH.out.2.2.1]
  have q0 : Hid (Below w1.heap.size w1 w1.drew) := Lib.hid (on_drew w1)
  refine wp_region_held_drew (S := fun w' => Hid (Below w1.heap.size w1 w')) (by kernel_rfl) q0 fun q0 => ?_
  refine take_to (i := 0) (v := .pointer (some ⟨w.heap.size, 0, none⟩)) rfl (by kernel_rfl) (by kernel_rfl) (by kernel_rfl) (fun _ _ _ h => h) (Or.inl ⟨by rfl, fun w' hS => by go_simp⟩) q0 (some 8) rfl ?_
  try simp only [Act.put, List.setIfInBounds_toArray, List.set_cons_zero, List.set_cons_succ]
  refine take_to (i := 1) (v := .int .i64 (tt : Int)) rfl (by kernel_rfl) (by kernel_rfl) (by kernel_rfl) (fun _ _ _ h => h) (Or.inl ⟨by rfl, fun w' hS => by have := (HH.out.1.on hS.out).cell 0; go_simp⟩) q0 (some 9) rfl ?_
  try simp only [Act.put, List.setIfInBounds_toArray, List.set_cons_zero, List.set_cons_succ]
  refine take_to (i := 2) (v := .pointer (some ⟨g11, tt, none⟩)) rfl (by kernel_rfl) (by kernel_rfl) (by kernel_rfl) (fun _ _ _ h => h) (Or.inl ⟨by rfl, fun w' hS => by go_simp⟩) q0 (some 10) rfl ?_
  try simp only [Act.put, List.setIfInBounds_toArray, List.set_cons_zero, List.set_cons_succ]
  refine take_to (i := 3) (v := .pointer (some ⟨t, 0, none⟩)) rfl (by kernel_rfl) (by kernel_rfl) (by kernel_rfl) (fun _ _ _ h => h) (Or.inl ⟨by rfl, fun w' hS => by have := HH.out.2.2.2.2.2.2 w' hS.out; go_simp⟩) q0 (some 11) rfl ?_
  try simp only [Act.put, List.setIfInBounds_toArray, List.set_cons_zero, List.set_cons_succ]
  refine take_to (i := 4) (v := .pointer (some ⟨w.heap.size, 1, none⟩)) rfl (by kernel_rfl) (by kernel_rfl) (by kernel_rfl) (fun _ _ _ h => h) (Or.inl ⟨by rfl, fun w' hS => by go_simp⟩) q0 (some 12) rfl ?_
  try simp only [Act.put, List.setIfInBounds_toArray, List.set_cons_zero, List.set_cons_succ]
  refine take_to (i := 5) (v := .int .i64 (v : Int)) rfl (by kernel_rfl) (by kernel_rfl) (by kernel_rfl) (fun _ _ _ h => h) (Or.inl ⟨by rfl, fun w' hS => by have := (HH.out.1.on hS.out).cell 1; go_simp⟩) q0 (some 13) rfl ?_
  try simp only [Act.put, List.setIfInBounds_toArray, List.set_cons_zero, List.set_cons_succ]
  refine wpAnyH_ready (rs := [6]) (by kernel_rfl) (by simp) ?_
  refine AllReadyH.cons rfl (fun K hK => ?_) AllReadyH.nil
  go_simp
  refine (code_any _ lo hi t B V _ (v : Int) (HH.out.2.2.2.1.on q0.out) (valid_vals HH.out.2.2.2.2.1)).mono ?_
  rintro e w3 ⟨rfl, b3⟩
  have q1 : Hid (Below w1.heap.size w1 w3) := Lib.hid (on_trans q0.out b3)
  clear b3
  obtain ⟨x, hx⟩ : ∃ x, x = codeOf (codes B V) (v : Int) := ⟨_, rfl⟩
  rw [← hx]
  refine hK.out _ _ q1 fun _ => ?_
  clear hK K
  try simp only [Act.put, List.setIfInBounds_toArray, List.set_cons_zero, List.set_cons_succ]
  refine take_to (i := 7) (v := .tuple #[.int .i64 (x.1 : Int), .int .i64 (x.2 : Int), .bool (decide (0 < x.2))]) rfl (by kernel_rfl) (by kernel_rfl) (by kernel_rfl) (fun _ _ _ h => h) (Or.inl ⟨by rfl, fun w' hS => by go_simp⟩) q1 (some 7) rfl ?_
  try simp only [Act.put, List.setIfInBounds_toArray, List.set_cons_zero, List.set_cons_succ]
  refine take_to (i := 8) (v := .int .i64 (x.1 : Int)) rfl (by kernel_rfl) (by kernel_rfl) (by kernel_rfl) (fun _ _ _ h => h) (Or.inl ⟨by rfl, fun w' hS => by go_simp⟩) q1 (some 15) rfl ?_
  try simp only [Act.put, List.setIfInBounds_toArray, List.set_cons_zero, List.set_cons_succ]
  refine take_to (i := 9) (v := .int .i64 (x.2 : Int)) rfl (by kernel_rfl) (by kernel_rfl) (by kernel_rfl) (fun _ _ _ h => h) (Or.inl ⟨by rfl, fun w' hS => by go_simp⟩) q1 (some 16) rfl ?_
  try simp only [Act.put, List.setIfInBounds_toArray, List.set_cons_zero, List.set_cons_succ]
  refine take_to (i := 10) (v := .bool (decide (0 < x.2))) rfl (by kernel_rfl) (by kernel_rfl) (by kernel_rfl) (fun _ _ _ h => h) (Or.inl ⟨by rfl, fun w' hS => by go_simp⟩) q1 (some 17) rfl ?_
  try simp only [Act.put, List.setIfInBounds_toArray, List.set_cons_zero, List.set_cons_succ]
  refine take_to (i := 11) (v := .int .i64 (x.1 : Int)) rfl (by kernel_rfl) (by kernel_rfl) (by kernel_rfl) (fun _ _ _ h => h) (Or.inl ⟨by rfl, fun w' hS => by go_simp⟩) q1 (some 4) rfl ?_
  try simp only [Act.put, List.setIfInBounds_toArray, List.set_cons_zero, List.set_cons_succ]
  refine take_to (i := 12) (v := .int .i64 (x.2 : Int)) rfl (by kernel_rfl) (by kernel_rfl) (by kernel_rfl) (fun _ _ _ h => h) (Or.inl ⟨by rfl, fun w' hS => by go_simp⟩) q1 (some 5) rfl ?_
  try simp only [Act.put, List.setIfInBounds_toArray, List.set_cons_zero, List.set_cons_succ]
  refine take_to (i := 13) (v := .bool (decide (0 < x.2))) rfl (by kernel_rfl) (by kernel_rfl) (by kernel_rfl) (fun _ _ _ h => h) (Or.inl ⟨by rfl, fun w' hS => by go_simp⟩) q1 (some 6) rfl ?_
  try simp only [Act.put, List.setIfInBounds_toArray, List.set_cons_zero, List.set_cons_succ]
  refine wpAnyH_done (by kernel_rfl) ?_ _
  obtain ⟨fo, hfo⟩ : ∃ fo, fo = decide (0 < x.2) := ⟨_, rfl⟩
  rw [← hfo]
  rw [hx] at hfo
  have HFO := Lib.hid hfo
  clear hfo hx q0
  have H3 := Lib.hid (And.intro (HH.out.2.2.2.2.2.1.on q1.out) (on_trans HH.out.2.1 q1.out))
  have c0 : w3.cell? ⟨g12, 0, none⟩ = some (.bool f) := H3.out.1.cell 0
  have f0 := H3.out.1.free 0
  have hk : Kept (fun i => i = g12) w (w3.setCell ⟨g12, 0, none⟩ (.bool (f && fo))) := (Kept.of_below H3.out.2 (fun i => i = g12)).trans ((Kept.refl (fun i => i = g12) w3).setCell (p := ⟨g12, 0, none⟩) (fun _ => rfl) _) (fun _ _ h => h)
  have HK := Lib.hid (And.intro hk (H3.out.1.put 0 (.bool (f && fo))))
  clear hk
  cases f
  · go_wp2
    go_end0
    exact ⟨rfl, by rw [← HFO.out]; exact HK.out.2, HK.out.1⟩
  · cases fo
    · go_wp2
      go_end0
      exact ⟨rfl, by rw [← HFO.out]; exact HK.out.2, HK.out.1⟩
    · go_wp2
      go_end0
      exact ⟨rfl, by rw [← HFO.out]; exact HK.out.2, HK.out.1⟩
end
theorem sym74_size : (Tryd.prog.info? 123).map (·.size) = some 3 := by kernel_rfl
theorem load74 {w : World} {g : Nat} {cs : Array Value} (h : Box w g 123 cs) (hs : cs.size = 3) : (Instr.loadAt 123 (.pointer (some ⟨g, 0, none⟩))).run Tryd.prog w = .ok (.agg cs) w := by
  have := run_loadAt_mid w g 0 123 cs.toList _ (fun j u hu => by rw [Nat.zero_add, h.cell j]; simpa using hu) Tryd.underlying123 rfl (by rw [sym74_size]; simp [hs])
  simpa using this

section
variable (w : World) (g13 g5 g11 lo hi t d : Nat) (B V bs : List Int) (s : Sym)
set_option maxRecDepth 10000 in
set_option maxHeartbeats 1600000 in
theorem put2_any (h : Tb w lo hi t B V (codes B V)) (hv : Valid B V) (hw : Wr w d bs) (hl : bs.length ≤ 1900) (hn : s.2.2.natAbs ≤ 2046) (hf : (fnd (codes B V) (s.2.1 : Int)).isSome = true) (h13 : Box w g13 42 #[.int .i64 0])
    (h5 : w.cell? ⟨g5, 0, none⟩ = some (.pointer (some ⟨d, 0, none⟩))) (h11 : w.cell? ⟨g11, s.1, none⟩ = some (.pointer (some ⟨t, 0, none⟩))) (hs : s.1 < 2) (hd5 : d ≠ g5) (hd11 : d ≠ g11) (h135 : g13 ≠ g5) (h1311 : g13 ≠ g11) :
    Calls Tryd.prog 55 #[symV s, .pointer (some ⟨g13, 0, none⟩), .pointer (some ⟨g5, 0, none⟩), .pointer (some ⟨g11, 0, none⟩)] w fun e w' => e = .returned (.tuple #[]) ∧ (Box w' g13 42 #[.int .i64 0] ∧ Wr w' d (bs ++ symBits (codes B V) s)) ∧ Kept (fun i => i = d ∨ i = g13) w w' := by
  have hg11 : g11 < w.heap.size := World.block_lt_of_cell? w _ h11
  have hg5 : g5 < w.heap.size := World.block_lt_of_cell? w _ h5
  obtain ⟨cs, hcs⟩ : ∃ cs : Array Value, cs = #[.int .i64 (s.1 : Int), .int .i64 (s.2.1 : Int), .int .i64 s.2.2] := ⟨_, rfl⟩
  have hsv : symV s = .agg cs := by rw [hcs]; rfl
  have hcs3 : cs.size = 3 := by rw [hcs]; rfl
  obtain ⟨w1, hw1⟩ : ∃ w1, w1 = w.alloc (.cells cs 123) := ⟨_, rfl⟩
  have bel : Below w.heap.size w w1 := by rw [hw1]; exact on_alloc _ _
  have hb : Box w1 w.heap.size 123 cs := by rw [hw1]; exact Box.made _ _ _
  have hdw : d ≠ w.heap.size := by have := hw.lt; omega
  have h13w : g13 ≠ w.heap.size := by have := h13.lt; omega
  have hd13 : d ≠ g13 := by
    obtain ⟨_, hbd⟩ := hw.box
    exact hbd.apart h13 (by decide)
  have HF := Lib.hid (fun w' (k : Kept (fun i => i = d ∨ i = g13) w1 w') => (show Box w' w.heap.size 123 cs ∧ w'.cell? ⟨w.heap.size, 0, none⟩ = some (.int .i64 (s.1 : Int)) ∧ w'.cell? ⟨g5, 0, none⟩ = some (.pointer (some ⟨d, 0, none⟩)) ∧ w'.cell? ⟨g11, s.1, none⟩ = some (.pointer (some ⟨t, 0, none⟩)) from by
    have hb' := k.box hb (by omega)
    refine ⟨hb', by rw [hb'.cell 0, hcs]; rfl, ?_, ?_⟩
    · exact ((k.cell (p := ⟨g5, 0, none⟩) (Nat.lt_of_lt_of_le hg5 bel.size) (fun h => h.elim (fun e => hd5 e.symm) (fun e => h135 e.symm))).trans (bel.cell (p := ⟨g5, 0, none⟩) hg5)).trans h5
    · exact ((k.cell (p := ⟨g11, s.1, none⟩) (Nat.lt_of_lt_of_le hg11 bel.size) (fun h => h.elim (fun e => hd11 e.symm) (fun e => h1311 e.symm))).trans (bel.cell (p := ⟨g11, s.1, none⟩) hg11)).trans h11))
  have HC := Lib.hid (fun w' (b : Below w1.heap.size w1 w') => symPut_any w' lo hi t d B V bs s ((h.on bel).on b) hv ((hw.on bel).on b) hl hn hf)
  rw [hsv] at HC ⊢
  have c0 : (w.alloc (.cells cs 123)).cell? ⟨g13, 0, none⟩ = some (.int .i64 0) := by rw [← hw1]; exact (h13.on bel).cell 0
  have H1 := Lib.hid (And.intro bel (And.intro hw1 (And.intro (h13.on bel) (And.intro hd13 hcs3))))
  obtain ⟨tt, htt⟩ : ∃ tt, tt = s.1 := ⟨_, rfl⟩
  rw [← htt] at HF hs
  have hti : (tt : Int) < 2 := by omega
  clear hg11 hg5 hsv bel hb hdw h13w h hv hw hl hn hf h13 h5 h11 hs hd5 hd11 h135 h1311 hcs hcs3 hw1 hd13 htt
  go_enter Tryd.func55, Tryd.ntmps55
  go_wp2_with fail
  rw [← H1.out.2.1]
  have q0 : Hid (Kept (fun i => i = d ∨ i = g13) w1 w1.drew) := Lib.hid (Kept.of_below (on_drew w1) _)
  refine wp_region_held_drew (S := fun w' => Hid (Kept (fun i => i = d ∨ i = g13) w1 w')) (by kernel_rfl) q0 fun q0 => ?_
  refine take_to (i := 0) (v := .agg cs) rfl (by kernel_rfl) (by kernel_rfl) (by kernel_rfl) (fun _ _ _ h => h) (yieldsIf_load7 (by rfl) 123 (.tmp 4) rfl (.pointer (some ⟨w.heap.size, 0, none⟩)) rfl (.agg cs) (fun w' h => load74 (HF.out w' h.out).1 H1.out.2.2.2.2)) q0 (some 7) rfl ?_
  try simp only [Act.put, List.setIfInBounds_toArray, List.set_cons_zero, List.set_cons_succ]
  refine take_to (i := 1) (v := .pointer (some ⟨d, 0, none⟩)) rfl (by kernel_rfl) (by kernel_rfl) (by kernel_rfl) (fun _ _ _ h => h) (Or.inl ⟨by rfl, fun w' hS => by have := (HF.out w' hS.out).2.2.1; go_simp⟩) q0 (some 8) rfl ?_
  try simp only [Act.put, List.setIfInBounds_toArray, List.set_cons_zero, List.set_cons_succ]
  refine take_to (i := 2) (v := .pointer (some ⟨w.heap.size, 0, none⟩)) rfl (by kernel_rfl) (by kernel_rfl) (by kernel_rfl) (fun _ _ _ h => h) (Or.inl ⟨by rfl, fun w' hS => by go_simp⟩) q0 (some 9) rfl ?_
  try simp only [Act.put, List.setIfInBounds_toArray, List.set_cons_zero, List.set_cons_succ]
  refine take_to (i := 3) (v := .int .i64 (tt : Int)) rfl (by kernel_rfl) (by kernel_rfl) (by kernel_rfl) (fun _ _ _ h => h) (Or.inl ⟨by rfl, fun w' hS => by have := (HF.out w' hS.out).2.1; go_simp⟩) q0 (some 10) rfl ?_
  try simp only [Act.put, List.setIfInBounds_toArray, List.set_cons_zero, List.set_cons_succ]
  refine take_to (i := 4) (v := .pointer (some ⟨g11, tt, none⟩)) rfl (by kernel_rfl) (by kernel_rfl) (by kernel_rfl) (fun _ _ _ h => h) (Or.inl ⟨by rfl, fun w' hS => by go_simp⟩) q0 (some 11) rfl ?_
  try simp only [Act.put, List.setIfInBounds_toArray, List.set_cons_zero, List.set_cons_succ]
  refine take_to (i := 5) (v := .pointer (some ⟨t, 0, none⟩)) rfl (by kernel_rfl) (by kernel_rfl) (by kernel_rfl) (fun _ _ _ h => h) (Or.inl ⟨by rfl, fun w' hS => by have := (HF.out w' hS.out).2.2.2; go_simp⟩) q0 (some 12) rfl ?_
  try simp only [Act.put, List.setIfInBounds_toArray, List.set_cons_zero, List.set_cons_succ]
  refine wpAnyH_ready (rs := [6]) (by kernel_rfl) (by simp) ?_
  refine AllReadyH.cons rfl (fun K hK => ?_) AllReadyH.nil
  go_simp
  refine (HC.out _ (on_drew w1)).mono ?_
  rintro e w3 ⟨rfl, hw3, k3⟩
  have H3 := Lib.hid (And.intro hw3 (And.intro ((Kept.of_below (on_drew w1) (fun i => i = d)).trans k3 (fun _ _ h => h)) (k3.box (H1.out.2.2.1.on (on_drew w1)) (fun e => H1.out.2.2.2.1 e.symm))))
  have q1 : Hid (Kept (fun i => i = d ∨ i = g13) w1 w3) := Lib.hid (H3.out.2.1.mono (fun i _ h => Or.inl h))
  clear hw3 k3
  refine hK.out _ _ q1 fun _ => ?_
  clear hK K
  try simp only [Act.put, List.setIfInBounds_toArray, List.set_cons_zero, List.set_cons_succ]
  refine wpAnyH_ready (rs := [7]) (by kernel_rfl) (by simp) ?_
  refine AllReadyH.cons rfl (fun K hK => ?_) AllReadyH.nil
  have f0 := H3.out.2.2.free 0
  have c3 : w3.cell? ⟨g13, 0, none⟩ = some (.int .i64 0) := H3.out.2.2.cell 0
  rw [if_pos (by rfl)]
  go_simp
  have kk : Kept (fun i => i = g13) w3 (w3.setCell ⟨g13, 0, none⟩ (.int .i64 0)) := (Kept.refl (fun i => i = g13) w3).setCell (p := ⟨g13, 0, none⟩) (fun _ => rfl) _
  have H4 := Lib.hid (And.intro (H3.out.2.2.put 0 (.int .i64 0)) (And.intro (H3.out.1.kept kk H1.out.2.2.2.1) ((Kept.of_below H1.out.1 (fun i => i = d ∨ i = g13)).trans (q1.out.trans (kk.mono (fun i _ h => Or.inr h)) (fun _ _ h => h)) (fun _ _ h => h))))
  have q2 : Hid (Kept (fun i => i = d ∨ i = g13) w1 (w3.setCell ⟨g13, 0, none⟩ (.int .i64 0))) := Lib.hid (q1.out.trans (kk.mono (fun i _ h => Or.inr h)) (fun _ _ h => h))
  clear kk
  refine hK.out _ _ q2 fun _ => ?_
  clear hK K
  try simp only [Act.put, List.setIfInBounds_toArray, List.set_cons_zero, List.set_cons_succ]
  refine wpAnyH_done (by kernel_rfl) ?_ _
  go_wp2
  go_end0
  exact ⟨rfl, ⟨H4.out.1, H4.out.2.1⟩, H4.out.2.2⟩
end
end Go.Proofs.YtdnjnbfmmgkpjaaDoor

namespace Go.Proofs.YtdnjnbfmmgkpjaaDoor
open Go.RowKit

/-- has a symbol's value a code in its table? -/
def foundS (Ld La : List En) (s : Sym) : Bool := (fnd (if s.1 = 0 then Ld else La) (s.2.1 : Int)).isSome
/-- a symbol's bits, by the table it belongs to -/
def symB (Ld La : List En) (s : Sym) : List Int := symBits (if s.1 = 0 then Ld else La) s
/-- the bits of symbols -/
def bitsOf (Ld La : List En) (l : List Sym) : List Int := (l.map (symB Ld La)).flatten
theorem bitsOf_snoc (Ld La : List En) (l : List Sym) (s : Sym) : bitsOf Ld La (l ++ [s]) = bitsOf Ld La l ++ symB Ld La s := by simp [bitsOf]
theorem bitsOf_cons (Ld La : List En) (l : List Sym) (s : Sym) : bitsOf Ld La (s :: l) = symB Ld La s ++ bitsOf Ld La l := by simp [bitsOf]
/-- what Put answers -/
def putBE (Ld La : List En) (prev : Int) (b : List Int) : Int := if In prev ∧ RightB b then (if (allS prev b).all (foundS Ld La) then 0 else 6) else 2
/-- the bits behind a Put -/
def putBL (Ld La : List En) (bs : List Int) (prev : Int) (b : List Int) : List Int := if putBE Ld La prev b = 0 then bs ++ bitsOf Ld La (allS prev b) else bs

section
variable {B V B' V' : List Int}
theorem symB_len (hv : Valid B V) (hv' : Valid B' V') {s : Sym} (h : s.2.2.natAbs ≤ 2046) : (symB (codes B V) (codes B' V') s).length ≤ 27 := by
  unfold symB symBits
  have h1 := diff_size h
  rw [List.length_append, dig_len, dig_len]
  split
  · have := code_len hv (s.2.1 : Int)
    omega
  · have := code_len hv' (s.2.1 : Int)
    omega
theorem bitsOf_len (hv : Valid B V) (hv' : Valid B' V') : ∀ (l : List Sym), (∀ s ∈ l, SymOk s) → (bitsOf (codes B V) (codes B' V') l).length ≤ 27 * l.length
  | [], _ => Nat.le_refl _
  | s :: l, h => by
    rw [bitsOf_cons, List.length_append, List.length_cons]
    have h1 := symB_len hv hv' (h s (by simp)).num
    have h2 := bitsOf_len hv hv' l (fun x hx => h x (by simp [hx]))
    omega
end

/-- two tables in memory, and a cell that holds both -/
structure TwoT (w : World) (g11 lo hi t lo' hi' t' : Nat) (B V B' V' : List Int) : Prop where
  c0 : w.cell? ⟨g11, 0, none⟩ = some (.pointer (some ⟨t, 0, none⟩))
  c1 : w.cell? ⟨g11, 1, none⟩ = some (.pointer (some ⟨t', 0, none⟩))
  t1 : Tb w lo hi t B V (codes B V)
  t2 : Tb w lo' hi' t' B' V' (codes B' V')
section
variable {w w' : World} {g11 lo hi t lo' hi' t' : Nat} {B V B' V' : List Int}
theorem TwoT.lt (h : TwoT w g11 lo hi t lo' hi' t' B V B' V') : g11 < w.heap.size := World.block_lt_of_cell? w _ h.c0
theorem TwoT.on (h : TwoT w g11 lo hi t lo' hi' t' B V B' V') (k : Below w.heap.size w w') : TwoT w' g11 lo hi t lo' hi' t' B V B' V' :=
  ⟨(k.cell (p := ⟨g11, 0, none⟩) h.lt).trans h.c0, (k.cell (p := ⟨g11, 1, none⟩) h.lt).trans h.c1, h.t1.on k, h.t2.on k⟩
theorem TwoT.kept {S : Nat → Prop} (h : TwoT w g11 lo hi t lo' hi' t' B V B' V') (k : Kept S w w') (h1 : ¬ S g11) (h2 : ∀ b, lo ≤ b → b < hi → ¬ S b) (h3 : ∀ b, lo' ≤ b → b < hi' → ¬ S b) : TwoT w' g11 lo hi t lo' hi' t' B V B' V' :=
  ⟨(k.cell (p := ⟨g11, 0, none⟩) h.lt h1).trans h.c0, (k.cell (p := ⟨g11, 1, none⟩) h.lt h1).trans h.c1, h.t1.kept k h2, h.t2.kept k h3⟩
end

theorem calls41 (args : Array Value) (w : World) : (callFunc 53 args).run Tryd.prog w = .ok (.enter 53 args) w := by kernel_rfl
theorem calls43 (args : Array Value) (w : World) : (callFunc 55 args).run Tryd.prog w = .ok (.enter 55 args) w := by kernel_rfl

section
variable {w : World} {g11 g12 g13 g5 d lo hi t lo' hi' t' : Nat} {B V B' V' bs : List Int} {s : Sym} {f : Bool}
theorem one_step (h : TwoT w g11 lo hi t lo' hi' t' B V B' V') (hv : Valid B V) (hv' : Valid B' V') (hs : SymOk s) (h12 : Box w g12 4 #[.bool f]) (hn : g12 ≠ g11) (h2 : g12 < lo ∨ hi ≤ g12) (h3 : g12 < lo' ∨ hi' ≤ g12) :
    Calls Tryd.prog 53 (#[symV s] ++ #[.pointer (some ⟨g11, 0, none⟩), .pointer (some ⟨g12, 0, none⟩)]) w fun e w' => e = .returned (.tuple #[]) ∧ (TwoT w' g11 lo hi t lo' hi' t' B V B' V' ∧ Box w' g12 4 #[.bool (f && foundS (codes B V) (codes B' V') s)]) ∧ Kept (fun i => i = g12) w w' := by
  unfold foundS
  by_cases h0 : s.1 = 0
  · rw [if_pos h0]
    refine (put1_any w g11 g12 lo hi t B V s f h.t1 hv (by rw [h0]; exact h.c0) hs.tab h12).mono ?_
    rintro e w' ⟨rfl, hb, k⟩
    exact ⟨rfl, ⟨h.kept k (fun e => hn e.symm) (fun b _ _ e => by omega) (fun b _ _ e => by omega), hb⟩, k⟩
  · have h1 : s.1 = 1 := by have := hs.tab; omega
    rw [if_neg h0]
    refine (put1_any w g11 g12 lo' hi' t' B' V' s f h.t2 hv' (by rw [h1]; exact h.c1) hs.tab h12).mono ?_
    rintro e w' ⟨rfl, hb, k⟩
    exact ⟨rfl, ⟨h.kept k (fun e => hn e.symm) (fun b _ _ e => by omega) (fun b _ _ e => by omega), hb⟩, k⟩
theorem two_step (h : TwoT w g11 lo hi t lo' hi' t' B V B' V') (hv : Valid B V) (hv' : Valid B' V') (hs : SymOk s) (hf : foundS (codes B V) (codes B' V') s = true) (hw : Wr w d bs) (hl : bs.length ≤ 1900) (h13 : Box w g13 42 #[.int .i64 0])
    (h5 : w.cell? ⟨g5, 0, none⟩ = some (.pointer (some ⟨d, 0, none⟩))) (hd5 : d ≠ g5) (hd11 : d ≠ g11) (h135 : g13 ≠ g5) (h1311 : g13 ≠ g11) (h2 : g13 < lo ∨ hi ≤ g13) (h3 : g13 < lo' ∨ hi' ≤ g13) (hd2 : d < lo ∨ hi ≤ d) (hd3 : d < lo' ∨ hi' ≤ d) :
    Calls Tryd.prog 55 (#[symV s] ++ #[.pointer (some ⟨g13, 0, none⟩), .pointer (some ⟨g5, 0, none⟩), .pointer (some ⟨g11, 0, none⟩)]) w fun e w' => e = .returned (.tuple #[]) ∧ (TwoT w' g11 lo hi t lo' hi' t' B V B' V' ∧ Box w' g13 42 #[.int .i64 0] ∧ w'.cell? ⟨g5, 0, none⟩ = some (.pointer (some ⟨d, 0, none⟩)) ∧ Wr w' d (bs ++ symB (codes B V) (codes B' V') s)) ∧ Kept (fun i => i = d ∨ i = g13) w w' := by
  unfold foundS at hf
  unfold symB
  have h5l : g5 < w.heap.size := World.block_lt_of_cell? w _ h5
  have fin : ∀ w', Kept (fun i => i = d ∨ i = g13) w w' → TwoT w' g11 lo hi t lo' hi' t' B V B' V' ∧ w'.cell? ⟨g5, 0, none⟩ = some (.pointer (some ⟨d, 0, none⟩)) := fun w' k =>
    ⟨h.kept k (fun e => e.elim (fun e => hd11 e.symm) (fun e => h1311 e.symm)) (fun b _ _ e => by rcases e with e | e <;> omega) (fun b _ _ e => by rcases e with e | e <;> omega), (k.cell (p := ⟨g5, 0, none⟩) h5l (fun e => e.elim (fun e => hd5 e.symm) (fun e => h135 e.symm))).trans h5⟩
  by_cases h0 : s.1 = 0
  · rw [if_pos h0] at hf ⊢
    refine (put2_any w g13 g5 g11 lo hi t d B V bs s h.t1 hv hw hl hs.num hf h13 h5 (by rw [h0]; exact h.c0) hs.tab hd5 hd11 h135 h1311).mono ?_
    rintro e w' ⟨rfl, ⟨hb, hw'⟩, k⟩
    exact ⟨rfl, ⟨(fin w' k).1, hb, (fin w' k).2, hw'⟩, k⟩
  · have h1 : s.1 = 1 := by have := hs.tab; omega
    rw [if_neg h0] at hf ⊢
    refine (put2_any w g13 g5 g11 lo' hi' t' d B' V' bs s h.t2 hv' hw hl hs.num hf h13 h5 (by rw [h1]; exact h.c1) hs.tab hd5 hd11 h135 h1311).mono ?_
    rintro e w' ⟨rfl, ⟨hb, hw'⟩, k⟩
    exact ⟨rfl, ⟨(fin w' k).1, hb, (fin w' k).2, hw'⟩, k⟩
end

/-- what Put of a block tells -/
def PutB (w : World) (d : Nat) (Ld La : List En) (prev : Int) (b bs : List Int) (e : Ending) (w' : World) : Prop :=
  e = .returned (.int .i64 (putBE Ld La prev b)) ∧ Wr w' d (putBL Ld La bs prev b) ∧ Kept (fun i => i = d) w w'

section
variable (w : World) (d lo hi t lo' hi' t' : Nat) (B V B' V' bs : List Int) (prev : Int) (b : List Int)
set_option maxRecDepth 10000 in
set_option maxHeartbeats 3200000 in
theorem putB_any (hT : Tab w) (hb : b.length = 64) (h : Tb w lo hi t B V (codes B V)) (hv : Valid B V) (h' : Tb w lo' hi' t' B' V' (codes B' V')) (hv' : Valid B' V') (hw : Wr w d bs) (hl : bs.length ≤ 170) (hd2 : d < lo ∨ hi ≤ d) (hd3 : d < lo' ∨ hi' ≤ d) (hhi : hi ≤ w.heap.size) (hhi' : hi' ≤ w.heap.size) (hd0 : d ≠ 0) :
    Calls Tryd.prog 26 #[.pointer (some ⟨d, 0, none⟩), .pointer (some ⟨t, 0, none⟩), .pointer (some ⟨t', 0, none⟩), .int .i64 prev, blkV b] w (PutB w d (codes B V) (codes B' V') prev b bs) := by
  unfold PutB
  obtain ⟨cs, hcs⟩ : ∃ cs, cs = (cellsI b).toArray := ⟨_, rfl⟩
  have hvc : blkV b = .agg cs := by rw [hcs]; rfl
  obtain ⟨w1, hw1⟩ : ∃ w1, w1 = (w.alloc (.cells #[.pointer (some ⟨d, 0, none⟩)] 72)).alloc (.cells cs 25) := ⟨_, rfl⟩
  have bel : Below w.heap.size w w1 := by rw [hw1]; exact on_trans (on_alloc _ _) (on_alloc _ _)
  have hs1 : w1.heap.size = w.heap.size + 2 := by rw [hw1]; simp
  have hB : Blk w1 (w.heap.size + 1) b := ⟨by rw [hw1, ← hcs]; have := Box.made (w.alloc (.cells #[.pointer (some ⟨d, 0, none⟩)] 72)) 25 cs; rwa [show (w.alloc (.cells #[.pointer (some ⟨d, 0, none⟩)] 72)).heap.size = w.heap.size + 1 by simp] at this, hb⟩
  have h5 : Box w1 w.heap.size 72 #[.pointer (some ⟨d, 0, none⟩)] := by rw [hw1]; exact (Box.made _ _ _).on (on_alloc _ _)
  have HB := Lib.hid (And.intro hB (And.intro bel (And.intro hw1 (And.intro (hT.on bel) (And.intro (h.on bel) (And.intro (h'.on bel) (And.intro (hw.on bel) (And.intro h5 hs1))))))))
  have HI := Lib.hid (And.intro hb (And.intro hv (And.intro hv' (And.intro hl (And.intro hd2 (And.intro hd3 (And.intro hhi (And.intro hhi' (And.intro hd0 (And.intro hw.lt hT.zero))))))))))
  have HL := Lib.hid (show (Instr.loadAt 25 (.pointer (some ⟨w.heap.size + 1, 0, none⟩))).run Tryd.prog w1 = .ok (blkV b) w1 from hB.load)
  have HV := Lib.hid hvc
  rw [hvc]
  clear hvc hcs hw1 bel hs1 hB h5 hT hb h hv h' hv' hw hl hd2 hd3 hhi hhi' hd0
  by_cases hin : In prev
  · have hd1 : decide (In prev) = true := by simpa using hin
    have HD := Lib.hid (And.intro hd1 hin)
    clear hd1 hin
    go_enter Tryd.func26, Tryd.ntmps26
    go_wp2_with fail
    rw [← HB.out.2.2.1]
    refine (inRange_any _ prev).mono ?_
    rintro e w2 ⟨rfl, rfl⟩
    rw [HD.out.1]
    go_wp2_with (first
      | ((with_reducible refine wpList_load_when (op := ⟨some 18, _, _, _, _, _⟩) ?hw 25 (.tmp 9) rfl (.pointer (some ⟨w.heap.size + 1, 0, none⟩)) rfl (blkV b) HL.out ?_)
         case hw => rfl)
      | fail)
    refine (right64_any _ b HI.out.1).mono ?_
    rintro e w2 ⟨rfl, b2⟩
    have H2 := Lib.hid b2
    clear b2
    by_cases hr : RightB b
    · have hd1 : decide (RightB b) = true := by simpa using hr
      rw [hd1]
      have HR := Lib.hid hr
      clear hd1 hr
      have hz90 : ∀ w, (zeroValue 120).run Tryd.prog w = .ok (.agg #[.pointer none, .pointer none]) w := fun w => by kernel_rfl
      have hb90 : ∀ w, (Instr.build 120 #[(0, .pointer (some ⟨t, 0, none⟩)), (1, .pointer (some ⟨t', 0, none⟩))]).run Tryd.prog w = .ok (.agg #[.pointer (some ⟨t, 0, none⟩), .pointer (some ⟨t', 0, none⟩)]) w := fun w => run_build w 120 _ _ (by show Program.built _ _ _ = _; kernel_rfl)
      have hmf : ∀ (fn : Fn) (first cap : Array Value) (w : World), (Instr.makeFunc fn first cap).run Tryd.prog w = .ok (.func fn first cap) w := fun _ _ _ _ => rfl
      obtain ⟨w3, hw3⟩ : ∃ w3, w3 = (w2.alloc (.cells #[.pointer (some ⟨t, 0, none⟩), .pointer (some ⟨t', 0, none⟩)] 120)).alloc (.cells #[.bool true] 4) := ⟨_, rfl⟩
      have b3 : Below w2.heap.size w2 w3 := by rw [hw3]; exact on_trans (on_alloc _ _) (on_alloc _ _)
      have HL3 := Lib.hid (show (Instr.loadAt 25 (.pointer (some ⟨w.heap.size + 1, 0, none⟩))).run Tryd.prog w3 = .ok (blkV b) w3 from ((HB.out.1.on H2.out).on b3).load)
      have H3 := Lib.hid (And.intro hw3 b3)
      clear hw3 b3
      go_wp2_with (first
        | (with_reducible refine wpList_load_to (op := ⟨some 26, _, _, _, _, _⟩) rfl 25 (.tmp 9) rfl (.pointer (some ⟨w.heap.size + 1, 0, none⟩)) rfl (blkV b) (by rw [← H3.out.1]; exact HL3.out) ?_)
        | fail)
      rw [← H3.out.1]
      have hsz2 := H2.out.size
      have hsz1 := HB.out.2.2.2.2.2.2.2.2
      have hT2 : TwoT w3 w2.heap.size lo hi t lo' hi' t' B V B' V' := by
        have hbx : Box w3 w2.heap.size 120 #[.pointer (some ⟨t, 0, none⟩), .pointer (some ⟨t', 0, none⟩)] := by rw [H3.out.1]; exact (Box.made _ _ _).on (on_alloc _ _)
        exact ⟨hbx.cell 0, hbx.cell 1, (HB.out.2.2.2.2.1.on H2.out).on H3.out.2, (HB.out.2.2.2.2.2.1.on H2.out).on H3.out.2⟩
      have hok : Box w3 (w2.heap.size + 1) 4 #[.bool true] := by
        have := Box.made (w2.alloc (.cells #[.pointer (some ⟨t, 0, none⟩), .pointer (some ⟨t', 0, none⟩)] 120)) 4 #[.bool true]
        rw [show (w2.alloc (.cells #[.pointer (some ⟨t, 0, none⟩), .pointer (some ⟨t', 0, none⟩)] 120)).heap.size = w2.heap.size + 1 by simp] at this
        rw [H3.out.1]
        exact this
      obtain ⟨g11, hg11⟩ : ∃ g11, g11 = w2.heap.size := ⟨_, rfl⟩
      obtain ⟨hhi, hhi'⟩ : hi ≤ w.heap.size ∧ hi' ≤ w.heap.size := ⟨HI.out.2.2.2.2.2.2.1, HI.out.2.2.2.2.2.2.2.1⟩
      rw [← hg11] at hT2 hok ⊢
      have hokl := hok.lt
      have h30 : 0 < w3.heap.size := by omega
      have HX := Lib.hid (And.intro hsz2 (And.intro hsz1 (And.intro hg11 (And.intro hhi (And.intro hhi' hokl)))))
      refine (each_any (fun i => i = g11 + 1) (fun l w => TwoT w g11 lo hi t lo' hi' t' B V B' V' ∧ Box w (g11 + 1) 4 #[.bool (l.all (foundS (codes B V) (codes B' V')))]) 53 #[.pointer (some ⟨g11, 0, none⟩), .pointer (some ⟨g11 + 1, 0, none⟩)] calls41 (fun l w1 w2 h k => ⟨h.1.on k, h.2.on k⟩) w3 prev b ((HB.out.2.2.2.1.on H2.out).on H3.out.2) HI.out.1 HR.out HD.out.2 ?_ ⟨hT2, hok⟩ ?_).mono ?_
      · intro i hi
        have hi : i = g11 + 1 := hi
        omega
      · intro l s w6 ⟨r, hr⟩ hc hk
        have hs : SymOk s := allS_ok HR.out HD.out.2 s (by rw [← hr]; simp)
        refine (one_step hc.1 HI.out.2.1 HI.out.2.2.1 hs hc.2 (by omega) (.inr (by omega)) (.inr (by omega))).mono ?_
        rintro e w7 ⟨rfl, ⟨h7, h8⟩, k7⟩
        refine ⟨rfl, ⟨h7, ?_⟩, k7⟩
        rw [List.all_append, List.all_cons, List.all_nil, Bool.and_true]
        exact h8
      rintro e w4 ⟨rfl, ⟨hT4, hok4⟩, k4⟩
      obtain ⟨fo, hfo⟩ : ∃ fo, fo = (allS prev b).all (foundS (codes B V) (codes B' V')) := ⟨_, rfl⟩
      rw [← hfo] at hok4
      have c4 : w4.cell? ⟨g11 + 1, 0, none⟩ = some (.bool fo) := hok4.cell 0
      have bel4 : Below w1.heap.size w1 w4 := by
        have b13 := on_trans H2.out H3.out.2
        exact b13.trans (k4.below b13.size (fun i hi e => by omega))
      have H4 := Lib.hid (And.intro hT4 (And.intro bel4 (And.intro hfo k4.size)))
      clear hT2 hok hT4 hok4 k4 bel4 hfo hsz2 hsz1 hg11 hhi hhi' hokl h30
      cases fo with
      | false =>
        have hE : putBE (codes B V) (codes B' V') prev b = 6 := by unfold putBE; rw [if_pos ⟨HD.out.2, HR.out⟩, ← H4.out.2.2.1]; rfl
        have HE := Lib.hid hE
        clear hE
        go_wp2
        go_ret
        unfold putBL
        rw [HE.out, if_neg (by decide)]
        exact ⟨rfl, HB.out.2.2.2.2.2.2.1.on H4.out.2.1, Kept.of_below (on_trans HB.out.2.1 H4.out.2.1) _⟩
      | true =>
        have hz31 : ∀ w, (zeroValue 42).run Tryd.prog w = .ok (.int .i64 0) w := fun w => by kernel_rfl
        obtain ⟨w5, hw5⟩ : ∃ w5, w5 = w4.alloc (.cells #[.int .i64 0] 42) := ⟨_, rfl⟩
        have b5 : Below w4.heap.size w4 w5 := by rw [hw5]; exact on_alloc _ _
        have H5 := Lib.hid (And.intro hw5 b5)
        have HL5 := Lib.hid (show (Instr.loadAt 25 (.pointer (some ⟨w.heap.size + 1, 0, none⟩))).run Tryd.prog w5 = .ok (blkV b) w5 from ((HB.out.1.on H4.out.2.1).on b5).load)
        clear hw5 b5
        go_wp2_with (first
          | (with_reducible refine wpList_load_to (op := ⟨some 32, _, _, _, _, _⟩) rfl 25 (.tmp 9) rfl (.pointer (some ⟨w.heap.size + 1, 0, none⟩)) rfl (blkV b) (by rw [← H5.out.1]; exact HL5.out) ?_)
          | fail)
        rw [← H5.out.1]
        obtain ⟨hsz2, hsz1, hg11, hhi, hhi', hokl⟩ := HX.out
        have hsz4 := H4.out.2.2.2
        have hall : ∀ s ∈ allS prev b, foundS (codes B V) (codes B' V') s = true := List.all_eq_true.1 H4.out.2.2.1.symm
        have h5b := HB.out.2.2.2.2.2.2.2.1.on (on_trans H4.out.2.1 H5.out.2)
        obtain ⟨g13, hg13⟩ : ∃ g13, g13 = w4.heap.size := ⟨_, rfl⟩
        have h13 : Box w5 g13 42 #[.int .i64 0] := by rw [H5.out.1, hg13]; exact Box.made _ _ _
        rw [← hg13]
        have hdl := HI.out.2.2.2.2.2.2.2.2.2.1
        have hd0 := HI.out.2.2.2.2.2.2.2.2.1
        have hd2 := HI.out.2.2.2.2.1
        have hd3 := HI.out.2.2.2.2.2.1
        have hbs := HI.out.2.2.2.1
        have h13l := h13.lt
        have HY := Lib.hid (And.intro hsz4 (And.intro hg13 hdl))
        refine (each_any (fun i => i = d ∨ i = g13) (fun l w6 => TwoT w6 g11 lo hi t lo' hi' t' B V B' V' ∧ Box w6 g13 42 #[.int .i64 0] ∧ w6.cell? ⟨w.heap.size, 0, none⟩ = some (.pointer (some ⟨d, 0, none⟩)) ∧ Wr w6 d (bs ++ bitsOf (codes B V) (codes B' V') l)) 55 #[.pointer (some ⟨g13, 0, none⟩), .pointer (some ⟨w.heap.size, 0, none⟩), .pointer (some ⟨g11, 0, none⟩)] calls43
          (fun l w1 w2 h k => ⟨h.1.on k, h.2.1.on k, (k.cell (p := ⟨w.heap.size, 0, none⟩) (World.block_lt_of_cell? _ _ h.2.2.1)).trans h.2.2.1, h.2.2.2.on k⟩) w5 prev b ((HB.out.2.2.2.1.on H4.out.2.1).on H5.out.2) HI.out.1 HR.out HD.out.2 ?_ ⟨H4.out.1.on H5.out.2, h13, h5b.cell 0, by simpa [bitsOf] using (HB.out.2.2.2.2.2.2.1.on H4.out.2.1).on H5.out.2⟩ ?_).mono ?_
        · intro i hi
          have hi : i = d ∨ i = g13 := hi
          omega
        · intro l s w6 ⟨r, hr⟩ hc hk
          have hmem : s ∈ allS prev b := by rw [← hr]; simp
          have hs : SymOk s := allS_ok HR.out HD.out.2 s hmem
          have hlen : l.length ≤ 64 := by
            have h1 := allS_len prev b
            have h2 := congrArg List.length hr
            simp only [List.length_append, List.length_cons, List.length_nil] at h2
            omega
          have hbl := bitsOf_len HI.out.2.1 HI.out.2.2.1 l (fun x hx => allS_ok HR.out HD.out.2 x (by rw [← hr]; simp [hx]))
          refine (two_step hc.1 HI.out.2.1 HI.out.2.2.1 hs (hall s hmem) hc.2.2.2 (by rw [List.length_append]; omega) hc.2.1 hc.2.2.1 (by omega) (by omega) (by omega) (by omega) (.inr (by omega)) (.inr (by omega)) hd2 hd3).mono ?_
          rintro e w7 ⟨rfl, ⟨h7, h8, h9, h10⟩, k7⟩
          refine ⟨rfl, ⟨h7, h8, h9, ?_⟩, k7⟩
          rw [bitsOf_snoc, ← List.append_assoc]
          exact h10
        rintro e w6 ⟨rfl, ⟨hT6, h136, hc6, hw6⟩, k6⟩
        have c6 : w6.cell? ⟨g13, 0, none⟩ = some (.int .i64 0) := h136.cell 0
        have H6 := Lib.hid (And.intro hw6 k6)
        have hE : putBE (codes B V) (codes B' V') prev b = 0 := by unfold putBE; rw [if_pos ⟨HD.out.2, HR.out⟩, ← H4.out.2.2.1]; rfl
        have HE := Lib.hid hE
        clear hE hT6 h136 hc6 hw6 k6 hsz2 hsz1 hg11 hhi hhi' hokl hsz4 hg13 hdl hd0 hd2 hd3 hbs h13l hall h5b h13
        go_wp2
        go_ret
        unfold putBL
        rw [HE.out, if_pos rfl]
        refine ⟨rfl, H6.out.1, ?_⟩
        obtain ⟨hsz4, hg13, hdl⟩ := HY.out
        obtain ⟨hsz2, hsz1, hg11, hhi, hhi', hokl⟩ := HX.out
        exact (Kept.of_below (on_trans HB.out.2.1 (on_trans H4.out.2.1 H5.out.2)) (fun i => i = d)).trans H6.out.2 (fun i hi h => by rcases h with h | h; exact h; omega)
    · have hd1 : decide (RightB b) = false := by simpa using hr
      rw [hd1]
      have hE : putBE (codes B V) (codes B' V') prev b = 2 := by unfold putBE; rw [if_neg (fun e => hr e.2)]
      have HE := Lib.hid hE
      clear hd1 hr hE
      go_wp2
      go_ret
      unfold putBL
      rw [HE.out, if_neg (by decide)]
      exact ⟨rfl, HB.out.2.2.2.2.2.2.1.on H2.out, Kept.of_below (on_trans HB.out.2.1 H2.out) _⟩
  · have hd1 : decide (In prev) = false := by simpa using hin
    have HD := Lib.hid hd1
    have hE : putBE (codes B V) (codes B' V') prev b = 2 := by unfold putBE; rw [if_neg (fun e => hin e.1)]
    unfold putBL
    rw [hE, if_neg (by decide)]
    clear hd1 hin hE
    go_enter Tryd.func26, Tryd.ntmps26
    go_wp2_with fail
    rw [← HB.out.2.2.1]
    refine (inRange_any _ prev).mono ?_
    rintro e w2 ⟨rfl, rfl⟩
    rw [HD.out]
    go_wp2
    go_ret
    exact ⟨rfl, HB.out.2.2.2.2.2.2.1, Kept.of_below HB.out.2.1 _⟩
end
end Go.Proofs.YtdnjnbfmmgkpjaaDoor

namespace Go.Proofs.YtdnjnbfmmgkpjaaDoor
open Go.RowKit

/-- an append of numbers to a row of one's own: only the row's own block turns -/
theorem run_append_ik (w : World) (ty : TypeId) (base : Nat) (v : Value) (n : Nat) (l : List Int) (hown : w.ownsRow base 3 1 v n (cellsI l)) (A : Option Addr) (m c : Nat) (r : List Int) (hr : Ia w A m c r) (h63 : n + m ≤ 1000000) (hbase : base ≤ w.heap.size) :
    ∃ v' w', (Builtin.append_ #[28, 28] ty #[v, .slice A m c]).run Tryd.prog w = .ok v' w' ∧ w'.ownsRow base 3 1 v' (n + m) (cellsI (l ++ r)) ∧ Kept (fun i => v.ownBlock = some i) w w' := by
  obtain ⟨i0, hi0, hz0, hz1, hz2⟩ := info_parts int_info
  cases A with
  | none =>
    obtain rfl : c = 0 := hr.nil rfl
    obtain rfl : m = 0 := by have := hr.cap; omega
    have hl : r = [] := List.eq_nil_of_length_eq_zero hr.len
    subst hl
    exact ⟨v, w, run_append_owned_none (P := Tryd.prog) (w := w) base 28 ty 3 i0 1 Tryd.underlying28 hi0 v n (cellsI l) hown, by simpa using hown, Kept.refl _ _⟩
  | some ad =>
    obtain ⟨v', w', h0, h1, h2, _⟩ := run_append_own (P := Tryd.prog) w base 28 ty 3 i0 (.int .i64 0) 1 8 Tryd.underlying28 hi0 hz0 hz1 hz2 rfl (by omega) v n (cellsI l) hown ad m c (cellsI r) (by rw [cellsI_len, hr.len, Nat.mul_one]) hr.read (cellsI_one r) (by simp only [maxLen]; omega) (by omega) hbase
    have e : cellsI l ++ cellsI r = cellsI (l ++ r) := by simp [cellsI]
    rw [e] at h1
    exact ⟨v', w', h0, h1, ⟨h2.os, h2.tape, h2.output, h2.size, fun k hk hn => h2.block k hk (fun e => hn e.symm)⟩⟩
theorem wpList_append_ik {w : World} {ops : Array Oper} {rest : List Oper} {o : Oper} {a : Act} {Q : Exit → Act → World → Prop} (hgd : o.guard = none) (s x : Operand)
    (ho : o.op = .call { callee := .builtin .append, args := #[s, x], argTypes := #[28, 28] })
    (base : Nat) (v : Value) (n : Nat) (l : List Int) (hs : a.eval s = v) (hown : w.ownsRow base 3 1 v n (cellsI l)) (A : Option Addr) (m c : Nat) (r : List Int)
    (hx : a.eval x = .slice A m c) (hr : Ia w A m c r) (h63 : n + m ≤ 1000000) (hbase : base ≤ w.heap.size)
    (h : ∀ v' w', w'.ownsRow base 3 1 v' (n + m) (cellsI (l ++ r)) → Kept (fun i => v.ownBlock = some i) w w' → wpList Tryd.prog ops Q rest (a.put o.dst v') w') : wpList Tryd.prog ops Q (o :: rest) a w :=
  wpList_plain hgd fun _ hQ => by
    obtain ⟨v', w', h0, h1, h2⟩ := run_append_ik w o.type base v n l hown A m c r hr h63 hbase
    unfold Oper.wp
    simp [execOp, ho, resolve, invoke, builtin, hs, hx, h0, Result.andThen]
    exact hQ _ _ (h v' w' h1 h2)
theorem step_append_ik {ops : Array Oper} {o : Oper} {a : Act} {w : World} {K : Act → World → Prop} {Q : Exit → Act → World → Prop} {E : Prop} (hgd : o.guard = none) (s x : Operand)
    (ho : o.op = .call { callee := .builtin .append, args := #[s, x], argTypes := #[28, 28] })
    (base : Nat) (v : Value) (n : Nat) (l : List Int) (hs : a.eval s = v) (hown : w.ownsRow base 3 1 v n (cellsI l))
    (A : Option Addr) (m c : Nat) (r : List Int) (hx : a.eval x = .slice A m c) (hr : Ia w A m c r) (h63 : n + m ≤ 1000000) (hbase : base ≤ w.heap.size) (d : Option Tmp) (hd : o.dst = d)
    (h : ∀ v' w', w'.ownsRow base 3 1 v' (n + m) (cellsI (l ++ r)) → Kept (fun i => v.ownBlock = some i) w w' → K (a.put d v') w') :
    if Region.wanted o (yielded ops a.tmps) = true then Oper.wp Tryd.prog o a w K Q else E := by
  have hw : Region.wanted o (yielded ops a.tmps) = true := by simp [Region.wanted, hgd]
  rw [if_pos hw]
  subst hd
  obtain ⟨v', w', h0, h1, h2⟩ := run_append_ik w o.type base v n l hown A m c r hr h63 hbase
  unfold Oper.wp
  simp [execOp, ho, resolve, invoke, builtin, hs, hx, h0, Result.andThen]
  exact h v' w' h1 h2
theorem own_block3 {w : World} {base e size n i : Nat} {v : Value} {xs : List Value} (h : w.ownsRow base e size v n xs) (hi : v.ownBlock = some i) : base ≤ i ∧ ∃ cs, w.heap[i]? = some (.cells cs e (0, 0)) := by
  rcases h.2 with ⟨rfl, _⟩ | ⟨g, cap, cur, rfl, hg, hh, _⟩
  · cases hi
  · cases hi
    exact ⟨hg, _, hh⟩

theorem rput3 {w2 w3 : World} {v3 : Value} {n : Nat} {bs : List Int} (ho : w3.ownsRow w2.heap.size 3 1 v3 (0 + n) (cellsI ([] ++ bs))) (k : Kept (fun i => (Value.slice (some ⟨w2.heap.size, 0, none⟩) 0 0).ownBlock = some i) (w2.alloc (.cells #[] 3)) w3) :
    w3.ownsRow w2.heap.size 3 1 v3 n (cellsI bs) ∧ Below w2.heap.size w2 w3 :=
  ⟨by rw [Nat.zero_add, List.nil_append] at ho; exact ho, (on_alloc _ _).trans (k.below (by simp) (fun i hi e => by cases e; exact Nat.lt_irrefl _ hi))⟩
/-- the row of bits so far, and the symbols -/
structure RPut (w wr : World) (v : Value) (l : List Int) (As : Option Addr) (ns : Nat) (S : List Sym) : Prop where
  own : wr.ownsRow w.heap.size 3 1 v l.length (cellsI l)
  bel : Below w.heap.size w wr
  sy : Te wr As ns (S.map syE)
  typ : ∀ bb off, As = some ⟨bb, off, none⟩ → ∃ cs fr, wr.heap[bb]? = some (.cells cs 139 fr)
section
variable {w wr w' : World} {v v' : Value} {l r : List Int} {As : Option Addr} {ns : Nat} {S : List Sym}
theorem RPut.on (h : RPut w wr v l As ns S) (k : Below wr.heap.size wr w') : RPut w w' v l As ns S :=
  ⟨ownsRow_block h.own fun g _ _ hb => k.block g (Array.getElem?_eq_some_iff.1 hb).1, on_trans h.bel k, h.sy.on k, fun bb off e => by
    obtain ⟨cs, fr, hh⟩ := h.typ bb off e
    exact ⟨cs, fr, (k.block bb (Array.getElem?_eq_some_iff.1 hh).1).trans hh⟩⟩
theorem RPut.apart (h : RPut w wr v l As ns S) : ∀ bb off, As = some ⟨bb, off, none⟩ → ¬ v.ownBlock = some bb := fun bb off e e2 => by
  obtain ⟨_, cs, h1⟩ := own_block3 h.own e2
  obtain ⟨cs2, fr, h2⟩ := h.typ bb off e
  rw [h1] at h2
  simp at h2
theorem te_keep {S' : Nat → Prop} {A : Option Addr} {n : Nat} {L : List En} (h : Te wr A n L) (k : Kept S' wr w') (hS : ∀ b off, A = some ⟨b, off, none⟩ → ¬ S' b) : Te w' A n L :=
  ⟨h.len, fun h0 => by
    obtain ⟨b, off, e, hb, hc⟩ := h.at_ h0
    have hs := hS b off e
    exact ⟨b, off, e, Nat.lt_of_lt_of_le hb k.size, fun i e he => ⟨(k.cell (p := ⟨b, off + i * 3, none⟩) hb hs).trans (hc i e he).1, (k.cell (p := ⟨b, off + i * 3 + 1, none⟩) hb hs).trans (hc i e he).2.1, (k.cell (p := ⟨b, off + i * 3 + 2, none⟩) hb hs).trans (hc i e he).2.2⟩⟩⟩
theorem RPut.grow (h : RPut w wr v l As ns S) (hown : w'.ownsRow w.heap.size 3 1 v' (l.length + r.length) (cellsI (l ++ r))) (k : Kept (fun i => v.ownBlock = some i) wr w') : RPut w w' v' (l ++ r) As ns S :=
  ⟨by rw [List.length_append]; exact hown, h.bel.trans (k.below h.bel.size (fun i hi e => by have := (own_block3 h.own e).1; omega)), te_keep h.sy k h.apart, fun bb off e => by
    obtain ⟨cs, fr, hh⟩ := h.typ bb off e
    exact ⟨cs, fr, (k.block bb (Array.getElem?_eq_some_iff.1 hh).1 (h.apart bb off e)).trans hh⟩⟩
end

theorem cells_sy {w : World} {bb off ns : Nat} {S : List Sym} {k : Nat} {s : Sym} (h : Te w (some ⟨bb, off, none⟩) ns (S.map syE)) (hk : k < ns) (hs : S[k]? = some s) :
    w.cell? ⟨bb, off + k * 3, none⟩ = some (.int .i64 (s.2.1 : Int)) ∧ w.cell? ⟨bb, off + k * 3 + 1, none⟩ = some (.int .i64 (numB s.2.2 : Int)) ∧ w.cell? ⟨bb, off + k * 3 + 2, none⟩ = some (.int .i64 (sz s.2.2 : Int)) := by
  obtain ⟨b', off', e, _, hc⟩ := h.at_ (by omega)
  cases e
  exact hc k (syE s) (by rw [List.getElem?_map, hs]; rfl)
theorem take_succ {S : List Sym} {k : Nat} {s : Sym} (h : S[k]? = some s) : S.take (k + 1) = S.take k ++ [s] := by
  rw [List.take_add_one, h]
  rfl
theorem allS_tab {prev : Int} {b : List Int} (hr : RightB b) {k : Nat} {s : Sym} (h1 : (allS prev b)[k]? = some s) : s.1 = if k = 0 then 0 else 1 := by
  unfold allS at h1
  cases k with
  | zero => simp at h1; rw [← h1]; rfl
  | succ k =>
    rw [List.getElem?_cons_succ] at h1
    rw [if_neg (by omega)]
    exact (symsF_ok hr 63 1 0 (by omega) s (List.mem_of_getElem? h1)).2
theorem all_not {f : Sym → Bool} {S : List Sym} {k : Nat} {s : Sym} (h : S[k]? = some s) (hf : f s = false) : S.all f = false := by
  cases ha : S.all f with
  | false => rfl
  | true =>
    have := List.all_eq_true.1 ha s (List.mem_of_getElem? h)
    rw [hf] at this
    cases this
/-- what the reference's Put of a block tells -/
def RefPutB (w : World) (A : Option Addr) (Ld La : List En) (prev : Int) (b bs : List Int) (e : Ending) (w' : World) : Prop :=
  ∃ A' m c', e = .returned (.tuple #[.slice A' m c', .int .i64 (putBE Ld La prev b)]) ∧ Il w' A' m c' (putBL Ld La bs prev b) ∧ (A' = A ∨ ∀ b off, A' = some ⟨b, off, none⟩ → w.heap.size ≤ b) ∧ Below w.heap.size w w'

section
variable (w : World) (Ac : Option Addr) (nc cc : Nat) (Ac' : Option Addr) (nc' cc' : Nat) (B V B' V' : List Int) (A : Option Addr) (n c : Nat) (bs : List Int) (prev : Int) (b : List Int)
set_option maxRecDepth 10000 in
set_option maxHeartbeats 6400000 in
theorem refPutB_any (hb : b.length = 64) (h : Te w Ac nc (codes B V)) (hnc : nc ≤ 256) (hv : Valid B V) (h' : Te w Ac' nc' (codes B' V')) (hnc' : nc' ≤ 256) (hv' : Valid B' V') (hI : Il w A n c bs) (hn : n ≤ 158000) :
    Calls Tryd.prog 31 #[.slice A n c, .slice Ac nc cc, .slice Ac' nc' cc', .int .i64 prev, blkV b] w (RefPutB w A (codes B V) (codes B' V') prev b bs) := by
  unfold RefPutB
  obtain ⟨cs, hcs⟩ : ∃ cs, cs = (cellsI b).toArray := ⟨_, rfl⟩
  have hvc : blkV b = .agg cs := by rw [hcs]; rfl
  obtain ⟨w1, hw1⟩ : ∃ w1, w1 = w.alloc (.cells cs 25) := ⟨_, rfl⟩
  have bel : Below w.heap.size w w1 := by rw [hw1]; exact on_alloc _ _
  have hB : Blk w1 w.heap.size b := ⟨by rw [hw1, ← hcs]; exact Box.made _ _ _, hb⟩
  have HB := Lib.hid (And.intro hB (And.intro bel (And.intro hw1 (And.intro (h.on bel) (And.intro (h'.on bel) (hI.on bel))))))
  have HI := Lib.hid (And.intro hb (And.intro hv (And.intro hv' (And.intro hnc (And.intro hnc' hn)))))
  have HL := Lib.hid (show (Instr.loadAt 25 (.pointer (some ⟨w.heap.size, 0, none⟩))).run Tryd.prog w1 = .ok (blkV b) w1 from hB.load)
  have HV := Lib.hid hvc
  rw [hvc]
  clear hvc hcs hw1 bel hB hb h hnc hv h' hnc' hv' hI hn
  by_cases hin : In prev
  · have hd1 : decide (In prev) = true := by simpa using hin
    have HD := Lib.hid (And.intro hd1 hin)
    clear hd1 hin
    go_enter Tryd.func31, Tryd.ntmps31
    go_wp2_with fail
    rw [← HB.out.2.2.1]
    refine (refIn_any _ prev).mono ?_
    rintro e w2 ⟨rfl, rfl⟩
    rw [HD.out.1]
    go_wp2_with (first
      | ((with_reducible refine wpList_load_when (op := ⟨some 22, _, _, _, _, _⟩) ?hw 25 (.tmp 9) rfl (.pointer (some ⟨w.heap.size, 0, none⟩)) rfl (blkV b) HL.out ?_)
         case hw => rfl)
      | fail)
    refine (refRight_any _ b HI.out.1).mono ?_
    rintro e w2 ⟨rfl, b2⟩
    have H2 := Lib.hid b2
    clear b2
    by_cases hr : RightB b
    · have hd1 : decide (RightB b) = true := by simpa using hr
      rw [hd1]
      have HR := Lib.hid hr
      clear hd1 hr
      go_wp2_with (first
        | (at_builtin; refine wpList_append_ik (o := ⟨some 29, _, _, _, _, _⟩) rfl (.tmp 27) (.tmp 28) rfl w2.heap.size (.slice (some ⟨w2.heap.size, 0, none⟩) 0 0) 0 [] rfl (World.ownsRow_made w2 #[] 0 (Nat.le_refl _) (Nat.zero_le _) rfl) A n c bs rfl ((HB.out.2.2.2.2.2.on H2.out).ia.on (on_alloc _ _)) (by have := HI.out.2.2.2.2.2; omega) (by simp) ?_; intro v3 w3 ho3 k3; have H3 := Lib.hid (rput3 ho3 k3); clear ho3 k3)
        | (with_reducible refine wpList_load_to (op := ⟨some 31, _, _, _, _, _⟩) rfl 25 (.tmp 9) rfl (.pointer (some ⟨w.heap.size, 0, none⟩)) rfl (blkV b) ((HB.out.1.on H2.out).on H3.out.2).load ?_)
        | fail)
      refine (symbols_any w3 prev b HI.out.1 HR.out HD.out.2).mono ?_
      rintro e w4 ⟨As, ns, csn, rfl, hTe, hns, hlo, b4⟩
      have hns64 : ns ≤ 64 := by have := allS_len prev b; omega
      have hbn : bs.length = n := HB.out.2.2.2.2.2.len
      have HR1 := Lib.hid HR.out
      have H4 := Lib.hid (And.intro (RPut.mk (w := w2) (v := v3) (l := bs) (by rw [hbn]; exact ownsRow_block H3.out.1 fun g _ _ hb => b4.block g (Array.getElem?_eq_some_iff.1 hb).1) (on_trans H3.out.2 b4) hTe (fun bb off e => (hlo bb off e).2)) (And.intro hns hbn))
      clear hTe hns hlo b4 hbn HR
      go_wp2_with fail
      go_loopw [12, 14] (fun v i wr => ∃ k : Nat, k ≤ ns ∧ i = .int .i64 (k : Int) ∧ RPut w2 wr v (bs ++ bitsOf (codes B V) (codes B' V') ((allS prev b).take k)) As ns (allS prev b) ∧ ((allS prev b).take k).all (foundS (codes B V) (codes B' V')) = true) (fun _ i _ => ns - (intOf i).toNat)
      case atStart => exact ⟨0, by omega, rfl, by simpa [bitsOf] using H4.out.1, rfl⟩
      case round vr iv wr =>
        obtain ⟨k, hk, rfl, hP, hall⟩ := hrel
        have HR := Lib.hid (And.intro hP hall)
        clear hP hall
        by_cases hlt : k < ns
        · have hka : k < (allS prev b).length := by have := H4.out.2.1; omega
          obtain ⟨s, hs⟩ : ∃ s, s = (allS prev b)[k]'hka := ⟨_, rfl⟩
          have hget : (allS prev b)[k]? = some s := by rw [List.getElem?_eq_getElem hka, hs]
          have htab := allS_tab HR1.out hget
          have hsok := allS_ok HR1.out HD.out.2 s (List.mem_of_getElem? hget)
          have hsnum := hsok.num
          obtain ⟨bb, off, rfl, _, _⟩ := HR.out.1.sy.at_ (by omega)
          obtain ⟨s0, _, _⟩ := cells_sy HR.out.1.sy hlt hget
          obtain ⟨v, hv0⟩ : ∃ v, v = s.2.1 := ⟨_, rfl⟩
          obtain ⟨y1, hy1⟩ : ∃ y1, y1 = numB s.2.2 := ⟨_, rfl⟩
          obtain ⟨y2, hy2⟩ : ∃ y2, y2 = sz s.2.2 := ⟨_, rfl⟩
          have hy11 : y2 ≤ 11 := by rw [hy2]; exact diff_size hsnum
          have hy12 : y1 ≤ 2048 := by
            have h1 := numB_lt s.2.2
            rw [← hy1, ← hy2] at h1
            have := Nat.pow_le_pow_right (n := 2) (by omega) hy11
            have e11 : 2 ^ 11 = 2048 := by decide
            omega
          have HY := Lib.hid (And.intro hy1.symm (And.intro hy2.symm True.intro))
          rw [← hv0] at s0
          obtain ⟨LL, hLL⟩ : ∃ LL, LL = bs ++ bitsOf (codes B V) (codes B' V') ((allS prev b).take k) := ⟨_, rfl⟩
          have hLn : LL.length ≤ 170000 := by
            have h1 := bitsOf_len HI.out.2.1 HI.out.2.2.1 ((allS prev b).take k) (fun x hx => allS_ok HR1.out HD.out.2 x (List.mem_of_mem_take hx))
            have h2 : ((allS prev b).take k).length ≤ 64 := by rw [List.length_take]; omega
            have h3 := H4.out.2.2
            have h4 := HI.out.2.2.2.2.2
            rw [hLL, List.length_append]
            omega
          rw [← hLL] at HR
          obtain ⟨Ar, cr, rfl, _, _⟩ := il_of_own HR.out.1.own
          have HLN := Lib.hid hLn
          have HLL := Lib.hid hLL
          have HLEN := Lib.hid (show ∀ m, m ≤ 24 → LL.length + m ≤ 1000000 from fun m hm => by omega)
          clear hs hka hsok hLL hLn
          by_cases hk0 : k = 0
          · rw [if_pos hk0] at htab
            subst hk0
            have hfs : foundS (codes B V) (codes B' V') s = (fnd (codes B V) (v : Int)).isSome := by unfold foundS; rw [if_pos htab, hv0]
            have hsb : symB (codes B V) (codes B' V') s = dig (codeOf (codes B V) (v : Int)).1 (codeOf (codes B V) (v : Int)).2 ++ dig y1 y2 := by unfold symB symBits; rw [if_pos htab, hv0, hy1, hy2]
            rw [Nat.zero_mul, Nat.add_zero] at s0
            have HK := Lib.hid (And.intro hfs (And.intro hsb (And.intro hget hsnum)))
            clear hfs hsb htab hget hsnum hv0 hy1 hy2
            have HFI := Lib.hid (fun w' (b : Below w2.heap.size w2 w') => find_any w' Ac nc cc (codes B V) (v : Int) ((HB.out.2.2.2.1.on H2.out).on b) (by have := HI.out.2.2.2.1; omega))
            obtain ⟨fo, hfo⟩ : ∃ fo, fo = fnd (codes B V) (v : Int) := ⟨_, rfl⟩
            rw [← hfo] at HFI
            go_wp2_with fail
            refine (HFI.out wr HR.out.1.bel).mono ?_
            rintro e w5 ⟨rfl, b5⟩
            have H5 := Lib.hid (HR.out.1.on b5)
            have HFO := Lib.hid hfo
            clear b5 hfo s0
            cases fo with
            | none =>
              have hE : putBE (codes B V) (codes B' V') prev b = 6 := by
                have h1 : (allS prev b).all (foundS (codes B V) (codes B' V')) = false := all_not HK.out.2.2.1 (by rw [HK.out.1, ← HFO.out]; rfl)
                unfold putBE
                rw [if_pos ⟨HD.out.2, HR1.out⟩, h1]
                rfl
              have HE := Lib.hid hE
              clear hE
              have hz95 : ∀ w, (zeroValue 135).run Tryd.prog w = .ok (.agg #[.int .i64 0, .int .i64 0, .int .i64 0]) w := fun w => by kernel_rfl
              simp only [enV, Option.isSome_none]
              go_wp2
              go_ret2
              unfold putBL
              rw [HE.out, if_neg (by decide)]
              have b5 := on_trans HB.out.2.1 (on_trans H2.out (H5.out.bel.trans ((on_alloc w5 (.cells #[.int .i64 0, .int .i64 0, .int .i64 0] 135)).mono H5.out.bel.size)))
              exact ⟨A, n, c, rfl, HB.out.2.2.2.2.2.on (on_trans H2.out (H5.out.bel.trans ((on_alloc w5 (.cells #[.int .i64 0, .int .i64 0, .int .i64 0] 135)).mono H5.out.bel.size))), .inl rfl, b5⟩
            | some en =>
              obtain ⟨z, x, y⟩ := en
              have hcode : codeOf (codes B V) (v : Int) = (x, y) := by unfold codeOf; rw [← HFO.out]; rfl
              obtain ⟨_, hy16, hxy, _⟩ := HI.out.2.1.code (fnd_some HFO.out.symm).1
              dsimp only at hy16 hxy
              have hx16 : x ≤ 65536 := by
                have := Nat.pow_le_pow_right (n := 2) (by omega) hy16
                have e16 : 2 ^ 16 = 65536 := by decide
                omega
              have HXY := Lib.hid (And.intro hcode (And.intro hy16 hx16))
              clear hcode hxy
              have hz95 : ∀ w, (zeroValue 135).run Tryd.prog w = .ok (.agg #[.int .i64 0, .int .i64 0, .int .i64 0]) w := fun w => by kernel_rfl
              simp only [enV, Option.isSome_some]
              go_wp2_with fail
              have H6 := Lib.hid (H5.out.on (on_alloc w5 (.cells #[.int .i64 z, .int .i64 (x : Int), .int .i64 (y : Int)] 135)))
              refine (digits_any _ x y (by omega) (by omega)).mono ?_
              rintro e w7 ⟨A7, c7, rfl, hI7, b7⟩
              have H7 := Lib.hid (And.intro (H6.out.on b7) hI7)
              clear hI7 b7
              go_wp2_with (first
                | (at_builtin; refine wpList_append_ik (o := ⟨some 62, _, _, _, _, _⟩) rfl (.tmp 56) (.tmp 61) rfl w2.heap.size (.slice Ar LL.length cr) _ _ rfl H7.out.1.own A7 y c7 (dig x y) rfl H7.out.2.ia (HLEN.out y (by omega)) H7.out.1.bel.size ?_; intro v8 w8 ho8 k8; have H8 := Lib.hid (H7.out.1.grow (r := dig x y) (by rw [dig_len]; exact ho8) k8); clear ho8 k8)
                | fail)
              have HC8 := Lib.hid (fun w' (kk : Kept (fun i => v8.ownBlock = some i) w8 w') => cells_sy (te_keep H8.out.sy kk H8.out.apart) hlt HK.out.2.2.1)
              rw [HY.out.1, HY.out.2.1] at HC8
              have HLEN8 := Lib.hid (show ∀ m, m ≤ 24 → (LL ++ dig x y).length + m ≤ 1000000 from fun m hm => by have := HLEN.out m hm; have := HLEN.out y (by omega); have := HLEN.out 0 (by omega); rw [List.length_append, dig_len]; have := HLN.out; omega)

              have q0 : Hid (Kept (fun i => v8.ownBlock = some i) w8 w8.drew) := Lib.hid (Kept.of_below (on_drew w8) _)
              refine wp_region_held_drew (S := fun w' => Hid (Kept (fun i => v8.ownBlock = some i) w8 w')) (by kernel_rfl) q0 fun q0 => ?_
              refine take_to (i := 0) (v := v8) rfl (by kernel_rfl) (by kernel_rfl) (by kernel_rfl) (fun _ _ _ h => h) (Or.inl ⟨by rfl, fun w' hS => by go_simp⟩) q0 (some 63) rfl ?_
              try simp only [Act.put, List.setIfInBounds_toArray, List.set_cons_zero, List.set_cons_succ]
              refine take_to (i := 1) (v := .slice (some ⟨bb, off, none⟩) ns csn) rfl (by kernel_rfl) (by kernel_rfl) (by kernel_rfl) (fun _ _ _ h => h) (Or.inl ⟨by rfl, fun w' hS => by go_simp⟩) q0 (some 64) rfl ?_
              try simp only [Act.put, List.setIfInBounds_toArray, List.set_cons_zero, List.set_cons_succ]
              refine take_to (i := 2) (v := .int .i64 ((0 : Nat) : Int)) rfl (by kernel_rfl) (by kernel_rfl) (by kernel_rfl) (fun _ _ _ h => h) (Or.inl ⟨by rfl, fun w' hS => by go_simp⟩) q0 (some 65) rfl ?_
              try simp only [Act.put, List.setIfInBounds_toArray, List.set_cons_zero, List.set_cons_succ]
              refine take_to (i := 3) (v := .pointer (some ⟨bb, off, none⟩)) rfl (by kernel_rfl) (by kernel_rfl) (by kernel_rfl) (fun _ _ _ h => h) (Or.inl ⟨by rfl, fun w' hS => by go_simp⟩) q0 (some 66) rfl ?_
              try simp only [Act.put, List.setIfInBounds_toArray, List.set_cons_zero, List.set_cons_succ]
              refine take_to (i := 4) (v := .pointer (some ⟨bb, off + 1, none⟩)) rfl (by kernel_rfl) (by kernel_rfl) (by kernel_rfl) (fun _ _ _ h => h) (Or.inl ⟨by rfl, fun w' hS => by go_simp⟩) q0 (some 67) rfl ?_
              try simp only [Act.put, List.setIfInBounds_toArray, List.set_cons_zero, List.set_cons_succ]
              refine take_to (i := 5) (v := .int .i64 (y1 : Int)) rfl (by kernel_rfl) (by kernel_rfl) (by kernel_rfl) (fun _ _ _ h => h) (Or.inl ⟨by rfl, fun w' hS => by have := (HC8.out w' hS.out).2.1; rw [Nat.zero_mul, Nat.add_zero] at this; go_simp⟩) q0 (some 68) rfl ?_
              try simp only [Act.put, List.setIfInBounds_toArray, List.set_cons_zero, List.set_cons_succ]
              refine take_to (i := 6) (v := .slice (some ⟨bb, off, none⟩) ns csn) rfl (by kernel_rfl) (by kernel_rfl) (by kernel_rfl) (fun _ _ _ h => h) (Or.inl ⟨by rfl, fun w' hS => by go_simp⟩) q0 (some 69) rfl ?_
              try simp only [Act.put, List.setIfInBounds_toArray, List.set_cons_zero, List.set_cons_succ]
              refine take_to (i := 7) (v := .int .i64 ((0 : Nat) : Int)) rfl (by kernel_rfl) (by kernel_rfl) (by kernel_rfl) (fun _ _ _ h => h) (Or.inl ⟨by rfl, fun w' hS => by go_simp⟩) q0 (some 70) rfl ?_
              try simp only [Act.put, List.setIfInBounds_toArray, List.set_cons_zero, List.set_cons_succ]
              refine take_to (i := 8) (v := .pointer (some ⟨bb, off, none⟩)) rfl (by kernel_rfl) (by kernel_rfl) (by kernel_rfl) (fun _ _ _ h => h) (Or.inl ⟨by rfl, fun w' hS => by go_simp⟩) q0 (some 71) rfl ?_
              try simp only [Act.put, List.setIfInBounds_toArray, List.set_cons_zero, List.set_cons_succ]
              refine take_to (i := 9) (v := .pointer (some ⟨bb, off + 2, none⟩)) rfl (by kernel_rfl) (by kernel_rfl) (by kernel_rfl) (fun _ _ _ h => h) (Or.inl ⟨by rfl, fun w' hS => by go_simp⟩) q0 (some 72) rfl ?_
              try simp only [Act.put, List.setIfInBounds_toArray, List.set_cons_zero, List.set_cons_succ]
              refine take_to (i := 10) (v := .int .i64 (y2 : Int)) rfl (by kernel_rfl) (by kernel_rfl) (by kernel_rfl) (fun _ _ _ h => h) (Or.inl ⟨by rfl, fun w' hS => by have := (HC8.out w' hS.out).2.2; rw [Nat.zero_mul, Nat.add_zero] at this; go_simp⟩) q0 (some 73) rfl ?_
              try simp only [Act.put, List.setIfInBounds_toArray, List.set_cons_zero, List.set_cons_succ]
              refine wpAnyH_ready (rs := [11]) (by kernel_rfl) (by simp) ?_
              refine AllReadyH.cons rfl (fun K hK => ?_) AllReadyH.nil
              go_simp
              refine (digits_any _ y1 y2 (by omega) (by omega)).mono ?_
              rintro e w9 ⟨A9, c9, rfl, hI9, b9⟩
              have H9 := Lib.hid (And.intro (H8.out.on (on_trans (on_drew w8) b9)) hI9)
              have q1 : Hid (Kept (fun i => v8.ownBlock = some i) w8 w9) := Lib.hid (Kept.of_below (on_trans (on_drew w8) b9) _)
              clear hI9 b9
              refine hK.out _ _ q1 fun _ => ?_
              clear hK K
              try simp only [Act.put, List.setIfInBounds_toArray, List.set_cons_zero, List.set_cons_succ]
              refine wpAnyH_ready (rs := [12]) (by kernel_rfl) (by simp) ?_
              refine AllReadyH.cons rfl (fun K hK => ?_) AllReadyH.nil
              refine step_append_ik rfl (.tmp 63) (.tmp 74) rfl w2.heap.size v8 _ _ rfl H9.out.1.own A9 y2 c9 (dig y1 y2) rfl H9.out.2.ia (HLEN8.out y2 (by omega)) H9.out.1.bel.size (some 75) rfl ?_
              intro v10 w10 ho10 k10
              have H10 := Lib.hid (H9.out.1.grow (r := dig y1 y2) (by rw [dig_len]; exact ho10) k10)
              have q2 : Hid (Kept (fun i => v8.ownBlock = some i) w8 w10) := Lib.hid (q1.out.trans k10 (fun _ _ h => h))
              clear ho10 k10
              try simp only [Act.put, List.setIfInBounds_toArray, List.set_cons_zero, List.set_cons_succ]
              refine hK.out _ _ q2 fun _ => ?_
              clear hK K
              try simp only [Act.put, List.setIfInBounds_toArray, List.set_cons_zero, List.set_cons_succ]
              refine take_to (i := 13) (v := v10) rfl (by kernel_rfl) (by kernel_rfl) (by kernel_rfl) (fun _ _ _ h => h) (Or.inl ⟨by rfl, fun w' hS => by go_simp⟩) q2 (some 12) rfl ?_
              try simp only [Act.put, List.setIfInBounds_toArray, List.set_cons_zero, List.set_cons_succ]
              refine wpAnyH_done (by kernel_rfl) ?_ _
              clear q0 q1 q2
              go_wp2_with fail
              go_roundw
              case rel =>
                refine ⟨0 + 1, by omega, by go_num, ?_, ?_⟩
                · have h10 := H10.out
                  rw [take_succ HK.out.2.2.1, bitsOf_snoc, HK.out.2.1, HXY.out.1, ← List.append_assoc, ← List.append_assoc]
                  rw [← HLL.out]
                  exact h10
                · rw [take_succ HK.out.2.2.1, List.all_append, HR.out.2, List.all_cons, List.all_nil, HK.out.1, ← HFO.out]
                  rfl
              case measure => simp [intOf]; omega
          · rw [if_neg hk0] at htab
            have hk0i : ¬ (k : Int) = 0 := by omega
            have hfs : foundS (codes B V) (codes B' V') s = (fnd (codes B' V') (v : Int)).isSome := by unfold foundS; rw [if_neg (by rw [htab]; decide), hv0]
            have hsb : symB (codes B V) (codes B' V') s = dig (codeOf (codes B' V') (v : Int)).1 (codeOf (codes B' V') (v : Int)).2 ++ dig y1 y2 := by unfold symB symBits; rw [if_neg (by rw [htab]; decide), hv0, hy1, hy2]
            have HK := Lib.hid (And.intro hfs (And.intro hsb (And.intro hget hsnum)))
            clear hfs hsb htab hget hsnum hv0 hy1 hy2
            have HFI := Lib.hid (fun w' (b : Below w2.heap.size w2 w') => find_any w' Ac' nc' cc' (codes B' V') (v : Int) ((HB.out.2.2.2.2.1.on H2.out).on b) (by have := HI.out.2.2.2.2.1; omega))
            obtain ⟨fo, hfo⟩ : ∃ fo, fo = fnd (codes B' V') (v : Int) := ⟨_, rfl⟩
            rw [← hfo] at HFI
            go_wp2_with fail
            refine (HFI.out wr HR.out.1.bel).mono ?_
            rintro e w5 ⟨rfl, b5⟩
            have H5 := Lib.hid (HR.out.1.on b5)
            have HFO := Lib.hid hfo
            clear b5 hfo s0
            cases fo with
            | none =>
              have hE : putBE (codes B V) (codes B' V') prev b = 6 := by
                have h1 : (allS prev b).all (foundS (codes B V) (codes B' V')) = false := all_not HK.out.2.2.1 (by rw [HK.out.1, ← HFO.out]; rfl)
                unfold putBE
                rw [if_pos ⟨HD.out.2, HR1.out⟩, h1]
                rfl
              have HE := Lib.hid hE
              clear hE
              have hz95 : ∀ w, (zeroValue 135).run Tryd.prog w = .ok (.agg #[.int .i64 0, .int .i64 0, .int .i64 0]) w := fun w => by kernel_rfl
              simp only [enV, Option.isSome_none]
              go_wp2
              go_ret2
              unfold putBL
              rw [HE.out, if_neg (by decide)]
              have b5 := on_trans HB.out.2.1 (on_trans H2.out (H5.out.bel.trans ((on_alloc w5 (.cells #[.int .i64 0, .int .i64 0, .int .i64 0] 135)).mono H5.out.bel.size)))
              exact ⟨A, n, c, rfl, HB.out.2.2.2.2.2.on (on_trans H2.out (H5.out.bel.trans ((on_alloc w5 (.cells #[.int .i64 0, .int .i64 0, .int .i64 0] 135)).mono H5.out.bel.size))), .inl rfl, b5⟩
            | some en =>
              obtain ⟨z, x, y⟩ := en
              have hcode : codeOf (codes B' V') (v : Int) = (x, y) := by unfold codeOf; rw [← HFO.out]; rfl
              obtain ⟨_, hy16, hxy, _⟩ := HI.out.2.2.1.code (fnd_some HFO.out.symm).1
              dsimp only at hy16 hxy
              have hx16 : x ≤ 65536 := by
                have := Nat.pow_le_pow_right (n := 2) (by omega) hy16
                have e16 : 2 ^ 16 = 65536 := by decide
                omega
              have HXY := Lib.hid (And.intro hcode (And.intro hy16 hx16))
              clear hcode hxy
              have hz95 : ∀ w, (zeroValue 135).run Tryd.prog w = .ok (.agg #[.int .i64 0, .int .i64 0, .int .i64 0]) w := fun w => by kernel_rfl
              simp only [enV, Option.isSome_some]
              go_wp2_with fail
              have H6 := Lib.hid (H5.out.on (on_alloc w5 (.cells #[.int .i64 z, .int .i64 (x : Int), .int .i64 (y : Int)] 135)))
              refine (digits_any _ x y (by omega) (by omega)).mono ?_
              rintro e w7 ⟨A7, c7, rfl, hI7, b7⟩
              have H7 := Lib.hid (And.intro (H6.out.on b7) hI7)
              clear hI7 b7
              go_wp2_with (first
                | (at_builtin; refine wpList_append_ik (o := ⟨some 62, _, _, _, _, _⟩) rfl (.tmp 56) (.tmp 61) rfl w2.heap.size (.slice Ar LL.length cr) _ _ rfl H7.out.1.own A7 y c7 (dig x y) rfl H7.out.2.ia (HLEN.out y (by omega)) H7.out.1.bel.size ?_; intro v8 w8 ho8 k8; have H8 := Lib.hid (H7.out.1.grow (r := dig x y) (by rw [dig_len]; exact ho8) k8); clear ho8 k8)
                | fail)
              have HC8 := Lib.hid (fun w' (kk : Kept (fun i => v8.ownBlock = some i) w8 w') => cells_sy (te_keep H8.out.sy kk H8.out.apart) hlt HK.out.2.2.1)
              rw [HY.out.1, HY.out.2.1] at HC8
              have HLEN8 := Lib.hid (show ∀ m, m ≤ 24 → (LL ++ dig x y).length + m ≤ 1000000 from fun m hm => by have := HLEN.out m hm; have := HLEN.out y (by omega); have := HLEN.out 0 (by omega); rw [List.length_append, dig_len]; have := HLN.out; omega)

              have q0 : Hid (Kept (fun i => v8.ownBlock = some i) w8 w8.drew) := Lib.hid (Kept.of_below (on_drew w8) _)
              refine wp_region_held_drew (S := fun w' => Hid (Kept (fun i => v8.ownBlock = some i) w8 w')) (by kernel_rfl) q0 fun q0 => ?_
              refine take_to (i := 0) (v := v8) rfl (by kernel_rfl) (by kernel_rfl) (by kernel_rfl) (fun _ _ _ h => h) (Or.inl ⟨by rfl, fun w' hS => by go_simp⟩) q0 (some 63) rfl ?_
              try simp only [Act.put, List.setIfInBounds_toArray, List.set_cons_zero, List.set_cons_succ]
              refine take_to (i := 1) (v := .slice (some ⟨bb, off, none⟩) ns csn) rfl (by kernel_rfl) (by kernel_rfl) (by kernel_rfl) (fun _ _ _ h => h) (Or.inl ⟨by rfl, fun w' hS => by go_simp⟩) q0 (some 64) rfl ?_
              try simp only [Act.put, List.setIfInBounds_toArray, List.set_cons_zero, List.set_cons_succ]
              refine take_to (i := 2) (v := .int .i64 (k : Int)) rfl (by kernel_rfl) (by kernel_rfl) (by kernel_rfl) (fun _ _ _ h => h) (Or.inl ⟨by rfl, fun w' hS => by go_simp⟩) q0 (some 65) rfl ?_
              try simp only [Act.put, List.setIfInBounds_toArray, List.set_cons_zero, List.set_cons_succ]
              refine take_to (i := 3) (v := .pointer (some ⟨bb, off + k * 3, none⟩)) rfl (by kernel_rfl) (by kernel_rfl) (by kernel_rfl) (fun _ _ _ h => h) (Or.inl ⟨by rfl, fun w' hS => by go_simp⟩) q0 (some 66) rfl ?_
              try simp only [Act.put, List.setIfInBounds_toArray, List.set_cons_zero, List.set_cons_succ]
              refine take_to (i := 4) (v := .pointer (some ⟨bb, off + k * 3 + 1, none⟩)) rfl (by kernel_rfl) (by kernel_rfl) (by kernel_rfl) (fun _ _ _ h => h) (Or.inl ⟨by rfl, fun w' hS => by go_simp⟩) q0 (some 67) rfl ?_
              try simp only [Act.put, List.setIfInBounds_toArray, List.set_cons_zero, List.set_cons_succ]
              refine take_to (i := 5) (v := .int .i64 (y1 : Int)) rfl (by kernel_rfl) (by kernel_rfl) (by kernel_rfl) (fun _ _ _ h => h) (Or.inl ⟨by rfl, fun w' hS => by have := (HC8.out w' hS.out).2.1; go_simp⟩) q0 (some 68) rfl ?_
              try simp only [Act.put, List.setIfInBounds_toArray, List.set_cons_zero, List.set_cons_succ]
              refine take_to (i := 6) (v := .slice (some ⟨bb, off, none⟩) ns csn) rfl (by kernel_rfl) (by kernel_rfl) (by kernel_rfl) (fun _ _ _ h => h) (Or.inl ⟨by rfl, fun w' hS => by go_simp⟩) q0 (some 69) rfl ?_
              try simp only [Act.put, List.setIfInBounds_toArray, List.set_cons_zero, List.set_cons_succ]
              refine take_to (i := 7) (v := .int .i64 (k : Int)) rfl (by kernel_rfl) (by kernel_rfl) (by kernel_rfl) (fun _ _ _ h => h) (Or.inl ⟨by rfl, fun w' hS => by go_simp⟩) q0 (some 70) rfl ?_
              try simp only [Act.put, List.setIfInBounds_toArray, List.set_cons_zero, List.set_cons_succ]
              refine take_to (i := 8) (v := .pointer (some ⟨bb, off + k * 3, none⟩)) rfl (by kernel_rfl) (by kernel_rfl) (by kernel_rfl) (fun _ _ _ h => h) (Or.inl ⟨by rfl, fun w' hS => by go_simp⟩) q0 (some 71) rfl ?_
              try simp only [Act.put, List.setIfInBounds_toArray, List.set_cons_zero, List.set_cons_succ]
              refine take_to (i := 9) (v := .pointer (some ⟨bb, off + k * 3 + 2, none⟩)) rfl (by kernel_rfl) (by kernel_rfl) (by kernel_rfl) (fun _ _ _ h => h) (Or.inl ⟨by rfl, fun w' hS => by go_simp⟩) q0 (some 72) rfl ?_
              try simp only [Act.put, List.setIfInBounds_toArray, List.set_cons_zero, List.set_cons_succ]
              refine take_to (i := 10) (v := .int .i64 (y2 : Int)) rfl (by kernel_rfl) (by kernel_rfl) (by kernel_rfl) (fun _ _ _ h => h) (Or.inl ⟨by rfl, fun w' hS => by have := (HC8.out w' hS.out).2.2; go_simp⟩) q0 (some 73) rfl ?_
              try simp only [Act.put, List.setIfInBounds_toArray, List.set_cons_zero, List.set_cons_succ]
              refine wpAnyH_ready (rs := [11]) (by kernel_rfl) (by simp) ?_
              refine AllReadyH.cons rfl (fun K hK => ?_) AllReadyH.nil
              go_simp
              refine (digits_any _ y1 y2 (by omega) (by omega)).mono ?_
              rintro e w9 ⟨A9, c9, rfl, hI9, b9⟩
              have H9 := Lib.hid (And.intro (H8.out.on (on_trans (on_drew w8) b9)) hI9)
              have q1 : Hid (Kept (fun i => v8.ownBlock = some i) w8 w9) := Lib.hid (Kept.of_below (on_trans (on_drew w8) b9) _)
              clear hI9 b9
              refine hK.out _ _ q1 fun _ => ?_
              clear hK K
              try simp only [Act.put, List.setIfInBounds_toArray, List.set_cons_zero, List.set_cons_succ]
              refine wpAnyH_ready (rs := [12]) (by kernel_rfl) (by simp) ?_
              refine AllReadyH.cons rfl (fun K hK => ?_) AllReadyH.nil
              refine step_append_ik rfl (.tmp 63) (.tmp 74) rfl w2.heap.size v8 _ _ rfl H9.out.1.own A9 y2 c9 (dig y1 y2) rfl H9.out.2.ia (HLEN8.out y2 (by omega)) H9.out.1.bel.size (some 75) rfl ?_
              intro v10 w10 ho10 k10
              have H10 := Lib.hid (H9.out.1.grow (r := dig y1 y2) (by rw [dig_len]; exact ho10) k10)
              have q2 : Hid (Kept (fun i => v8.ownBlock = some i) w8 w10) := Lib.hid (q1.out.trans k10 (fun _ _ h => h))
              clear ho10 k10
              try simp only [Act.put, List.setIfInBounds_toArray, List.set_cons_zero, List.set_cons_succ]
              refine hK.out _ _ q2 fun _ => ?_
              clear hK K
              try simp only [Act.put, List.setIfInBounds_toArray, List.set_cons_zero, List.set_cons_succ]
              refine take_to (i := 13) (v := v10) rfl (by kernel_rfl) (by kernel_rfl) (by kernel_rfl) (fun _ _ _ h => h) (Or.inl ⟨by rfl, fun w' hS => by go_simp⟩) q2 (some 12) rfl ?_
              try simp only [Act.put, List.setIfInBounds_toArray, List.set_cons_zero, List.set_cons_succ]
              refine wpAnyH_done (by kernel_rfl) ?_ _
              clear q0 q1 q2
              go_wp2_with fail
              go_roundw
              case rel =>
                refine ⟨k + 1, by omega, by go_num, ?_, ?_⟩
                · have h10 := H10.out
                  rw [take_succ HK.out.2.2.1, bitsOf_snoc, HK.out.2.1, HXY.out.1, ← List.append_assoc, ← List.append_assoc]
                  rw [← HLL.out]
                  exact h10
                · rw [take_succ HK.out.2.2.1, List.all_append, HR.out.2, List.all_cons, List.all_nil, HK.out.1, ← HFO.out]
                  rfl
              case measure => simp [intOf]; omega
        · have hkn : k = ns := by omega
          have HR2 := Lib.hid (by have h1 := HR.out; rw [hkn, H4.out.2.1, List.take_length] at h1; exact h1)
          have hE : putBE (codes B V) (codes B' V') prev b = 0 := by unfold putBE; rw [if_pos ⟨HD.out.2, HR1.out⟩, HR2.out.2]; rfl
          have HE := Lib.hid hE
          clear hE HR hkn
          obtain ⟨A9, c9, rfl, hI9, hlo9⟩ := il_of_own HR2.out.1.own
          have H9 := Lib.hid (And.intro hI9 hlo9)
          clear hI9 hlo9
          go_wp2_with fail
          go_ret2
          unfold putBL
          rw [HE.out, if_pos rfl]
          have bb := on_trans HB.out.2.1 (on_trans H2.out HR2.out.1.bel)
          have hsz := (on_trans HB.out.2.1 H2.out).size
          exact ⟨A9, _, c9, rfl, H9.out.1, .inr (fun b off e => by have := H9.out.2 b off e; omega), bb⟩
    · have hd1 : decide (RightB b) = false := by simpa using hr
      rw [hd1]
      have hE : putBE (codes B V) (codes B' V') prev b = 2 := by unfold putBE; rw [if_neg (fun e => hr e.2)]
      have HE := Lib.hid hE
      clear hd1 hr hE
      go_wp2
      go_ret2
      unfold putBL
      rw [HE.out, if_neg (by decide)]
      exact ⟨A, n, c, rfl, HB.out.2.2.2.2.2.on H2.out, .inl rfl, on_trans HB.out.2.1 H2.out⟩
  · have hd1 : decide (In prev) = false := by simpa using hin
    have HD := Lib.hid hd1
    have hE : putBE (codes B V) (codes B' V') prev b = 2 := by unfold putBE; rw [if_neg (fun e => hin e.1)]
    have HE := Lib.hid hE
    clear hd1 hin hE
    go_enter Tryd.func31, Tryd.ntmps31
    go_wp2_with fail
    rw [← HB.out.2.2.1]
    refine (refIn_any _ prev).mono ?_
    rintro e w2 ⟨rfl, rfl⟩
    rw [HD.out]
    go_wp2
    go_ret2
    unfold putBL
    rw [HE.out, if_neg (by decide)]
    exact ⟨A, n, c, rfl, HB.out.2.2.2.2.2, .inl rfl, HB.out.2.1⟩
end
end Go.Proofs.YtdnjnbfmmgkpjaaDoor

namespace Go.Proofs.YtdnjnbfmmgkpjaaDoor
open Go.RowKit

set_option maxHeartbeats 1600000 in
theorem refBytes_any (w : World) (A : Option Addr) (n c : Nat) (B : List Int) (v0 c0 : Nat) (h : Il w A n c (by8 B ++ dig v0 c0)) (hf : Fit B) (hc : c0 < 8) (hv : v0 < 2 ^ c0) (hn : n ≤ 160000) :
    Calls Tryd.prog 30 #[.slice A n c] w fun e w' => ∃ A' c', e = .returned (.slice A' (stuff (filledUp B v0 c0)).length c') ∧ Sl w' (fun _ => True) A' (stuff (filledUp B v0 c0)).length c' (stuff (filledUp B v0 c0)) ∧ Below w.heap.size w w' := by
  obtain ⟨L, hL⟩ : ∃ L, L = by8 B ++ dig v0 c0 := ⟨_, rfl⟩
  obtain ⟨F, hF⟩ : ∃ F, F = filledUp B v0 c0 := ⟨_, rfl⟩
  obtain ⟨r, hr⟩ : ∃ r, r = (8 - c0) % 8 := ⟨_, rfl⟩
  have hFL : by8 F = L ++ List.replicate r 1 := by rw [hF, hL, hr]; exact by8_filledUp B hc
  have hFf : Fit F := by rw [hF]; exact fit_filledUp hf hc hv
  rw [← hL] at h
  rw [← hF]
  have hln : L.length = n := h.len
  have hn8 : n = 8 * B.length + c0 := by rw [← hln, hL, List.length_append, by8_len, dig_len]
  have hF8 : 8 * F.length = n + r := by rw [← by8_len, hFL, List.length_append, List.length_replicate, hln]
  have hr8 : r < 8 := by omega
  have hrm : (n + r) % 8 = 0 := by omega
  have hrz : ∀ j, j < r → (n + j) % 8 ≠ 0 := fun j hj => by omega
  have HH := Lib.hid (And.intro h (And.intro hFL (And.intro hFf (And.intro hF8 (And.intro hrm hrz)))))
  clear h hFL hFf hF8 hrm hrz hr hL hF hf hv hn8
  go_enter Tryd.func30, Tryd.ntmps30
  go_wp2_with (first
    | (at_builtin; refine wpList_append_il rfl (.tmp 8) (.tmp 9) rfl w.heap.size (.slice (some ⟨w.heap.size, 0, none⟩) 0 0) 0 [] rfl (World.ownsRow_made (base := w.heap.size) (e := 3) (size := 1) w #[] 0 (Nat.le_refl _) (Nat.zero_le _) rfl) A n c L rfl (HH.out.1.on (on_alloc _ _)) (by omega) (by simp) ?_; intro v1 w1 hown1 b1; rw [Nat.zero_add, List.nil_append] at hown1; have H1 := Lib.hid (IRow.mk hown1 ((on_alloc w _).trans b1)); clear hown1 b1)
    | fail)
  go_loopw [3] (fun v wr => ∃ j, j ≤ r ∧ IRow w wr v (n + j) (L ++ List.replicate j 1)) (fun v _ => n + 8 - lenOf v)
  case atStart => exact ⟨0, Nat.zero_le _, by simpa using H1.out⟩
  case round =>
    obtain ⟨j, hj, hR⟩ := hrel
    obtain ⟨A1, c1, rfl, hI, hA1⟩ := il_of_own hR.own
    have HR := Lib.hid (And.intro hR (And.intro hI hA1))
    clear hR hI hA1
    by_cases hlt : j < r
    · have hz := HH.out.2.2.2.2.2 j hlt
      have hz1 : ¬ ((n : Int) + j) % 8 = 0 := by omega
      go_wp2_with (first
        | (at_builtin; refine wpList_append_il rfl (.tmp 15) (.tmp 16) rfl w.heap.size (.slice A1 (n + j) c1) (n + j) (L ++ List.replicate j 1) rfl (HR.out.1.own.alloc _) (some ⟨wr.heap.size, 0, none⟩) 1 1 [1] rfl (il_one wr 1) (by omega) (by have := HR.out.1.bel.size; simp; omega) ?_; intro v3 w3 hown3 b3; obtain ⟨A3, c3, rfl, _, _⟩ := il_of_own hown3; have H3 := Lib.hid (IRow.mk hown3 ((HR.out.1.bel.trans ((on_alloc _ _).mono HR.out.1.bel.size)).trans b3)); clear hown3 b3)
        | fail)
      refine ⟨⟨j + 1, by omega, ?_⟩, by simp [lenOf]; omega⟩
      have := H3.out
      rw [List.append_assoc, ← List.replicate_succ'] at this
      exact this
    · obtain rfl : j = r := by omega
      obtain ⟨N, hN⟩ : ∃ N, N = n + j := ⟨_, rfl⟩
      have hN1 : (n : Int) + j = N := by omega
      have hN2 : (N : Int) % 8 = 0 := by have := HH.out.2.2.2.2.1; omega
      have hN3 : 8 * F.length = N := by have := HH.out.2.2.2.1; omega
      have hI : Il wr A1 N c1 (by8 F) := by
        have := HR.out.2.1
        rw [← HH.out.2.1, ← hN] at this
        exact this
      obtain ⟨w1, hw1⟩ : ∃ w1, wr = w1 := ⟨_, rfl⟩
      have HI := Lib.hid (And.intro hI (And.intro HR.out.1.bel hN3))
      rw [hw1] at HI ⊢
      rw [← hN]
      have hN4 : N ≤ 160007 := by omega
      clear hN hN1 hN3 hI HR hw1
      go_wp2
      go_loopw [4, 5] (fun u i w2 => ∃ k, k ≤ F.length ∧ i = .int .i64 ((8 * k : Nat) : Int) ∧ RB w w1 w2 u k F) (fun _ i _ => N - (intOf i).toNat)
      case atStart => exact ⟨0, Nat.zero_le _, rfl, ⟨⟨rfl, .inl ⟨rfl, rfl⟩⟩, Below.refl _ _⟩⟩
      case round =>
        obtain ⟨k, hk, rfl, hB⟩ := hrel
        have HB := Lib.hid hB
        clear hB
        by_cases hlt : k < F.length
        · have ha : 8 * k + 8 ≤ N := by have := HI.out.2.2; omega
          obtain ⟨b, off, rfl, _, hcell⟩ := HI.out.1.at_ (by omega)
          obtain ⟨i, hi⟩ : ∃ i, i = 8 * k := ⟨_, rfl⟩
          rw [← hi] at ha ⊢
          obtain ⟨q, hq⟩ : ∃ q, q = (F.getD k 0).toNat := ⟨_, rfl⟩
          have hq8 : q < 256 := by have := HH.out.2.2.1.getD k; omega
          have HK := Lib.hid (And.intro hi (And.intro hq (And.intro hk hcell)))
          clear hi hq hk hcell
          have ha2 : (i : Int) < N := by omega
          go_wp2
          go_loop [6, 7] (fun x y => ∃ j2, j2 ≤ 8 ∧ x = .int .i64 ((q / 2 ^ (8 - j2) : Nat) : Int) ∧ y = .int .i64 ((j2 : Nat) : Int)) (fun _ y => 8 - (intOf y).toNat)
          case atStart => exact ⟨0, by omega, by rw [show q / 2 ^ (8 - 0) = 0 by omega]; rfl, rfl⟩
          case round =>
            obtain ⟨j2, hj2, rfl, rfl⟩ := hrel
            obtain ⟨x0, hx0⟩ : ∃ x0, x0 = q / 2 ^ (8 - j2) := ⟨_, rfl⟩
            have hx1 : x0 ≤ 255 := by
              have : x0 ≤ q := by rw [hx0]; exact Nat.div_le_self _ _
              omega
            rw [← hx0]
            have HX := Lib.hid hx0
            clear hx0
            by_cases hj8 : j2 < 8
            · obtain ⟨t, ht⟩ : ∃ t, t = i + j2 := ⟨_, rfl⟩
              have ht1 : (i : Int) + j2 = (t : Int) := by omega
              have ht2 : t < N := by omega
              obtain ⟨y0, hy0⟩ : ∃ y0, y0 = q / 2 ^ (7 - j2) % 2 := ⟨_, rfl⟩
              have hy1 : y0 ≤ 1 := by omega
              have hc : wr.cell? ⟨b, off + t, none⟩ = some (.int .i64 (y0 : Int)) := by
                have h1 := HK.out.2.2.2 t ht2
                have h2 := by8_at F k j2 hlt hj8
                rw [← HK.out.1, ← HK.out.2.1, ← hy0, ← ht] at h2
                rw [h2] at h1
                exact (HB.out.bel.cell (p := ⟨b, off + t, none⟩) (World.block_lt_of_cell? _ _ h1)).trans h1
              have HY := Lib.hid (And.intro hy0 ht)
              clear hy0 ht
              go_wp2
              refine ⟨⟨j2 + 1, by omega, ?_, by go_num⟩, by simp [intOf]; omega⟩
              rw [← more_bit q j2 hj8, ← HX.out, ← HY.out.1]
              rfl
            · obtain rfl : j2 = 8 := by omega
              have hxq : x0 = q := by rw [HX.out]; simp
              subst hxq
              clear HX
              obtain ⟨m, hm⟩ : ∃ m, m = (stuff (F.take k)).length := ⟨_, rfl⟩
              have hm1 : m ≤ 41000 := by
                have := stuff_len (F.take k)
                rw [List.length_take] at this
                have := HI.out.2.2
                omega
              have hmore := stuff_more (l := F) (k := k) hlt
              have hzq : F.getD k 0 = (x0 : Int) := by
                have := HH.out.2.2.1.getD k
                have := HK.out.2.1
                omega
              rw [hzq] at hmore
              have hrow := HB.out.row
              rw [← hm] at hrow
              have HM := Lib.hid (And.intro hm (And.intro hmore hrow))
              clear hm hmore hzq hrow
              by_cases h255 : x0 = 255
              · subst h255
                go_wp2_with (first
                  | (at_builtin; refine wpList_append_sl rfl (.tmp 37) (.tmp 40) rfl w1.heap.size u4 m (stuff (F.take k)) rfl (HM.out.2.2.alloc _) _ (some ⟨wr.heap.size, 0, none⟩) 1 1 [255] rfl (sl_byte wr 255 (by omega) (by omega)) (by omega) (by have := HB.out.bel.size; simp; omega) ?_; intro v3 w3 hown3 b3; have H3 := Lib.hid (Row.mk hown3 ((HB.out.bel.trans ((on_alloc _ _).mono HB.out.bel.size)).trans b3)); clear hown3 b3)
                  | (at_builtin; refine wpList_append_sl rfl (.tmp 44) (.tmp 45) rfl w1.heap.size v3 (m + 1) _ rfl (H3.out.own.alloc _) _ (some ⟨w3.heap.size, 0, none⟩) 1 1 [0] rfl (sl_byte w3 0 (by omega) (by omega)) (by omega) (by have := H3.out.bel.size; simp; omega) ?_; intro v4 w4 hown4 b4; have H4 := Lib.hid (Row.mk hown4 ((H3.out.bel.trans ((on_alloc _ _).mono H3.out.bel.size)).trans b4)); clear hown4 b4))
                refine ⟨⟨k + 1, by omega, ?_, ?_⟩, ?_⟩
                · have := HK.out.1
                  go_num
                · have := H4.out
                  rw [List.append_assoc] at this
                  have e : (stuff (F.take (k + 1))).length = m + 1 + 1 := by rw [HM.out.2.1, List.length_append, ← HM.out.1]; rfl
                  refine ⟨?_, this.bel⟩
                  rw [e, HM.out.2.1]
                  exact this.own
                · simp [intOf]
                  omega
              · go_wp2_with (first
                  | (at_builtin; refine wpList_append_sl rfl (.tmp 37) (.tmp 40) rfl w1.heap.size u4 m (stuff (F.take k)) rfl (HM.out.2.2.alloc _) _ (some ⟨wr.heap.size, 0, none⟩) 1 1 [(x0 : Int)] rfl (sl_byte wr x0 (by omega) (by omega)) (by omega) (by have := HB.out.bel.size; simp; omega) ?_; intro v3 w3 hown3 b3; have H3 := Lib.hid (Row.mk hown3 ((HB.out.bel.trans ((on_alloc _ _).mono HB.out.bel.size)).trans b3)); clear hown3 b3)
                  | fail)
                refine ⟨⟨k + 1, by omega, ?_, ?_⟩, ?_⟩
                · have := HK.out.1
                  go_num
                · have := H3.out
                  have e0 : ¬ ((x0 : Int) = 255) := by omega
                  have e : (stuff (F.take (k + 1))).length = m + 1 := by rw [HM.out.2.1, if_neg e0, List.length_append, ← HM.out.1]; rfl
                  refine ⟨?_, this.bel⟩
                  rw [e, HM.out.2.1, if_neg e0]
                  exact this.own
                · simp [intOf]
                  omega
        · obtain rfl : k = F.length := by omega
          have hkN : ¬ ((8 * F.length : Nat) : Int) < N := by have := HI.out.2.2; omega
          obtain ⟨t, ht⟩ : ∃ t, t = 8 * F.length := ⟨_, rfl⟩
          rw [← ht] at hkN ⊢
          clear ht
          go_wp2
          go_ret
          have hrow := HB.out.row
          rw [List.take_length] at hrow
          obtain ⟨A', c', rfl, hs⟩ := sl_of_own hrow (stuff_fit HH.out.2.2.1)
          exact ⟨A', c', rfl, hs.mono (fun _ _ _ => trivial), on_trans HI.out.2.1 HB.out.bel⟩

theorem refBytes_scan (w : World) (A : Option Addr) (n c : Nat) (L : List Int) (h : Il w A n c L) (hp : ∃ B v c, Fit B ∧ c < 8 ∧ v < 2 ^ c ∧ L = by8 B ++ dig v c) (hn : n ≤ 160000) :
    Calls Tryd.prog 30 #[.slice A n c] w (Tells w L) := by
  obtain ⟨B, v0, c0, h1, h2, h3, rfl⟩ := hp
  refine (refBytes_any w A n c B v0 c0 h h1 h2 h3 hn).mono ?_
  rintro e w' ⟨A', c', rfl, hs, hb⟩
  exact ⟨A', _, c', _, rfl, ⟨B, v0, c0, h1, h2, h3, rfl, rfl⟩, hs, hb⟩
end Go.Proofs.YtdnjnbfmmgkpjaaDoor
