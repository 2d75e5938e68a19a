/-
  The contracts of Right, the program's and the reference's. The contracts of Order, the program's and the reference's. The contract of each, over the contract of the function that sees the symbols. Tally: the contracts of copied, of the closure that counts, and of Tally itself. Tally: the contract of the closure that counts. Tally: its contract. The contract of the laws' own awake. The contracts of the reference's symbol and Symbols. The contract of the reference's Symbols. The contract of a symbol's put. The contracts of Put's two functions that see each symbol. The contract of the program's Put of a block. The contract of the reference's Put of a block. The contract of the reference's Bytes.
-/
import Derived.Test.YtdnjnbfmmgkpjaaDoorMA
import Derived.Test.YtdnjnbfmmgkpjaaDoorMB
import Derived.Test.YtdnjnbfmmgkpjaaDoorMC
namespace Go.Proofs.YtdnjnbfmmgkpjaaDoor
open Go.RowKit

/-- what Right answers -/
def RightedB (w : World) (b : List Int) (e : Ending) (w' : World) : Prop := e = .returned (.bool (decide (RightB b))) ∧ Below w.heap.size w w'
/-- the first k numbers may be -/
def Ri (b : List Int) (k : Nat) : Prop := ∀ j, j < k → In (b.getD j 0)
theorem Ri.more {b : List Int} {k : Nat} (h : Ri b k) (hk : In (b.getD k 0)) : Ri b (k + 1) := fun j hj => by
  by_cases e : j = k
  · rw [e]; exact hk
  · exact h j (by omega)
theorem not_right {b : List Int} {k : Nat} (hk : k < 64) (h : ¬ In (b.getD k 0)) : decide (RightB b) = false := decide_eq_false_iff_not.2 fun hr => h (hr k hk)

set_option maxRecDepth 10000 in
set_option maxHeartbeats 800000 in
theorem right64_any (w : World) (b : List Int) (hb : b.length = 64) : Calls Tryd.prog 49 #[blkV b] w (RightedB w b) := by
  obtain ⟨w1, hw1⟩ : ∃ w1, w1 = w.alloc (.cells (cellsI b).toArray 25) := ⟨_, rfl⟩
  have hB : Blk w1 w.heap.size b := ⟨by rw [hw1]; exact Box.made _ _ _, hb⟩
  have bel : Below w.heap.size w w1 := by rw [hw1]; exact on_alloc _ _
  have H := Lib.hid (And.intro hB (And.intro bel hw1))
  have HL := Lib.hid hB.load
  have HB := Lib.hid hb
  clear hB bel hw1 hb
  obtain ⟨v, hv⟩ : ∃ v, v = blkV b := ⟨_, rfl⟩
  rw [← hv] at HL ⊢
  obtain ⟨cs, hcs⟩ : ∃ cs, cs = (cellsI b).toArray := ⟨_, rfl⟩
  have hvc : v = .agg cs := by rw [hv, hcs]; rfl
  rw [hvc]
  have HV := Lib.hid (And.intro hv (And.intro hcs hvc))
  clear hv hcs hvc
  have HL2 := Lib.hid (show (Instr.loadAt 25 (.pointer (some ⟨w.heap.size, 0, none⟩))).run Tryd.prog (w.alloc (.cells cs 25)) = .ok v (w.alloc (.cells cs 25)) by rw [HV.out.2.1, ← H.out.2.2]; exact HL.out)
  go_enter Tryd.func49, Tryd.ntmps49
  go_wp2_with (first
    | (with_reducible refine wpList_load_to (op := ⟨some 5, _, _, _, _, _⟩) rfl 25 (.tmp 1) rfl (.pointer (some ⟨w.heap.size, 0, none⟩)) rfl v HL2.out ?_)
    | fail)
  rw [HV.out.2.1, ← H.out.2.2]
  go_loopw [6] (fun i wr => ∃ k : Nat, k ≤ 64 ∧ i = .int .i64 k ∧ Ri b k ∧ Below w.heap.size w wr) (fun i _ => 64 - (intOf i).toNat)
  case atStart => exact ⟨0, by omega, rfl, fun j hj => absurd hj (by omega), H.out.2.1⟩
  case round =>
    obtain ⟨k, hk, rfl, hR, hbel⟩ := hrel
    have HR := Lib.hid (And.intro hR hbel)
    clear hR hbel
    by_cases hlt : k < 64
    · have hidx := fun w => index23 w HB.out hlt
      rw [← HV.out.1] at hidx
      obtain ⟨z, hz⟩ : ∃ z, z = b.getD k 0 := ⟨_, rfl⟩
      rw [← hz] at hidx
      have HZ := Lib.hid hz
      clear hz
      by_cases hin : In z
      · have hd : decide (In z) = true := by simpa using hin
        have HD := Lib.hid (And.intro hd hin)
        clear hd hin
        go_wp2_with fail
        refine (inRange_any wr z).mono ?_
        rintro e w2 ⟨rfl, rfl⟩
        rw [HD.out.1]
        go_wp2
        go_roundw
        case rel => exact ⟨k + 1, by omega, by go_num, HR.out.1.more (by rw [← HZ.out]; exact HD.out.2), HR.out.2⟩
        case measure => simp [intOf]; omega
      · have hd : decide (In z) = false := by simpa using hin
        have HD := Lib.hid (And.intro hd hin)
        clear hd hin
        go_wp2_with fail
        refine (inRange_any wr z).mono ?_
        rintro e w2 ⟨rfl, rfl⟩
        rw [HD.out.1]
        go_wp2
        go_ret
        exact ⟨by rw [not_right hlt (by rw [← HZ.out]; exact HD.out.2)]; rfl, HR.out.2⟩
    · obtain rfl : k = 64 := by omega
      go_wp2
      go_ret
      exact ⟨by rw [decide_eq_true (show RightB b from HR.out.1)]; rfl, HR.out.2⟩

set_option maxRecDepth 10000 in
set_option maxHeartbeats 800000 in
theorem refRight_any (w : World) (b : List Int) (hb : b.length = 64) : Calls Tryd.prog 35 #[blkV b] w (RightedB w b) := by
  obtain ⟨w1, hw1⟩ : ∃ w1, w1 = w.alloc (.cells (cellsI b).toArray 25) := ⟨_, rfl⟩
  have hB : Blk w1 w.heap.size b := ⟨by rw [hw1]; exact Box.made _ _ _, hb⟩
  have bel : Below w.heap.size w w1 := by rw [hw1]; exact on_alloc _ _
  have H := Lib.hid (And.intro hB (And.intro bel hw1))
  clear hB bel hw1 hb
  obtain ⟨cs, hcs⟩ : ∃ cs, cs = (cellsI b).toArray := ⟨_, rfl⟩
  have hvc : blkV b = .agg cs := by rw [hcs]; rfl
  rw [hvc]
  have HV := Lib.hid hcs
  clear hcs hvc
  go_enter Tryd.func35, Tryd.ntmps35
  go_wp2_with fail
  rw [HV.out, ← H.out.2.2]
  go_loopw [3] (fun i wr => ∃ k : Nat, k ≤ 64 ∧ i = .int .i64 k ∧ Ri b k ∧ w1 = wr) (fun i _ => 64 - (intOf i).toNat)
  case atStart => exact ⟨0, by omega, rfl, fun j hj => absurd hj (by omega), rfl⟩
  case round =>
    obtain ⟨k, hk, rfl, hR, rfl⟩ := hrel
    have HR := Lib.hid hR
    clear hR
    by_cases hlt : k < 64
    · have hc := H.out.1.cell hlt
      obtain ⟨z, hz⟩ : ∃ z, z = b.getD k 0 := ⟨_, rfl⟩
      rw [← hz] at hc
      have HZ := Lib.hid hz
      clear hz
      by_cases hin : In z
      · have hd : decide (In z) = true := by simpa using hin
        have HD := Lib.hid (And.intro hd hin)
        clear hd hin
        go_wp2_with fail
        refine (refIn_any w1 z).mono ?_
        rintro e w2 ⟨rfl, rfl⟩
        rw [HD.out.1]
        go_wp2
        go_roundw
        case rel => exact ⟨k + 1, by omega, by go_num, HR.out.more (by rw [← HZ.out]; exact HD.out.2), trivial⟩
        case measure => simp [intOf]; omega
      · have hd : decide (In z) = false := by simpa using hin
        have HD := Lib.hid (And.intro hd hin)
        clear hd hin
        go_wp2_with fail
        refine (refIn_any w1 z).mono ?_
        rintro e w2 ⟨rfl, rfl⟩
        rw [HD.out.1]
        go_wp2
        go_ret
        exact ⟨by rw [not_right hlt (by rw [← HZ.out]; exact HD.out.2)]; rfl, H.out.2.1⟩
    · obtain rfl : k = 64 := by omega
      go_wp2
      go_ret
      exact ⟨by rw [decide_eq_true (show RightB b from HR.out)]; rfl, H.out.2.1⟩
end Go.Proofs.YtdnjnbfmmgkpjaaDoor


namespace Go.Proofs.YtdnjnbfmmgkpjaaDoor
open Go.RowKit

/-- a symbol as a value -/
def symV (s : Sym) : Value := .agg #[.int .i64 (s.1 : Int), .int .i64 (s.2.1 : Int), .int .i64 s.2.2]

/-- how things stand when the symbols l have been seen -/
structure Seen (S : Nat → Prop) (Inv : List Sym → World → Prop) (w1 wr : World) (l : List Sym) : Prop where
  inv : Inv l wr
  kept : Kept S w1 wr

theorem symsF_nil (b : List Int) (i run : Nat) : symsF b 0 i run = if 0 < run then [(1, 0, 0)] else [] := rfl
theorem cons_pre {l r a : List Sym} {s : Sym} (h : l ++ s :: r = a) : ∃ q, l ++ [s] ++ q = a := ⟨r, by rw [← h]; simp⟩

section
variable (S : Nat → Prop) (Inv : List Sym → World → Prop) (G : FuncId) (caps : Array Value)

set_option maxRecDepth 10000 in
set_option maxHeartbeats 3200000 in
theorem each_any (hcf : ∀ (args : Array Value) (w : World), (callFunc G args).run Tryd.prog w = .ok (.enter G args) w)
    (hon : ∀ l w1 w2, Inv l w1 → Below w1.heap.size w1 w2 → Inv l w2)
    (w : World) (prev : Int) (b : List Int) (hT : Tab w) (hb : b.length = 64) (hr : RightB b) (hp : In prev) (hS : ∀ i, S i → i < w.heap.size ∧ i ≠ 0) (h0 : Inv [] w)
    (hstep : ∀ l s w1, (∃ q, l ++ [s] ++ q = allS prev b) → Inv l w1 → Kept S w w1 → Calls Tryd.prog G (#[symV s] ++ caps) w1 fun e w2 => e = .returned (.tuple #[]) ∧ Inv (l ++ [s]) w2 ∧ Kept S w1 w2) :
    Calls Tryd.prog 52 #[.int .i64 prev, blkV b, .func (.func G) #[] caps] w fun e w' => e = .returned (.tuple #[]) ∧ Inv (allS prev b) w' ∧ Kept S w w' := by
  obtain ⟨g, hg⟩ : ∃ g, g = w.heap.size := ⟨_, rfl⟩
  obtain ⟨w1, hw1⟩ : ∃ w1, w1 = w.alloc (.cells (cellsI b).toArray 25) := ⟨_, rfl⟩
  have bel : Below w.heap.size w w1 := by rw [hw1]; exact on_alloc _ _
  have hB : Blk w1 g b := ⟨by rw [hw1, hg]; exact Box.made _ _ _, hb⟩
  have hgS : ¬ S g := fun h => by have := (hS g h).1; omega
  have h0S : ¬ S 0 := fun h => (hS 0 h).2 rfl
  have hT1 := hT.on bel
  obtain ⟨d, hd⟩ : ∃ d, d = b.getD 0 0 - prev := ⟨_, rfl⟩
  have c0 := hB.cell (k := 0) (by omega)
  have hdn := diff_small hr hp
  obtain ⟨x, hx⟩ : ∃ x, x = b.getD 0 0 := ⟨_, rfl⟩
  have hxr := hr 0 (by omega)
  rw [← hx] at c0 hd hdn hxr
  rw [← hd] at hdn
  have hall : allS prev b = (0, sz d, d) :: symsF b 63 1 0 := by rw [hd, hx]; rfl
  have hszd := diff_size hdn
  have HH := Lib.hid (And.intro hB (And.intro bel (And.intro hT1 (And.intro hgS (And.intro h0S (And.intro hw1 hg))))))
  have HA := Lib.hid (And.intro hall (And.intro hr (And.intro hszd hdn)))
  have HS := Lib.hid hstep
  have HO := Lib.hid hon
  have h1 := hon _ _ _ h0 bel
  have HI := Lib.hid (Seen.mk (S := S) (Inv := Inv) h1 (Kept.refl S w1))
  have HK := Lib.hid (fun wr (h : Kept S w1 wr) => (Kept.of_below bel S).trans h (fun _ _ h => h))
  have hxp : x - prev = d := hd.symm
  obtain ⟨cs, hcs⟩ : ∃ cs, cs = (cellsI b).toArray := ⟨_, rfl⟩
  have hvc : blkV b = .agg cs := by rw [hcs]; rfl
  rw [hvc]
  have HV := Lib.hid hcs
  unfold In at hp hxr
  obtain ⟨p0, p1⟩ := hp
  obtain ⟨x0, x1⟩ := hxr
  have c0' : (w.alloc (.cells cs 25)).cell? ⟨w.heap.size, 0, none⟩ = some (.int .i64 x) := by rw [hcs, ← hw1, ← hg]; exact c0
  clear hB bel hT1 hgS h0S hw1 hall hr hszd hstep hon h0 h1 hcs hvc hT hS hg hb hd hx c0
  go_enter Tryd.func52, Tryd.ntmps52
  go_wp2_with fail
  refine (size_any _ d (by unfold isInt; omega)).mono ?_
  rintro e w2 ⟨rfl, rfl⟩
  rw [HV.out, ← HH.out.2.2.2.2.2.1, ← HH.out.2.2.2.2.2.2]
  clear c0'
  have C1 := Lib.hid (HS.out [] (0, sz d, d) w1 ⟨_, by rw [HA.out.1]; rfl⟩ HI.out.inv (HK.out _ HI.out.kept))
  go_wp2_with fail
  refine C1.out.mono ?_
  rintro e w2 ⟨rfl, hi2, hk2⟩
  have H2 := Lib.hid (Seen.mk (S := S) (Inv := Inv) (w1 := w1) hi2 (HI.out.kept.trans hk2 (fun _ _ h => h)))
  clear hi2 hk2 C1
  go_wp2_with fail
  go_loopw [7, 8] (fun r i wr => ∃ (k run : Nat) (l : List Sym), 1 ≤ k ∧ k ≤ 64 ∧ run < k ∧ i = .int .i64 (k : Int) ∧ r = .int .i64 (run : Int) ∧ l ++ symsF b (64 - k) k run = allS prev b ∧ Seen S Inv w1 wr l) (fun _ i _ => 64 - (intOf i).toNat)
  case atStart => exact ⟨1, 0, [(0, sz d, d)], by omega, by omega, by omega, rfl, rfl, by rw [HA.out.1]; rfl, H2.out⟩
  case round =>
    obtain ⟨k, run, l, hk1, hk, hrun, rfl, rfl, hl, hP⟩ := hrel
    have HP := Lib.hid (And.intro hl hP)
    clear hl hP
    by_cases hlt : k < 64
    · have hTr := (HH.out.2.2.1.kept HP.out.2.kept HH.out.2.2.2.2.1)
      have hBr := (HH.out.1.kept HP.out.2.kept HH.out.2.2.2.1)
      obtain ⟨hz1, hz2⟩ := zn_at k hlt
      have c1 := hTr k hlt
      rw [hz1] at c1
      obtain ⟨q, hq⟩ : ∃ q, q = zn k := ⟨_, rfl⟩
      rw [← hq] at c1 hz2
      have c2 := hBr.cell hz2
      obtain ⟨z, hz⟩ : ∃ z, z = zig b k := ⟨_, rfl⟩
      have hzz : b.getD q 0 = z := by rw [hz, hq]; rfl
      rw [hzz] at c2
      have hzin := HA.out.2.1.zig hlt
      rw [← hz] at hzin
      obtain ⟨n, hn⟩ : ∃ n, 64 - k = n + 1 := ⟨64 - k - 1, by omega⟩
      have hki : (k : Int) < 64 := by omega
      have hin := hzin
      unfold In at hin
      obtain ⟨z0, z1⟩ := hin
      have HZ := Lib.hid (And.intro hz (And.intro hzin hn))
      clear hTr hBr hz1 hq hz hzz hzin hn
      by_cases he : z = 0
      · subst he
        go_wp2_with fail
        go_roundw
        case rel =>
          refine ⟨k + 1, run + 1, l, by omega, by omega, by omega, by go_num, by go_num, ?_, HP.out.2⟩
          have hl := HP.out.1
          rw [HZ.out.2.2, symsF_zero HZ.out.1.symm] at hl
          rw [show 64 - (k + 1) = n by have := HZ.out.2.2; omega]
          exact hl
        case measure => simp [intOf]; omega
      · have hl := HP.out.1
        have hznz : zig b k ≠ 0 := by rw [← HZ.out.1]; exact he
        rw [HZ.out.2.2, symsF_some hznz, ← HZ.out.1] at hl
        have HL := Lib.hid hl
        have heb : (z == 0) = false := by simpa using he
        clear hl hznz
        go_wp2_with fail
        clear c1 c2
        go_loopw [7] (fun r w6 => ∃ (u : Nat) (l : List Sym), u ≤ run ∧ r = .int .i64 (u : Int) ∧ l ++ (runsOf u z ++ symsF b n (k + 1) 0) = allS prev b ∧ Seen S Inv w1 w6 l) (fun r _ => (intOf r).toNat)
        case atStart => exact ⟨run, l, by omega, rfl, HL.out, HP.out.2⟩
        case round =>
          obtain ⟨u, l2, hu, rfl, hl2, hP2⟩ := hrel
          by_cases h15 : 15 < u
          · have h15i : (15 : Int) < u := by omega
            rw [runsOf_big z h15, List.cons_append] at hl2
            have C2 := Lib.hid (HS.out l2 (1, 240, 0) _ (cons_pre hl2) hP2.inv (HK.out _ hP2.kept))
            have HP2 := Lib.hid (And.intro hl2 hP2)
            clear hl2 hP2
            go_wp2_with fail
            refine C2.out.mono ?_
            rintro e w7 ⟨rfl, hi7, hk7⟩
            have H7 := Lib.hid (Seen.mk (S := S) (Inv := Inv) (w1 := w1) hi7 (HP2.out.2.kept.trans hk7 (fun _ _ h => h)))
            clear hi7 hk7 C2
            go_wp2_with fail
            go_roundw
            case rel =>
              refine ⟨u - 16, l2 ++ [(1, 240, 0)], by omega, by go_num, ?_, H7.out⟩
              rw [← HP2.out.1]
              simp
            case measure => simp [intOf]; omega
          · have h15i : ¬ (15 : Int) < u := by omega
            rw [runsOf_small z (by omega)] at hl2
            have C2 := Lib.hid (HS.out l2 (1, 16 * u + sz z, z) _ (cons_pre hl2) hP2.inv (HK.out _ hP2.kept))
            have HP2 := Lib.hid (And.intro hl2 hP2)
            have hsz := in_size HZ.out.2.1
            clear hl2 hP2
            have HQ := Lib.hid (size_any wr z (by unfold isInt; omega))
            go_wp2_with fail
            refine HQ.out.mono ?_
            rintro e w7 ⟨rfl, rfl⟩
            obtain ⟨y, hy⟩ : ∃ y, y = sz z := ⟨_, rfl⟩
            rw [← hy] at C2 hsz ⊢
            have HY := Lib.hid hy
            clear hy HQ
            have hcast : ((16 * u + y : Nat) : Int) = 16 * (u : Int) + y := by omega
            have C3 := Lib.hid (show Calls Tryd.prog G (#[.agg #[.int .i64 1, .int .i64 (16 * (u : Int) + y), .int .i64 z]] ++ caps) wr _ by have := C2.out; unfold symV at this; dsimp only at this; rw [hcast] at this; exact this)
            clear C2 hcast
            go_wp2_with fail
            refine C3.out.mono ?_
            rintro e w7 ⟨rfl, hi7, hk7⟩
            have H7 := Lib.hid (Seen.mk (S := S) (Inv := Inv) (w1 := w1) hi7 (HP2.out.2.kept.trans hk7 (fun _ _ h => h)))
            clear hi7 hk7 C3
            go_wp2_with fail
            go_roundw
            case rel =>
              refine ⟨k + 1, 0, _, by omega, by omega, by omega, by go_num, rfl, ?_, H7.out⟩
              rw [← HP2.out.1, show 64 - (k + 1) = n by have := HZ.out.2.2; omega, HY.out]
              simp
            case measure => simp [intOf]; omega
    · obtain rfl : k = 64 := by omega
      obtain ⟨hl, hP⟩ := HP.out
      by_cases h0 : 0 < run
      · have h0i : (0 : Int) < run := by omega
        rw [Nat.sub_self, symsF_nil, if_pos h0] at hl
        have C2 := Lib.hid (HS.out l (1, 0, 0) _ ⟨[], by rw [List.append_nil]; exact hl⟩ hP.inv (HK.out _ hP.kept))
        have HL := Lib.hid (And.intro hl hP)
        clear hl hP
        go_wp2_with fail
        refine C2.out.mono ?_
        rintro e w7 ⟨rfl, hi7, hk7⟩
        have H7 := Lib.hid (Seen.mk (S := S) (Inv := Inv) (w1 := w1) hi7 (HL.out.2.kept.trans hk7 (fun _ _ h => h)))
        clear hi7 hk7 C2
        go_wp2_with fail
        go_end0
        refine ⟨rfl, ?_, (Kept.of_below HH.out.2.1 S).trans H7.out.kept (fun _ _ h => h)⟩
        rw [← HL.out.1]
        exact H7.out.inv
      · have h0i : ¬ (0 : Int) < run := by omega
        rw [Nat.sub_self, symsF_nil, if_neg h0, List.append_nil] at hl
        have HL := Lib.hid (And.intro hl hP)
        clear hl hP
        go_wp2_with fail
        go_end0
        refine ⟨rfl, ?_, (Kept.of_below HH.out.2.1 S).trans HL.out.2.kept (fun _ _ h => h)⟩
        rw [← HL.out.1]
        exact HL.out.2.inv
end
end Go.Proofs.YtdnjnbfmmgkpjaaDoor

namespace Go.Proofs.YtdnjnbfmmgkpjaaDoor
open Go.RowKit

/-- numbers of one's own, just so many -/
def CopiedC (w : World) (n : Nat) (xs : List Int) (e : Ending) (w' : World) : Prop :=
  e = .returned (.slice (some ⟨w.heap.size, 0, none⟩) n n) ∧ Box w' w.heap.size 3 (cellsI xs).toArray ∧ Below w.heap.size w w'

set_option maxRecDepth 20000 in
set_option maxHeartbeats 1600000 in
theorem copiedC_any (w : World) (A : Option Addr) (n c : Nat) (xs : List Int) (h : Ia w A n c xs) (hn : n ≤ 300) :
    Calls Tryd.prog 82 #[.slice A n c] w (CopiedC w n xs) := by
  have hmk := run_make_row' (P := Tryd.prog) 28 3 (.int .i64 0) 8 Tryd.underlying28 int_info rfl .i64 .i64 n (by omega) (by omega)
  obtain ⟨M, hM⟩ : ∃ M, M = madeCells #[.int .i64 0] n := ⟨_, rfl⟩
  rw [← hM] at hmk
  have hM2 : M = (cellsI (List.replicate n 0)).toArray := by
    apply Array.toList_inj.1
    rw [hM, toList_madeCells_one]
    simp [cellsI]
  rw [hM2] at hmk
  clear hM hM2
  obtain ⟨Z, hZ⟩ : ∃ Z, Z = List.replicate n (0 : Int) := ⟨_, rfl⟩
  rw [← hZ] at hmk
  have hZl : Z.length = n := by rw [hZ, List.length_replicate]
  have HF := Lib.hid (And.intro (h.alloc (.cells (cellsI Z).toArray 3)) (And.intro (Box.made w 3 (cellsI Z).toArray) hZl))
  clear hZ hZl h
  go_enter Tryd.func82, Tryd.ntmps82
  go_wp2_with (first
    | ((with_reducible refine wpList_copy_splice (o := ⟨some 9, _, _, _, _, _⟩) rfl (.tmp 7) (.tmp 8) 28 28 rfl 3 Tryd.underlying28 int_size (some ⟨w.heap.size, 0, none⟩) A n n n c rfl rfl w.heap.size 0 (cellsI Z) 3 ?hg (cellsI xs) ?hn ?hpos ?hfit (cellsI_one _) w.heap.size ?w0 ?hb ?hgg ?_)
       case hb => exact on_alloc _ _
       case hg => exact HF.out.2.1
       case hn => have := HF.out.1.len; rw [cellsI_len]; simp [this]
       case hpos => exact fun h0 => ⟨rfl, ia_copy HF.out.1 h0⟩
       case hfit => have := HF.out.1.len; have := HF.out.2.2; rw [cellsI_len, cellsI_len]; omega
       case hgg => exact Nat.le_refl _
       intro w3 hb3 hbel
       have H3 := Lib.hid (And.intro hb3 hbel)
       clear hb3 hbel)
    | fail)
  go_ret
  obtain ⟨hb3, hbel⟩ := H3.out
  have hb := hb3.out
  have hl := HF.out.1.len
  rw [splice_all _ _ (by rw [cellsI_len, cellsI_len, hl, HF.out.2.2]; exact Nat.le_refl _)] at hb
  exact ⟨rfl, hb, hbel⟩
end Go.Proofs.YtdnjnbfmmgkpjaaDoor

namespace Go.Proofs.YtdnjnbfmmgkpjaaDoor
open Go.RowKit

/-- both counts, and the array that the closure has -/
structure Cnts (w : World) (cb p q : Nat) (P Q : List Int) : Prop where
  box : Box w cb 168 #[.slice (some ⟨p, 0, none⟩) 256 256, .slice (some ⟨q, 0, none⟩) 256 256]
  bp : Box w p 3 (cellsI P).toArray
  bq : Box w q 3 (cellsI Q).toArray
  lp : P.length = 256
  lq : Q.length = 256
  ne : p ≠ q
/-- one more -/
def bump (P : List Int) (v : Nat) : List Int := P.set v (wrap64 (P.getD v 0 + 1))
section
variable {w w' : World} {cb p q : Nat} {P Q : List Int}
theorem Cnts.on (h : Cnts w cb p q P Q) (k : Below w.heap.size w w') : Cnts w' cb p q P Q := ⟨h.box.on k, h.bp.on k, h.bq.on k, h.lp, h.lq, h.ne⟩
theorem Cnts.putp (h : Cnts w cb p q P Q) (v : Nat) : Cnts (w.setCell ⟨p, v, none⟩ (.int .i64 (wrap64 (P.getD v 0 + 1)))) cb p q (bump P v) Q := by
  have hne : cb ≠ p := h.box.apart h.bp (by decide)
  have hb := h.bp.put v (.int .i64 (wrap64 (P.getD v 0 + 1)))
  rw [put_cellsI] at hb
  exact ⟨h.box.beside (p := ⟨p, v, none⟩) hne _, hb, h.bq.beside (p := ⟨p, v, none⟩) h.ne.symm _, by unfold bump; rw [List.length_set, h.lp], h.lq, h.ne⟩
theorem Cnts.putq (h : Cnts w cb p q P Q) (v : Nat) : Cnts (w.setCell ⟨q, v, none⟩ (.int .i64 (wrap64 (Q.getD v 0 + 1)))) cb p q P (bump Q v) := by
  have hne : cb ≠ q := h.box.apart h.bq (by decide)
  have hb := h.bq.put v (.int .i64 (wrap64 (Q.getD v 0 + 1)))
  rw [put_cellsI] at hb
  exact ⟨h.box.beside (p := ⟨q, v, none⟩) hne _, h.bp.beside (p := ⟨q, v, none⟩) h.ne _, hb, h.lp, by unfold bump; rw [List.length_set, h.lq], h.ne⟩
end

/-- what the closure leaves -/
def Counted1 (w : World) (cb p q : Nat) (P Q : List Int) (s : Sym) (e : Ending) (w' : World) : Prop :=
  e = .returned (.tuple #[]) ∧ Cnts w' cb p q (if s.1 = 0 then bump P s.2.1 else P) (if s.1 = 0 then Q else bump Q s.2.1) ∧ Kept (fun i => i = p ∨ i = q) w w'

set_option maxRecDepth 10000 in
set_option maxHeartbeats 1600000 in
theorem tally1_any (w : World) (cb p q : Nat) (P Q : List Int) (s : Sym) (hs : SymOk s) (h : Cnts w cb p q P Q) :
    Calls Tryd.prog 83 #[symV s, .pointer (some ⟨cb, 0, none⟩)] w (Counted1 w cb p q P Q s) := by
  obtain ⟨t, v, x⟩ := s
  obtain ⟨ht, hv, -⟩ := hs
  dsimp only at ht hv
  unfold symV Counted1
  dsimp only
  obtain ⟨T, hT⟩ : ∃ T : Int, T = (t : Int) := ⟨_, rfl⟩
  rw [← hT]
  obtain ⟨w1, hw1⟩ : ∃ w1, w1 = w.alloc (.cells #[.int .i64 T, .int .i64 (v : Int), .int .i64 x] 123) := ⟨_, rfl⟩
  have bel : Below w.heap.size w w1 := by rw [hw1]; exact on_alloc _ _
  have h1 := h.on bel
  have hb1 : Box w1 w.heap.size 123 #[.int .i64 T, .int .i64 (v : Int), .int .i64 x] := by rw [hw1]; exact Box.made _ _ _
  have c0 : w1.cell? ⟨w.heap.size, 0, none⟩ = some (.int .i64 T) := hb1.cell 0
  have c1 : w1.cell? ⟨w.heap.size, 1, none⟩ = some (.int .i64 (v : Int)) := hb1.cell 1
  have c3 : w1.cell? ⟨cb, 0, none⟩ = some (.slice (some ⟨p, 0, none⟩) 256 256) := h1.box.cell 0
  have c4 : w1.cell? ⟨cb, 1, none⟩ = some (.slice (some ⟨q, 0, none⟩) 256 256) := h1.box.cell 1
  have hvi : (v : Int) < 256 := by omega
  have ht2 : t = 0 ∨ t = 1 := by omega
  rcases ht2 with rfl | rfl
  · obtain rfl : T = 0 := hT
    obtain ⟨z, hz⟩ : ∃ z, z = P.getD v 0 := ⟨_, rfl⟩
    have c5 : w1.cell? ⟨p, v, none⟩ = some (.int .i64 z) := by
      rw [hz, h1.bp.cell v, List.getElem?_toArray, cellsI_get _ _ (by rw [h1.lp]; exact hv)]
    have f5 : w1.frozen? ⟨p, v, none⟩ = false := h1.bp.free v
    have HH := Lib.hid (And.intro h1 (And.intro bel (And.intro hw1 hz)))
    clear h1 bel hz hw1 h hb1
    go_enter Tryd.func83, Tryd.ntmps83
    go_wp2_with fail
    rw [← HH.out.2.2.1]
    go_region
    all_goals
      (go_wp2
       go_end0
       refine ⟨rfl, ?_, ?_⟩
       · have hput := HH.out.1.putp v
         rw [← HH.out.2.2.2] at hput
         exact hput.on (on_drew _)
       · exact ((Kept.of_below HH.out.2.1 _).setCell (p := ⟨p, v, none⟩) (fun _ => .inl rfl) _).drew)
  · obtain rfl : T = 1 := hT
    obtain ⟨z, hz⟩ : ∃ z, z = Q.getD v 0 := ⟨_, rfl⟩
    have c5 : w1.cell? ⟨q, v, none⟩ = some (.int .i64 z) := by
      rw [hz, h1.bq.cell v, List.getElem?_toArray, cellsI_get _ _ (by rw [h1.lq]; exact hv)]
    have f5 : w1.frozen? ⟨q, v, none⟩ = false := h1.bq.free v
    have HH := Lib.hid (And.intro h1 (And.intro bel (And.intro hw1 hz)))
    clear h1 bel hz hw1 h hb1
    go_enter Tryd.func83, Tryd.ntmps83
    go_wp2_with fail
    rw [← HH.out.2.2.1]
    go_region
    all_goals
      (go_wp2
       go_end0
       refine ⟨rfl, ?_, ?_⟩
       · have hput := HH.out.1.putq v
         rw [← HH.out.2.2.2] at hput
         exact hput.on (on_drew _)
       · exact ((Kept.of_below HH.out.2.1 _).setCell (p := ⟨q, v, none⟩) (fun _ => .inr rfl) _).drew)
end Go.Proofs.YtdnjnbfmmgkpjaaDoor

namespace Go.Proofs.YtdnjnbfmmgkpjaaDoor
open Go.RowKit

/-- how often a value occurs among symbols of a table -/
def occ (t v : Nat) (l : List Sym) : Nat := l.countP fun s => s.1 == t && s.2.1 == v
/-- counts behind the symbols l -/
def cntL (D : List Int) (t : Nat) (l : List Sym) : List Int := (List.range 256).map fun i => wrap64 (D.getD i 0 + occ t i l)
theorem cntL_len (D : List Int) (t : Nat) (l : List Sym) : (cntL D t l).length = 256 := by simp [cntL]
theorem cntL_at (D : List Int) (t : Nat) (l : List Sym) {i : Nat} (hi : i < 256) : (cntL D t l).getD i 0 = wrap64 (D.getD i 0 + occ t i l) := by
  simp [cntL, List.getD_eq_getElem?_getD, hi]
theorem wrap_wrap (a b : Int) : wrap64 (wrap64 a + b) = wrap64 (a + b) := by unfold wrap64; omega
theorem occ_more (t v : Nat) (l : List Sym) (s : Sym) : occ t v (l ++ [s]) = occ t v l + if s.1 = t ∧ s.2.1 = v then 1 else 0 := by
  unfold occ
  rw [List.countP_append, List.countP_singleton]
  by_cases h : s.1 = t ∧ s.2.1 = v
  · rw [if_pos h, if_pos (by simp [h.1, h.2])]
  · rw [if_neg h, if_neg (by simpa using h)]
theorem cntL_nil {D : List Int} (t : Nat) (hl : D.length = 256) (hD : ∀ i, isInt (D.getD i 0)) : cntL D t [] = D := by
  apply List.ext_getElem?
  intro i
  by_cases hi : i < 256
  · have h1 := cntL_at D t [] hi
    have h2 : wrap64 (D.getD i 0 + occ t i []) = D.getD i 0 := by
      have := hD i
      unfold isInt at this
      unfold wrap64 occ
      simp only [List.countP_nil]
      omega
    rw [h2] at h1
    rw [List.getD_eq_getElem?_getD, List.getD_eq_getElem?_getD, List.getElem?_eq_getElem (by rw [cntL_len]; exact hi), List.getElem?_eq_getElem (by omega)] at h1
    rw [List.getElem?_eq_getElem (by rw [cntL_len]; exact hi), List.getElem?_eq_getElem (by omega)]
    exact congrArg some h1
  · rw [List.getElem?_eq_none (by rw [cntL_len]; omega), List.getElem?_eq_none (by omega)]
theorem cntL_same (D : List Int) (t : Nat) (l : List Sym) (s : Sym) (h : s.1 ≠ t) : cntL D t (l ++ [s]) = cntL D t l := by
  unfold cntL
  apply List.map_congr_left
  intro i _
  rw [occ_more, if_neg (fun h' => h h'.1)]
  simp
theorem cntL_bump (D : List Int) (t : Nat) (l : List Sym) (s : Sym) (h : s.1 = t) (hv : s.2.1 < 256) : bump (cntL D t l) s.2.1 = cntL D t (l ++ [s]) := by
  apply List.ext_getElem?
  intro i
  have hl : (bump (cntL D t l) s.2.1).length = 256 := by unfold bump; rw [List.length_set, cntL_len]
  by_cases hi : i < 256
  · have h1 : (bump (cntL D t l) s.2.1).getD i 0 = (cntL D t (l ++ [s])).getD i 0 := by
      rw [cntL_at _ _ _ hi, occ_more]
      by_cases e : s.2.1 = i
      · rw [if_pos ⟨h, e⟩, ← e]
        unfold bump
        rw [List.getD_eq_getElem?_getD, List.getElem?_set_self (by rw [cntL_len]; exact hv), Option.getD_some, cntL_at _ _ _ hv, wrap_wrap]
        congr 1
        omega
      · rw [if_neg (fun h' => e h'.2)]
        unfold bump
        rw [List.getD_eq_getElem?_getD, List.getElem?_set_ne e, ← List.getD_eq_getElem?_getD, cntL_at _ _ _ hi]
        simp
    rw [List.getD_eq_getElem?_getD, List.getD_eq_getElem?_getD, List.getElem?_eq_getElem (by omega), List.getElem?_eq_getElem (by rw [cntL_len]; exact hi)] at h1
    rw [List.getElem?_eq_getElem (by omega), List.getElem?_eq_getElem (by rw [cntL_len]; exact hi)]
    exact congrArg some h1
  · rw [List.getElem?_eq_none (by omega), List.getElem?_eq_none (by rw [cntL_len]; omega)]


theorem calls35 (args : Array Value) (w : World) : (callFunc 83 args).run Tryd.prog w = .ok (.enter 83 args) w := by kernel_rfl

/-- counts of one's own -/
def Tallied (w : World) (prev : Int) (b : List Int) (D D' : List Int) (e : Ending) (w' : World) : Prop :=
  ∃ p q, e = .returned (.tuple #[.slice (some ⟨p, 0, none⟩) 256 256, .slice (some ⟨q, 0, none⟩) 256 256, .int .i64 0]) ∧ Box w' p 3 (cellsI (cntL D 0 (allS prev b))).toArray ∧ Box w' q 3 (cellsI (cntL D' 1 (allS prev b))).toArray ∧ p ≠ q ∧ w.heap.size ≤ p ∧ w.heap.size ≤ q ∧ Below w.heap.size w w'

section
variable (w : World) (A A' : Option Addr) (n c n' c' : Nat) (prev : Int) (b : List Int)

theorem build71 (w : World) (p q : Nat) : (Instr.build 168 #[(0, .slice (some ⟨p, 0, none⟩) 256 256), (1, .slice (some ⟨q, 0, none⟩) 256 256)]).run Tryd.prog w = .ok (.agg #[.slice (some ⟨p, 0, none⟩) 256 256, .slice (some ⟨q, 0, none⟩) 256 256]) w := run_build w 168 _ _ (by show Program.built _ _ _ = _; kernel_rfl)

set_option maxRecDepth 10000 in
set_option maxHeartbeats 1600000 in
theorem tally_done (D D' : List Int) (hT : Tab w) (hn : n = 256) (hn' : n' = 256) (hb : b.length = 64) (hp : In prev) (hr : RightB b) (hD : Ia w A n c D) (hD' : Ia w A' n' c' D') (hi : ∀ i, isInt (D.getD i 0)) (hi' : ∀ i, isInt (D'.getD i 0)) :
    Calls Tryd.prog 67 #[.slice A n c, .slice A' n' c', .int .i64 prev, blkV b] w (Tallied w prev b D D') := by
  subst hn hn'
  have hvc : blkV b = .agg (cellsI b).toArray := rfl
  rw [hvc]
  obtain ⟨w1, hw1⟩ : ∃ w1, w1 = w.alloc (.cells (cellsI b).toArray 25) := ⟨_, rfl⟩
  have bel : Below w.heap.size w w1 := by rw [hw1]; exact on_alloc _ _
  have hB : Blk w1 w.heap.size b := ⟨by rw [hw1]; exact Box.made _ _ _, hb⟩
  have hd1 : decide (In prev) = true := by simpa using hp
  have hd2 : decide (RightB b) = true := by simpa using hr
  have HD := Lib.hid (And.intro hd1 (And.intro hd2 (And.intro hp hr)))
  have HL := Lib.hid hB.load
  have HZ := Lib.hid hT.zero
  have HB := Lib.hid (And.intro hB (And.intro bel (And.intro hw1 (hT.on bel))))
  have HI := Lib.hid (And.intro hb (And.intro (hD.on bel) (And.intro (hD'.on bel) (And.intro hi hi'))))
  clear hB bel hw1 hb hvc hd1 hd2 hp hr hT hD hD' hi hi'
  go_enter Tryd.func67, Tryd.ntmps67
  go_wp2_with fail
  rw [← HB.out.2.2.1]
  refine (inRange_any _ prev).mono ?_
  rintro e w2 ⟨rfl, rfl⟩
  rw [HD.out.1]
  go_wp2_with (first
    | ((with_reducible refine wpList_load_when (op := ⟨some 24, _, _, _, _, _⟩) ?hw 25 (.tmp 7) rfl (.pointer (some ⟨w.heap.size, 0, none⟩)) rfl (blkV b) HL.out ?_)
       case hw => rfl)
    | fail)
  refine (right64_any _ b HI.out.1).mono ?_
  rintro e w2 ⟨rfl, b2⟩
  rw [HD.out.2.1]
  have H2 := Lib.hid (And.intro (HB.out.1.on b2) (And.intro (on_trans HB.out.2.1 b2) (And.intro (HI.out.2.1.on b2) (And.intro (HI.out.2.2.1.on b2) (HB.out.2.2.2.on b2)))))
  clear b2
  go_wp2_with fail
  refine (copiedC_any w2 A 256 c D H2.out.2.2.1 (by omega)).mono ?_
  rintro e w3 ⟨rfl, hb3, b3⟩
  have H3 := Lib.hid (And.intro hb3 (And.intro b3 (And.intro (H2.out.1.on b3) (And.intro (H2.out.2.2.2.1.on b3) (H2.out.2.2.2.2.on b3)))))
  clear hb3 b3
  go_wp2_with fail
  refine (copiedC_any w3 A' 256 c' D' H3.out.2.2.2.1 (by omega)).mono ?_
  rintro e w4 ⟨rfl, hb4, b4⟩
  have H4 := Lib.hid (And.intro (H3.out.1.on b4) (And.intro hb4 (And.intro (on_trans (on_trans H2.out.2.1 H3.out.2.1) b4) (And.intro (H3.out.2.2.1.on b4) (And.intro (H3.out.2.2.2.2.on b4) b4)))))
  clear hb4 b4
  obtain ⟨p, hp⟩ : ∃ p, p = w2.heap.size := ⟨_, rfl⟩
  obtain ⟨q, hq⟩ : ∃ q, q = w3.heap.size := ⟨_, rfl⟩
  rw [← hp, ← hq] at H4 ⊢
  have hz71 : ∀ w, (zeroValue 168).run Tryd.prog w = .ok (.agg #[.slice none 0 0, .slice none 0 0]) w := fun w => by kernel_rfl
  have HP := Lib.hid (And.intro hp hq)
  clear hp hq
  have hbl := build71
  obtain ⟨cb, hcb⟩ : ∃ cb, cb = w4.heap.size := ⟨_, rfl⟩
  obtain ⟨w5, hw5⟩ : ∃ w5, w5 = w4.alloc (.cells #[.slice (some ⟨p, 0, none⟩) 256 256, .slice (some ⟨q, 0, none⟩) 256 256] 168) := ⟨_, rfl⟩
  have b5 : Below w4.heap.size w4 w5 := by rw [hw5]; exact on_alloc _ _
  have hbox : Box w5 cb 168 #[.slice (some ⟨p, 0, none⟩) 256 256, .slice (some ⟨q, 0, none⟩) 256 256] := by rw [hw5, hcb]; exact Box.made _ _ _
  have H5 := Lib.hid (And.intro hbox (And.intro b5 (And.intro hw5 hcb)))
  have HL5 := Lib.hid (show (Instr.loadAt 25 (.pointer (some ⟨w.heap.size, 0, none⟩))).run Tryd.prog (w4.alloc (.cells #[.slice (some ⟨p, 0, none⟩) 256 256, .slice (some ⟨q, 0, none⟩) 256 256] 168)) = .ok (blkV b) (w4.alloc (.cells #[.slice (some ⟨p, 0, none⟩) 256 256, .slice (some ⟨q, 0, none⟩) 256 256] 168)) by rw [← hw5]; exact (H4.out.2.2.2.1.on b5).load)
  have hmf : ∀ (fn : Fn) (first cap : Array Value) (w : World), (Instr.makeFunc fn first cap).run Tryd.prog w = .ok (.func fn first cap) w := fun _ _ _ _ => rfl
  clear hbox b5 hw5 hcb
  go_wp2_with (first
    | (with_reducible refine wpList_load_to (op := ⟨some 34, _, _, _, _, _⟩) rfl 25 (.tmp 7) rfl (.pointer (some ⟨w.heap.size, 0, none⟩)) rfl (blkV b) HL5.out ?_)
    | fail)
  rw [← H5.out.2.2.1, ← H5.out.2.2.2]
  have hle2 := H2.out.2.1.size
  have hle3 := H3.out.2.1.size
  have hle4 := H4.out.2.2.2.2.2.size
  have hle5 := H5.out.2.1.size
  have hl3 := H3.out.1.lt
  have hl4 := H4.out.2.1.lt
  have hp := HP.out.1
  have hq := HP.out.2
  have hDl := H2.out.2.2.1.len
  have hDl' := H3.out.2.2.2.1.len
  have hcn : Cnts w5 cb p q (cntL D 0 []) (cntL D' 1 []) := by
    rw [cntL_nil 0 hDl HI.out.2.2.2.1, cntL_nil 1 hDl' HI.out.2.2.2.2]
    refine ⟨H5.out.1, ?_, ?_, hDl, hDl', by omega⟩
    · exact H4.out.1.on H5.out.2.1
    · exact H4.out.2.1.on H5.out.2.1
  have hzero := HZ.out
  refine (each_any (fun i => i = p ∨ i = q) (fun l w => Cnts w cb p q (cntL D 0 l) (cntL D' 1 l)) 83 #[.pointer (some ⟨cb, 0, none⟩)] calls35 (fun l w1 w2 h k => h.on k) w5 prev b (H4.out.2.2.2.2.1.on H5.out.2.1) HI.out.1 HD.out.2.2.2 HD.out.2.2.1 ?_ hcn ?_).mono ?_
  · intro i hi
    have hi : i = p ∨ i = q := hi
    omega
  · intro l s w6 ⟨r, hr⟩ hc hk
    have hs : SymOk s := allS_ok HD.out.2.2.2 HD.out.2.2.1 s (by rw [← hr]; simp)
    refine (tally1_any w6 cb p q _ _ s hs hc).mono ?_
    rintro e w7 ⟨rfl, h7, k7⟩
    refine ⟨rfl, ?_, k7⟩
    by_cases h0 : s.1 = 0
    · rw [if_pos h0, if_pos h0, cntL_bump D 0 l s h0 hs.val] at h7
      rw [cntL_same D' 1 l s (by omega)]
      exact h7
    · rw [if_neg h0, if_neg h0, cntL_bump D' 1 l s (by have := hs.tab; omega) hs.val] at h7
      rw [cntL_same D 0 l s h0]
      exact h7
  · rintro e w6 ⟨rfl, hc6, k6⟩
    have c0 : w6.cell? ⟨cb, 0, none⟩ = some (.slice (some ⟨p, 0, none⟩) 256 256) := hc6.box.cell 0
    have c1 : w6.cell? ⟨cb, 1, none⟩ = some (.slice (some ⟨q, 0, none⟩) 256 256) := hc6.box.cell 1
    have H6 := Lib.hid (And.intro hc6 k6)
    have HW := Lib.hid (And.intro hle2 (And.intro hle3 (And.intro hle4 (And.intro hle5 (And.intro hl3 (And.intro hp hq))))))
    clear hc6 k6 hcn hDl hDl' hle2 hle3 hle4 hle5 hl3 hp hq hzero
    go_wp2
    go_region
    all_goals
      (go_wp2
       go_ret3
       obtain ⟨hle2, hle3, hle4, hle5, hl3, hp, hq⟩ := HW.out
       have hb5 := on_trans H4.out.2.2.1 H5.out.2.1
       exact ⟨p, q, rfl, H6.out.1.bp.drewN _, H6.out.1.bq.drewN _, H6.out.1.ne, by omega, by omega, hb5.trans ((H6.out.2.drewN _).below hb5.size (fun i hi h => by rcases h with rfl | rfl <;> omega))⟩)

end
end Go.Proofs.YtdnjnbfmmgkpjaaDoor

namespace Go.Proofs.YtdnjnbfmmgkpjaaDoor
open Go.RowKit

theorem zeros_at (k : Nat) : (List.replicate 64 (0 : Int)).getD k 0 = 0 := by
  rw [List.getD_eq_getElem?_getD]
  by_cases h : k < 64
  · rw [List.getElem?_replicate_of_lt h]; rfl
  · rw [List.getElem?_eq_none (by simp; omega)]; rfl
theorem zeros_right : RightB (List.replicate 64 0) := fun j _ => by rw [zeros_at]; decide
end Go.Proofs.YtdnjnbfmmgkpjaaDoor



namespace Go.Proofs.YtdnjnbfmmgkpjaaDoor
open Go.RowKit

/-- a symbol's bits: the code of its value, and the bits of its number -/
def symBits (L : List En) (s : Sym) : List Int := dig (codeOf L s.2.1).1 (codeOf L s.2.1).2 ++ dig (numB s.2.2) (sz s.2.2)
theorem may_num (z : Int) (h : sz z ≤ 24) : mayPut (numB z : Int) (sz z : Int) := by
  unfold mayPut
  rw [Int.toNat_natCast, show ((2 : Int) ^ sz z) = ((2 ^ sz z : Nat) : Int) by simp]
  have := numB_lt z
  omega
theorem code_len {B V : List Int} (hv : Valid B V) (v : Int) : (codeOf (codes B V) v).2 ≤ 16 := by
  unfold codeOf
  cases ho : fnd (codes B V) v with
  | none => exact Nat.zero_le _
  | some en =>
    obtain ⟨_, h2, _⟩ := hv.code (fnd_some ho).1
    exact h2

end Go.Proofs.YtdnjnbfmmgkpjaaDoor

namespace Go.Proofs.YtdnjnbfmmgkpjaaDoor
open Go.RowKit

theorem yieldsIf_load7 {ops : Array Oper} {S : World → Prop} {op : Oper} {a : Act} (hw : Region.wanted op (yielded ops a.tmps) = true) (t : TypeId) (x : Operand) (ho : op.op = .load t x) (u : Value) (hx : a.eval x = u) (v : Value)
    (h : ∀ w, S w → (Instr.loadAt t u).run Tryd.prog w = .ok v w) : YieldsIf Tryd.prog ops S op v a :=
  .inl ⟨hw, fun w hS => by
    unfold execOp
    simp only [ho, hx, Sem.run_bind, h w hS, Result.andThen_ok, Sem.run_pure]⟩
theorem code_pos {B V : List Int} (hv : Valid B V) (v : Int) : (fnd (codes B V) v).isSome = decide (0 < (codeOf (codes B V) v).2) := by
  unfold codeOf
  cases ho : fnd (codes B V) v with
  | none => rfl
  | some en =>
    obtain ⟨h1, _⟩ := hv.code (fnd_some ho).1
    have : 0 < en.2.2 := h1
    simpa using this

section
variable (w : World) (g11 g12 lo hi t : Nat) (B V : List Int) (s : Sym) (f : Bool) (C11 : Array Value)
set_option maxRecDepth 10000 in
set_option maxHeartbeats 1600000 in
theorem put1_any (h : Tb w lo hi t B V (codes B V)) (hv : Valid B V) (h11 : w.cell? ⟨g11, s.1, none⟩ = some (.pointer (some ⟨t, 0, none⟩))) (hs : s.1 < 2) (h12 : Box w g12 4 #[.bool f]) :
    Calls Tryd.prog 53 #[symV s, .pointer (some ⟨g11, 0, none⟩), .pointer (some ⟨g12, 0, none⟩)] w fun e w' => e = .returned (.tuple #[]) ∧ Box w' g12 4 #[.bool (f && (fnd (codes B V) (s.2.1 : Int)).isSome)] ∧ Kept (fun i => i = g12) w w' := by
  rw [code_pos hv]
  obtain ⟨tt, v, z⟩ := s
  dsimp only at hs h11 ⊢
  have hg11 : g11 < w.heap.size := World.block_lt_of_cell? w _ h11
  obtain ⟨w1, hw1⟩ : ∃ w1, w1 = w.alloc (.cells #[.int .i64 (tt : Int), .int .i64 (v : Int), .int .i64 z] 123) := ⟨_, rfl⟩
  have bel : Below w.heap.size w w1 := by rw [hw1]; exact on_alloc _ _
  have hb : Box w1 w.heap.size 123 #[.int .i64 (tt : Int), .int .i64 (v : Int), .int .i64 z] := by rw [hw1]; exact Box.made _ _ _
  have HH := Lib.hid (And.intro hb (And.intro bel (And.intro hw1 (And.intro (h.on bel) (And.intro hv (And.intro (h12.on bel) (fun w' (b : Below w1.heap.size w1 w') => (show w'.cell? ⟨g11, tt, none⟩ = some (.pointer (some ⟨t, 0, none⟩)) from ((on_trans bel b).cell (p := ⟨g11, tt, none⟩) hg11).trans h11))))))))
  have hti : (tt : Int) < 2 := by omega
  have hsv : symV (tt, v, z) = .agg #[.int .i64 (tt : Int), .int .i64 (v : Int), .int .i64 z] := rfl
  rw [hsv]
  clear hsv hb bel hw1 h hv h11 hs h12 hg11
  go_enter Tryd.func53, Tryd.ntmps53
  go_wp2_with fail
  rw [← HH.out.2.2.1]
  have q0 : Hid (Below w1.heap.size w1 w1.drew) := Lib.hid (on_drew w1)
  refine wp_region_held_drew (S := fun w' => Hid (Below w1.heap.size w1 w')) (by kernel_rfl) q0 fun q0 => ?_
  refine take_to (i := 0) (v := .pointer (some ⟨w.heap.size, 0, none⟩)) rfl (by kernel_rfl) (by kernel_rfl) (by kernel_rfl) (fun _ _ _ h => h) (Or.inl ⟨by rfl, fun w' hS => by go_simp⟩) q0 (some 8) rfl ?_
  try simp only [Act.put, List.setIfInBounds_toArray, List.set_cons_zero, List.set_cons_succ]
  refine take_to (i := 1) (v := .int .i64 (tt : Int)) rfl (by kernel_rfl) (by kernel_rfl) (by kernel_rfl) (fun _ _ _ h => h) (Or.inl ⟨by rfl, fun w' hS => by have := (HH.out.1.on hS.out).cell 0; go_simp⟩) q0 (some 9) rfl ?_
  try simp only [Act.put, List.setIfInBounds_toArray, List.set_cons_zero, List.set_cons_succ]
  refine take_to (i := 2) (v := .pointer (some ⟨g11, tt, none⟩)) rfl (by kernel_rfl) (by kernel_rfl) (by kernel_rfl) (fun _ _ _ h => h) (Or.inl ⟨by rfl, fun w' hS => by go_simp⟩) q0 (some 10) rfl ?_
  try simp only [Act.put, List.setIfInBounds_toArray, List.set_cons_zero, List.set_cons_succ]
  refine take_to (i := 3) (v := .pointer (some ⟨t, 0, none⟩)) rfl (by kernel_rfl) (by kernel_rfl) (by kernel_rfl) (fun _ _ _ h => h) (Or.inl ⟨by rfl, fun w' hS => by have := HH.out.2.2.2.2.2.2 w' hS.out; go_simp⟩) q0 (some 11) rfl ?_
  try simp only [Act.put, List.setIfInBounds_toArray, List.set_cons_zero, List.set_cons_succ]
  refine take_to (i := 4) (v := .pointer (some ⟨w.heap.size, 1, none⟩)) rfl (by kernel_rfl) (by kernel_rfl) (by kernel_rfl) (fun _ _ _ h => h) (Or.inl ⟨by rfl, fun w' hS => by go_simp⟩) q0 (some 12) rfl ?_
  try simp only [Act.put, List.setIfInBounds_toArray, List.set_cons_zero, List.set_cons_succ]
  refine take_to (i := 5) (v := .int .i64 (v : Int)) rfl (by kernel_rfl) (by kernel_rfl) (by kernel_rfl) (fun _ _ _ h => h) (Or.inl ⟨by rfl, fun w' hS => by have := (HH.out.1.on hS.out).cell 1; go_simp⟩) q0 (some 13) rfl ?_
  try simp only [Act.put, List.setIfInBounds_toArray, List.set_cons_zero, List.set_cons_succ]
  refine wpAnyH_ready (rs := [6]) (by kernel_rfl) (by simp) ?_
  refine AllReadyH.cons rfl (fun K hK => ?_) AllReadyH.nil
  go_simp
  refine (code_any _ lo hi t B V _ (v : Int) (HH.out.2.2.2.1.on q0.out) (valid_vals HH.out.2.2.2.2.1)).mono ?_
  rintro e w3 ⟨rfl, b3⟩
  have q1 : Hid (Below w1.heap.size w1 w3) := Lib.hid (on_trans q0.out b3)
  clear b3
  obtain ⟨x, hx⟩ : ∃ x, x = codeOf (codes B V) (v : Int) := ⟨_, rfl⟩
  rw [← hx]
  refine hK.out _ _ q1 fun _ => ?_
  clear hK K
  try simp only [Act.put, List.setIfInBounds_toArray, List.set_cons_zero, List.set_cons_succ]
  refine take_to (i := 7) (v := .tuple #[.int .i64 (x.1 : Int), .int .i64 (x.2 : Int), .bool (decide (0 < x.2))]) rfl (by kernel_rfl) (by kernel_rfl) (by kernel_rfl) (fun _ _ _ h => h) (Or.inl ⟨by rfl, fun w' hS => by go_simp⟩) q1 (some 7) rfl ?_
  try simp only [Act.put, List.setIfInBounds_toArray, List.set_cons_zero, List.set_cons_succ]
  refine take_to (i := 8) (v := .int .i64 (x.1 : Int)) rfl (by kernel_rfl) (by kernel_rfl) (by kernel_rfl) (fun _ _ _ h => h) (Or.inl ⟨by rfl, fun w' hS => by go_simp⟩) q1 (some 15) rfl ?_
  try simp only [Act.put, List.setIfInBounds_toArray, List.set_cons_zero, List.set_cons_succ]
  refine take_to (i := 9) (v := .int .i64 (x.2 : Int)) rfl (by kernel_rfl) (by kernel_rfl) (by kernel_rfl) (fun _ _ _ h => h) (Or.inl ⟨by rfl, fun w' hS => by go_simp⟩) q1 (some 16) rfl ?_
  try simp only [Act.put, List.setIfInBounds_toArray, List.set_cons_zero, List.set_cons_succ]
  refine take_to (i := 10) (v := .bool (decide (0 < x.2))) rfl (by kernel_rfl) (by kernel_rfl) (by kernel_rfl) (fun _ _ _ h => h) (Or.inl ⟨by rfl, fun w' hS => by go_simp⟩) q1 (some 17) rfl ?_
  try simp only [Act.put, List.setIfInBounds_toArray, List.set_cons_zero, List.set_cons_succ]
  refine take_to (i := 11) (v := .int .i64 (x.1 : Int)) rfl (by kernel_rfl) (by kernel_rfl) (by kernel_rfl) (fun _ _ _ h => h) (Or.inl ⟨by rfl, fun w' hS => by go_simp⟩) q1 (some 4) rfl ?_
  try simp only [Act.put, List.setIfInBounds_toArray, List.set_cons_zero, List.set_cons_succ]
  refine take_to (i := 12) (v := .int .i64 (x.2 : Int)) rfl (by kernel_rfl) (by kernel_rfl) (by kernel_rfl) (fun _ _ _ h => h) (Or.inl ⟨by rfl, fun w' hS => by go_simp⟩) q1 (some 5) rfl ?_
  try simp only [Act.put, List.setIfInBounds_toArray, List.set_cons_zero, List.set_cons_succ]
  refine take_to (i := 13) (v := .bool (decide (0 < x.2))) rfl (by kernel_rfl) (by kernel_rfl) (by kernel_rfl) (fun _ _ _ h => h) (Or.inl ⟨by rfl, fun w' hS => by go_simp⟩) q1 (some 6) rfl ?_
  try simp only [Act.put, List.setIfInBounds_toArray, List.set_cons_zero, List.set_cons_succ]
  refine wpAnyH_done (by kernel_rfl) ?_ _
  obtain ⟨fo, hfo⟩ : ∃ fo, fo = decide (0 < x.2) := ⟨_, rfl⟩
  rw [← hfo]
  rw [hx] at hfo
  have HFO := Lib.hid hfo
  clear hfo hx q0
  have H3 := Lib.hid (And.intro (HH.out.2.2.2.2.2.1.on q1.out) (on_trans HH.out.2.1 q1.out))
  have c0 : w3.cell? ⟨g12, 0, none⟩ = some (.bool f) := H3.out.1.cell 0
  have f0 := H3.out.1.free 0
  have hk : Kept (fun i => i = g12) w (w3.setCell ⟨g12, 0, none⟩ (.bool (f && fo))) := (Kept.of_below H3.out.2 (fun i => i = g12)).trans ((Kept.refl (fun i => i = g12) w3).setCell (p := ⟨g12, 0, none⟩) (fun _ => rfl) _) (fun _ _ h => h)
  have HK := Lib.hid (And.intro hk (H3.out.1.put 0 (.bool (f && fo))))
  clear hk
  cases f
  · go_wp2
    go_end0
    exact ⟨rfl, by rw [← HFO.out]; exact HK.out.2, HK.out.1⟩
  · cases fo
    · go_wp2
      go_end0
      exact ⟨rfl, by rw [← HFO.out]; exact HK.out.2, HK.out.1⟩
    · go_wp2
      go_end0
      exact ⟨rfl, by rw [← HFO.out]; exact HK.out.2, HK.out.1⟩
end
theorem sym74_size : (Tryd.prog.info? 123).map (·.size) = some 3 := by kernel_rfl
theorem load74 {w : World} {g : Nat} {cs : Array Value} (h : Box w g 123 cs) (hs : cs.size = 3) : (Instr.loadAt 123 (.pointer (some ⟨g, 0, none⟩))).run Tryd.prog w = .ok (.agg cs) w := by
  have := run_loadAt_mid w g 0 123 cs.toList _ (fun j u hu => by rw [Nat.zero_add, h.cell j]; simpa using hu) Tryd.underlying123 rfl (by rw [sym74_size]; simp [hs])
  simpa using this

end Go.Proofs.YtdnjnbfmmgkpjaaDoor

namespace Go.Proofs.YtdnjnbfmmgkpjaaDoor
open Go.RowKit

/-- has a symbol's value a code in its table? -/
def foundS (Ld La : List En) (s : Sym) : Bool := (fnd (if s.1 = 0 then Ld else La) (s.2.1 : Int)).isSome
/-- a symbol's bits, by the table it belongs to -/
def symB (Ld La : List En) (s : Sym) : List Int := symBits (if s.1 = 0 then Ld else La) s
/-- the bits of symbols -/
def bitsOf (Ld La : List En) (l : List Sym) : List Int := (l.map (symB Ld La)).flatten
theorem bitsOf_snoc (Ld La : List En) (l : List Sym) (s : Sym) : bitsOf Ld La (l ++ [s]) = bitsOf Ld La l ++ symB Ld La s := by simp [bitsOf]
theorem bitsOf_cons (Ld La : List En) (l : List Sym) (s : Sym) : bitsOf Ld La (s :: l) = symB Ld La s ++ bitsOf Ld La l := by simp [bitsOf]
/-- what Put answers -/
def putBE (Ld La : List En) (prev : Int) (b : List Int) : Int := if In prev ∧ RightB b then (if (allS prev b).all (foundS Ld La) then 0 else 6) else 2
/-- the bits behind a Put -/
def putBL (Ld La : List En) (bs : List Int) (prev : Int) (b : List Int) : List Int := if putBE Ld La prev b = 0 then bs ++ bitsOf Ld La (allS prev b) else bs

section
variable {B V B' V' : List Int}
theorem symB_len (hv : Valid B V) (hv' : Valid B' V') {s : Sym} (h : s.2.2.natAbs ≤ 2046) : (symB (codes B V) (codes B' V') s).length ≤ 27 := by
  unfold symB symBits
  have h1 := diff_size h
  rw [List.length_append, dig_len, dig_len]
  split
  · have := code_len hv (s.2.1 : Int)
    omega
  · have := code_len hv' (s.2.1 : Int)
    omega
theorem bitsOf_len (hv : Valid B V) (hv' : Valid B' V') : ∀ (l : List Sym), (∀ s ∈ l, SymOk s) → (bitsOf (codes B V) (codes B' V') l).length ≤ 27 * l.length
  | [], _ => Nat.le_refl _
  | s :: l, h => by
    rw [bitsOf_cons, List.length_append, List.length_cons]
    have h1 := symB_len hv hv' (h s (by simp)).num
    have h2 := bitsOf_len hv hv' l (fun x hx => h x (by simp [hx]))
    omega
end

/-- two tables in memory, and a cell that holds both -/
structure TwoT (w : World) (g11 lo hi t lo' hi' t' : Nat) (B V B' V' : List Int) : Prop where
  c0 : w.cell? ⟨g11, 0, none⟩ = some (.pointer (some ⟨t, 0, none⟩))
  c1 : w.cell? ⟨g11, 1, none⟩ = some (.pointer (some ⟨t', 0, none⟩))
  t1 : Tb w lo hi t B V (codes B V)
  t2 : Tb w lo' hi' t' B' V' (codes B' V')
section
variable {w w' : World} {g11 lo hi t lo' hi' t' : Nat} {B V B' V' : List Int}
theorem TwoT.lt (h : TwoT w g11 lo hi t lo' hi' t' B V B' V') : g11 < w.heap.size := World.block_lt_of_cell? w _ h.c0
theorem TwoT.on (h : TwoT w g11 lo hi t lo' hi' t' B V B' V') (k : Below w.heap.size w w') : TwoT w' g11 lo hi t lo' hi' t' B V B' V' :=
  ⟨(k.cell (p := ⟨g11, 0, none⟩) h.lt).trans h.c0, (k.cell (p := ⟨g11, 1, none⟩) h.lt).trans h.c1, h.t1.on k, h.t2.on k⟩
theorem TwoT.kept {S : Nat → Prop} (h : TwoT w g11 lo hi t lo' hi' t' B V B' V') (k : Kept S w w') (h1 : ¬ S g11) (h2 : ∀ b, lo ≤ b → b < hi → ¬ S b) (h3 : ∀ b, lo' ≤ b → b < hi' → ¬ S b) : TwoT w' g11 lo hi t lo' hi' t' B V B' V' :=
  ⟨(k.cell (p := ⟨g11, 0, none⟩) h.lt h1).trans h.c0, (k.cell (p := ⟨g11, 1, none⟩) h.lt h1).trans h.c1, h.t1.kept k h2, h.t2.kept k h3⟩
end

theorem calls41 (args : Array Value) (w : World) : (callFunc 53 args).run Tryd.prog w = .ok (.enter 53 args) w := by kernel_rfl
theorem calls43 (args : Array Value) (w : World) : (callFunc 55 args).run Tryd.prog w = .ok (.enter 55 args) w := by kernel_rfl

section
variable {w : World} {g11 g12 g13 g5 d lo hi t lo' hi' t' : Nat} {B V B' V' bs : List Int} {s : Sym} {f : Bool}
theorem one_step (h : TwoT w g11 lo hi t lo' hi' t' B V B' V') (hv : Valid B V) (hv' : Valid B' V') (hs : SymOk s) (h12 : Box w g12 4 #[.bool f]) (hn : g12 ≠ g11) (h2 : g12 < lo ∨ hi ≤ g12) (h3 : g12 < lo' ∨ hi' ≤ g12) :
    Calls Tryd.prog 53 (#[symV s] ++ #[.pointer (some ⟨g11, 0, none⟩), .pointer (some ⟨g12, 0, none⟩)]) w fun e w' => e = .returned (.tuple #[]) ∧ (TwoT w' g11 lo hi t lo' hi' t' B V B' V' ∧ Box w' g12 4 #[.bool (f && foundS (codes B V) (codes B' V') s)]) ∧ Kept (fun i => i = g12) w w' := by
  unfold foundS
  by_cases h0 : s.1 = 0
  · rw [if_pos h0]
    refine (put1_any w g11 g12 lo hi t B V s f h.t1 hv (by rw [h0]; exact h.c0) hs.tab h12).mono ?_
    rintro e w' ⟨rfl, hb, k⟩
    exact ⟨rfl, ⟨h.kept k (fun e => hn e.symm) (fun b _ _ e => by omega) (fun b _ _ e => by omega), hb⟩, k⟩
  · have h1 : s.1 = 1 := by have := hs.tab; omega
    rw [if_neg h0]
    refine (put1_any w g11 g12 lo' hi' t' B' V' s f h.t2 hv' (by rw [h1]; exact h.c1) hs.tab h12).mono ?_
    rintro e w' ⟨rfl, hb, k⟩
    exact ⟨rfl, ⟨h.kept k (fun e => hn e.symm) (fun b _ _ e => by omega) (fun b _ _ e => by omega), hb⟩, k⟩
end

end Go.Proofs.YtdnjnbfmmgkpjaaDoor

namespace Go.Proofs.YtdnjnbfmmgkpjaaDoor
open Go.RowKit

theorem own_block3 {w : World} {base e size n i : Nat} {v : Value} {xs : List Value} (h : w.ownsRow base e size v n xs) (hi : v.ownBlock = some i) : base ≤ i ∧ ∃ cs, w.heap[i]? = some (.cells cs e (0, 0)) := by
  rcases h.2 with ⟨rfl, _⟩ | ⟨g, cap, cur, rfl, hg, hh, _⟩
  · cases hi
  · cases hi
    exact ⟨hg, _, hh⟩


end Go.Proofs.YtdnjnbfmmgkpjaaDoor

