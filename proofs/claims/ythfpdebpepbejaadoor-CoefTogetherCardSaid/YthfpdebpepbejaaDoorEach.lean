/-
  The contract of each, over the contract of the function that sees the symbols.
-/
import Derived.Test.YthfpdebpepbejaaDoorSymMath
namespace Go.Proofs.YthfpdebpepbejaaDoor
open Go.RowKit

/-- a symbol as a value -/
def symV (s : Sym) : Value := .agg #[.int .i64 (s.1 : Int), .int .i64 (s.2.1 : Int), .int .i64 s.2.2]

/-- how things stand when the symbols l have been seen -/
structure Seen (S : Nat → Prop) (Inv : List Sym → World → Prop) (w1 wr : World) (l : List Sym) : Prop where
  inv : Inv l wr
  kept : Kept S w1 wr

theorem symsF_nil (b : List Int) (i run : Nat) : symsF b 0 i run = if 0 < run then [(1, 0, 0)] else [] := rfl
theorem cons_pre {l r a : List Sym} {s : Sym} (h : l ++ s :: r = a) : ∃ q, l ++ [s] ++ q = a := ⟨r, by rw [← h]; simp⟩

section
variable (S : Nat → Prop) (Inv : List Sym → World → Prop) (G : FuncId) (caps : Array Value)

set_option maxRecDepth 10000 in
set_option maxHeartbeats 3200000 in
theorem each_any (hcf : ∀ (args : Array Value) (w : World), (callFunc G args).run Tryd.prog w = .ok (.enter G args) w)
    (hon : ∀ l w1 w2, Inv l w1 → Below w1.heap.size w1 w2 → Inv l w2)
    (w : World) (prev : Int) (b : List Int) (hT : Tab w) (hb : b.length = 64) (hr : RightB b) (hp : In prev) (hS : ∀ i, S i → i < w.heap.size ∧ i ≠ 0) (h0 : Inv [] w)
    (hstep : ∀ l s w1, (∃ q, l ++ [s] ++ q = allS prev b) → Inv l w1 → Kept S w w1 → Calls Tryd.prog G (#[symV s] ++ caps) w1 fun e w2 => e = .returned (.tuple #[]) ∧ Inv (l ++ [s]) w2 ∧ Kept S w1 w2) :
    Calls Tryd.prog 34 #[.int .i64 prev, blkV b, .func (.func G) #[] caps] w fun e w' => e = .returned (.tuple #[]) ∧ Inv (allS prev b) w' ∧ Kept S w w' := by
  obtain ⟨g, hg⟩ : ∃ g, g = w.heap.size := ⟨_, rfl⟩
  obtain ⟨w1, hw1⟩ : ∃ w1, w1 = w.alloc (.cells (cellsI b).toArray 23) := ⟨_, rfl⟩
  have bel : Below w.heap.size w w1 := by rw [hw1]; exact on_alloc _ _
  have hB : Blk w1 g b := ⟨by rw [hw1, hg]; exact Box.made _ _ _, hb⟩
  have hgS : ¬ S g := fun h => by have := (hS g h).1; omega
  have h0S : ¬ S 0 := fun h => (hS 0 h).2 rfl
  have hT1 := hT.on bel
  obtain ⟨d, hd⟩ : ∃ d, d = b.getD 0 0 - prev := ⟨_, rfl⟩
  have c0 := hB.cell (k := 0) (by omega)
  have hdn := diff_small hr hp
  obtain ⟨x, hx⟩ : ∃ x, x = b.getD 0 0 := ⟨_, rfl⟩
  have hxr := hr 0 (by omega)
  rw [← hx] at c0 hd hdn hxr
  rw [← hd] at hdn
  have hall : allS prev b = (0, sz d, d) :: symsF b 63 1 0 := by rw [hd, hx]; rfl
  have hszd := diff_size hdn
  have HH := Lib.hid (And.intro hB (And.intro bel (And.intro hT1 (And.intro hgS (And.intro h0S (And.intro hw1 hg))))))
  have HA := Lib.hid (And.intro hall (And.intro hr (And.intro hszd hdn)))
  have HS := Lib.hid hstep
  have HO := Lib.hid hon
  have h1 := hon _ _ _ h0 bel
  have HI := Lib.hid (Seen.mk (S := S) (Inv := Inv) h1 (Kept.refl S w1))
  have HK := Lib.hid (fun wr (h : Kept S w1 wr) => (Kept.of_below bel S).trans h (fun _ _ h => h))
  have hxp : x - prev = d := hd.symm
  obtain ⟨cs, hcs⟩ : ∃ cs, cs = (cellsI b).toArray := ⟨_, rfl⟩
  have hvc : blkV b = .agg cs := by rw [hcs]; rfl
  rw [hvc]
  have HV := Lib.hid hcs
  unfold In at hp hxr
  obtain ⟨p0, p1⟩ := hp
  obtain ⟨x0, x1⟩ := hxr
  have c0' : (w.alloc (.cells cs 23)).cell? ⟨w.heap.size, 0, none⟩ = some (.int .i64 x) := by rw [hcs, ← hw1, ← hg]; exact c0
  clear hB bel hT1 hgS h0S hw1 hall hr hszd hstep hon h0 h1 hcs hvc hT hS hg hb hd hx c0
  go_enter Tryd.func34, Tryd.ntmps34
  go_wp2_with fail
  refine (size_any _ d (by unfold isInt; omega)).mono ?_
  rintro e w2 ⟨rfl, rfl⟩
  rw [HV.out, ← HH.out.2.2.2.2.2.1, ← HH.out.2.2.2.2.2.2]
  clear c0'
  have C1 := Lib.hid (HS.out [] (0, sz d, d) w1 ⟨_, by rw [HA.out.1]; rfl⟩ HI.out.inv (HK.out _ HI.out.kept))
  go_wp2_with fail
  refine C1.out.mono ?_
  rintro e w2 ⟨rfl, hi2, hk2⟩
  have H2 := Lib.hid (Seen.mk (S := S) (Inv := Inv) (w1 := w1) hi2 (HI.out.kept.trans hk2 (fun _ _ h => h)))
  clear hi2 hk2 C1
  go_wp2_with fail
  go_loopw [7, 8] (fun r i wr => ∃ (k run : Nat) (l : List Sym), 1 ≤ k ∧ k ≤ 64 ∧ run < k ∧ i = .int .i64 (k : Int) ∧ r = .int .i64 (run : Int) ∧ l ++ symsF b (64 - k) k run = allS prev b ∧ Seen S Inv w1 wr l) (fun _ i _ => 64 - (intOf i).toNat)
  case atStart => exact ⟨1, 0, [(0, sz d, d)], by omega, by omega, by omega, rfl, rfl, by rw [HA.out.1]; rfl, H2.out⟩
  case round =>
    obtain ⟨k, run, l, hk1, hk, hrun, rfl, rfl, hl, hP⟩ := hrel
    have HP := Lib.hid (And.intro hl hP)
    clear hl hP
    by_cases hlt : k < 64
    · have hTr := (HH.out.2.2.1.kept HP.out.2.kept HH.out.2.2.2.2.1)
      have hBr := (HH.out.1.kept HP.out.2.kept HH.out.2.2.2.1)
      obtain ⟨hz1, hz2⟩ := zn_at k hlt
      have c1 := hTr k hlt
      rw [hz1] at c1
      obtain ⟨q, hq⟩ : ∃ q, q = zn k := ⟨_, rfl⟩
      rw [← hq] at c1 hz2
      have c2 := hBr.cell hz2
      obtain ⟨z, hz⟩ : ∃ z, z = zig b k := ⟨_, rfl⟩
      have hzz : b.getD q 0 = z := by rw [hz, hq]; rfl
      rw [hzz] at c2
      have hzin := HA.out.2.1.zig hlt
      rw [← hz] at hzin
      obtain ⟨n, hn⟩ : ∃ n, 64 - k = n + 1 := ⟨64 - k - 1, by omega⟩
      have hki : (k : Int) < 64 := by omega
      have hin := hzin
      unfold In at hin
      obtain ⟨z0, z1⟩ := hin
      have HZ := Lib.hid (And.intro hz (And.intro hzin hn))
      clear hTr hBr hz1 hq hz hzz hzin hn
      by_cases he : z = 0
      · subst he
        go_wp2_with fail
        go_roundw
        case rel =>
          refine ⟨k + 1, run + 1, l, by omega, by omega, by omega, by go_num, by go_num, ?_, HP.out.2⟩
          have hl := HP.out.1
          rw [HZ.out.2.2, symsF_zero HZ.out.1.symm] at hl
          rw [show 64 - (k + 1) = n by have := HZ.out.2.2; omega]
          exact hl
        case measure => simp [intOf]; omega
      · have hl := HP.out.1
        have hznz : zig b k ≠ 0 := by rw [← HZ.out.1]; exact he
        rw [HZ.out.2.2, symsF_some hznz, ← HZ.out.1] at hl
        have HL := Lib.hid hl
        have heb : (z == 0) = false := by simpa using he
        clear hl hznz
        go_wp2_with fail
        clear c1 c2
        go_loopw [7] (fun r w6 => ∃ (u : Nat) (l : List Sym), u ≤ run ∧ r = .int .i64 (u : Int) ∧ l ++ (runsOf u z ++ symsF b n (k + 1) 0) = allS prev b ∧ Seen S Inv w1 w6 l) (fun r _ => (intOf r).toNat)
        case atStart => exact ⟨run, l, by omega, rfl, HL.out, HP.out.2⟩
        case round =>
          obtain ⟨u, l2, hu, rfl, hl2, hP2⟩ := hrel
          by_cases h15 : 15 < u
          · have h15i : (15 : Int) < u := by omega
            rw [runsOf_big z h15, List.cons_append] at hl2
            have C2 := Lib.hid (HS.out l2 (1, 240, 0) _ (cons_pre hl2) hP2.inv (HK.out _ hP2.kept))
            have HP2 := Lib.hid (And.intro hl2 hP2)
            clear hl2 hP2
            go_wp2_with fail
            refine C2.out.mono ?_
            rintro e w7 ⟨rfl, hi7, hk7⟩
            have H7 := Lib.hid (Seen.mk (S := S) (Inv := Inv) (w1 := w1) hi7 (HP2.out.2.kept.trans hk7 (fun _ _ h => h)))
            clear hi7 hk7 C2
            go_wp2_with fail
            go_roundw
            case rel =>
              refine ⟨u - 16, l2 ++ [(1, 240, 0)], by omega, by go_num, ?_, H7.out⟩
              rw [← HP2.out.1]
              simp
            case measure => simp [intOf]; omega
          · have h15i : ¬ (15 : Int) < u := by omega
            rw [runsOf_small z (by omega)] at hl2
            have C2 := Lib.hid (HS.out l2 (1, 16 * u + sz z, z) _ (cons_pre hl2) hP2.inv (HK.out _ hP2.kept))
            have HP2 := Lib.hid (And.intro hl2 hP2)
            have hsz := in_size HZ.out.2.1
            clear hl2 hP2
            have HQ := Lib.hid (size_any wr z (by unfold isInt; omega))
            go_wp2_with fail
            refine HQ.out.mono ?_
            rintro e w7 ⟨rfl, rfl⟩
            obtain ⟨y, hy⟩ : ∃ y, y = sz z := ⟨_, rfl⟩
            rw [← hy] at C2 hsz ⊢
            have HY := Lib.hid hy
            clear hy HQ
            have hcast : ((16 * u + y : Nat) : Int) = 16 * (u : Int) + y := by omega
            have C3 := Lib.hid (show Calls Tryd.prog G (#[.agg #[.int .i64 1, .int .i64 (16 * (u : Int) + y), .int .i64 z]] ++ caps) wr _ by have := C2.out; unfold symV at this; dsimp only at this; rw [hcast] at this; exact this)
            clear C2 hcast
            go_wp2_with fail
            refine C3.out.mono ?_
            rintro e w7 ⟨rfl, hi7, hk7⟩
            have H7 := Lib.hid (Seen.mk (S := S) (Inv := Inv) (w1 := w1) hi7 (HP2.out.2.kept.trans hk7 (fun _ _ h => h)))
            clear hi7 hk7 C3
            go_wp2_with fail
            go_roundw
            case rel =>
              refine ⟨k + 1, 0, _, by omega, by omega, by omega, by go_num, rfl, ?_, H7.out⟩
              rw [← HP2.out.1, show 64 - (k + 1) = n by have := HZ.out.2.2; omega, HY.out]
              simp
            case measure => simp [intOf]; omega
    · obtain rfl : k = 64 := by omega
      obtain ⟨hl, hP⟩ := HP.out
      by_cases h0 : 0 < run
      · have h0i : (0 : Int) < run := by omega
        rw [Nat.sub_self, symsF_nil, if_pos h0] at hl
        have C2 := Lib.hid (HS.out l (1, 0, 0) _ ⟨[], by rw [List.append_nil]; exact hl⟩ hP.inv (HK.out _ hP.kept))
        have HL := Lib.hid (And.intro hl hP)
        clear hl hP
        go_wp2_with fail
        refine C2.out.mono ?_
        rintro e w7 ⟨rfl, hi7, hk7⟩
        have H7 := Lib.hid (Seen.mk (S := S) (Inv := Inv) (w1 := w1) hi7 (HL.out.2.kept.trans hk7 (fun _ _ h => h)))
        clear hi7 hk7 C2
        go_wp2_with fail
        go_end0
        refine ⟨rfl, ?_, (Kept.of_below HH.out.2.1 S).trans H7.out.kept (fun _ _ h => h)⟩
        rw [← HL.out.1]
        exact H7.out.inv
      · have h0i : ¬ (0 : Int) < run := by omega
        rw [Nat.sub_self, symsF_nil, if_neg h0, List.append_nil] at hl
        have HL := Lib.hid (And.intro hl hP)
        clear hl hP
        go_wp2_with fail
        go_end0
        refine ⟨rfl, ?_, (Kept.of_below HH.out.2.1 S).trans HL.out.2.kept (fun _ _ h => h)⟩
        rw [← HL.out.1]
        exact HL.out.2.inv
end
end Go.Proofs.YthfpdebpepbejaaDoor
