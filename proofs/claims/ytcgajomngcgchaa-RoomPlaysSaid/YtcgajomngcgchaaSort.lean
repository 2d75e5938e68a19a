/-
  room.sorted: a list of its own, by increasing beginnings.
-/
import Derived.Test.YtcgajomngcgchaaClone
import Derived.Shelf.SlSortCmp.WholeK
import Derived.Shelf.SlicesG.Cmp
namespace Go.Proofs.Ytcgajomngcgchaa
open Go.RowKit Go.Shelf Go.Proofs

def Try.sortX_ren : Go.Shelf.Ren := ⟨fun | 6 => 42 | 15 => 47 | 14 => 46 | 28 => 57 | 29 => 58 | 20 => 49 | 21 => 50 | 22 => 51 | 23 => 52 | 24 => 53 | 25 => 54 | 26 => 55 | 27 => 56 | 46 => 59 | 47 => 60 | 48 => 61 | 49 => 62 | 50 => 63 | 57 => 64 | n => n, fun | 22 => 22 | 24 => 42 | 25 => 66 | 3 => 3 | 39 => 70 | 0 => 0 | 53 => 81 | 55 => 83 | 4 => 4 | 46 => 74 | 45 => 73 | 50 => 78 | 5 => 5 | 9 => 9 | 66 => 84 | 70 => 88 | 76 => 90 | 77 => 91 | n => n, fun | n => n⟩
theorem Try.sortX : Go.Proofs.SlLaysF0.n6 Try.prog Try.sortX_ren := {
  mixed := by kernel_rfl
  f6 := ⟨Try.f42.name, by decide, Try.func42.trans (congrArg some (by kernel_rfl))⟩
  f14 := ⟨Try.f46.name, by decide, Try.func46.trans (congrArg some (by kernel_rfl))⟩
  f15 := Try.func47.trans (congrArg some (by kernel_rfl))
  f20 := ⟨Try.f49.name, by decide, Try.func49.trans (congrArg some (by kernel_rfl))⟩
  f21 := ⟨Try.f50.name, by decide, Try.func50.trans (congrArg some (by kernel_rfl))⟩
  f22 := ⟨Try.f51.name, by decide, Try.func51.trans (congrArg some (by kernel_rfl))⟩
  f23 := ⟨Try.f52.name, by decide, Try.func52.trans (congrArg some (by kernel_rfl))⟩
  f24 := ⟨Try.f53.name, by decide, Try.func53.trans (congrArg some (by kernel_rfl))⟩
  f25 := ⟨Try.f54.name, by decide, Try.func54.trans (congrArg some (by kernel_rfl))⟩
  f26 := ⟨Try.f55.name, by decide, Try.func55.trans (congrArg some (by kernel_rfl))⟩
  f27 := ⟨Try.f56.name, by decide, Try.func56.trans (congrArg some (by kernel_rfl))⟩
  f28 := Try.func57.trans (congrArg some (by kernel_rfl))
  f29 := Try.func58.trans (congrArg some (by kernel_rfl))
  f46 := ⟨Try.f59.name, by decide, Try.func59.trans (congrArg some (by kernel_rfl))⟩
  f47 := Try.func60.trans (congrArg some (by kernel_rfl))
  f48 := Try.func61.trans (congrArg some (by kernel_rfl))
  f49 := ⟨Try.f62.name, by decide, Try.func62.trans (congrArg some (by kernel_rfl))⟩
  f50 := ⟨Try.f63.name, by decide, Try.func63.trans (congrArg some (by kernel_rfl))⟩
  f57 := ⟨Try.f64.name, by decide, Try.func64.trans (congrArg some (by kernel_rfl))⟩
  t0 := Try.underlying0
  a0 := Try.isAgg0
  z0 := Try.sizeOf0
  v0 := Try.zeroValue0
  t3 := Try.underlying3
  a3 := Try.isAgg3
  z3 := Try.sizeOf3
  v3 := Try.zeroValue3
  t4 := Try.underlying4
  a4 := Try.isAgg4
  z4 := Try.sizeOf4
  v4 := Try.zeroValue4
  t5 := Try.underlying5
  a5 := Try.isAgg5
  z5 := Try.sizeOf5
  v5 := Try.zeroValue5
  t9 := Try.underlying9
  a9 := Try.isAgg9
  z9 := Try.sizeOf9
  v9 := Try.zeroValue9
  t22 := Try.underlying22
  a22 := Try.isAgg22
  z22 := Try.sizeOf22
  v22 := Try.zeroValue22
  t25 := Try.underlying66
  a25 := Try.isAgg66
  z25 := Try.sizeOf66
  v25 := Try.zeroValue66
  t39 := Try.underlying70
  a39 := Try.isAgg70
  z39 := Try.sizeOf70
  v39 := Try.zeroValue70
  t45 := Try.underlying73
  a45 := Try.isAgg73
  z45 := Try.sizeOf73
  v45 := Try.zeroValue73
  t46 := Try.underlying74
  a46 := Try.isAgg74
  z46 := Try.sizeOf74
  v46 := Try.zeroValue74
  t50 := Try.underlying78
  a50 := Try.isAgg78
  z50 := Try.sizeOf78
  v50 := Try.zeroValue78
  t53 := Try.underlying81
  a53 := Try.isAgg81
  z53 := Try.sizeOf81
  v53 := Try.zeroValue81
  t55 := Try.underlying83
  a55 := Try.isAgg83
  z55 := Try.sizeOf83
  v55 := Try.zeroValue83
  t66 := Try.underlying84
  a66 := Try.isAgg84
  z66 := Try.sizeOf84
  v66 := Try.zeroValue84
  t70 := Try.underlying88
  a70 := Try.isAgg88
  z70 := Try.sizeOf88
  v70 := Try.zeroValue88
  t76 := Try.underlying90
  a76 := Try.isAgg90
  z76 := Try.sizeOf90
  v76 := Try.zeroValue90
  t77 := Try.underlying91
  a77 := Try.isAgg91
  z77 := Try.sizeOf91
  v77 := Try.zeroValue91 }
def Try.cmpInt_ren : Go.Shelf.Ren := ⟨fun | 5 => 44 | 7 => 48 | n => n, fun | 22 => 3 | 3 => 3 | 4 => 4 | n => n, fun | n => n⟩
theorem Try.cmpInt : Go.Proofs.SlLaysC2.n5 Try.prog Try.cmpInt_ren := {
  mixed := by kernel_rfl
  f5 := ⟨Try.f44.name, by decide, Try.func44.trans (congrArg some (by kernel_rfl))⟩
  f7 := ⟨Try.f48.name, by decide, Try.func48.trans (congrArg some (by kernel_rfl))⟩
  t3 := Try.underlying3
  a3 := Try.isAgg3
  z3 := Try.sizeOf3
  v3 := Try.zeroValue3
  t4 := Try.underlying4
  a4 := Try.isAgg4
  z4 := Try.sizeOf4
  v4 := Try.zeroValue4
  t22 := Try.underlying3
  a22 := Try.isAgg3
  z22 := Try.sizeOf3
  v22 := Try.zeroValue3 }

/-- an extent's two cells -/
def encX (x : X) : List Value := [.int .i64 x.1, .int .i64 x.2]
def cmpX (x y : X) : Int := Lib.compareInt x.1 y.1

set_option maxHeartbeats 1000000 in
theorem cmp_any (x y : X) (W : World) : Calls Try.prog 43 #[.agg #[.int .i64 x.1, .int .i64 x.2], .agg #[.int .i64 y.1, .int .i64 y.2]] W fun e w' => e = .returned (.int .i64 (cmpX x y)) ∧ ∃ q os', w' = Sort.grow (W.drewN q) os' := by
  have hcon := fun W' => AnyG.cmp_Compare_int Try.cmpInt x.1 y.1 W'
  change ∀ W', Calls Try.prog 44 _ _ _ at hcon
  unfold cmpX
  generalize Lib.compareInt x.1 y.1 = r at hcon ⊢
  go_enter Try.func43, Try.ntmps43
  go_wp2_with (go_at_call 44; refine (hcon _).mono ?_; rintro e w' ⟨rfl, rfl⟩)
  go_ret
  exact ⟨rfl, 0, _, by rw [Sort.alloc_eq_grow, Sort.alloc_eq_grow, Sort.grow_grow]; rfl⟩
theorem cmp_lays (blk off size : Nat) (w : World) : CmpLays Try.prog 43 #[] encX 2 cmpX blk off size w := fun _ _ _ _ x y => cmp_any x y _
theorem ltX (x y : X) : ltOf cmpX x y = decide (x.1 < y.1) := by
  unfold ltOf cmpX Lib.compareInt
  by_cases h1 : x.1 < y.1
  · simp [h1]
  · by_cases h2 : y.1 < x.1 <;> simp [h1, h2]
theorem swoX : Sort.SWO (ltOf cmpX) where
  irrefl x := by rw [ltX]; simp
  trans x y z h1 h2 := by rw [ltX] at *; simp at *; omega
  ntrans x y z h1 h2 := by rw [ltX] at *; simp at *; omega
theorem sortWorld_kept (w : World) (g q : Nat) (d : Array X) (os : Array Obj) : Kept (fun i => i = g) w (sortWorldK encX 2 w g 0 q d os) := by
  refine ⟨rfl, rfl, rfl, size_sortWorldK_c _ _ _ _ _ _ _ _, fun k hk hn => ?_⟩
  unfold sortWorldK Sort.grow Sort.putRowK Sort.putRow Sort.mapBlock Sort.ahead
  simp only [Array.getElem?_append, Array.size_modify, if_pos hk, Array.getElem?_modify]
  rw [if_neg (fun e => hn e.symm)]
theorem getX_get! (l : List X) (i : Nat) : l.toArray[i]! = l.getD i (0, 0) := by
  rw [Array.getElem!_eq_getD, Array.getD_eq_getD_getElem?, List.getElem?_toArray, List.getD_eq_getElem?_getD]
  rfl
theorem holds_own {w : World} {lo g c n : Nat} {l : List X} (h : w.ownsRow lo 42 2 (.slice (some ⟨g, 0, none⟩) n c) n (cellsX l)) : Sort.HoldsK encX 2 w g 0 l.toArray := by
  have hl : l.length = n := by have := h.1; rw [cellsX_len] at this; omega
  intro j hj
  rw [Sort.size_flatK, List.size_toArray] at hj
  rw [Sort.get_flatK _ _ _ _ (by rw [List.size_toArray]; exact hj), getX_get!, Nat.zero_add]
  constructor
  · rw [h.cellAt j (by omega)]
    obtain ⟨h0, h1⟩ := cellsX_at l (j / 2) (by omega)
    rcases (by omega : j % 2 = 0 ∨ j % 2 = 1) with hm | hm
    · rw [show j / 2 * 2 = j by omega] at h0
      rw [h0, hm]; rfl
    · rw [show j / 2 * 2 + 1 = j by omega] at h1
      rw [h1, hm]; rfl
  · rcases h.2 with ⟨h', _⟩ | ⟨g', cap', cur, h', _, hg, _⟩
    · cases h'
    · cases h'
      simp [World.frozen?, hg]

/-- what sorted answers -/
def Sorted (l : List X) (w : World) (r : Ending) (w' : World) : Prop :=
  ∃ A c l', r = .returned (.slice A l.length c) ∧ l'.Perm l ∧ l'.Pairwise (fun a b => a.1 ≤ b.1) ∧ Xl (fun b => w.heap.size ≤ b) w' A l.length c l' ∧ Below w.heap.size w w'
theorem sorted_fin {w w1 : World} {g c q : Nat} {l : List X} {d' : Array X} {os : Array Obj} (hown : w1.ownsRow w.heap.size 42 2 (.slice (some ⟨g, 0, none⟩) l.length c) l.length (cellsX l)) (hb : Below w.heap.size w w1) (hg : w.heap.size ≤ g) (hlt : g < w1.heap.size)
    (hp : Sort.PermIn 0 l.toArray.size l.toArray d') (hs : Sort.SortedIn (ltOf cmpX) 0 l.toArray.size d') : Sorted l w (.returned (.slice (some ⟨g, 0, none⟩) l.length c)) (sortWorldK encX 2 w1 g 0 q d' os) := by
  have hsz : d'.size = l.length := by have := hp.1; simpa using this
  have hH := holdsK_sortWorldK_c encX 2 w1 g 0 l.toArray d' q os (holds_own hown) hlt (by rw [hsz]; simp)
  have hk := sortWorld_kept w1 g q d' os
  have hcap : l.length ≤ c ∧ c ≤ maxLen := by
    rcases hown.2 with ⟨h', _⟩ | ⟨g', cap', cur, h', _, _, h1, h2, _⟩
    · cases h'
    · cases h'; exact ⟨h1, h2⟩
  refine ⟨_, _, d'.toList, rfl, ?_, ?_, ⟨by rw [cellsX_len]; simp [hsz], hcap.1, hcap.2, (fun e => by cases e), fun h0 => ⟨g, 0, rfl, Nat.lt_of_lt_of_le hlt hk.size, hg, fun i hi => ?_⟩⟩, hb.trans (hk.below hb.size (fun i hi e => by omega))⟩
  · have := hp.2.2
    simp only [List.size_toArray, Array.toList_extract, List.extract_eq_take_drop] at this
    rw [List.drop_zero, List.drop_zero, Nat.sub_zero, List.take_of_length_le (by simp [hsz]), List.take_of_length_le (by simp)] at this
    exact this
  · rw [List.pairwise_iff_getElem]
    intro i j hi hj hij
    have := hs i j (Nat.zero_le _) hij (by simp at hj ⊢; omega)
    rw [ltX, decide_eq_false_iff_not] at this
    simp only [Array.length_toList] at hi hj
    have e1 : d'[i]! = d'.toList[i] := by simp [hi]
    have e2 : d'[j]! = d'.toList[j] := by simp [hj]
    rw [e1, e2] at this
    omega
  · have hj : i < d'.size * 2 := by rw [hsz]; exact hi
    have h1 := (hH i (by rw [Sort.size_flatK]; exact hj)).1
    rw [h1, Sort.get_flatK _ _ _ _ hj]
    have e1 : d'[i / 2]! = d'.toList.getD (i / 2) (0, 0) := by rw [← getX_get!]
    rw [e1]
    obtain ⟨h0, h2⟩ := cellsX_at d'.toList (i / 2) (by simp; omega)
    rcases (by omega : i % 2 = 0 ∨ i % 2 = 1) with hm | hm
    · rw [show i / 2 * 2 = i by omega] at h0
      rw [h0, hm]; rfl
    · rw [show i / 2 * 2 + 1 = i by omega] at h2
      rw [h2, hm]; rfl
end Go.Proofs.Ytcgajomngcgchaa
