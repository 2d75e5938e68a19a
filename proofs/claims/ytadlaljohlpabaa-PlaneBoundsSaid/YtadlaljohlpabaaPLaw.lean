/-
  What the laws of layer 12 ask of the program; lists of known planes; the contract of the laws' own awake.
-/
import Derived.Test.YtadlaljohlpabaaPCut
namespace Go.Proofs.Ytadlaljohlpabaa
open Go.RowKit

/-- a plane's sample, or 0 -/
def atF (W H : Int) (xs : List Int) (x y : Int) : Int := if RightI W H xs then atL xs W.toNat H.toNat x y else 0
/-- the contracts of the program's functions -/
structure Prog12 : Prop where
  right : ∀ (w : World) (W H : Int) (A : Option Addr) (n c : Nat) (xs : List Int), Ia w A n c xs → n ≤ 1000000 → Calls Try.prog 16 #[.agg #[.int .i64 W, .int .i64 H, .slice A n c]] w (Righted w W H xs)
  at_ : ∀ (w : World) (W H : Int) (A : Option Addr) (n c : Nat) (xs : List Int) (x y : Int), Ia w A n c xs → n ≤ 1000000 → Calls Try.prog 17 #[.agg #[.int .i64 W, .int .i64 H, .slice A n c], .int .i64 x, .int .i64 y] w (Atd w (atF W H xs x y))
  crop : ∀ (w : World) (W H x y u v : Int) (A : Option Addr) (n c : Nat) (xs : List Int), Ia w A n c xs → n ≤ 1000000 → Calls Try.prog 12 #[.agg #[.int .i64 W, .int .i64 H, .slice A n c], .int .i64 x, .int .i64 y, .int .i64 u, .int .i64 v] w (PTells w (cropF W H xs x y u v))
  halve : ∀ (w : World) (W H : Int) (a d : Bool) (A : Option Addr) (n c : Nat) (xs : List Int), Ia w A n c xs → n ≤ 1000000 → Calls Try.prog 19 #[.agg #[.int .i64 W, .int .i64 H, .slice A n c], .bool a, .bool d] w (PTells w (halveF W H xs a d))
  grow : ∀ (w : World) (W H u v : Int) (a d : Bool) (A : Option Addr) (n c : Nat) (xs : List Int), Ia w A n c xs → n ≤ 1000000 → Calls Try.prog 21 #[.agg #[.int .i64 W, .int .i64 H, .slice A n c], .bool a, .bool d, .int .i64 u, .int .i64 v] w (PTells w (growF W H xs a d u v))
  cut : ∀ (w : World) (W H : Int) (A : Option Addr) (n c : Nat) (xs : List Int), Ia w A n c xs → n ≤ 1000000 → Calls Try.prog 23 #[.agg #[.int .i64 W, .int .i64 H, .slice A n c]] w (BTells w (cutF W H xs).1 (cutF W H xs).2)
  join : ∀ (w : World) (u v : Int) (A : Option Addr) (n c : Nat) (bl : List (List Int)), Bs w A n bl → n ≤ 1000 → Calls Try.prog 25 #[.slice A n c, .int .i64 u, .int .i64 v] w (PTells w (joinF bl u v))
/-- a plane in a box -/
structure Pb (w : World) (g : Nat) (W H : Int) (A : Option Addr) (n c : Nat) (xs : List Int) : Prop where
  box : Box w g 24 #[.int .i64 W, .int .i64 H, .slice A n c]
  sl : Ia w A n c xs
theorem Pb.on {w w' : World} {g : Nat} {W H : Int} {A : Option Addr} {n c : Nat} {xs : List Int} (h : Pb w g W H A n c xs) (k : Below w.heap.size w w') : Pb w' g W H A n c xs := ⟨h.box.on k, h.sl.on k⟩
theorem Pb.load {w : World} {g : Nat} {W H : Int} {A : Option Addr} {n c : Nat} {xs : List Int} (h : Pb w g W H A n c xs) : (Instr.loadAt 24 (.pointer (some ⟨g, 0, none⟩))).run Try.prog w = .ok (.agg #[.int .i64 W, .int .i64 H, .slice A n c]) w := load_plane h.box rfl
structure PlK where
  g : Nat
  W : Int
  H : Int
  A : Option Addr
  n : Nat
  c : Nat
  xs : List Int
def PlK.at (w : World) (p : PlK) : Prop := Pb w p.g p.W p.H p.A p.n p.c p.xs
/-- known planes -/
structure Kn (w wr : World) (L : List PlK) : Prop where
  all : ∀ p ∈ L, p.at wr
  bel : Below w.heap.size w wr
section
variable {w wr w' : World} {L : List PlK}
theorem Kn.on (h : Kn w wr L) (k : Below wr.heap.size wr w') : Kn w w' L := ⟨fun p hp => Pb.on (h.all p hp) k, on_trans h.bel k⟩
theorem Kn.nil (w : World) : Kn w w [] := ⟨fun _ hp => absurd hp List.not_mem_nil, Below.refl _ _⟩
theorem Kn.made (h : Kn w wr L) {W H : Int} {A : Option Addr} {n c : Nat} {xs : List Int} (hI : Ia wr A n c xs) : Kn w (wr.alloc (.cells #[.int .i64 W, .int .i64 H, .slice A n c] 24)) (⟨wr.heap.size, W, H, A, n, c, xs⟩ :: L) := by
  have k := on_alloc wr (.cells #[.int .i64 W, .int .i64 H, .slice A n c] 24)
  refine ⟨fun p hp => ?_, on_trans h.bel k⟩
  rcases List.mem_cons.1 hp with rfl | hp
  · exact ⟨Box.made _ _ _, hI.on k⟩
  · exact Pb.on (h.all p hp) k
theorem Kn.n0 {p : PlK} (h : Kn w wr (p :: L)) : Pb wr p.g p.W p.H p.A p.n p.c p.xs := h.all p (.head _)
theorem Kn.n1 {p0 p : PlK} (h : Kn w wr (p0 :: p :: L)) : Pb wr p.g p.W p.H p.A p.n p.c p.xs := h.all p (.tail _ (.head _))
theorem Kn.n2 {p0 p1 p : PlK} (h : Kn w wr (p0 :: p1 :: p :: L)) : Pb wr p.g p.W p.H p.A p.n p.c p.xs := h.all p (.tail _ (.tail _ (.head _)))
theorem Kn.n3 {p0 p1 p2 p : PlK} (h : Kn w wr (p0 :: p1 :: p2 :: p :: L)) : Pb wr p.g p.W p.H p.A p.n p.c p.xs := h.all p (.tail _ (.tail _ (.tail _ (.head _))))
theorem Kn.n4 {p0 p1 p2 p3 p : PlK} (h : Kn w wr (p0 :: p1 :: p2 :: p3 :: p :: L)) : Pb wr p.g p.W p.H p.A p.n p.c p.xs := h.all p (.tail _ (.tail _ (.tail _ (.tail _ (.head _)))))
theorem Kn.n5 {p0 p1 p2 p3 p4 p : PlK} (h : Kn w wr (p0 :: p1 :: p2 :: p3 :: p4 :: p :: L)) : Pb wr p.g p.W p.H p.A p.n p.c p.xs := h.all p (.tail _ (.tail _ (.tail _ (.tail _ (.tail _ (.head _))))))
end
theorem halve_awake : halveF 3 1 [10, 20, 31] true false = (2, 1, [15, 31], 0) := by decide +kernel
theorem cut_awake : cutF 0 0 [] = ([], 1) := by decide +kernel

set_option maxHeartbeats 1600000 in
theorem awake_any (HP : Prog12) (w : World) : Calls Try.prog 10 #[] w (Law w) := by
  have hi : ∀ w : World, Ia (w.alloc (.cells (cellsI [10, 20, 31]).toArray 3)) (some ⟨w.heap.size, 0, none⟩) 3 3 [10, 20, 31] := fun w => (il_of_box (Box.made w 3 (cellsI [10, 20, 31]).toArray) rfl (show 3 ≤ maxLen by decide)).ia
  have hj : ∀ w : World, Ia (w.alloc (.cells (cellsI [15, 31]).toArray 3)) (some ⟨w.heap.size, 0, none⟩) 2 2 [15, 31] := fun w => (il_of_box (Box.made w 3 (cellsI [15, 31]).toArray) rfl (show 2 ≤ maxLen by decide)).ia
  have HH := Lib.hid (fun w : World => HP.halve (w.alloc (.cells (cellsI [10, 20, 31]).toArray 3)) 3 1 true false _ _ _ _ (hi w) (by omega))
  rw [halve_awake] at HH
  have HC := Lib.hid (fun w : World => HP.cut w 0 0 none 0 0 [] (ia_nil w) (by omega))
  rw [cut_awake] at HC
  have HI := Lib.hid (And.intro hi hj)
  clear hi hj
  go_enter Try.func10, Try.ntmps10
  go_wp2_with fail
  refine Calls.mono (HH.out w) ?_
  rintro r w2 ⟨A, n, c, rfl, hO, b2⟩
  have H2 := Lib.hid ((Kn.nil w).on (on_alloc w (.cells (cellsI [10, 20, 31]).toArray 3)) |>.on b2 |>.made (W := 2) (H := 1) hO.ia)
  dsimp only
  clear hO b2
  obtain ⟨w3, hw3⟩ : ∃ w3, w2.alloc (.cells #[.int .i64 2, .int .i64 1, .slice A n c] 24) = w3 := ⟨_, rfl⟩
  rw [hw3] at H2
  have HW := Lib.hid hw3
  clear hw3
  go_wp2_with fail
  rw [HW.out]
  obtain ⟨g2, hg2⟩ : ∃ g, g = w2.heap.size := ⟨_, rfl⟩
  rw [← hg2] at H2 ⊢
  clear hg2
  refine Calls.mono (HC.out w3) ?_
  rintro r w4 ⟨A4, n4, c4, rfl, _, _, b4⟩
  have H4 := Lib.hid (H2.out.on b4)
  clear b4
  go_wp2_with (first
    | (with_reducible refine wpList_load_to (op := ⟨some 16, _, _, _, _, _⟩) rfl 24 (.tmp 1) rfl (.pointer (some ⟨g2, 0, none⟩)) rfl (.agg #[.int .i64 2, .int .i64 1, .slice A n c]) H4.out.n0.load ?_)
    | fail)
  refine Calls.mono (same_any _ 2 1 A _ n 2 c 2 [15, 31] (H4.out.n0.sl.on (on_alloc _ _)) (HI.out.2 w4) (by have := H4.out.n0.sl.len; simp at this; omega)) ?_
  rintro r w5 ⟨rfl, b5⟩
  have H5 := Lib.hid (on_trans (on_trans H4.out.bel (on_alloc _ _)) b5)
  clear b5
  go_wp2
  go_ret
  exact ⟨rfl, H5.out⟩
end Go.Proofs.Ytadlaljohlpabaa
