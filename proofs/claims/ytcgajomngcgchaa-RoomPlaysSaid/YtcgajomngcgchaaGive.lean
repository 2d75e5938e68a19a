/-
  The map's Give.
-/
import Derived.Test.YtcgajomngcgchaaTake
namespace Go.Proofs.Ytcgajomngcgchaa
open Go.RowKit

theorem if_then {c : Prop} [Decidable c] {A B : Prop} (hc : c) (h : A) : if c then A else B := by rw [if_pos hc]; exact h
/-- an operation is taken first, and its slot is named -/
theorem take_to {ops : Array Oper} {Q : Exit → Act → World → Prop} {md : Region.Mode} {S : World → Prop} {i : Nat} {oi : Oper} {v : Value} {fuel : Nat} {listed : Array Bool} {a : Act} {w : World} (hi : ops[i]? = some oi)
    (hs : Region.noSelect ops = true) (hf : Region.free md ops listed i = true) (hr : (Region.ready md ops listed).contains i = true)
    (hQ : ∀ c a w, Q (.panic c) (a.put oi.dst v) w → Q (.panic c) a w) (hy : YieldsIf Try.prog ops S oi v a) (hS : S w) (d : Option Tmp) (hd : oi.dst = d)
    (h : wpAnyH Try.prog md ops Q S fuel (listed.setIfInBounds i true) (a.put d v) w) : wpAnyH Try.prog md ops Q S (fuel + 1) listed a w :=
  wpAnyH_take hi hs hf hr hQ hy hS (by rw [hd]; exact h)
theorem eg35 (args : Array Value) (w : World) : (callFunc 35 args).run Try.prog w = .ok (.enter 35 args) w := enters_of Try.func35 (by kernel_rfl) rfl args w
theorem eg36 (args : Array Value) (w : World) : (callFunc 36 args).run Try.prog w = .ok (.enter 36 args) w := enters_of Try.func36 (by kernel_rfl) rfl args w
theorem whole_2 : ∀ (e : X) (l : List X), (whole e l).2 = e.2 + sumS l
  | e, [] => by simp [whole, sumS]
  | e, f :: l => by rw [whole, whole_2]; simp only [sumS]; omega
theorem whole_1 : ∀ (e : X) (l : List X), (whole e l).1 ≤ e.1 ∧ ((∀ f ∈ l, 0 ≤ f.1) → 0 ≤ e.1 → 0 ≤ (whole e l).1)
  | e, [] => ⟨Int.le_refl _, fun _ h => h⟩
  | e, f :: l => by
    obtain ⟨h1, h2⟩ := whole_1 (min e.1 f.1, e.2 + f.2) l
    simp only at h1 h2
    refine ⟨by rw [whole]; omega, fun hf he => ?_⟩
    rw [whole]
    have := hf f (by simp)
    exact h2 (fun x hx => hf x (by simp [hx])) (by omega)
/-- what Give answers -/
def GiveBad (z : Int) (w : World) (e : Ending) (w' : World) : Prop := e = .returned (.int .i64 z) ∧ Below w.heap.size w w'
def GiveGood (g : Nat) (m : Int) (fs : List X) (w : World) (e : Ending) (w' : World) : Prop := e = .returned (.int .i64 0) ∧ (∃ A n c, Mm w' g m fs A n c) ∧ Kept (fun i => i = g) w w'
def giveL (fs : List X) (e : X) : List X := fs.take (fromI fs e) ++ [whole e (midI fs e)] ++ fs.drop (toI fs e)
def GiveZ (g : Nat) (m : Int) (fs l : List X) (F T : Nat) (e : X) (w : World) (r : Ending) (w' : World) : Prop :=
  ((∃ f ∈ l, Meets e f) ∧ GiveBad 13 w r w') ∨ ((∀ f ∈ l, ¬ Meets e f) ∧ GiveGood g m (fs.take F ++ [whole e l] ++ fs.drop T) w r w')
def GiveY (g : Nat) (m : Int) (fs : List X) (e : X) (w : World) (r : Ending) (w' : World) : Prop :=
  ((∃ f ∈ midI fs e, Meets e f) ∧ GiveBad 13 w r w') ∨ ((∀ f ∈ midI fs e, ¬ Meets e f) ∧ GiveGood g m (giveL fs e) w r w')

set_option maxHeartbeats 800000 in
theorem give_not (w : World) (g : Nat) (m : Int) (fs : List X) (A : Option Addr) (n c : Nat) (hM : Mm w g m fs A n c) (hm : 0 ≤ m ∧ m ≤ 4096) (x y : Int) (hy : y ≤ 9223372036854775807) (h : ¬ Ok m (x, y)) :
    Calls Try.prog 19 #[.pointer (some ⟨g, 0, none⟩), .agg #[.int .i64 x, .int .i64 y]] w (GiveBad 11 w) := by
  have hd : decide (Ok m (x, y)) = false := decide_eq_false h
  obtain ⟨w1, hw1⟩ : ∃ w1, w.alloc (.cells #[.int .i64 x, .int .i64 y] 42) = w1 := ⟨_, rfl⟩
  have k1 : Below w.heap.size w w1 := by rw [← hw1]; exact on_alloc _ _
  have be : Box w1 w.heap.size 42 #[.int .i64 x, .int .i64 y] := by rw [← hw1]; exact Box.made _ _ _
  have q0 : w1.cell? ⟨w.heap.size, 0, none⟩ = some (.int .i64 x) := be.cell 0
  have q1 : w1.cell? ⟨w.heap.size, 1, none⟩ = some (.int .i64 y) := be.cell 1
  have q2 : w1.cell? ⟨g, 0, none⟩ = some (.int .i64 m) := (hM.on k1).box.cell 0
  have HV := Lib.hid (valid_any x y m w1.drew hm hy)
  have H1 := Lib.hid (And.intro k1 (show w1.cell? ⟨w.heap.size, 0, none⟩ = some (.int .i64 x) ∧ w1.cell? ⟨w.heap.size, 1, none⟩ = some (.int .i64 y) ∧ w1.cell? ⟨g, 0, none⟩ = some (.int .i64 m) from ⟨q0, q1, q2⟩))
  clear k1 be hM h hm
  go_enter Try.func19, Try.ntmps19
  go_wp2_with fail
  go_region_held3 (fun w' => w'.cell? ⟨w.heap.size, 0, none⟩ = some (.int .i64 x) ∧ w'.cell? ⟨w.heap.size, 1, none⟩ = some (.int .i64 y) ∧ w'.cell? ⟨g, 0, none⟩ = some (.int .i64 m))
    (first
      | exact H1.out.2
      | exact K2.out.1)
    (first
      | (go_at_call 29
         refine HV.out.mono ?_
         rintro e w2 ⟨rfl, b2⟩
         have hb := on_trans (on_drew w1) b2
         have K2 := Lib.hid (And.intro (show w2.cell? ⟨w.heap.size, 0, none⟩ = some (.int .i64 x) ∧ w2.cell? ⟨w.heap.size, 1, none⟩ = some (.int .i64 y) ∧ w2.cell? ⟨g, 0, none⟩ = some (.int .i64 m) from ⟨on_cell H1.out.2.1 hb, on_cell H1.out.2.2.1 hb, on_cell H1.out.2.2.2 hb⟩) (on_trans H1.out.1 hb))
         clear hb b2))
  all_goals
    go_wp2
    go_ret
    exact ⟨rfl, K2.out.2⟩

/-- how things stand when k of the extents beside it have been gone through -/
structure Gs (w wr : World) (gw : Nat) (x y : Int) (l : List X) (k : Nat) : Prop where
  bel : Below w.heap.size w wr
  be : Box wr w.heap.size 42 #[.int .i64 x, .int .i64 y]
  bw : Box wr gw 42 #[.int .i64 (whole (x, y) (l.take k)).1, .int .i64 (whole (x, y) (l.take k)).2]
  no : ∀ f ∈ l.take k, ¬ Meets (x, y) f
set_option maxHeartbeats 3200000 in
set_option maxRecDepth 20000 in
theorem give_any (w : World) (g : Nat) (m : Int) (fs : List X) (A : Option Addr) (n c : Nat) (hM : Mm w g m fs A n c) (u : List Bool) (hu : Can u fs) (hul : (u.length : Int) = m) (hm : 0 ≤ m ∧ m ≤ 4096) (hn : n ≤ 9000) (x y : Int) (h : Ok m (x, y)) :
    Calls Try.prog 19 #[.pointer (some ⟨g, 0, none⟩), .agg #[.int .i64 x, .int .i64 y]] w (GiveY g m fs (x, y) w) := by
  have hd : decide (Ok m (x, y)) = true := decide_eq_true h
  have hr := hu.rise
  rw [hul] at hr
  obtain ⟨p1, p2, p3, p4, p5, p6⟩ := hu.parts (e := (x, y)) (by rw [hul]; exact h)
  obtain ⟨w1, hw1⟩ : ∃ w1, w.alloc (.cells #[.int .i64 x, .int .i64 y] 42) = w1 := ⟨_, rfl⟩
  have k1 : Below w.heap.size w w1 := by rw [← hw1]; exact on_alloc _ _
  have be : Box w1 w.heap.size 42 #[.int .i64 x, .int .i64 y] := by rw [← hw1]; exact Box.made _ _ _
  have q0 : w1.cell? ⟨w.heap.size, 0, none⟩ = some (.int .i64 x) := be.cell 0
  have q1 : w1.cell? ⟨w.heap.size, 1, none⟩ = some (.int .i64 y) := be.cell 1
  have q2 : w1.cell? ⟨g, 0, none⟩ = some (.int .i64 m) := (hM.on k1).box.cell 0
  have HV := Lib.hid (valid_any x y m w1.drew hm (by have := h.1; have := h.2.1; have := h.2.2; simp only at *; omega))
  have H1 := Lib.hid (And.intro k1 (And.intro (show w1.cell? ⟨w.heap.size, 0, none⟩ = some (.int .i64 x) ∧ w1.cell? ⟨w.heap.size, 1, none⟩ = some (.int .i64 y) ∧ w1.cell? ⟨g, 0, none⟩ = some (.int .i64 m) from ⟨q0, q1, q2⟩) be))
  have hxy : 0 ≤ x ∧ 1 ≤ y ∧ x + y ≤ 4096 := by have := h.1; have := h.2.1; have := h.2.2; simp only at *; omega
  obtain ⟨x0, y0, xy0⟩ := hxy
  have hl := hM.row.lenX
  have hcap := hM.row.cap
  have hmax := hM.row.max
  unfold maxLen at hmax
  obtain ⟨F, hF⟩ : ∃ F, fromI fs (x, y) = F := ⟨_, rfl⟩
  obtain ⟨T, hT⟩ : ∃ T, toI fs (x, y) = T := ⟨_, rfl⟩
  obtain ⟨l, hlm⟩ : ∃ l, midI fs (x, y) = l := ⟨_, rfl⟩
  have hll : l.length = T - F := by rw [← hlm, ← hF, ← hT]; unfold midI; rw [List.length_take, List.length_drop]; omega
  have hle : (fs.drop F).take (T - F) = l := by rw [← hlm, ← hF, ← hT]; rfl
  have HD := Lib.hid (show ∀ x1 : X, x1 ∈ fs → Sm x1 from fun x1 hx => sm_of hr hm.2 hx)
  rw [hF, hT] at p1
  rw [hT, hl] at p2
  have HP := Lib.hid (And.intro hr (And.intro p3 (And.intro hl (And.intro hle (And.intro hll hM)))))
  have hY : GiveY g m fs (x, y) w = GiveZ g m fs l F T (x, y) w := by
    funext r w'; unfold GiveY GiveZ giveL; rw [hlm, hF, hT]
  rw [hY]
  have HFT := Lib.hid (And.intro hF hT)
  obtain ⟨m0, m1⟩ := hm
  clear k1 be hM h hu hul hr p3 p4 p5 p6 hl hle hll hlm hF hT hY
  go_enter Try.func19, Try.ntmps19
  go_wp2_with fail
  go_region_held3 (fun w' => w'.cell? ⟨w.heap.size, 0, none⟩ = some (.int .i64 x) ∧ w'.cell? ⟨w.heap.size, 1, none⟩ = some (.int .i64 y) ∧ w'.cell? ⟨g, 0, none⟩ = some (.int .i64 m))
    (first
      | exact H1.out.2.1
      | exact K2.out.1)
    (first
      | (go_at_call 29
         refine HV.out.mono ?_
         rintro e w2 ⟨rfl, b2⟩
         have hb := on_trans (on_drew w1) b2
         have K2 := Lib.hid (And.intro (show w2.cell? ⟨w.heap.size, 0, none⟩ = some (.int .i64 x) ∧ w2.cell? ⟨w.heap.size, 1, none⟩ = some (.int .i64 y) ∧ w2.cell? ⟨g, 0, none⟩ = some (.int .i64 m) from ⟨on_cell H1.out.2.1.1 hb, on_cell H1.out.2.1.2.1 hb, on_cell H1.out.2.1.2.2 hb⟩) (And.intro (on_trans H1.out.1 hb) (H1.out.2.2.on hb)))
         clear hb b2))
  all_goals
    have hM2 := HP.out.2.2.2.2.2.on K2.out.2.1
    have H35 := find_any 35 #[.pointer (some ⟨w.heap.size, 0, none⟩)] eg35 w2 g m A n c fs hM2 (fun f => decide (x ≤ f.1 + f.2)) (fun x1 w3 hx hb => give1_any w.heap.size x x1.1 x1.2 w3 (on_cell K2.out.1.1 hb) (HD.out x1 hx))
    rw [show fs.findIdx (fun f => decide (x ≤ f.1 + f.2)) = F from HFT.out.1] at H35
    have HA := Lib.hid (And.intro H35 hM2)
    clear H35 hM2
    go_wp2_with fail
    with_reducible refine Calls.mono HA.out.1 ?_
    rintro e w3 ⟨rfl, b3⟩
    have hM3 := HA.out.2.on b3
    have H36 := find_any 36 #[.pointer (some ⟨w.heap.size, 0, none⟩)] eg36 w3 g m A n c fs hM3 (fun f => decide (x + y < f.1)) (fun x1 w4 _ hb => give2_any w.heap.size x y x1.1 x1.2 w4 (on_cell K2.out.1.1 (on_trans b3 hb)) (on_cell K2.out.1.2.1 (on_trans b3 hb)) (show Sm (x, y) from ⟨by simp only; omega, by simp only; omega, by simp only; omega, by simp only; omega⟩))
    rw [show fs.findIdx (fun f => decide (x + y < f.1)) = T from HFT.out.2] at H36
    have HB := Lib.hid (And.intro H36 (And.intro hM3 (And.intro (K2.out.2.2.on b3) (on_trans K2.out.2.1 b3))))
    clear H36 hM3 b3
    go_wp2_with fail
    with_reducible refine Calls.mono HB.out.1 ?_
    rintro e w4 ⟨rfl, b4⟩
    obtain ⟨w5, hw5⟩ : ∃ w5, w4.alloc (.cells #[.int .i64 x, .int .i64 y] 42) = w5 := ⟨_, rfl⟩
    have b5 : Below w4.heap.size w4 w5 := by rw [← hw5]; exact on_alloc _ _
    have be4 := HB.out.2.2.1.on b4
    have z0 : w4.cell? ⟨w.heap.size, 0, none⟩ = some (.int .i64 x) := be4.cell 0
    have z1 : w4.cell? ⟨w.heap.size, 1, none⟩ = some (.int .i64 y) := be4.cell 1
    have bw : Box w5 w4.heap.size 42 #[.int .i64 (whole (x, y) (l.take 0)).1, .int .i64 (whole (x, y) (l.take 0)).2] := by rw [← hw5]; exact Box.made _ _ _
    have HG := Lib.hid (show Gs w w5 w4.heap.size x y l 0 from ⟨on_trans (on_trans HB.out.2.2.2 b4) b5, be4.on b5, bw, fun f hf => by simp at hf⟩)
    have hM5 := (HB.out.2.1.on b4).on b5
    have z2 : w5.cell? ⟨g, 1, none⟩ = some (.slice A n c) := hM5.box.cell 1
    obtain ⟨gw, hgw⟩ : ∃ gw, w4.heap.size = gw := ⟨_, rfl⟩
    have HM5 := Lib.hid hM5
    have hlo := (on_trans HB.out.2.2.2 b4).size
    have HG4 := Lib.hid (be4.lt)
    clear b4 b5 be4 bw hM5
    rw [hgw] at HG hlo
    have HLO := Lib.hid (And.intro hlo (And.intro hgw HG.out.bw.lt))
    have HNE := Lib.hid (show w.heap.size ≠ gw by have := HB.out.2.2.1.lt; have := HG4.out; omega)
    clear hlo
    have f0 : (0 : Int) ≤ (F : Int) := by omega
    have f1 : (F : Int) ≤ (T : Int) := by omega
    have f2 : (T : Int) ≤ (c : Int) := by omega
    obtain ⟨A2, hA2⟩ : ∃ A2, (if c = F then A else A.map (fun x => x.add (F * 2))) = A2 := ⟨_, rfl⟩
    obtain ⟨N, hN⟩ : ∃ N, T - F = N := ⟨_, rfl⟩
    have hx2 : Xl (fun b => b ≠ g) w A2 N (c - F) l := by
      have := HP.out.2.2.2.2.2.row.cutX (k := F) (m := T - F) (c' := c - F) (by omega) (by omega) (by omega)
      rw [HP.out.2.2.2.1, hN] at this
      rw [← hA2]
      exact this
    have hln : l.length = N := by rw [HP.out.2.2.2.2.1]; exact hN
    have hNc : N ≤ c - F := by omega
    obtain ⟨C, hC⟩ : ∃ C, c - F = C := ⟨_, rfl⟩
    have HX := Lib.hid (And.intro hx2 (And.intro hln (show N ≤ 9000 by omega)))
    have HNs := Lib.hid (And.intro hA2 (And.intro hN hC))
    rw [hC] at hNc HX
    have hC2 : C ≤ c := by omega
    clear hx2 hln
    go_wp2_with fail
    clear hA2 hN hC
    go_loopw [9, 34] (fun _ i wr => ∃ k : Nat, k ≤ N ∧ i = .int .i64 (k : Int) ∧ Gs w wr gw x y l k) (fun _ i _ => N - (intOf i).toNat)
    case atStart => exact ⟨0, by omega, rfl, HG.out⟩
    case round =>
      obtain ⟨k, hk, rfl, hR⟩ := hrel
      have HR := Lib.hid hR
      clear hR
      by_cases hkN : k < N
      · obtain ⟨b, off, rfl, hbs, hK, c1, c2⟩ := (HX.out.1.on (HR.out.bel)).getX hkN
        have hkl : k < l.length := by rw [HX.out.2.1]; exact hkN
        have hmem : l.getD k (0, 0) ∈ l := getD_mem hkl
        have hfs : l.getD k (0, 0) ∈ fs := by
          have h1 := hmem
          rw [← HP.out.2.2.2.1] at h1
          have h2 := List.mem_of_mem_drop (List.mem_of_mem_take h1)
          rwa [HP.out.2.2.2.1] at h2
        have hrz := HP.out.1.at_ _ hfs
        have htk := take_moreX l k hkl
        obtain ⟨a, b2, hab⟩ : ∃ a b2 : Int, l.getD k (0, 0) = (a, b2) := ⟨_, _, rfl⟩
        rw [hab] at c1 c2 hrz htk hmem
        simp only at c1 c2 hrz
        have a0 : 0 ≤ a := hrz.1
        have a1 : 1 ≤ b2 := hrz.2.1
        have a2 : a + b2 ≤ 4096 := by have := hrz.2.2; omega
        obtain ⟨W, hW⟩ : ∃ W, whole (x, y) (l.take k) = W := ⟨_, rfl⟩
        have hW2 : whole (x, y) (l.take (k + 1)) = (min W.1 a, W.2 + b2) := by rw [htk, whole_snoc, hW]
        have bw := HR.out.bw
        rw [hW] at bw
        have hWs : 0 ≤ W.2 ∧ W.2 ≤ 9000 := by
          rw [← hW, whole_2]
          have r1 := HP.out.1
          have e1 : fs = fs.take F ++ ((l.take k ++ l.drop k) ++ fs.drop T) := by
            rw [List.take_append_drop]
            have := HP.out.2.1
            rw [HFT.out.1, HFT.out.2] at this
            have e2 : midI fs (x, y) = l := by unfold midI; rw [HFT.out.1, HFT.out.2]; exact HP.out.2.2.2.1
            rw [e2] at this
            exact this
          rw [e1] at r1
          have s1 := sumS_le r1 m0
          obtain ⟨r2, r3⟩ := rise_app.1 r1
          obtain ⟨r4, r5⟩ := rise_app.1 r3
          obtain ⟨r6, r7⟩ := rise_app.1 r4
          rw [sumS_app, sumS_app, sumS_app] at s1
          have := sumS_pos r2; have := sumS_pos r5; have := sumS_pos r6; have := sumS_pos r7
          simp only
          omega
        obtain ⟨ws0, ws1⟩ := hWs
        obtain ⟨w6, hw6⟩ : ∃ w6, wr.alloc (.cells #[.int .i64 a, .int .i64 b2] 42) = w6 := ⟨_, rfl⟩
        have b6 : Below wr.heap.size wr w6 := by rw [← hw6]; exact on_alloc _ _
        have bf : Box w6 wr.heap.size 42 #[.int .i64 a, .int .i64 b2] := by rw [← hw6]; exact Box.made _ _ _
        have be6 := HR.out.be.on b6
        have t0 : w6.cell? ⟨wr.heap.size, 0, none⟩ = some (.int .i64 a) := bf.cell 0
        have t1 : w6.cell? ⟨wr.heap.size, 1, none⟩ = some (.int .i64 b2) := bf.cell 1
        have t2 : w6.cell? ⟨w.heap.size, 0, none⟩ = some (.int .i64 x) := be6.cell 0
        have t3 : w6.cell? ⟨w.heap.size, 1, none⟩ = some (.int .i64 y) := be6.cell 1
        have K1 := Lib.hid (And.intro (show w6.cell? ⟨wr.heap.size, 0, none⟩ = some (.int .i64 a) ∧ w6.cell? ⟨wr.heap.size, 1, none⟩ = some (.int .i64 b2) ∧ w6.cell? ⟨w.heap.size, 0, none⟩ = some (.int .i64 x) ∧ w6.cell? ⟨w.heap.size, 1, none⟩ = some (.int .i64 y) from ⟨t0, t1, t2, t3⟩) (show Below w6.heap.size w6 w6 from Below.refl _ _))
        have HT := Lib.hid (And.intro b6 (And.intro be6 (And.intro (bw.on b6) (And.intro bf (And.intro hW2 (And.intro htk hmem))))))
        clear b6 bf be6 bw hW2 htk hmem hfs hrz hab hW
        by_cases m1 : a < x + y
        · have hd1 : decide (a < x + y) = true := decide_eq_true m1
          by_cases m2 : x < a + b2
          · have hd2 : decide (x < a + b2) = true := decide_eq_true m2
            go_upto_region 11 with fail
            refine wp_region_held_drew (S := fun w' => Hid (Below w6.heap.size w6 w')) (by kernel_rfl) (Lib.hid (on_drew w6)) fun s0 => ?_
            refine take_to (i := 0) (v := .pointer (some ⟨wr.heap.size, 0, none⟩)) rfl (by kernel_rfl) (by kernel_rfl) (by kernel_rfl) (fun _ _ _ h => h) (Or.inl ⟨by rfl, fun w' hS => by go_simp⟩) s0 (some 38) rfl ?_
            try simp only [Act.put, List.setIfInBounds_toArray, List.set_cons_zero, List.set_cons_succ]
            refine take_to (i := 1) (v := .int .i64 a) rfl (by kernel_rfl) (by kernel_rfl) (by kernel_rfl) (fun _ _ _ h => h) (Or.inl ⟨by rfl, fun w' hS => by have hc := on_cell K1.out.1.1 hS.out; go_simp⟩) s0 (some 39) rfl ?_
            try simp only [Act.put, List.setIfInBounds_toArray, List.set_cons_zero, List.set_cons_succ]
            refine take_to (i := 2) (v := .agg #[.int .i64 x, .int .i64 y]) rfl (by kernel_rfl) (by kernel_rfl) (by kernel_rfl) (fun _ _ _ h => h) (Or.inl ⟨by rfl, fun w' hS => by have hc := on_cell K1.out.1.2.2.1 hS.out; have hc2 := on_cell K1.out.1.2.2.2 hS.out; go_simp⟩) s0 (some 40) rfl ?_
            try simp only [Act.put, List.setIfInBounds_toArray, List.set_cons_zero, List.set_cons_succ]
            refine wpAnyH_ready (rs := [3]) (by kernel_rfl) (by simp) ?_
            refine AllReadyH.cons rfl (fun Kq hKq => ?_) AllReadyH.nil
            try refine if_then (by rfl) ?_
            go_simp
            refine Calls.mono (end_any x y _ (by omega) (by omega)) ?_
            rintro e w7 ⟨rfl, b7⟩
            have s7 := Lib.hid (on_trans s0.out b7)
            refine hKq.out _ _ s7 fun _ => ?_
            clear hKq Kq b7
            try simp only [Act.put, List.setIfInBounds_toArray, List.set_cons_zero, List.set_cons_succ]
            refine take_to (i := 4) (v := .bool true) rfl (by kernel_rfl) (by kernel_rfl) (by kernel_rfl) (fun _ _ _ h => h) (Or.inl ⟨by rfl, fun w' hS => by go_simp⟩) s7 (some 42) rfl ?_
            try simp only [Act.put, List.setIfInBounds_toArray, List.set_cons_zero, List.set_cons_succ]
            refine take_to (i := 5) (v := .bool true) rfl (by kernel_rfl) (by kernel_rfl) (by kernel_rfl) (fun _ _ _ h => h) (Or.inl ⟨by rfl, fun w' hS => by go_simp⟩) s7 (some 43) rfl ?_
            try simp only [Act.put, List.setIfInBounds_toArray, List.set_cons_zero, List.set_cons_succ]
            refine take_to (i := 6) (v := .agg #[.int .i64 a, .int .i64 b2]) rfl (by kernel_rfl) (by kernel_rfl) (by kernel_rfl) (fun _ _ _ h => h) (Or.inl ⟨by rfl, fun w' hS => by have hc := on_cell K1.out.1.1 hS.out; have hc2 := on_cell K1.out.1.2.1 hS.out; go_simp⟩) s7 (some 44) rfl ?_
            try simp only [Act.put, List.setIfInBounds_toArray, List.set_cons_zero, List.set_cons_succ]
            refine take_to (i := 8) (v := .pointer (some ⟨w.heap.size, 0, none⟩)) rfl (by kernel_rfl) (by kernel_rfl) (by kernel_rfl) (fun _ _ _ h => h) (Or.inl ⟨by rfl, fun w' hS => by go_simp⟩) s7 (some 46) rfl ?_
            try simp only [Act.put, List.setIfInBounds_toArray, List.set_cons_zero, List.set_cons_succ]
            refine take_to (i := 9) (v := .int .i64 x) rfl (by kernel_rfl) (by kernel_rfl) (by kernel_rfl) (fun _ _ _ h => h) (Or.inl ⟨by rfl, fun w' hS => by have hc := on_cell K1.out.1.2.2.1 hS.out; go_simp⟩) s7 (some 47) rfl ?_
            try simp only [Act.put, List.setIfInBounds_toArray, List.set_cons_zero, List.set_cons_succ]
            refine wpAnyH_ready (rs := [7]) (by kernel_rfl) (by simp) ?_
            refine AllReadyH.cons rfl (fun Kq hKq => ?_) AllReadyH.nil
            try refine if_then (by rfl) ?_
            go_simp
            refine Calls.mono (end_any a b2 _ (by omega) (by omega)) ?_
            rintro e w8 ⟨rfl, b8⟩
            have s8 := Lib.hid (on_trans s7.out b8)
            refine hKq.out _ _ s8 fun _ => ?_
            clear hKq Kq b8
            try simp only [Act.put, List.setIfInBounds_toArray, List.set_cons_zero, List.set_cons_succ]
            refine take_to (i := 10) (v := .bool true) rfl (by kernel_rfl) (by kernel_rfl) (by kernel_rfl) (fun _ _ _ h => h) (Or.inl ⟨by rfl, fun w' hS => by go_simp⟩) s8 (some 48) rfl ?_
            try simp only [Act.put, List.setIfInBounds_toArray, List.set_cons_zero, List.set_cons_succ]
            refine take_to (i := 11) (v := .bool true) rfl (by kernel_rfl) (by kernel_rfl) (by kernel_rfl) (fun _ _ _ h => h) (Or.inl ⟨by rfl, fun w' hS => by go_simp⟩) s8 (some 49) rfl ?_
            try simp only [Act.put, List.setIfInBounds_toArray, List.set_cons_zero, List.set_cons_succ]
            refine wpAnyH_done (by kernel_rfl) ?_ _
            go_wp2_with fail
            go_ret
            exact .inl ⟨⟨(a, b2), HT.out.2.2.2.2.2.2, by unfold Meets; simp only; omega⟩, rfl, on_trans (on_trans HR.out.bel HT.out.1) s8.out⟩
          · have hd2 : decide (x < a + b2) = false := decide_eq_false m2
            have m4 : a + b2 ≤ x := by omega
            clear m2
            go_upto_region 11 with fail
            refine wp_region_held_drew (S := fun w' => Hid (Below w6.heap.size w6 w')) (by kernel_rfl) (Lib.hid (on_drew w6)) fun s0 => ?_
            refine take_to (i := 0) (v := .pointer (some ⟨wr.heap.size, 0, none⟩)) rfl (by kernel_rfl) (by kernel_rfl) (by kernel_rfl) (fun _ _ _ h => h) (Or.inl ⟨by rfl, fun w' hS => by go_simp⟩) s0 (some 38) rfl ?_
            try simp only [Act.put, List.setIfInBounds_toArray, List.set_cons_zero, List.set_cons_succ]
            refine take_to (i := 1) (v := .int .i64 a) rfl (by kernel_rfl) (by kernel_rfl) (by kernel_rfl) (fun _ _ _ h => h) (Or.inl ⟨by rfl, fun w' hS => by have hc := on_cell K1.out.1.1 hS.out; go_simp⟩) s0 (some 39) rfl ?_
            try simp only [Act.put, List.setIfInBounds_toArray, List.set_cons_zero, List.set_cons_succ]
            refine take_to (i := 2) (v := .agg #[.int .i64 x, .int .i64 y]) rfl (by kernel_rfl) (by kernel_rfl) (by kernel_rfl) (fun _ _ _ h => h) (Or.inl ⟨by rfl, fun w' hS => by have hc := on_cell K1.out.1.2.2.1 hS.out; have hc2 := on_cell K1.out.1.2.2.2 hS.out; go_simp⟩) s0 (some 40) rfl ?_
            try simp only [Act.put, List.setIfInBounds_toArray, List.set_cons_zero, List.set_cons_succ]
            refine wpAnyH_ready (rs := [3]) (by kernel_rfl) (by simp) ?_
            refine AllReadyH.cons rfl (fun Kq hKq => ?_) AllReadyH.nil
            try refine if_then (by rfl) ?_
            go_simp
            refine Calls.mono (end_any x y _ (by omega) (by omega)) ?_
            rintro e w7 ⟨rfl, b7⟩
            have s7 := Lib.hid (on_trans s0.out b7)
            refine hKq.out _ _ s7 fun _ => ?_
            clear hKq Kq b7
            try simp only [Act.put, List.setIfInBounds_toArray, List.set_cons_zero, List.set_cons_succ]
            refine take_to (i := 4) (v := .bool true) rfl (by kernel_rfl) (by kernel_rfl) (by kernel_rfl) (fun _ _ _ h => h) (Or.inl ⟨by rfl, fun w' hS => by go_simp⟩) s7 (some 42) rfl ?_
            try simp only [Act.put, List.setIfInBounds_toArray, List.set_cons_zero, List.set_cons_succ]
            refine take_to (i := 5) (v := .bool true) rfl (by kernel_rfl) (by kernel_rfl) (by kernel_rfl) (fun _ _ _ h => h) (Or.inl ⟨by rfl, fun w' hS => by go_simp⟩) s7 (some 43) rfl ?_
            try simp only [Act.put, List.setIfInBounds_toArray, List.set_cons_zero, List.set_cons_succ]
            refine take_to (i := 6) (v := .agg #[.int .i64 a, .int .i64 b2]) rfl (by kernel_rfl) (by kernel_rfl) (by kernel_rfl) (fun _ _ _ h => h) (Or.inl ⟨by rfl, fun w' hS => by have hc := on_cell K1.out.1.1 hS.out; have hc2 := on_cell K1.out.1.2.1 hS.out; go_simp⟩) s7 (some 44) rfl ?_
            try simp only [Act.put, List.setIfInBounds_toArray, List.set_cons_zero, List.set_cons_succ]
            refine take_to (i := 8) (v := .pointer (some ⟨w.heap.size, 0, none⟩)) rfl (by kernel_rfl) (by kernel_rfl) (by kernel_rfl) (fun _ _ _ h => h) (Or.inl ⟨by rfl, fun w' hS => by go_simp⟩) s7 (some 46) rfl ?_
            try simp only [Act.put, List.setIfInBounds_toArray, List.set_cons_zero, List.set_cons_succ]
            refine take_to (i := 9) (v := .int .i64 x) rfl (by kernel_rfl) (by kernel_rfl) (by kernel_rfl) (fun _ _ _ h => h) (Or.inl ⟨by rfl, fun w' hS => by have hc := on_cell K1.out.1.2.2.1 hS.out; go_simp⟩) s7 (some 47) rfl ?_
            try simp only [Act.put, List.setIfInBounds_toArray, List.set_cons_zero, List.set_cons_succ]
            refine wpAnyH_ready (rs := [7]) (by kernel_rfl) (by simp) ?_
            refine AllReadyH.cons rfl (fun Kq hKq => ?_) AllReadyH.nil
            try refine if_then (by rfl) ?_
            go_simp
            refine Calls.mono (end_any a b2 _ (by omega) (by omega)) ?_
            rintro e w8 ⟨rfl, b8⟩
            have s8 := Lib.hid (on_trans s7.out b8)
            refine hKq.out _ _ s8 fun _ => ?_
            clear hKq Kq b8
            try simp only [Act.put, List.setIfInBounds_toArray, List.set_cons_zero, List.set_cons_succ]
            refine take_to (i := 10) (v := .bool false) rfl (by kernel_rfl) (by kernel_rfl) (by kernel_rfl) (fun _ _ _ h => h) (Or.inl ⟨by rfl, fun w' hS => by go_simp⟩) s8 (some 48) rfl ?_
            try simp only [Act.put, List.setIfInBounds_toArray, List.set_cons_zero, List.set_cons_succ]
            refine take_to (i := 11) (v := .bool false) rfl (by kernel_rfl) (by kernel_rfl) (by kernel_rfl) (fun _ _ _ h => h) (Or.inl ⟨by rfl, fun w' hS => by go_simp⟩) s8 (some 49) rfl ?_
            try simp only [Act.put, List.setIfInBounds_toArray, List.set_cons_zero, List.set_cons_succ]
            refine wpAnyH_done (by kernel_rfl) ?_ _
            have bwc := HT.out.2.2.1.on s8.out
            have e0 : w8.cell? ⟨gw, 0, none⟩ = some (.int .i64 W.1) := bwc.cell 0
            have e1 : w8.cell? ⟨gw, 1, none⟩ = some (.int .i64 W.2) := bwc.cell 1
            have e2 : w8.frozen? ⟨gw, 0, none⟩ = false := bwc.free 0
            have e3 : w8.frozen? ⟨gw, 1, none⟩ = false := bwc.free 1
            have e4 := on_cell K1.out.1.1 s8.out
            have e5 := on_cell K1.out.1.2.1 s8.out
            have HW := Lib.hid (And.intro bwc (s8.out))
            clear bwc
            go_wp2_with fail
            have bN : Box ((w8.setCell ⟨gw, 0, none⟩ (.int .i64 (min W.1 a))).setCell ⟨gw, 1, none⟩ (.int .i64 (W.2 + b2))) gw 42 #[.int .i64 (min W.1 a), .int .i64 (W.2 + b2)] := by
              have := (HW.out.1.put 0 (.int .i64 (min W.1 a))).put 1 (.int .i64 (W.2 + b2))
              simpa using this
            have bE := ((HT.out.2.1.on HW.out.2).beside (p := ⟨gw, 0, none⟩) (by have := HLO.out; have := HNE.out; simp only; omega) (.int .i64 (min W.1 a))).beside (p := ⟨gw, 1, none⟩) (by have := HLO.out; have := HNE.out; simp only; omega) (.int .i64 (W.2 + b2))
            have bB := Below.setCell (p := ⟨gw, 1, none⟩) (Below.setCell (p := ⟨gw, 0, none⟩) (on_trans (on_trans HR.out.bel HT.out.1) HW.out.2) HLO.out.1 (.int .i64 (min W.1 a))) HLO.out.1 (.int .i64 (W.2 + b2))
            have HN := Lib.hid (show Gs w ((w8.setCell ⟨gw, 0, none⟩ (.int .i64 (min W.1 a))).setCell ⟨gw, 1, none⟩ (.int .i64 (W.2 + b2))) gw x y l (k + 1) from ⟨bB, bE, by rw [HT.out.2.2.2.2.1]; exact bN, fun f hf => by
              rw [HT.out.2.2.2.2.2.1] at hf
              rcases List.mem_append.1 hf with hf | hf
              · exact HR.out.no f hf
              · obtain rfl : f = (a, b2) := by simpa using hf
                unfold Meets
                simp only
                omega⟩)
            clear bN bE bB
            go_roundw
            case rel => exact ⟨k + 1, by omega, by go_num, HN.out⟩
            case measure => simp [intOf]; omega
        · have hd1 : decide (a < x + y) = false := decide_eq_false m1
          have m3 : x + y ≤ a := by omega
          clear m1
          go_upto_region 11 with fail
          refine wp_region_held_drew (S := fun w' => Hid (Below w6.heap.size w6 w')) (by kernel_rfl) (Lib.hid (on_drew w6)) fun s0 => ?_
          refine take_to (i := 0) (v := .pointer (some ⟨wr.heap.size, 0, none⟩)) rfl (by kernel_rfl) (by kernel_rfl) (by kernel_rfl) (fun _ _ _ h => h) (Or.inl ⟨by rfl, fun w' hS => by go_simp⟩) s0 (some 38) rfl ?_
          try simp only [Act.put, List.setIfInBounds_toArray, List.set_cons_zero, List.set_cons_succ]
          refine take_to (i := 1) (v := .int .i64 a) rfl (by kernel_rfl) (by kernel_rfl) (by kernel_rfl) (fun _ _ _ h => h) (Or.inl ⟨by rfl, fun w' hS => by have hc := on_cell K1.out.1.1 hS.out; go_simp⟩) s0 (some 39) rfl ?_
          try simp only [Act.put, List.setIfInBounds_toArray, List.set_cons_zero, List.set_cons_succ]
          refine take_to (i := 2) (v := .agg #[.int .i64 x, .int .i64 y]) rfl (by kernel_rfl) (by kernel_rfl) (by kernel_rfl) (fun _ _ _ h => h) (Or.inl ⟨by rfl, fun w' hS => by have hc := on_cell K1.out.1.2.2.1 hS.out; have hc2 := on_cell K1.out.1.2.2.2 hS.out; go_simp⟩) s0 (some 40) rfl ?_
          try simp only [Act.put, List.setIfInBounds_toArray, List.set_cons_zero, List.set_cons_succ]
          refine wpAnyH_ready (rs := [3]) (by kernel_rfl) (by simp) ?_
          refine AllReadyH.cons rfl (fun Kq hKq => ?_) AllReadyH.nil
          try refine if_then (by rfl) ?_
          go_simp
          refine Calls.mono (end_any x y _ (by omega) (by omega)) ?_
          rintro e w7 ⟨rfl, b7⟩
          have s7 := Lib.hid (on_trans s0.out b7)
          refine hKq.out _ _ s7 fun _ => ?_
          clear hKq Kq b7
          try simp only [Act.put, List.setIfInBounds_toArray, List.set_cons_zero, List.set_cons_succ]
          refine take_to (i := 4) (v := .bool false) rfl (by kernel_rfl) (by kernel_rfl) (by kernel_rfl) (fun _ _ _ h => h) (Or.inl ⟨by rfl, fun w' hS => by go_simp⟩) s7 (some 42) rfl ?_
          try simp only [Act.put, List.setIfInBounds_toArray, List.set_cons_zero, List.set_cons_succ]
          refine take_to (i := 5) (v := .bool false) rfl (by kernel_rfl) (by kernel_rfl) (by kernel_rfl) (fun _ _ _ h => h) (Or.inl ⟨by rfl, fun w' hS => by go_simp⟩) s7 (some 43) rfl ?_
          try simp only [Act.put, List.setIfInBounds_toArray, List.set_cons_zero, List.set_cons_succ]
          refine take_to (i := 6) (v := undef) rfl (by kernel_rfl) (by kernel_rfl) (by kernel_rfl) (fun _ _ _ h => h) (Or.inr ⟨by rfl, rfl⟩) s7 (some 44) rfl ?_
          try simp only [Act.put, List.setIfInBounds_toArray, List.set_cons_zero, List.set_cons_succ]
          refine take_to (i := 7) (v := undef) rfl (by kernel_rfl) (by kernel_rfl) (by kernel_rfl) (fun _ _ _ h => h) (Or.inr ⟨by rfl, rfl⟩) s7 (some 45) rfl ?_
          try simp only [Act.put, List.setIfInBounds_toArray, List.set_cons_zero, List.set_cons_succ]
          refine take_to (i := 8) (v := undef) rfl (by kernel_rfl) (by kernel_rfl) (by kernel_rfl) (fun _ _ _ h => h) (Or.inr ⟨by rfl, rfl⟩) s7 (some 46) rfl ?_
          try simp only [Act.put, List.setIfInBounds_toArray, List.set_cons_zero, List.set_cons_succ]
          refine take_to (i := 9) (v := undef) rfl (by kernel_rfl) (by kernel_rfl) (by kernel_rfl) (fun _ _ _ h => h) (Or.inr ⟨by rfl, rfl⟩) s7 (some 47) rfl ?_
          try simp only [Act.put, List.setIfInBounds_toArray, List.set_cons_zero, List.set_cons_succ]
          refine take_to (i := 10) (v := undef) rfl (by kernel_rfl) (by kernel_rfl) (by kernel_rfl) (fun _ _ _ h => h) (Or.inr ⟨by rfl, rfl⟩) s7 (some 48) rfl ?_
          try simp only [Act.put, List.setIfInBounds_toArray, List.set_cons_zero, List.set_cons_succ]
          refine take_to (i := 11) (v := .bool false) rfl (by kernel_rfl) (by kernel_rfl) (by kernel_rfl) (fun _ _ _ h => h) (Or.inl ⟨by rfl, fun w' hS => by go_simp⟩) s7 (some 49) rfl ?_
          try simp only [Act.put, List.setIfInBounds_toArray, List.set_cons_zero, List.set_cons_succ]
          refine wpAnyH_done (by kernel_rfl) ?_ _
          have bwc := HT.out.2.2.1.on s7.out
          have e0 : w7.cell? ⟨gw, 0, none⟩ = some (.int .i64 W.1) := bwc.cell 0
          have e1 : w7.cell? ⟨gw, 1, none⟩ = some (.int .i64 W.2) := bwc.cell 1
          have e2 : w7.frozen? ⟨gw, 0, none⟩ = false := bwc.free 0
          have e3 : w7.frozen? ⟨gw, 1, none⟩ = false := bwc.free 1
          have e4 := on_cell K1.out.1.1 s7.out
          have e5 := on_cell K1.out.1.2.1 s7.out
          have HW := Lib.hid (And.intro bwc (s7.out))
          clear bwc
          go_wp2_with fail
          have bN : Box ((w7.setCell ⟨gw, 0, none⟩ (.int .i64 (min W.1 a))).setCell ⟨gw, 1, none⟩ (.int .i64 (W.2 + b2))) gw 42 #[.int .i64 (min W.1 a), .int .i64 (W.2 + b2)] := by
            have := (HW.out.1.put 0 (.int .i64 (min W.1 a))).put 1 (.int .i64 (W.2 + b2))
            simpa using this
          have bE := ((HT.out.2.1.on HW.out.2).beside (p := ⟨gw, 0, none⟩) (by have := HLO.out; have := HNE.out; simp only; omega) (.int .i64 (min W.1 a))).beside (p := ⟨gw, 1, none⟩) (by have := HLO.out; have := HNE.out; simp only; omega) (.int .i64 (W.2 + b2))
          have bB := Below.setCell (p := ⟨gw, 1, none⟩) (Below.setCell (p := ⟨gw, 0, none⟩) (on_trans (on_trans HR.out.bel HT.out.1) HW.out.2) HLO.out.1 (.int .i64 (min W.1 a))) HLO.out.1 (.int .i64 (W.2 + b2))
          have HN := Lib.hid (show Gs w ((w7.setCell ⟨gw, 0, none⟩ (.int .i64 (min W.1 a))).setCell ⟨gw, 1, none⟩ (.int .i64 (W.2 + b2))) gw x y l (k + 1) from ⟨bB, bE, by rw [HT.out.2.2.2.2.1]; exact bN, fun f hf => by
            rw [HT.out.2.2.2.2.2.1] at hf
            rcases List.mem_append.1 hf with hf | hf
            · exact HR.out.no f hf
            · obtain rfl : f = (a, b2) := by simpa using hf
              unfold Meets
              simp only
              omega⟩)
          clear bN bE bB
          go_roundw
          case rel => exact ⟨k + 1, by omega, by go_num, HN.out⟩
          case measure => simp [intOf]; omega
      · obtain rfl : k = N := by omega
        have M6 := HP.out.2.2.2.2.2.on HR.out.bel
        have bw := HR.out.bw
        rw [List.take_of_length_le (by rw [HX.out.2.1]; exact Nat.le_refl _)] at bw
        obtain ⟨W, hW⟩ : ∃ W, whole (x, y) l = W := ⟨_, rfl⟩
        rw [hW] at bw
        have v0 : wr.cell? ⟨gw, 0, none⟩ = some (.int .i64 W.1) := bw.cell 0
        have v1 : wr.cell? ⟨gw, 1, none⟩ = some (.int .i64 W.2) := bw.cell 1
        obtain ⟨w8, hw8⟩ : ∃ w8, wr.alloc (.cells #[.int .i64 W.1, .int .i64 W.2] 42) = w8 := ⟨_, rfl⟩
        have b8 : Below wr.heap.size wr w8 := by rw [← hw8]; exact on_alloc _ _
        have hRp := replace_any w8 g m fs A n c (M6.on b8) (fun b => b ≠ g) (M6.on b8).row (fun b h => h) (by omega) F T (by omega) (by omega) (some ⟨wr.heap.size, 0, none⟩) 1 1 [W] (rd_of_box (by rw [← hw8]; exact Box.made _ _ _) rfl (by decide) trivial) (by omega)
        have H8 := Lib.hid (And.intro hRp (And.intro (on_trans HR.out.bel b8) hW))
        clear M6 bw hRp b8 hW
        go_wp2_with fail
        with_reducible refine Calls.mono H8.out.1 ?_
        rintro e w9 ⟨rfl, m9, k9⟩
        have H9 := Lib.hid (And.intro m9 k9)
        clear m9 k9
        go_wp2_with fail
        go_ret
        obtain ⟨⟨A9, n9, c9, m9, _⟩, k9⟩ := H9.out
        have hno := HR.out.no
        rw [List.take_of_length_le (by rw [HX.out.2.1]; exact Nat.le_refl _)] at hno
        exact .inr ⟨hno, rfl, ⟨A9, n9, c9, by rw [H8.out.2.2]; exact m9⟩, (Kept.of_below H8.out.2.1 _).trans k9 (fun _ _ h => h)⟩
end Go.Proofs.Ytcgajomngcgchaa
