/-
  The contract of scan.Get.
-/
import Derived.Test.YtdnjnbfmmgkpjaaDoorGG
import Derived.Test.YtdnjnbfmmgkpjaaDoorPG
import Derived.Deep.Slices
namespace Go.Proofs.YtdnjnbfmmgkpjaaDoor
open Go.RowKit

theorem callsG39 (args : Array Value) (w : World) : (callFunc 39 args).run Tryd.prog w = .ok (.enter 39 args) w := by kernel_rfl
theorem callsG41 (args : Array Value) (w : World) : (callFunc 41 args).run Tryd.prog w = .ok (.enter 41 args) w := by kernel_rfl
theorem results_ctt {fn : Func} {p q r : Tmp} {ty : TypeId} (h : fn.results = #[.cell p ty, .tmp q, .tmp r]) (tmps : Array Value) (w : World) (g : Nat) (x v u : Value)
    (hp : tmps.getD p undef = .pointer (some ⟨g, 0, none⟩)) (hq : tmps.getD q undef = v) (hr : tmps.getD r undef = u) (hl : (loadVar ty ⟨g, 0, none⟩).run Tryd.prog w = .ok x w) : (results fn tmps).run Tryd.prog w = .ok (.tuple #[x, v, u]) w := by
  have hp' : tmps[p]?.getD undef = .pointer (some ⟨g, 0, none⟩) := by simpa using hp
  have hq' : tmps[q]?.getD undef = v := by simpa using hq
  have hr' : tmps[r]?.getD undef = u := by simpa using hr
  simp [results, h, hp', hq', hr', asAddr, hl]
/-- the reading of all of a scan -/
def getG (W H K R : Int) (T : Tbs) (l : List Int) : GS := runG T l (zeroG W H K) (evTo (uW W K) K R.toNat (uW W K * uH H K))
structure GetY (w : World) (W H K R : Int) (T : Tbs) (l : List Int) (e : Ending) (w' : World) : Prop where
  bel : Below w.heap.size w w'
  bad : ¬ RightS W H K R → e = .returned (.tuple #[tileV none 0 0, .int .i64 0, .int .i64 1])
  form : RightS W H K R → ¬ OkT K T → e = .returned (.tuple #[tileV none 0 0, .int .i64 0, .int .i64 4])
  err : RightS W H K R → OkT K T → (getG W H K R T l).err ≠ 0 → e = .returned (.tuple #[tileV none 0 0, .int .i64 0, .int .i64 (getG W H K R T l).err])
  got : RightS W H K R → OkT K T → (getG W H K R T l).err = 0 → ∃ A c bd, e = .returned (.tuple #[tileV A (nP K) c, .int .i64 ((getG W H K R T l).st.at_ : Int), .int .i64 0]) ∧ TlM w' w.heap.size W H K A bd (getG W H K R T l).tl
section
variable (w : World) (W H K R : Int) (T : Tbs) (X : Nat → Value) (KK : Nat → Prop) (A : Option Addr) (n c : Nat) (l : List Int)
set_option maxRecDepth 10000 in
set_option maxHeartbeats 6400000 in
theorem scanGet_any (hT : Tab w) (hX : Xs w T X) (hW : Wt T) (h3 : ∀ j, j < 4 → (T.V j).length ≤ 300) (hl : Sl w KK A n c l) (hn : n ≤ 60000) : Calls Tryd.prog 16 #[scanV W H K R, tbV T X, .slice A n c] w (GetY w W H K R T l) := by
  obtain ⟨C, hC⟩ : ∃ C, C = (tbC T X).toArray := ⟨_, rfl⟩
  have eC : tbV T X = .agg C := by rw [hC]; rfl
  obtain ⟨g1, hg1⟩ : ∃ g1, w.heap.size = g1 := ⟨_, rfl⟩
  obtain ⟨w1, hw1⟩ : ∃ w1, ((w.alloc (.cells #[.int .i64 W, .int .i64 H, .int .i64 K, .int .i64 R] 23)).alloc (.cells C 33)).alloc (.cells #[.slice none 0 0] 36) = w1 := ⟨_, rfl⟩
  have b1 : Box w1 g1 23 #[.int .i64 W, .int .i64 H, .int .i64 K, .int .i64 R] := by rw [← hw1, ← hg1]; exact ((Box.made _ _ _).alloc _).alloc _
  have b2 : Box w1 (g1 + 1) 33 C := by
    rw [← hw1, ← hg1]
    have := (Box.made (w.alloc (.cells #[.int .i64 W, .int .i64 H, .int .i64 K, .int .i64 R] 23)) 33 C).alloc (.cells #[.slice none 0 0] 36)
    simpa using this
  have b3 : Box w1 (g1 + 1 + 1) 36 #[.slice none 0 0] := by
    rw [← hw1, ← hg1]
    have := Box.made ((w.alloc (.cells #[.int .i64 W, .int .i64 H, .int .i64 K, .int .i64 R] 23)).alloc (.cells C 33)) 36 #[.slice none 0 0]
    simpa using this
  have k1 : Below w.heap.size w w1 := by rw [← hw1]; exact on_trans (on_trans (on_alloc _ _) (on_alloc _ _)) (on_alloc _ _)
  have q0 : w1.cell? ⟨g1, 0, none⟩ = some (.int .i64 W) := b1.cell 0
  have q1 : w1.cell? ⟨g1, 1, none⟩ = some (.int .i64 H) := b1.cell 1
  have q2 : w1.cell? ⟨g1, 2, none⟩ = some (.int .i64 K) := b1.cell 2
  have q3 : w1.cell? ⟨g1, 3, none⟩ = some (.int .i64 R) := b1.cell 3
  have hrt := rightS_any w1 W H K R
  have HRt := Lib.hid hrt
  have HB := Lib.hid (And.intro b1 (And.intro b2 (And.intro b3 (And.intro k1 (And.intro hg1 (And.intro eC hC))))))
  have HA := Lib.hid (And.intro hT (And.intro hX (And.intro hW (And.intro h3 hl))))
  have hz36 : ∀ w, (zeroValue 36).run Tryd.prog w = .ok (.agg #[.slice none 0 0]) w := fun w => by kernel_rfl
  have hb36 : ∀ w, (Instr.build 36 #[]).run Tryd.prog w = .ok (.agg #[.slice none 0 0]) w := fun w => by kernel_rfl
  rw [eC]
  clear b1 b2 b3 k1 hT hX hW h3 hl hrt eC hC
  unfold scanV
  go_enter Tryd.func16, Tryd.ntmps16
  go_upto_region 1 with fail
  clear hw1
  go_wp2_with fail
  refine Calls.mono HRt.out ?_
  rintro e w2 ⟨rfl, k2⟩
  have H2 := Lib.hid (And.intro (HB.out.1.on k2) (And.intro (HB.out.2.1.on k2) (And.intro (HB.out.2.2.1.on k2) (on_trans HB.out.2.2.2.1 k2))))
  clear k2 HRt q0 q1 q2 q3
  have r0 : w2.cell? ⟨g1 + 1 + 1, 0, none⟩ = some (.slice none 0 0) := H2.out.2.2.1.cell 0
  have f0 : w2.frozen? ⟨g1 + 1 + 1, 0, none⟩ = false := H2.out.2.2.1.free 0
  by_cases hR : RightS W H K R
  · have HR := Lib.hid hR
    have hd : decide (RightS W H K R) = true := decide_eq_true hR
    rw [hd]
    obtain ⟨hW1, hH1, hK1, hR1⟩ := hR
    obtain ⟨r, rfl⟩ : ∃ r : Nat, R = (r : Int) := ⟨R.toNat, by omega⟩
    have q2 : w2.cell? ⟨g1, 2, none⟩ = some (.int .i64 K) := H2.out.1.cell 2
    have kw2 := H2.out.2.2.2
    have hld : (Instr.loadAt 33 (.pointer (some ⟨g1 + 1, 0, none⟩))).run Tryd.prog w2 = .ok (.agg C) w2 := by
      have hb := H2.out.2.1
      rw [HB.out.2.2.2.2.2.2] at hb
      rw [← HB.out.2.2.2.2.2.1]
      exact (hb.rng).load
    have HLd := Lib.hid hld
    have hu := used_any w2 K T X (HA.out.2.1.on kw2) HA.out.2.2.1 HA.out.2.2.2.1
    rw [HB.out.2.2.2.2.2.1] at hu
    have HU := Lib.hid hu
    clear hld hu hW1 hH1 hK1 hR1 kw2 hd
    go_wp2_with (first
      | (with_reducible refine wpList_load_to (op := ⟨some 20, _, _, _, _, _⟩) rfl 33 (.tmp 4) rfl (.pointer (some ⟨g1 + 1, 0, none⟩)) rfl (.agg C) HLd.out ?_)
      | fail)
    refine Calls.mono HU.out ?_
    obtain ⟨Z, hZ⟩ : ∃ Z, Z = nil4 := ⟨_, rfl⟩
    have hz69 : ∀ w, (zeroValue 69).run Tryd.prog w = .ok (.agg Z) w := fun w => by rw [hZ]; kernel_rfl
    have HZ := Lib.hid (And.intro (show (Tryd.prog.info? 69).map (·.size) = some Z.size by rw [hZ]; exact nil4_size) (And.intro (show Z.size = Z.size from rfl) (And.intro (show Z.all (·.oneCell') = true by rw [hZ]; exact nil4_one) hZ)))
    rintro e w3 ⟨k3, h3⟩
    obtain ⟨g4, hg4⟩ : ∃ g4, w3.heap.size = g4 := ⟨_, rfl⟩
    obtain ⟨w4, hw4⟩ : ∃ w4, w3.alloc (.cells Z 69) = w4 := ⟨_, rfl⟩
    have b4 : Box w4 g4 69 Z := by rw [← hw4, ← hg4]; exact Box.made _ _ _
    have k4 : Below w3.heap.size w3 w4 := by rw [← hw4]; exact on_alloc _ _
    have H4 := Lib.hid (And.intro b4 (And.intro k3 (And.intro k4 hg4)))
    clear b4 k3 k4 HLd HU q2 hZ r0 f0
    rcases h3 with ⟨hok, P, rfl, hptr, hcod⟩ | ⟨hno, he⟩
    · have HP := Lib.hid (And.intro hok (And.intro hptr (And.intro (show Z.size = (cod4 P).size by rw [HZ.out.2.2.2]; rfl) hcod)))
      clear hok hptr hcod
      go_upto_region 4 with (first
        | ((with_reducible refine wpList_store_rowk (o := ⟨none, _, _, _, _, _⟩) rfl 69 (.tmp 9) (.tmp 22) rfl rfl g4 (cod4 P) rfl rfl (cod4_size P) 69 Z H4.out.1 HP.out.2.2.1 (cod4_one HP.out.2.1) ?_)
           intro w5 b5 k5
           have H5 := Lib.hid (And.intro b5 k5)
           clear b5 k5)
        | fail)
      clear hw4 hg4
      have hb4 := (on_trans (on_trans H2.out.2.2.2 H4.out.2.1) H4.out.2.2.1)
      have hsz := (on_trans H2.out.2.2.2 H4.out.2.1).size
      have hg4 := H4.out.2.2.2
      have bel5 : Below w.heap.size w w5 := hb4.trans (H5.out.2.below hb4.size (fun i hi e => by omega))
      have q5 : ∀ {g t : Nat} {cs : Array Value}, Box w2 g t cs → Box w5 g t cs := fun hb => H5.out.2.box ((hb.on H4.out.2.1).on H4.out.2.2.1) (fun e => by have := hb.lt; have := H4.out.2.1.size; omega)
      have cod5 : ∀ c, c < nC K → CodR w5 w2.heap.size w3.heap.size T P c := fun c hc => ((HP.out.2.2.2 c hc).on H4.out.2.2.1).kept H5.out.2 (fun b _ hb e => by omega)
      have H6 := Lib.hid (And.intro bel5 (And.intro (q5 H2.out.1) (And.intro (q5 H2.out.2.2.1) (And.intro H5.out.1 cod5))))
      have hg46 : g4 < w5.heap.size := H5.out.1.lt
      have hw35 : w3.heap.size ≤ w5.heap.size := by have := H4.out.2.2.1.size; have := H5.out.2.size; omega
      have q0 : w5.cell? ⟨g1, 0, none⟩ = some (.int .i64 W) := (q5 H2.out.1).cell 0
      have q1 : w5.cell? ⟨g1, 1, none⟩ = some (.int .i64 H) := (q5 H2.out.1).cell 1
      have q2 : w5.cell? ⟨g1, 2, none⟩ = some (.int .i64 K) := (q5 H2.out.1).cell 2
      have q3 : w5.cell? ⟨g1, 3, none⟩ = some (.int .i64 (r : Int)) := (q5 H2.out.1).cell 3
      have HBl := Lib.hid (blank_any w5 W H K (r : Int) HR.out)
      unfold scanV BlankY tileV at HBl
      clear hb4 hsz bel5 q5 cod5
      go_upto_region 6 with fail
      go_wp2_with fail
      refine Calls.mono HBl.out ?_
      rintro e w6 ⟨At, ct, bd, rfl, htl, k6⟩
      clear q0 q1 q2 q3 HBl
      obtain ⟨g7, hg7⟩ : ∃ g7, w6.heap.size = g7 := ⟨_, rfl⟩
      obtain ⟨m, hm⟩ : ∃ m, m = nP K := ⟨_, rfl⟩
      rw [← hm]
      obtain ⟨w7, hw7⟩ : ∃ w7, w6.alloc (.cells #[.slice At m ct] 36) = w7 := ⟨_, rfl⟩
      have b7 : Box w7 g7 36 #[.slice At m ct] := by rw [← hw7, ← hg7]; exact Box.made _ _ _
      have k7 : Below w6.heap.size w6 w7 := by rw [← hw7]; exact on_alloc _ _
      have k57 := on_trans k6 k7
      have H7 := Lib.hid (And.intro b7 (And.intro (htl.on k7) (And.intro k57 hm)))
      have hg17 : g1 + 1 + 1 < g7 := by have := H6.out.2.2.1.lt; have := k6.size; omega
      clear b7 k7 htl k6 k57 hm
      go_upto_region 7 with fail
      clear hw7
      go_wp2_with fail
      refine Calls.mono (newReader_any _ (fun _ => True) A n c l (HA.out.2.2.2.2.on (on_trans H6.out.1 H7.out.2.2.1)) hn) ?_
      rintro e w8 ⟨rd, g8, rfl, hd, _, hrd, k8⟩
      obtain ⟨g9, hg9⟩ : ∃ g9, w8.heap.size = g9 := ⟨_, rfl⟩
      obtain ⟨w9, hw9⟩ : ∃ w9, w8.alloc (.cells #[.pointer (some ⟨rd, 0, none⟩)] 97) = w9 := ⟨_, rfl⟩
      have b9 : Box w9 g9 97 #[.pointer (some ⟨rd, 0, none⟩)] := by rw [← hw9, ← hg9]; exact Box.made _ _ _
      have k9 : Below w8.heap.size w8 w9 := by rw [← hw9]; exact on_alloc _ _
      have k79 := on_trans k8 k9
      have k59 := on_trans H7.out.2.2.1 k79
      have q0 : w9.cell? ⟨g1, 0, none⟩ = some (.int .i64 W) := (H6.out.2.1.on k59).cell 0
      have q1 : w9.cell? ⟨g1, 1, none⟩ = some (.int .i64 H) := (H6.out.2.1.on k59).cell 1
      have q2 : w9.cell? ⟨g1, 2, none⟩ = some (.int .i64 K) := (H6.out.2.1.on k59).cell 2
      have q3 : w9.cell? ⟨g1, 3, none⟩ = some (.int .i64 (r : Int)) := (H6.out.2.1.on k59).cell 3
      have r0 : w9.cell? ⟨g7, 0, none⟩ = some (.slice At m ct) := (H7.out.1.on k79).cell 0
      have hN0 : w.heap.size ≤ w3.heap.size := by have := (on_trans H2.out.2.2.2 H4.out.2.1).size; omega
      have h59 := k59.size
      have h57 := H7.out.2.2.1.size
      have hst : (gs0 (zeroG W H K)).st = st0 := rfl
      have hinv : GInv w9 w W H K T l P At bd g4 g9 rd w2.heap.size w3.heap.size w5.heap.size [] [0, 0, 0] w9 :=
        ⟨rfl, rfl, rfl, on_trans H6.out.1 k59, H6.out.2.2.2.1.on k59, fun c hc => (H6.out.2.2.2.2 c hc).on k59, b9, ⟨g8, hrd.on k9⟩, H7.out.2.1.on k79, fun g cs hb => hb⟩
      have heach := each14_any (GInv w9 w W H K T l P At bd g4 g9 rd w2.heap.size w3.heap.size w5.heap.size) (BadG w9 w W H K T l (evTo (uW W K) K r (uW W K * uH H K))) 39 41 #[.pointer (some ⟨g4, 0, none⟩), .pointer (some ⟨g9, 0, none⟩)] #[.pointer (some ⟨g9, 0, none⟩)] w.heap.size (fun p => (bd p, 0)) (fun p => nB W H K p) w9 W H K At m ct (tlL W H K bd) r
        callsG39 callsG41 HR.out (by omega) hinv H7.out.2.2.2 (fun p hp => ⟨tlL_at hp, Nat.le_refl _⟩) (fun done prev w1 w2 h k => h.on k) (fun done prev w1 w2 h k => h.one (by omega) hN0 k) (fun done prev w1 h => by rw [H7.out.2.2.2]; exact h.til.pt)
        (fun done prev p a w1 hq hp ha hl hi hs => get_see w9 w W H K r T l P At bd g4 g9 rd w2.heap.size w3.heap.size w5.heap.size w9.heap.size HP.out.1 HA.out.1 hN0 (by omega) hw35 (by omega) done prev p a w1 hq hp ha hl hi hs)
        (fun done prev w1 hq hl hi hs => get_rest w9 w W H K r T l P At bd g4 g9 rd w2.heap.size w3.heap.size w5.heap.size w9.heap.size hN0 (by omega) done prev w1 hq hl hi hs)
      unfold scanV tileV at heach
      have HEa := Lib.hid heach
      have H9 := Lib.hid (And.intro (H7.out.1.on k79) (And.intro (H6.out.2.2.1.on k59) (on_trans H6.out.1 k59)))
      have hg7 : g7 < w9.heap.size := (H7.out.1.on k79).lt
      clear heach hinv b9 k9 k79 k59 hrd hd h59 h57 k8
      go_upto_region 8 with fail
      clear hw9 hg9
      go_wp2_with fail
      refine Calls.mono HEa.out ?_
      rintro e wa ⟨E, rfl, hE0, hE1, ka⟩
      clear q0 q1 q2 q3 r0 HEa
      have hto : ((r : Int)).toNat = r := Int.toNat_natCast r
      by_cases hE : E = 0
      · subst hE
        obtain ⟨prev, hi⟩ := hE0 rfl
        obtain ⟨ga, hrd⟩ := hi.rd
        have hfr := hi.fr _ _ H9.out.2.1
        have hft := hi.fr _ _ H9.out.1
        have hG : getG W H K (r : Int) T l = runG T l (zeroG W H K) (evTo (uW W K) K r (uW W K * uH H K)) := by unfold getG; rw [hto]
        have HI := Lib.hid (And.intro hi.err (And.intro hi.bel (And.intro hi.til (And.intro hrd (And.intro hfr (And.intro hft hG))))))
        have HGR := Lib.hid hi.gr
        clear hE0 hE1 ka hi hrd hG hfr hft
        obtain ⟨S, hS⟩ : ∃ S, S = runG T l (zeroG W H K) (evTo (uW W K) K r (uW W K * uH H K)) := ⟨_, rfl⟩
        rw [← hS] at HI
        obtain ⟨at9, hat⟩ : ∃ at9, at9 = S.st.at_ := ⟨_, rfl⟩
        have sg := Lib.hid (And.intro (HI.out.2.2.2.2.2.1.on (on_drew wa)) (HGR.out.on (on_drew wa)))
        clear hS
        go_upto_region 11 with fail
        refine wp_region_held_drew (S := fun w' => Hid (Box w' g7 36 #[.slice At m ct] ∧ Box w' g9 97 #[.pointer (some ⟨rd, 0, none⟩)])) (by kernel_rfl) sg fun s0 => ?_
        refine take_to (i := 0) (v := .agg #[.slice At m ct]) rfl (by kernel_rfl) (by kernel_rfl) (by kernel_rfl) (fun _ _ _ h => h) (Or.inl ⟨by rfl, fun w' hS => by have := hS.out.1.cell 0; go_simp⟩) s0 (some 41) rfl ?_
        try simp only [Act.put, List.setIfInBounds_toArray, List.set_cons_zero, List.set_cons_succ]
        refine take_to (i := 1) (v := .pointer (some ⟨rd, 0, none⟩)) rfl (by kernel_rfl) (by kernel_rfl) (by kernel_rfl) (fun _ _ _ h => h) (Or.inl ⟨by rfl, fun w' hS => by have := hS.out.2.cell 0; go_simp⟩) s0 (some 42) rfl ?_
        try simp only [Act.put, List.setIfInBounds_toArray, List.set_cons_zero, List.set_cons_succ]
        refine wpAnyH_ready (rs := [2]) (by kernel_rfl) (by simp) ?_
        refine AllReadyH.cons rfl (fun Kq hKq => ?_) AllReadyH.nil
        go_simp
        refine Calls.mono (at_any _ rd ga l S.st (HI.out.2.2.2.1.on (on_drew wa))) ?_
        rintro e wc ⟨rfl, kc⟩
        rw [← hat]
        have s1 := Lib.hid (And.intro (s0.out.1.on kc) (s0.out.2.on kc))
        refine hKq.out _ _ s1 fun _ => ?_
        have kac := on_trans (on_drew wa) kc
        have bc := HI.out.2.2.2.2.1.on kac
        have r0 : wc.cell? ⟨g1 + 1 + 1, 0, none⟩ = some (.slice none 0 0) := bc.cell 0
        have f0 : wc.frozen? ⟨g1 + 1 + 1, 0, none⟩ = false := bc.free 0
        have HC := Lib.hid (And.intro bc kac)
        clear hKq Kq s0 kc kac bc
        refine wpAnyH_ready (rs := [3]) (by kernel_rfl) (by simp) ?_
        refine AllReadyH.cons rfl (fun Kq hKq => ?_) AllReadyH.nil
        go_simp
        have hK : Kept (fun i => i = g1 + 1 + 1) wc (wc.setCell ⟨g1 + 1 + 1, 0, none⟩ (.slice At m ct)) := (Kept.refl (fun i => i = g1 + 1 + 1) wc).setCell (p := ⟨g1 + 1 + 1, 0, none⟩) (fun _ => rfl) _
        have s2 := Lib.hid (And.intro (hK.box s1.out.1 (fun e => by have := HI.out.2.2.2.2.1.lt; omega)) (hK.box s1.out.2 (fun e => s1.out.2.apart HC.out.1 (by decide) e)))
        refine hKq.out _ _ s2 fun _ => ?_
        clear hKq Kq
        refine take_to (i := 4) (v := .int .i64 (at9 : Int)) rfl (by kernel_rfl) (by kernel_rfl) (by kernel_rfl) (fun _ _ _ h => h) (Or.inl ⟨by rfl, fun w' hS => by go_simp⟩) s2 (some 7) rfl ?_
        try simp only [Act.put, List.setIfInBounds_toArray, List.set_cons_zero, List.set_cons_succ]
        refine take_to (i := 5) (v := .int .i64 0) rfl (by kernel_rfl) (by kernel_rfl) (by kernel_rfl) (fun _ _ _ h => h) (Or.inl ⟨by rfl, fun w' hS => by go_simp⟩) s2 (some 8) rfl ?_
        try simp only [Act.put, List.setIfInBounds_toArray, List.set_cons_zero, List.set_cons_succ]
        refine wpAnyH_done (by kernel_rfl) ?_ _
        go_wp2_with fail
        have hb2 : Box (wc.setCell ⟨g1 + 1 + 1, 0, none⟩ (.slice At m ct)) (g1 + 1 + 1) 36 #[.slice At m ct] := HC.out.1.put 0 _
        refine bodyPost_ret (v := .tuple #[tileV At m ct, .int .i64 (at9 : Int), .int .i64 0]) (results_ctt (fn := Tryd.f16) Tryd.results16 _ _ (g1 + 1 + 1) _ _ _ rfl rfl rfl (loadVar_tile hb2)) rfl ?_
        have belc : Below w.heap.size w wc := HI.out.2.1.trans (HC.out.2.mono HI.out.2.1.size)
        have belf := belc.trans (hK.below belc.size (fun i hi e => by omega))
        refine ⟨belf, fun h => absurd HR.out h, fun _ h => absurd HP.out.1 h, fun _ _ h => absurd (by rw [HI.out.2.2.2.2.2.2]; exact HI.out.1) h, fun _ _ _ => ⟨At, ct, bd, ?_, ?_⟩⟩
        · rw [HI.out.2.2.2.2.2.2, ← hat, ← H7.out.2.2.2]
        · rw [HI.out.2.2.2.2.2.2]
          have ht := (HI.out.2.2.1.on HC.out.2).kept hK (fun g cs hb e => by subst e; exact hb.apart HC.out.1 (by decide) rfl) (fun p hp e => by
            obtain ⟨cb, hcb⟩ := ((HI.out.2.2.1.on HC.out.2).row p hp).1.box
            exact hcb.apart HC.out.1 (by decide) e)
          obtain ⟨gp, cs, a1, a2, a3, a4⟩ := ht.parts
          exact ⟨⟨gp, cs, a1, a2, Nat.le_trans H6.out.1.size a3, a4⟩, fun p hp => ⟨(ht.row p hp).1, Nat.le_trans H6.out.1.size (ht.row p hp).2⟩, ht.inj, ht.len⟩
      · have hEb : (E != 0) = true := by simpa using hE
        have HEE := Lib.hid (And.intro (hE1 hE) hE)
        clear hE0 hE1 ka hE
        obtain ⟨hb, hbel, hfr⟩ := HEE.out.1
        have bb := hfr _ _ H9.out.2.1
        have r0 : wa.cell? ⟨g1 + 1 + 1, 0, none⟩ = some (.slice none 0 0) := bb.cell 0
        have f0 : wa.frozen? ⟨g1 + 1 + 1, 0, none⟩ = false := bb.free 0
        have HEB := Lib.hid (And.intro hb (And.intro hbel bb))
        clear hb hbel hfr bb
        go_wp2_with fail
        have hb2 : Box (wa.setCell ⟨g1 + 1 + 1, 0, none⟩ (.slice none 0 0)) (g1 + 1 + 1) 36 #[.slice none 0 0] := HEB.out.2.2.put 0 _
        have hK : Kept (fun i => i = g1 + 1 + 1) wa (wa.setCell ⟨g1 + 1 + 1, 0, none⟩ (.slice none 0 0)) := (Kept.refl (fun i => i = g1 + 1 + 1) wa).setCell (p := ⟨g1 + 1 + 1, 0, none⟩) (fun _ => rfl) _
        refine bodyPost_ret (v := .tuple #[tileV none 0 0, .int .i64 0, .int .i64 E]) (results_ctt (fn := Tryd.f16) Tryd.results16 _ _ (g1 + 1 + 1) _ _ _ rfl rfl rfl (loadVar_tile hb2)) rfl ?_
        have hG : (getG W H K (r : Int) T l).err = E := by unfold getG; rw [hto]; exact HEB.out.1.symm
        exact ⟨HEB.out.2.1.trans (hK.below HEB.out.2.1.size (fun i hi e => by omega)), fun h => absurd HR.out h, fun _ h => absurd HP.out.1 h, fun _ _ _ => by rw [hG], fun _ _ h => absurd (hG.symm.trans h) HEE.out.2⟩
    · rw [show (#[.pointer none, .pointer none, .pointer none, .pointer none] : Array Value) = Z from HZ.out.2.2.2.symm] at he
      subst he
      go_upto_region 4 with (first
        | ((with_reducible refine wpList_store_rowk (o := ⟨none, _, _, _, _, _⟩) rfl 69 (.tmp 9) (.tmp 22) rfl rfl g4 Z rfl rfl HZ.out.1 69 Z H4.out.1 rfl HZ.out.2.2.1 ?_)
           intro w5 b5 k5
           have H5 := Lib.hid (And.intro b5 k5)
           clear b5 k5)
        | fail)
      clear hw4 hg4
      have hb4 := (on_trans (on_trans H2.out.2.2.2 H4.out.2.1) H4.out.2.2.1)
      have hsz := (on_trans H2.out.2.2.2 H4.out.2.1).size
      have bel5 : Below w.heap.size w w5 := hb4.trans (H5.out.2.below hb4.size (fun i hi e => by have := H4.out.2.2.2; omega))
      have b5 : Box w5 (g1 + 1 + 1) 36 #[.slice none 0 0] := H5.out.2.box ((H2.out.2.2.1.on H4.out.2.1).on H4.out.2.2.1) (fun e => by have := H2.out.2.2.1.lt; have := H4.out.2.1.size; have := H4.out.2.2.2; omega)
      have r0 : w5.cell? ⟨g1 + 1 + 1, 0, none⟩ = some (.slice none 0 0) := b5.cell 0
      have f0 : w5.frozen? ⟨g1 + 1 + 1, 0, none⟩ = false := b5.free 0
      have H55 := Lib.hid (And.intro bel5 b5)
      clear hb4 hsz bel5 b5
      go_wp2_with fail
      have hb2 : Box (w5.setCell ⟨g1 + 1 + 1, 0, none⟩ (.slice none 0 0)) (g1 + 1 + 1) 36 #[.slice none 0 0] := H55.out.2.put 0 _
      have hK : Kept (fun i => i = g1 + 1 + 1) w5 (w5.setCell ⟨g1 + 1 + 1, 0, none⟩ (.slice none 0 0)) := (Kept.refl (fun i => i = g1 + 1 + 1) w5).setCell (p := ⟨g1 + 1 + 1, 0, none⟩) (fun _ => rfl) _
      refine bodyPost_ret (v := .tuple #[tileV none 0 0, .int .i64 0, .int .i64 4]) (results_ctt (fn := Tryd.f16) Tryd.results16 _ _ (g1 + 1 + 1) _ _ _ rfl rfl rfl (loadVar_tile hb2)) rfl ?_
      exact ⟨H55.out.1.trans (hK.below H55.out.1.size (fun i hi e => by omega)), fun h => absurd HR.out h, fun _ _ => rfl, fun _ h => absurd h hno, fun _ h => absurd h hno⟩
  · have HR := Lib.hid hR
    have hd : decide (RightS W H K R) = false := decide_eq_false hR
    rw [hd]
    clear hR hd
    go_wp2_with fail
    have hb2 : Box (w2.setCell ⟨g1 + 1 + 1, 0, none⟩ (.slice none 0 0)) (g1 + 1 + 1) 36 #[.slice none 0 0] := H2.out.2.2.1.put 0 _
    have hK : Kept (fun i => i = g1 + 1 + 1) w2 (w2.setCell ⟨g1 + 1 + 1, 0, none⟩ (.slice none 0 0)) := (Kept.refl (fun i => i = g1 + 1 + 1) w2).setCell (p := ⟨g1 + 1 + 1, 0, none⟩) (fun _ => rfl) _
    refine bodyPost_ret (v := .tuple #[tileV none 0 0, .int .i64 0, .int .i64 1]) (results_ctt (fn := Tryd.f16) Tryd.results16 _ _ (g1 + 1 + 1) _ _ _ rfl rfl rfl (loadVar_tile hb2)) rfl ?_
    exact ⟨H2.out.2.2.2.trans (hK.below H2.out.2.2.2.size (fun i hi e => by omega)), fun _ => rfl, fun h => absurd h HR.out, fun h => absurd h HR.out, fun h => absurd h HR.out⟩
end
end Go.Proofs.YtdnjnbfmmgkpjaaDoor
