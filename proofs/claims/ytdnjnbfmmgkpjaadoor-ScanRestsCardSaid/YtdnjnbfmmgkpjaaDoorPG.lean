/-
  The contract of scan.Put.
-/
import Derived.Test.YtdnjnbfmmgkpjaaDoorPF
import Derived.Test.YtdnjnbfmmgkpjaaDoorSY
import Derived.Deep.Slices
namespace Go.Proofs.YtdnjnbfmmgkpjaaDoor
open Go.RowKit

theorem calls24 (args : Array Value) (w : World) : (callFunc 24 args).run Tryd.prog w = .ok (.enter 24 args) w := by kernel_rfl
theorem calls27 (args : Array Value) (w : World) : (callFunc 27 args).run Tryd.prog w = .ok (.enter 27 args) w := by kernel_rfl
/-- what Put tells, of tiles that may be, by tables that may be -/
noncomputable def putE14 (W H K R : Int) (T : Tbs) (tl : List (List (List Int))) : Int := (runP T tl (evTo (uW W K) K R.toNat (uW W K * uH H K))).err
noncomputable def putOut (W H K R : Int) (T : Tbs) (tl : List (List (List Int))) : List Int := (runP T tl (evTo (uW W K) K R.toNat (uW W K * uH H K))).out ++ scanOf (runP T tl (evTo (uW W K) K R.toNat (uW W K * uH H K))).cur
structure PutY (w : World) (W H K R : Int) (T : Tbs) (tl : List (List (List Int))) (e : Ending) (w' : World) : Prop where
  bel : Below w.heap.size w w'
  bad : ¬ RightT W H K R tl → e = .returned (.tuple #[.slice none 0 0, .int .i64 1])
  form : RightT W H K R tl → ¬ OkT K T → e = .returned (.tuple #[.slice none 0 0, .int .i64 4])
  err : RightT W H K R tl → OkT K T → putE14 W H K R T tl ≠ 0 → e = .returned (.tuple #[.slice none 0 0, .int .i64 (putE14 W H K R T tl)])
  got : RightT W H K R tl → OkT K T → putE14 W H K R T tl = 0 → ∃ A m c, e = .returned (.tuple #[.slice A m c, .int .i64 0]) ∧ Sl w' (fun b => w.heap.size ≤ b) A m c (putOut W H K R T tl)
/-- where the parts of a tile that may be lie -/
theorem tile_ad {w : World} {W H K R : Int} {A : Option Addr} {n : Nat} {L : List (Option Addr × Nat × Nat)} {tl : List (List (List Int))} (ht : Ti w A n L tl) (hR : RightT W H K R tl) :
    ∃ (ad : Nat → Nat × Nat) (cc : Nat → Nat), (∀ p, p < nP K → L[p]? = some (some ⟨(ad p).1, (ad p).2, none⟩, (uW W K * uA K p) * (uH H K * uD K p), cc p) ∧ (uW W K * uA K p) * (uH H K * uD K p) ≤ cc p) ∧ TileAt w W H K tl ad := by
  have hlen : n = nP K := ht.len.symm.trans hR.2.1
  have each : ∀ p, p < nP K → ∃ q : Nat × Nat × Nat, (L[p]? = some (some ⟨q.1, q.2.1, none⟩, (uW W K * uA K p) * (uH H K * uD K p), q.2.2) ∧ (uW W K * uA K p) * (uH H K * uD K p) ≤ q.2.2) ∧
      ∀ a, a < (uW W K * uA K p) * (uH H K * uD K p) → (blkAt tl p a).length = 64 ∧ q.1 < w.heap.size ∧ ∀ j, j < 64 → w.cell? ⟨q.1, q.2.1 + a * 64 + j, none⟩ = some (.int .i64 ((blkAt tl p a).getD j 0)) := by
    intro p hp
    obtain ⟨x, hx⟩ : ∃ x, L[p]? = some x := ⟨_, List.getElem?_eq_getElem (by rw [ht.pt.len]; omega)⟩
    obtain ⟨t, htt⟩ : ∃ t, tl[p]? = some t := ⟨_, List.getElem?_eq_getElem (by rw [ht.len]; omega)⟩
    obtain ⟨hbs, h1, _, _⟩ := ht.row p x t hx htt
    have hpo := (hR.2.2 p hp).1
    have hgd : tl.getD p [] = t := by rw [List.getD_eq_getElem?_getD, htt]; rfl
    rw [hgd] at hpo
    have hx21 : x.2.1 = (uW W K * uA K p) * (uH H K * uD K p) := by rw [← hbs.len, hpo]
    have hpos : 0 < x.2.1 := by
      rw [hx21]
      have a1 := (uW_le hR.1).1
      have a2 := (uH_le hR.1).1
      have a3 := (uA_le K p).1
      have a4 := (uD_le K p).1
      exact Nat.mul_pos (Nat.mul_pos (by omega) (by omega)) (Nat.mul_pos (by omega) (by omega))
    obtain ⟨b, off, e1, hb, hc⟩ := hbs.at_ hpos
    refine ⟨(b, off, x.2.2), ⟨?_, by rw [← hx21]; exact h1⟩, fun a ha => ?_⟩
    · rw [hx, ← hx21, ← e1]
    · obtain ⟨y, hy⟩ : ∃ y, t[a]? = some y := ⟨_, List.getElem?_eq_getElem (by omega)⟩
      have hbl : blkAt tl p a = y := by rw [blkAt, hgd, List.getD_eq_getElem?_getD, hy]; rfl
      rw [hbl]
      exact ⟨hbs.wide y (List.mem_of_getElem? hy), hb, hc a y hy⟩
  obtain ⟨q, hq⟩ := Go.Deep.choose_lt each
  exact ⟨fun p => ((q p).1, (q p).2.1), fun p => (q p).2.2, fun p hp => (hq p hp).1, fun p a hp ha => (hq p hp).2 a ha⟩
section
variable (w : World) (W H K R : Int) (T : Tbs) (X : Nat → Value) (A : Option Addr) (n c : Nat) (L : List (Option Addr × Nat × Nat)) (tl : List (List (List Int)))
set_option maxRecDepth 10000 in
set_option maxHeartbeats 6400000 in
theorem scanPut_any (hT : Tab w) (hX : Xs w T X) (hW : Wt T) (h3 : ∀ j, j < 4 → (T.V j).length ≤ 300) (ht : Ti w A n L tl) (hs : RightS W H K R → W ≤ 40 ∧ H ≤ 40) : Calls Tryd.prog 11 #[scanV W H K R, tbV T X, tileV A n c] w (PutY w W H K R T tl) := by
  obtain ⟨C, hC⟩ : ∃ C, C = (tbC T X).toArray := ⟨_, rfl⟩
  have eC : tbV T X = .agg C := by rw [hC]; rfl
  obtain ⟨g1, hg1⟩ : ∃ g1, w.heap.size = g1 := ⟨_, rfl⟩
  obtain ⟨w1, hw1⟩ : ∃ w1, ((w.alloc (.cells #[.int .i64 W, .int .i64 H, .int .i64 K, .int .i64 R] 23)).alloc (.cells C 33)).alloc (.cells #[.slice A n c] 36) = w1 := ⟨_, rfl⟩
  have b1 : Box w1 g1 23 #[.int .i64 W, .int .i64 H, .int .i64 K, .int .i64 R] := by rw [← hw1, ← hg1]; exact ((Box.made _ _ _).alloc _).alloc _
  have b2 : Box w1 (g1 + 1) 33 C := by
    rw [← hw1, ← hg1]
    have := (Box.made (w.alloc (.cells #[.int .i64 W, .int .i64 H, .int .i64 K, .int .i64 R] 23)) 33 C).alloc (.cells #[.slice A n c] 36)
    simpa using this
  have b3 : Box w1 (g1 + 1 + 1) 36 #[.slice A n c] := by
    rw [← hw1, ← hg1]
    have := Box.made ((w.alloc (.cells #[.int .i64 W, .int .i64 H, .int .i64 K, .int .i64 R] 23)).alloc (.cells C 33)) 36 #[.slice A n c]
    simpa using this
  have k1 : Below w.heap.size w w1 := by rw [← hw1]; exact on_trans (on_trans (on_alloc _ _) (on_alloc _ _)) (on_alloc _ _)
  have q0 : w1.cell? ⟨g1, 0, none⟩ = some (.int .i64 W) := b1.cell 0
  have q1 : w1.cell? ⟨g1, 1, none⟩ = some (.int .i64 H) := b1.cell 1
  have q2 : w1.cell? ⟨g1, 2, none⟩ = some (.int .i64 K) := b1.cell 2
  have q3 : w1.cell? ⟨g1, 3, none⟩ = some (.int .i64 R) := b1.cell 3
  have r0 : w1.cell? ⟨g1 + 1 + 1, 0, none⟩ = some (.slice A n c) := b3.cell 0
  have hrt := rightT_any w1 W H K R A n c L tl (ht.on k1)
  unfold scanV tileV at hrt
  have HRt := Lib.hid hrt
  have HB := Lib.hid (And.intro b1 (And.intro b2 (And.intro b3 (And.intro k1 (And.intro hg1 (And.intro eC hC))))))
  have HA := Lib.hid (And.intro hT (And.intro hX (And.intro hW (And.intro h3 (And.intro ht hs)))))
  rw [eC]
  clear b1 b2 b3 k1 hT hX hW h3 ht hs hrt eC hC
  unfold scanV tileV
  go_enter Tryd.func11, Tryd.ntmps11
  go_upto_region 1 with fail
  clear hw1
  go_wp2_with fail
  refine Calls.mono HRt.out ?_
  rintro e w2 ⟨rb, rfl, hrb, k2⟩
  have H2 := Lib.hid (And.intro (HB.out.1.on k2) (And.intro (HB.out.2.1.on k2) (And.intro (HB.out.2.2.1.on k2) (And.intro (on_trans HB.out.2.2.2.1 k2) hrb))))
  clear k2 hrb HRt q0 q1 q2 q3 r0
  cases rb with
  | false =>
    go_wp2_with fail
    go_ret2
    have hn : ¬ RightT W H K R tl := fun h => by have := H2.out.2.2.2.2.2 h; cases this
    exact ⟨H2.out.2.2.2.1, fun _ => rfl, fun h => absurd h hn, fun h => absurd h hn, fun h => absurd h hn⟩
  | true =>
    have hR := H2.out.2.2.2.2.1 rfl
    have HR := Lib.hid hR
    obtain ⟨⟨hW1, hH1, hK1, hR1⟩, _⟩ := hR
    obtain ⟨r, rfl⟩ : ∃ r : Nat, R = (r : Int) := ⟨R.toNat, by omega⟩
    have q2 : w2.cell? ⟨g1, 2, none⟩ = some (.int .i64 K) := H2.out.1.cell 2
    have kw2 := H2.out.2.2.2.1
    have hld : (Instr.loadAt 33 (.pointer (some ⟨g1 + 1, 0, none⟩))).run Tryd.prog w2 = .ok (.agg C) w2 := by
      have hb := H2.out.2.1
      rw [HB.out.2.2.2.2.2.2] at hb
      rw [← HB.out.2.2.2.2.2.1]
      exact (hb.rng).load
    have HLd := Lib.hid hld
    have hu := used_any w2 K T X (HA.out.2.1.on kw2) HA.out.2.2.1 HA.out.2.2.2.1
    rw [HB.out.2.2.2.2.2.1] at hu
    have HU := Lib.hid hu
    clear hld hu hW1 hH1 hK1 hR1 kw2
    go_wp2_with (first
      | (with_reducible refine wpList_load_to (op := ⟨some 19, _, _, _, _, _⟩) rfl 33 (.tmp 4) rfl (.pointer (some ⟨g1 + 1, 0, none⟩)) rfl (.agg C) HLd.out ?_)
      | fail)
    refine Calls.mono HU.out ?_
    obtain ⟨Z, hZ⟩ : ∃ Z, Z = nil4 := ⟨_, rfl⟩
    have hz69 : ∀ w, (zeroValue 69).run Tryd.prog w = .ok (.agg Z) w := fun w => by rw [hZ]; kernel_rfl
    have HZ := Lib.hid (And.intro (show (Tryd.prog.info? 69).map (·.size) = some Z.size by rw [hZ]; exact nil4_size) (And.intro (show Z.size = Z.size from rfl) (And.intro (show Z.all (·.oneCell') = true by rw [hZ]; exact nil4_one) hZ)))
    rintro e w3 ⟨k3, h3⟩
    obtain ⟨g4, hg4⟩ : ∃ g4, w3.heap.size = g4 := ⟨_, rfl⟩
    obtain ⟨w4, hw4⟩ : ∃ w4, w3.alloc (.cells Z 69) = w4 := ⟨_, rfl⟩
    have b4 : Box w4 g4 69 Z := by rw [← hw4, ← hg4]; exact Box.made _ _ _
    have k4 : Below w3.heap.size w3 w4 := by rw [← hw4]; exact on_alloc _ _
    have H4 := Lib.hid (And.intro b4 (And.intro k3 (And.intro k4 hg4)))
    clear b4 k3 k4 HLd HU q2 hZ
    rcases h3 with ⟨hok, P, rfl, hptr, hcod⟩ | ⟨hno, he⟩
    · have HP := Lib.hid (And.intro hok (And.intro hptr (And.intro (show Z.size = (cod4 P).size by rw [HZ.out.2.2.2]; rfl) hcod)))
      clear hok hptr hcod
      go_upto_region 4 with (first
        | ((with_reducible refine wpList_store_rowk (o := ⟨none, _, _, _, _, _⟩) rfl 69 (.tmp 8) (.tmp 21) rfl rfl g4 (cod4 P) rfl rfl (cod4_size P) 69 Z H4.out.1 HP.out.2.2.1 (cod4_one HP.out.2.1) ?_)
           intro w5 b5 k5
           have H5 := Lib.hid (And.intro b5 k5)
           clear b5 k5)
        | fail)
      clear hw4 hg4
      have hb4 := (on_trans (on_trans H2.out.2.2.2.1 H4.out.2.1) H4.out.2.2.1)
      have hsz := (on_trans H2.out.2.2.2.1 H4.out.2.1).size
      have hg4 := H4.out.2.2.2
      have bel5 : Below w.heap.size w w5 := hb4.trans (H5.out.2.below hb4.size (fun i hi e => by omega))
      have q5 : ∀ {g t : Nat} {cs : Array Value}, Box w2 g t cs → Box w5 g t cs := fun hb => H5.out.2.box ((hb.on H4.out.2.1).on H4.out.2.2.1) (fun e => by have := hb.lt; have := H4.out.2.1.size; omega)
      have cod5 : ∀ c, c < nC K → CodR w5 w2.heap.size w3.heap.size T P c := fun c hc => ((HP.out.2.2.2 c hc).on H4.out.2.2.1).kept H5.out.2 (fun b _ hb e => by omega)
      obtain ⟨g6, hg6⟩ : ∃ g6, w5.heap.size = g6 := ⟨_, rfl⟩
      obtain ⟨w6, hw6⟩ : ∃ w6, w5.alloc (.cells #[.slice none 0 0] 41) = w6 := ⟨_, rfl⟩
      have b6 : Box w6 g6 41 #[.slice none 0 0] := by rw [← hw6, ← hg6]; exact Box.made _ _ _
      have k6 : Below w5.heap.size w5 w6 := by rw [← hw6]; exact on_alloc _ _
      have H6 := Lib.hid (And.intro b6 (And.intro (on_trans bel5 k6) (And.intro ((q5 H2.out.1).on k6) (And.intro ((q5 H2.out.2.2.1).on k6) (And.intro (H5.out.1.on k6) (fun c hc => (cod5 c hc).on k6))))))
      have hg36 : w3.heap.size ≤ g6 := by have := H4.out.2.2.1.size; have := H5.out.2.size; omega
      have hg46 : g4 < g6 := by have := H5.out.1.lt; omega
      clear b6 k6 hb4 hsz bel5 q5 cod5
      go_upto_region 7 with fail
      clear hw6
      go_wp2_with fail
      refine Calls.mono (newWriterX _) ?_
      rintro e w7 ⟨d, rfl, hd, hx, k7⟩
      obtain ⟨g8, hg8⟩ : ∃ g8, w7.heap.size = g8 := ⟨_, rfl⟩
      obtain ⟨w8, hw8⟩ : ∃ w8, w7.alloc (.cells #[.pointer (some ⟨d, 0, none⟩)] 72) = w8 := ⟨_, rfl⟩
      have b8 : Box w8 g8 72 #[.pointer (some ⟨d, 0, none⟩)] := by rw [← hw8, ← hg8]; exact Box.made _ _ _
      have k8 : Below w7.heap.size w7 w8 := by rw [← hw8]; exact on_alloc _ _
      have k68 := on_trans k7 k8
      have q0 : w8.cell? ⟨g1, 0, none⟩ = some (.int .i64 W) := (H6.out.2.2.1.on k68).cell 0
      have q1 : w8.cell? ⟨g1, 1, none⟩ = some (.int .i64 H) := (H6.out.2.2.1.on k68).cell 1
      have q2 : w8.cell? ⟨g1, 2, none⟩ = some (.int .i64 K) := (H6.out.2.2.1.on k68).cell 2
      have q3 : w8.cell? ⟨g1, 3, none⟩ = some (.int .i64 (r : Int)) := (H6.out.2.2.1.on k68).cell 3
      have r0 : w8.cell? ⟨g1 + 1 + 1, 0, none⟩ = some (.slice A n c) := (H6.out.2.2.2.1.on k68).cell 0
      obtain ⟨ad, cc, hL, hat⟩ := tile_ad HA.out.2.2.2.2.1 HR.out
      have hsm := HA.out.2.2.2.2.2 HR.out.1
      have hN0 : w.heap.size ≤ w3.heap.size := by have := (on_trans H2.out.2.2.2.1 H4.out.2.1).size; omega
      have h67 := k7.size
      have h6s := H6.out.1.lt
      have h78 := k8.size
      have hinv : PInv w K T tl P g4 g8 g6 w2.heap.size w3.heap.size [] [0, 0, 0] w8 :=
        ⟨rfl, rfl, on_trans H6.out.2.1 k68, H6.out.2.2.2.2.1.on k68, fun c hc => (H6.out.2.2.2.2.2 c hc).on k68, ⟨d, b8, hx.on k8, by omega⟩, ⟨.slice none 0 0, H6.out.1.on k68, World.ownsRow_nil _ _ _ _⟩⟩
      have heach := each14_any (PInv w K T tl P g4 g8 g6 w2.heap.size w3.heap.size) (BadP w T tl (evTo (uW W K) K r (uW W K * uH H K))) 24 27 #[.pointer (some ⟨g4, 0, none⟩), .pointer (some ⟨g8, 0, none⟩)] #[.pointer (some ⟨g6, 0, none⟩), .pointer (some ⟨g8, 0, none⟩)] w.heap.size ad cc w8 W H K A n c L r
        calls24 calls27 HR.out.1 (by omega) hinv (HA.out.2.2.2.2.1.len.symm.trans HR.out.2.1) hL (fun done prev w1 w2 h k => h.on k) (fun done prev w1 w2 h k => h.one (by omega) hN0 k) (fun done prev w1 h => HA.out.2.2.2.2.1.pt.on h.bel)
        (fun done prev p a w1 hq hp ha hl hi hs => put_see w W H K r T tl P g4 g8 g6 w2.heap.size w3.heap.size w8.heap.size ad HR.out.1 hsm.1 hsm.2 HP.out.1 HA.out.1 hat hN0 (by omega) done prev p a w1 hq hp ha hl hi hs)
        (fun done prev w1 hq hl hi hs => put_rest w W H K r T tl P g4 g8 g6 w2.heap.size w3.heap.size w8.heap.size HR.out.1 hsm.1 hsm.2 HP.out.1 hN0 (by omega) (by omega) (by omega) done prev w1 hq hl hi hs)
      unfold scanV tileV at heach
      have HEa := Lib.hid heach
      clear heach hinv b8 k8 k68 k7 hx hd hL hat h67 h6s h78
      go_upto_region 8 with fail
      clear hw8 hg8
      go_wp2_with fail
      refine Calls.mono HEa.out ?_
      rintro e w9 ⟨E, rfl, hE0, hE1, k9⟩
      clear q0 q1 q2 q3 r0 HEa
      have hto : ((r : Int)).toNat = r := Int.toNat_natCast r
      by_cases hE : E = 0
      · subst hE
        obtain ⟨prev, hi⟩ := hE0 rfl
        obtain ⟨d9, hgw, hx, hd⟩ := hi.wr
        obtain ⟨v, hgo, hown⟩ := hi.out
        have hbits := few_bits (tl := tl) HR.out.1 hsm.1 hsm.2 HP.out.1 (done := evTo (uW W K) K r (uW W K * uH H K)) (q := []) (List.append_nil _)
        have hsc := hbits.2.2.packs.scan
        have hlen := scan_len hsc
        have hb0 := hbits.1
        have ho0 := hbits.2.1
        obtain ⟨S, hS⟩ : ∃ S, S = runP T tl (evTo (uW W K) K r (uW W K * uH H K)) := ⟨_, rfl⟩
        have hE14 : putE14 W H K (r : Int) T tl = 0 := by
          unfold putE14
          rw [hto]
          exact hi.err
        have hOut : putOut W H K (r : Int) T tl = S.out ++ scanOf S.cur := by
          unfold putOut
          rw [hto, ← hS]
        rw [← hS] at hx hown hsc hlen hb0 ho0
        have hfit : Fit (S.out ++ scanOf S.cur) := by
          rw [hS]
          exact hbits.2.2.fit.app (scan_fit (by rw [← hS]; exact hsc))
        obtain ⟨lo, hlo⟩ : ∃ lo, lo = S.out.length := ⟨_, rfl⟩
        obtain ⟨ls, hls⟩ : ∃ ls, ls = scanOf S.cur := ⟨_, rfl⟩
        rw [← hlo] at hown ho0
        rw [← hls] at hsc hlen hOut hfit
        have HI := Lib.hid (And.intro (hi.bel) (And.intro hx (And.intro hown (And.intro hsc (And.intro hfit (And.intro hE14 (And.intro hOut (And.intro hlo hb0))))))))
        have hs9 : w3.heap.size ≤ w9.heap.size := by have := hgo.lt; have := k9.size; omega
        have sg := Lib.hid (And.intro (hgo.on (on_drew w9)) (hgw.on (on_drew w9)))
        clear hE0 hE1 k9 hi hx hgw hgo hown hbits hsc hlen hS hlo hls hfit hE14 hOut
        go_upto_region 11 with fail
        refine wp_region_held_drew (S := fun w' => Hid (Box w' g6 41 #[v] ∧ Box w' g8 72 #[.pointer (some ⟨d9, 0, none⟩)])) (by kernel_rfl) sg fun s0 => ?_
        refine take_to (i := 0) (v := v) rfl (by kernel_rfl) (by kernel_rfl) (by kernel_rfl) (fun _ _ _ h => h) (Or.inl ⟨by rfl, fun w' hS => by have := hS.out.1.cell 0; go_simp⟩) s0 (some 35) rfl ?_
        try simp only [Act.put, List.setIfInBounds_toArray, List.set_cons_zero, List.set_cons_succ]
        refine take_to (i := 1) (v := .pointer (some ⟨d9, 0, none⟩)) rfl (by kernel_rfl) (by kernel_rfl) (by kernel_rfl) (fun _ _ _ h => h) (Or.inl ⟨by rfl, fun w' hS => by have := hS.out.2.cell 0; go_simp⟩) s0 (some 36) rfl ?_
        try simp only [Act.put, List.setIfInBounds_toArray, List.set_cons_zero, List.set_cons_succ]
        refine wpAnyH_ready (rs := [2]) (by kernel_rfl) (by simp) ?_
        refine AllReadyH.cons rfl (fun Kq hKq => ?_) AllReadyH.nil
        go_simp
        refine Calls.mono (bytesX_any _ d9 S.cur (HI.out.2.1.on (on_drew w9)) (Nat.le_trans HI.out.2.2.2.2.2.2.2.2 (by omega))) ?_
        rintro e wa ⟨A3, m3, c3, l3, rfl, hsc3, hsl, bq⟩
        obtain rfl : l3 = ls := Scan.same hsc3 HI.out.2.2.2.1
        have s1 := Lib.hid (And.intro (s0.out.1.on bq) (s0.out.2.on bq))
        refine hKq.out _ _ s1 fun _ => ?_
        have H10 := Lib.hid (And.intro hsl (And.intro (on_trans (on_drew w9) bq) (And.intro (own_on HI.out.2.2.1 (on_trans (on_drew w9) bq)) (And.intro hsl.len (scan_len hsc3)))))
        clear hKq Kq s0 hsl bq hsc3
        refine wpAnyH_ready (rs := [3]) (by kernel_rfl) (by simp) ?_
        refine AllReadyH.cons rfl (fun Kq hKq => ?_) AllReadyH.nil
        refine step_append_sk rfl (.tmp 35) (.tmp 37) rfl w3.heap.size v lo S.out rfl H10.out.2.2.1 A3 m3 c3 l3 rfl H10.out.1 (by have := H10.out.2.2.2.1; have := H10.out.2.2.2.2; omega) (Nat.le_trans hs9 H10.out.2.1.size) (some 38) rfl ?_
        intro v10 wb hown10 k10
        try simp only [Act.put, List.setIfInBounds_toArray, List.set_cons_zero, List.set_cons_succ]
        have s2 := Lib.hid (And.intro (own_box H10.out.2.2.1 k10 s1.out.1 (by decide)) (own_box H10.out.2.2.1 k10 s1.out.2 (by decide)))
        obtain ⟨A10, c10, hv10⟩ := own_slice hown10
        obtain ⟨n10, hn10⟩ : ∃ n10, n10 = lo + m3 := ⟨_, rfl⟩
        rw [← hn10] at hown10 hv10
        subst hv10
        refine hKq.out _ _ s2 fun _ => ?_
        have H11 := Lib.hid (And.intro hown10 (And.intro k10 hn10))
        clear hKq Kq s1 hown10 k10 hn10
        refine take_to (i := 4) (v := .slice A10 n10 c10) rfl (by kernel_rfl) (by kernel_rfl) (by kernel_rfl) (fun _ _ _ h => h) (Or.inl ⟨by rfl, fun w' hS => by go_simp⟩) s2 (some 6) rfl ?_
        try simp only [Act.put, List.setIfInBounds_toArray, List.set_cons_zero, List.set_cons_succ]
        refine take_to (i := 5) (v := .int .i64 0) rfl (by kernel_rfl) (by kernel_rfl) (by kernel_rfl) (fun _ _ _ h => h) (Or.inl ⟨by rfl, fun w' hS => by go_simp⟩) s2 (some 7) rfl ?_
        try simp only [Act.put, List.setIfInBounds_toArray, List.set_cons_zero, List.set_cons_succ]
        refine wpAnyH_done (by kernel_rfl) ?_ _
        go_wp2_with fail
        go_ret2
        have belb := HI.out.1.trans (H10.out.2.1.mono HI.out.1.size)
        have bel11 : Below w.heap.size w wb := belb.trans (H11.out.2.1.below belb.size (fun i hi e => by have := (own_block3 H10.out.2.2.1 e).1; omega))
        refine ⟨bel11, fun h => absurd HR.out h, fun _ h => absurd HP.out.1 h, fun _ _ h => absurd HI.out.2.2.2.2.2.1 h, fun _ _ _ => ?_⟩
        obtain ⟨A', c', e', hs'⟩ := sl_of_own H11.out.1 HI.out.2.2.2.2.1
        rw [HI.out.2.2.2.2.2.2.1]
        cases e'
        exact ⟨_, _, _, rfl, hs'.mono (fun b _ hb => Nat.le_trans hN0 hb)⟩
      · have hEb : (E != 0) = true := by simpa using hE
        have HEE := Lib.hid (And.intro (hE1 hE) hE)
        clear hE0 hE1 k9 hE
        go_wp2_with fail
        go_ret2
        obtain ⟨hb, hbel⟩ := HEE.out.1
        have hE14 : putE14 W H K (r : Int) T tl = E := by
          unfold putE14
          rw [hto, hb]
        exact ⟨hbel, fun h => absurd HR.out h, fun _ h => absurd HP.out.1 h, fun _ _ _ => by rw [hE14]; rfl, fun _ _ h => absurd (hE14.symm.trans h) HEE.out.2⟩
    · rw [show (#[.pointer none, .pointer none, .pointer none, .pointer none] : Array Value) = Z from HZ.out.2.2.2.symm] at he
      subst he
      go_upto_region 4 with (first
        | ((with_reducible refine wpList_store_rowk (o := ⟨none, _, _, _, _, _⟩) rfl 69 (.tmp 8) (.tmp 21) rfl rfl g4 Z rfl rfl HZ.out.1 69 Z H4.out.1 rfl HZ.out.2.2.1 ?_)
           intro w5 b5 k5
           have H5 := Lib.hid (And.intro b5 k5)
           clear b5 k5)
        | fail)
      clear hw4 hg4
      go_wp2_with fail
      go_ret2
      have hb4 := (on_trans (on_trans H2.out.2.2.2.1 H4.out.2.1) H4.out.2.2.1)
      have hsz := (on_trans H2.out.2.2.2.1 H4.out.2.1).size
      refine ⟨hb4.trans (H5.out.2.below hb4.size (fun i hi e => by have := H4.out.2.2.2; omega)), fun h => absurd HR.out h, fun _ _ => rfl, fun _ h => absurd h hno, fun _ h => absurd h hno⟩
end
end Go.Proofs.YtdnjnbfmmgkpjaaDoor
