/-
  The contract of plane's made, over the contract of the closure that tells the samples.
-/
import Derived.Test.YtadlaljohlpabaaQRight
namespace Go.Proofs.Ytadlaljohlpabaa
open Go.RowKit

/-- what lies in memory: what is told, the samples so far -/
structure Md (w wr : World) (v : Value) (n : Nat) (xs : List Int) : Prop where
  res : Box wr w.heap.size 24 #[.int .i64 0, .int .i64 0, .slice none 0 0]
  own : wr.ownsRow (w.heap.size + 1) 3 1 v n (cellsI xs)
  bel : Below w.heap.size w wr
  lo : w.heap.size + 1 ≤ wr.heap.size
section
variable {w wr w' : World} {v : Value} {n : Nat} {xs : List Int}
theorem Md.on (h : Md w wr v n xs) (k : Below wr.heap.size wr w') : Md w w' v n xs :=
  ⟨h.res.on k, ownsRow_block h.own (fun g _ _ hh => k.block g (Array.getElem?_eq_some_iff.1 hh).1), on_trans h.bel k, Nat.le_trans h.lo k.size⟩
theorem Md.len (h : Md w wr v n xs) : n = xs.length := by have := h.own.1; simpa [cellsI] using this.symm
theorem Md.more (h : Md w wr v n xs) {v' : Value} {n' : Nat} {ys : List Int} (hown : w'.ownsRow (w.heap.size + 1) 3 1 v' n' (cellsI ys)) (k : Below (w.heap.size + 1) wr w') : Md w w' v' n' ys :=
  ⟨h.res.bel k (Nat.lt_succ_self _), hown, h.bel.trans (k.mono (Nat.le_succ _)), Nat.le_trans h.lo k.size⟩
/-- the plane is told, its room cut off -/
theorem Md.done {A : Option Addr} {c : Nat} (h : Md w wr (.slice A n c) n xs) (hA : A = none → n = 0) (k : Kept (fun i => i = w.heap.size) wr w') : Below w.heap.size w w' ∧ Os w' w.heap.size A n n xs := by
  obtain ⟨A1, c1, e, ho⟩ := os_of_own h.own
  cases e
  have ho2 : Os wr (w.heap.size + 1) A n n xs := ⟨⟨ho.il.len, Nat.le_refl _, Nat.le_trans ho.il.cap ho.il.max, hA, ho.il.typ, ho.il.at_⟩, ho.new⟩
  exact ⟨h.bel.trans (k.below h.bel.size (fun i hi e => by omega)), (ho2.down (Nat.le_succ _)).kept k (fun b off e hb => by have := (ho.new b off e).1; omega)⟩
end
/-- what made answers -/
def Made (w0 : World) (w h : Nat) (f : Nat → Nat → Int) (e : Ending) (w' : World) : Prop :=
  ∃ A n c, e = .returned (.agg #[.int .i64 (w : Int), .int .i64 (h : Int), .slice A n c]) ∧ Os w' w0.heap.size A n c (gridL w h f) ∧ Below w0.heap.size w0 w'

set_option maxRecDepth 10000 in
set_option maxHeartbeats 3200000 in
theorem made_any (G : FuncId) (caps : Array Value) (hcf : ∀ (args : Array Value) (w : World), (callFunc G args).run Try.prog w = .ok (.enter G args) w) (w0 : World) (w h : Nat) (f : Nat → Nat → Int) (hw : 1 ≤ w ∧ w ≤ 128) (hh : 1 ≤ h ∧ h ≤ 128)
    (hstep : ∀ (x y : Nat) (w1 : World), x < w → y < h → Below w0.heap.size w0 w1 → Calls Try.prog G (#[.int .i64 (x : Int), .int .i64 (y : Int)] ++ caps) w1 (Atd w1 (f x y))) :
    Calls Try.prog 31 #[.int .i64 (w : Int), .int .i64 (h : Int), .func (.func G) #[] caps] w0 (Made w0 w h f) := by
  have hmore := fun (i j : Nat) (hi : i < w) => gridK_more (f := f) hi j
  have hcr : gridL w h f = gridK w f (w * h) := rfl
  have hsm : w * h ≤ 16384 := by have : w * h ≤ 128 * 128 := Nat.mul_le_mul hw.2 hh.2; omega
  have hpos : 0 < w * h := Nat.mul_pos hw.1 hh.1
  have hpl : ∀ i j : Nat, i < w → j < h → j * w + i < w * h := fun i j hi hj => row_lt hi hj
  obtain ⟨w1, hw1⟩ : ∃ w1, w0.alloc (.cells #[.int .i64 0, .int .i64 0, .slice none 0 0] 24) = w1 := ⟨_, rfl⟩
  have k1 : Below w0.heap.size w0 w1 := by rw [← hw1]; exact on_alloc _ _
  have b1 : Box w1 w0.heap.size 24 #[.int .i64 0, .int .i64 0, .slice none 0 0] := by rw [← hw1]; exact Box.made _ _ _
  have l1 : w0.heap.size + 1 ≤ w1.heap.size := by rw [← hw1]; simp
  have HM := Lib.hid (And.intro hw1 (show Md w0 w1 (.slice none 0 0) 0 [] from ⟨b1, World.ownsRow_nil _ _ _ _, k1, l1⟩))
  have HF := Lib.hid (And.intro hcr (And.intro hmore (And.intro hsm (And.intro hpl hpos))))
  have HC := Lib.hid hstep
  obtain ⟨w10, w11⟩ := hw
  obtain ⟨h10, h11⟩ := hh
  clear hmore hcr hsm hpl hpos hw1 k1 b1 l1 hstep
  go_enter Try.func31, Try.ntmps31
  go_wp2_with fail
  rw [HM.out.1]
  go_loopw [7, 11] (fun s i wr => ∃ j A' n' c', j ≤ h ∧ s = .slice A' n' c' ∧ i = .int .i64 ((j : Nat) : Int) ∧ Md w0 wr (.slice A' n' c') n' (gridK w f (j * w + 0))) (fun _ i _ => h - (intOf i).toNat)
  case atStart => exact ⟨0, none, 0, 0, by omega, rfl, rfl, by rw [Nat.zero_mul]; exact HM.out.2⟩
  case round =>
    obtain ⟨j, A1, n1, c1, hj, rfl, rfl, hR⟩ := hrel
    have HR := Lib.hid hR
    clear hR
    by_cases hjh : j < h
    · go_wp2_with fail
      go_loopw [7, 15] (fun s i wr => ∃ k A' n' c', k ≤ w ∧ s = .slice A' n' c' ∧ i = .int .i64 ((k : Nat) : Int) ∧ Md w0 wr (.slice A' n' c') n' (gridK w f (j * w + k))) (fun _ i _ => w - (intOf i).toNat)
      case atStart => exact ⟨0, A1, n1, c1, by omega, rfl, rfl, HR.out⟩
      case round =>
        obtain ⟨k, A2, n2, c2, hk, rfl, rfl, hR⟩ := hrel
        have HR := Lib.hid hR
        clear hR
        by_cases hkw : k < w
        · have HT := Lib.hid (HC.out k j wr hkw hjh HR.out.bel)
          have hm := HF.out.2.1 k j hkw
          have hsz : n2 = j * w + k := by rw [HR.out.len, gridK_len]
          have hlt := HF.out.2.2.2.1 k j hkw hjh
          obtain ⟨z, hz⟩ : ∃ z, z = f k j := ⟨_, rfl⟩
          rw [← hz] at HT hm
          have HX := Lib.hid (And.intro hm (And.intro hsz (And.intro hlt HF.out.2.2.1)))
          clear hm hsz hlt hz
          go_wp2_with fail
          refine Calls.mono HT.out ?_
          rintro e w6 ⟨rfl, b6⟩
          have M6 := Lib.hid (HR.out.on (on_trans b6 (on_alloc w6 (.cells #[.int .i64 z] 3))))
          clear b6
          go_wp2_with (first
            | ((with_reducible refine wpList_append_il (o := ⟨some 24, _, _, _, _, _⟩) rfl (.tmp 18) (.tmp 23) rfl (w0.heap.size + 1) (.slice A2 n2 c2) n2 (gridK w f (j * w + k)) rfl M6.out.own (some ⟨w6.heap.size, 0, none⟩) 1 1 [z] rfl ?hr ?hs M6.out.lo ?_)
               case hr => exact il_of_box (Box.made w6 3 (cellsI [z]).toArray) rfl (show 1 ≤ maxLen by decide)
               case hs => have := HX.out.2.1; have := HX.out.2.2.1; have := HX.out.2.2.2; omega
               intro v7 w7 hown7 bq
               obtain ⟨A7, c7, hv7⟩ := own_slice hown7
               subst hv7
               have H7 := Lib.hid (M6.out.more hown7 bq)
               clear hown7 bq)
            | fail)
          have hE := H7.out
          rw [HX.out.1] at hE
          have HE := Lib.hid hE
          clear hE
          go_roundw
          case rel => exact ⟨k + 1, _, _, _, by omega, rfl, by go_num, HE.out⟩
          case measure => simp [intOf]; omega
        · obtain rfl : k = w := by omega
          go_wp2_with fail
          go_roundw
          case rel => exact ⟨j + 1, _, _, _, by omega, rfl, by go_num, by rw [show (j + 1) * k + 0 = j * k + k by rw [Nat.add_mul, Nat.one_mul]; rfl]; exact HR.out⟩
          case measure => simp [intOf]; omega
    · obtain rfl : j = h := by omega
      have hR := HR.out
      rw [show j * w + 0 = w * j by rw [Nat.mul_comm]; rfl, ← HF.out.1] at hR
      have hn1 : n1 = w * j := by rw [hR.len, gridL_len]
      have hpos := HF.out.2.2.2.2
      obtain ⟨Ad, hAd, hcap⟩ : ∃ Ad, A1 = some Ad ∧ n1 ≤ c1 ∧ c1 ≤ maxLen := by
        obtain ⟨A', c', e', ho⟩ := os_of_own hR.own
        cases e'
        obtain ⟨b, off, e2, _⟩ := ho.il.at_ (by omega)
        exact ⟨_, e2, ho.il.cap, ho.il.max⟩
      subst hAd
      have HR := Lib.hid hR
      have HN := Lib.hid (And.intro hn1 (And.intro hpos hcap))
      obtain ⟨cap1, cap2⟩ := hcap
      unfold maxLen at cap2
      clear hR hn1 hpos
      go_wp2_with (first
        | ((with_reducible refine wpList_store_plane (o := ⟨none, _, _, _, _, _⟩) rfl (.tmp 6) (.tmp 35) rfl rfl w0.heap.size #[.int .i64 (w : Int), .int .i64 (j : Int), .slice (some Ad) n1 n1] rfl ?ho rfl rfl _ HR.out.res rfl ?_)
           case ho => simp [Value.oneCell']
           intro w9 b9 k9
           have H9 := Lib.hid (And.intro b9 (HR.out.done (fun e => by cases e) k9))
           clear b9 k9)
        | fail)
      refine bodyPost_ret (v := .agg #[.int .i64 (w : Int), .int .i64 (j : Int), .slice (some Ad) n1 n1]) (results_c (fn := Try.f31) Try.results31 _ _ w0.heap.size _ rfl (loadVar_plane H9.out.1 rfl)) rfl ?_
      exact ⟨some Ad, n1, n1, rfl, H9.out.2.2, H9.out.2.1⟩
end Go.Proofs.Ytadlaljohlpabaa
