/-
  The contract of combined: all sums of the four blocks.
-/
import Derived.Test.YtjkmbiieagmjkaaDoorContrib
namespace Go.Proofs.YtjkmbiieagmjkaaDoor
open Go.RowKit

/-- the sums when c rows have been added -/
def cmbP (f : List Int) (c : Nat) : List Int := tab fun n => su (fun c => coT f (c / 4) (c % 4) n) c
/-- what combined tells -/
def cmbL (f : List Int) : List Int := tab fun n => mrgT f (n / 8) (n % 8)
theorem cmbP_len (f : List Int) (c : Nat) : (cmbP f c).length = 64 := tab_len _
theorem cmbL_len (f : List Int) : (cmbL f).length = 64 := tab_len _
theorem cmbP_zero (f : List Int) : cmbP f 0 = zeros64 := list_eq (tab_len _) zeros_len fun n hn => by
  unfold cmbP
  rw [tab_at _ hn, zeros_at]
  rfl
theorem cmbP_more (f : List Int) {lo row : Nat} (hr : row < 4) : coL f (cmbP f (4 * lo + row)) lo row = cmbP f (4 * lo + (row + 1)) := by
  unfold coL
  conv => rhs; unfold cmbP
  refine tab_congr fun n hn => ?_
  unfold cmbP
  rw [tab_at _ hn, ← Nat.add_assoc, su_succ, show (4 * lo + row) / 4 = lo by omega, show (4 * lo + row) % 4 = row by omega]
theorem su_bound {f : Nat → Int} {V : Int} : ∀ {n : Nat}, (∀ i, i < n → -V ≤ f i ∧ f i ≤ V) → -(V * n) ≤ su f n ∧ su f n ≤ V * n
  | 0, _ => by rw [su_zero]; omega
  | n + 1, h => by
    have ih := su_bound (n := n) (fun i hi => h i (by omega))
    have := h n (by omega)
    rw [su_succ, show V * ((n + 1 : Nat) : Int) = V * n + V by rw [Int.natCast_add, Int.mul_add]; omega]
    omega
theorem cmbP_small {f : List Int} (wf : W4 f (-1048576) 1048576) {c : Nat} (hc : c ≤ 8) : Wi (cmbP f c) (-1000000000000000) 1000000000000000 := fun n hn => by
  have := su_bound (f := fun c => coT f (c / 4) (c % 4) n) (V := 70353711792128) (n := c) (fun i hi => coT_small wf (by omega) (by omega) hn)
  unfold cmbP
  rw [tab_at _ hn]
  omega
theorem cmbP_all (f : List Int) : cmbP f 8 = cmbL f := tab_congr fun n hn => by
  have h8 : su (fun c => coT f (c / 4) (c % 4) n) 8 = su (fun p => su (fun i => coT f p i n) 4) 2 := by
    simp only [su_succ, su_zero]
    show 0 + coT f 0 0 n + coT f 0 1 n + coT f 0 2 n + coT f 0 3 n + coT f 1 0 n + coT f 1 1 n + coT f 1 2 n + coT f 1 3 n = _
    omega
  rw [h8]
  unfold mrgT
  refine su_congr fun p hp => ?_
  rw [su_swap]
  refine su_congr fun i hi => ?_
  unfold coT joL
  rw [tab8_at _ (by omega)]
  unfold joT
  rw [← su_mul]
  have e : ∀ q, q < 2 → su (fun k => hv p (n / 8) i * hv q (n % 8) k * fo f (2 * p + q) (8 * i + k)) 4 = su (fun k => hv p (n / 8) i * (hv q (n % 8) k * fo f (2 * p + q) (8 * i + k))) 4 := fun q _ => su_congr fun k _ => Int.mul_assoc _ _ _
  have two : ∀ g : Nat → Int, su g 2 = g 0 + g 1 := fun g => by rw [su_succ, su_succ, su_zero, Int.zero_add]
  rw [su_congr e, two, ← su_add]
  refine su_congr fun k hk => ?_
  rw [sub_at (by omega), sub_at (by omega), Int.mul_add]
  rfl
theorem cmbL_small {f : List Int} (wf : W4 f (-1048576) 1048576) : Wi (cmbL f) (-1000000000000000) 1000000000000000 := by
  rw [← cmbP_all]
  exact cmbP_small wf (by omega)

/-- four blocks that are boxed, and a block of noughts -/
theorem fr_boxed (w : World) (f : List Int) (hT : Tab w) (hf : f.length = 256) : ∃ cs Z w2, fourV f = .agg cs ∧ blkV zeros64 = .agg Z ∧ Z.size = 64 ∧ (∀ w, (zeroValue 23).run Tryd.prog w = .ok (.agg Z) w) ∧ (∀ w : World, Blk (w.alloc (.cells Z 23)) w.heap.size zeros64) ∧
    (w.alloc (.cells cs 24)).alloc (.cells Z 23) = w2 ∧ Know w w2 [.blk (w.heap.size + 1) zeros64, .four w.heap.size f] ∧ w2.heap.size = w.heap.size + 1 + 1 := by
  have h1 := (Know.nil hT).made4 hf
  have h2 := h1.made (b := zeros64) zeros_len
  have e : (w.alloc (.cells (cellsI f).toArray 24)).heap.size = w.heap.size + 1 := by simp
  rw [e] at h2
  exact ⟨_, _, _, rfl, rfl, rfl, fun w => zero23 w, fun w => Blk.made _ _ zeros_len, rfl, h2, by simp⟩
/-- what a call answers that answers a block -/
def Gives (w : World) (R : List Int) (e : Ending) (w' : World) : Prop := e = .returned (blkV R) ∧ Below w.heap.size w w'

set_option maxRecDepth 10000 in
set_option maxHeartbeats 3200000 in
theorem combined_any (w : World) (f : List Int) (hT : Tab w) (hf : f.length = 256) (wf : W4 f (-1048576) 1048576) : Calls Tryd.prog 18 #[fourV f] w (Gives w (cmbL f)) := by
  obtain ⟨cs, Z, w2, hfv, hZV, hZs, hz', hmk, hw2, hk, hsz⟩ := fr_boxed w f hT hf
  have hk3 := hk.made (b := zeros64) zeros_len
  rw [hsz, show (cellsI zeros64).toArray = Z from Value.agg.inj hZV] at hk3
  obtain ⟨w3, hw3⟩ : ∃ w3, w3 = w2.alloc (.cells Z 23) := ⟨_, rfl⟩
  rw [← hw3] at hk3
  rw [← hw2] at hw3
  have H := Lib.hid (And.intro hk3 (And.intro hT (And.intro wf (And.intro hw3 hZV.symm))))
  rw [hfv]
  have hmf : ∀ (fn : Fn) (first cap : Array Value) (w : World), (Instr.makeFunc fn first cap).run Tryd.prog w = .ok (.func fn first cap) w := fun _ _ _ _ => rfl
  clear hT hf wf hfv hZV hZs hmk hw2 hk hsz hk3 hw3
  go_enter Tryd.func18, Tryd.ntmps18
  go_wp2_with fail
  rw [← H.out.2.2.2.1]
  go_loopw [8] (fun i wr => ∃ lo : Nat, lo ≤ 2 ∧ i = .int .i64 lo ∧ Know w wr [.blk (w.heap.size + 1 + 1) (cmbP f (4 * lo)), .blk (w.heap.size + 1) zeros64, .four w.heap.size f]) (fun i _ => 2 - (intOf i).toNat)
  case atStart => exact ⟨0, by omega, rfl, by rw [Nat.mul_zero, cmbP_zero]; exact H.out.1⟩
  case round =>
    obtain ⟨lo, hlo, rfl, hR⟩ := hrel
    have HR := Lib.hid hR
    clear hR
    by_cases hl : lo < 2
    · go_wp2_with fail
      rw [show decide ((lo : Int) < 2) = true from decide_eq_true (by omega)]
      go_loopw [11] (fun i wr => ∃ row : Nat, row ≤ 4 ∧ i = .int .i64 row ∧ Know w wr [.blk (w.heap.size + 1 + 1) (cmbP f (4 * lo + row)), .blk (w.heap.size + 1) zeros64, .four w.heap.size f]) (fun i _ => 4 - (intOf i).toNat)
      case atStart => exact ⟨0, by omega, rfl, HR.out⟩
      case round =>
        obtain ⟨row, hrow, rfl, hR⟩ := hrel
        have HR := Lib.hid hR
        clear hR
        by_cases hr : row < 4
        · go_wp2_with fail
          refine (contrib_any wr w.heap.size (w.heap.size + 1 + 1) f (cmbP f (4 * lo + row)) lo row HR.out.tab HR.out.f2 HR.out.b0 (by omega) H.out.2.2.1 (cmbP_small H.out.2.2.1 (by omega)) hl hr).mono ?_
          rintro e w5 ⟨rfl, hb5, k5⟩
          rw [cmbP_more f hr] at hb5
          have h5 := HR.out.turn (p' := .blk (w.heap.size + 1 + 1) (cmbP f (4 * lo + (row + 1)))) H.out.2.1 (by show w.heap.size ≤ w.heap.size + 1 + 1; omega) (fun q hq => by
            rcases List.mem_cons.1 hq with rfl | hq
            · show w.heap.size + 1 ≠ w.heap.size + 1 + 1; omega
            · rw [List.mem_singleton] at hq
              subst hq
              show w.heap.size ≠ w.heap.size + 1 + 1; omega) k5 hb5
          have H5 := Lib.hid h5
          clear hb5 k5 h5
          go_wp2_with fail
          go_roundw
          case rel => exact ⟨row + 1, by omega, by go_num, H5.out⟩
          case measure => simp [intOf]; omega
        · obtain rfl : row = 4 := by omega
          have hR := HR.out
          rw [show 4 * lo + 4 = 4 * (lo + 1) by omega] at hR
          have HR := Lib.hid hR
          clear hR
          go_wp2_with fail
          go_roundw
          case rel => exact ⟨lo + 1, by omega, by go_num, HR.out⟩
          case measure => simp [intOf]; omega
    · obtain rfl : lo = 2 := by omega
      have hR := HR.out
      rw [show 4 * 2 = 8 from rfl, cmbP_all] at hR
      have HR := Lib.hid hR
      clear hR
      go_wp2_with (first
        | (with_reducible refine wpList_load_to (op := ⟨some 20, _, _, _, _, _⟩) rfl 23 (.tmp 3) rfl (.pointer (some ⟨w.heap.size + 1 + 1, 0, none⟩)) rfl (blkV (cmbL f)) HR.out.b0.load ?_)
        | ((with_reducible refine wpList_store_blk (o := ⟨none, _, _, _, _, _⟩) rfl (.tmp 2) (.tmp 20) rfl rfl (w.heap.size + 1) (cmbL f) rfl rfl _ HR.out.b1.box rfl (cmbL_len f) ?_)
           intro w9 b9 k9
           have H9 := Lib.hid (And.intro b9 (HR.out.bel.trans (k9.below HR.out.bel.size (fun i hi e => by omega))))
           clear b9 k9)
        | fail)
      refine bodyPost_ret (v := blkV (cmbL f)) (results_c (fn := Tryd.f18) Tryd.results18 _ _ (w.heap.size + 1) _ rfl (loadVar_blk H9.out.1)) rfl ?_
      exact ⟨rfl, H9.out.2⟩
end Go.Proofs.YtjkmbiieagmjkaaDoor
